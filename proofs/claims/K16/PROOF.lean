import PyProof.Rows.All
import Wide.All
import OpenK.AllK
import PySem.Challenge.RW_halfseen_k16_weakest_looks
set_option Elab.async false
set_option linter.all false
set_option maxRecDepth 100000
set_option bootstrap.genMatcherCode false
open Option renaming some->Z,none->J
open Bool renaming true->Aa,false->Ab
open PySem renaming wpAny_bind->Ac,wpAny_pure->Ag,starEach->Ad,mainGlobals->Bh,sizeLine_eq->Bo,wpAny_mono->Bw,bootBuiltins->B5,wpAny_holding->Cu,wpAny_newObj_type->DU,compareOp->BQ,wpAny_call_entry->En,foldedSetIterable->EA,behindInMarks->DA,codeAny_builtin->Ey,mem_of_lookup->Hk,sysModules->Dc,swapsWith->DB,wpAny_Call_Name_kw->IL,codeAny_mono->Fm,lookup_relabel_local->J6,wpAny_truthy_bool->IS,wpAny_typeNameOfWhole_keyiter->PH,assignEach->ED,tupleKind_room_in1->J8,wpAny_passesOwn->IE,wpAny_ite_split->IC,attributeBase->Hg,plainId_quiet->He,binaryOp->Ed,wpAny_typeNameOf_keyiter->Pu,wpAny_newFunctionEnv->Pz,wpAny_rule->Hh,wpAny_askSetting->Mf,wpAny_newList->J1,sliceBounds->IG,wpAny_execs_nil->Mo,tupleKind->Hj,wpAny_comprehension_free->Us,wpAny_setField->L5,wpAny_tryCatch->L3,wpAny_dictEntries->O9,wpAny_setState_of->O7,wpAny_collect_seq->O3,keywordEach->JQ,codeAny_compStart_list->Ul,wpAny_attempt->LZ,wpAny_eqBool_int->Pk,wpAny_isInstance->Pj,letOwnedTupleGo->Pg,intKind_is->JS,wpAny_setEntries_of->Uy,bindArgs->Iw,wpAny_fieldsOf->Pp,firstArgMember->Po,wpAny_letGo->Ma,codeAmong->JT,wpAny_standAt->OU,wpAny_assign_Name->T4,wpAny_pyIter_list->TZ,wpAny_pyIter_slot->TV,builtinsNs->LW,wpAny_call->LV,call_meets->LU,concat_meets->OY,noFill_tuple_add->Uh,backToKw->JP,pickOrder->LY,Fin->LX,wpAny_dictEpoch->T9,wpAny_updateSeq->T8,subscripted->O2,wpAny_of_eq->O1
open List renaming length_map->Af,mem_cons_of_mem->Ap,mem_cons_self->Am,map_cons->Ak,range->Ah,getElem?_eq_some_iff->A0,all_eq_true->Au,size_toArray->Ax,mem_map->Al,getElem?_eq_getElem->A2,length_cons->AD,length_append->AK,mem_singleton->AW,map_map->Aw,getElem?_map->A1,mem_cons->AE,mem_of_getElem?->Bm,mem_range->AS,mem_append->Bg,mem_append_right->Ci,replicate->Bl,getElem?_append_left->DD,map_append->BI,getElem?_set_ne->Cq,mem_filter->B4,mem_append_left->De,append_nil->B6,getElem?_append_right->EI,getElem?_cons_succ->Em,length->BC,length_replicate->El,pairwise_cons->DE,getElem?_set_self->EG,getD->Bn,length_filter_le->EE,nodup_cons->Dg,find?_cons->Df,contains_eq_mem->Fp,all_cons->Di,foldl_cons->DT,any_eq_true->Ei,map_congr_left->Fh,mem_filterMap->Fg,length_set->Eg,filter_cons->Ez,range'->CN,filterMap_cons->Gh,append_assoc->Ff,length_range->Fe,length_take->Fd,any_cons->Ee,length_singleton->IP,eq_nil_of_length_eq_zero->Mp,getElem_mem->Gk,nodup_nil->Fo,replicate_succ->IM,lookup_cons->Hl,map_nil->Fl,getElem?_replicate->Ms,mergeSort_perm->J9,nil_append->ID,flatten_cons->JY,nodup_append->JX,mem_flatMap->JU,getElem_of_mem->Mc,filter_eq_self->Mb,getElem?_cons_zero->Pt,pairwise_mergeSort->Pq,set_getElem_self->PD,length_drop->Mh,length_nil->Mn,drop_eq_getElem_cons->UN,pairwise_iff_getElem->UM,mem_of_find?_eq_some->UK,length_range'->Pa,pairwise_map->O4,max?_eq_some_iff->UC,min?_eq_some_iff->UB,max?_eq_none_iff->UA,set_set->L8,pairwise_append->Uz,toList_toArray->Uw,length_pos_iff->Uv,map_eq_nil_iff->Uu,map->Iv,ne_nil_of_mem->T6,nodup_iff_pairwise_ne->bq,exists_cons_of_ne_nil->bp,find?_append->TX,find?_isSome->TQ,getElem?_take_of_lt->bG,set_eq_of_length_le->bF,drop_length->Ug,not_mem_nil->Ue,ext_getElem->Ud,cons_append->Uc,all_nil->OV,length_filterMap_le->bD,filter_cons_of_pos->bA,filter_cons_of_neg->bz,of_mem_zip->Ub,pairwise_lt_range->bJ,filter_eq_nil_iff->bI,getElem?_eq_none->bo,dropLast_eq_take->ba,min?_eq_none_iff->aY,any_map->TB
open Option renaming map_eq_some_iff->Ai,isSome_iff_exists->EH,isSome_map->Gg,map->DC,isSome->JZ,bind_eq_some_iff->Uo
open PySem.W renaming Frag->Ae,keepIn->Ef,fnOf->Dz,codeHdIn->Fc,nsIn->Fj,codeIn->Ho,envX->Ge,kitOne->IA,mg_of->Iy,tabObj->J3,hideAll_get->Py,kla_obj->Pd,exmOne->Pl,excIn->OR,methodObj->T5,OpenLaw->Ui,cellsFrom_some->bM,kla_fn->TL,codeHd_of_K->aT,of_hideAll->aQ,callWith_K->aO,FnAt->Tz
open PySem.Heap renaming get?_push_of_some->Ar,lt_size->Ao,get?_push_size->AZ,get?_update_self->Gi,get?_update_other->IK,SameBut->EB,size_push->IB,size_update->Me,get?_push_ne->O5,FlyingW->L6,get?_update_ne->Ux
open Nat renaming le_refl->Aj,ne_of_lt->As,lt_of_lt_of_le->Bz,le_trans->Bf,zero_le->BY,lt_trans->Dy,le_of_lt->DQ,lt_irrefl->EC,pow_le_pow_right->J5,lt_succ_self->IQ,le_of_not_lt->JV,lt_succ_of_lt->Mj,ne_of_gt->II,le_of_eq->IH,blt_eq->Hi,zero_add->L7,min_le_left->Ua
open PySem.SetTable renaming below->Aq,insertAt->Bu,insertAt_perm->J7,tooFull->Mg,toList_insertAt->Ur,fits->L1,fill->L0,turns->TM,bits->TK
open Bool renaming and_eq_true->AI,false_ne_true->Dh,false_eq_true->DS,or_eq_true->Gj,eq_iff_iff->Pe,false_or->OS,not_eq_true'->TR,and_false->TN,not_true->TH,true_and->TC
open Array renaming length_toList->BB,getElem?_toList->Ek,getD->DR,toList_push->JW,getElem?_eq_getElem->Px,perm_iff_toList_perm->UG,getElem?_eq_none->Uk
open PySem.PyData renaming int->AB,tuple->BZ,bool->BX,eqv->BR,canLayAll0->Mk,depthAll->Pb,eqvAll->OQ
open PySem.Value renaming none->AM,ref->Bb,int->C9,type->Gf
open Or renaming inr->An,inl->AG
open Option.some renaming inj->Ct
open False renaming elim->Bv
open Ne renaming symm->A8
open PySem.Around renaming under_plainId->Fq,frames_deeper->aX
open PySem.Heap.SameBut renaming update->Fi,refl->TY
open PySem.Str renaming ofString->C8
open PySem.F renaming plain_min_loop->IJ,called_set->Hn,plainAttrs_list->Mr,plain_list_iadd->Pr,args_tuple_add_2->UJ,slot_list_append->UI,type_list_append->Ut,entry_tuple_add->Uq,slot_tuple_add->Um,entry_min_loop->Uj,slot_dict_get->UE,slot_dict_setdefault->bO,plain_proto_collect->bw,args_dict_get_3->bC,plainAttrs_dict->bB,entry_dict_get->bL,plain_set_new->bj,slot_set_iter->bh
open List.Nodup renaming length_le_of_subset->Mq
open PySem.Obj renaming data_mapFields->Hm,mapSeq->Ej,putSet->Ir,isFreed_of_fields->UD,cls_mapFields->TU,mapFields->TJ
open Sum renaming inl->Cg,inr->Iq
open PySem.Builtin.Range renaming rangeSize->Mt,small->aU
open PyProof.Rows.KeyOrd renaming kle_of_not_klt->Md,kle_refl->J4,kle_of_klt->O6,kle_trans->Ph,kle_antisymm->aW
open PySem.NameKind renaming free->Hf
open PySem.Builtin.List renaming listTooLong->Pw,listLengthHint->bx,listExtendWith->bu
open PySem.Paired renaming length->Iz
open PySem.Calls renaming spliced_cons->Ml,callWith_builtin->PF,evalArgs_plain->PB,call_function_entry->UL,Name_function_global->br,spliced_nil->T3
open Int renaming toNat_natCast->Mi,emod_nonneg->Pc,emod_lt_of_pos->T7
open PyProof.Rows renaming callWith_type1->UH,listUpdate_at->J2,entry_list_sort->Mm,slot_list_sort->L4,sortedHeap->JR,args_list_sort->Pn,plain_sorted->OX,entry_sorted->OW,seqEpoch_at->O0,kind_sorted->OZ,lt_int->aV
open True renaming intro->Iu
open PySem.SetTable.below renaming go->O8
open Function renaming comp->L9
open ForInStep renaming yield->Pf
open PySem.Builtin.Dict_items renaming ownsTuple->bN
open PySem.Expr renaming Call->JO
open Classical renaming byContradiction->bH
open PySem.Builtin.Tuple renaming tupleExact->bE
open PySem.SeqAt renaming eqOverData->bK
open PySem.Builtin.Dict renaming showsAll->bf
open PySem.SeqAt.EqAt renaming int_str->aS,str_int->aR
open List.Pairwise renaming nil->aN
noncomputable section
namespace L2
open PySem PySem.Spec PyProof.Rows
abbrev sP:=Sum Int Str
def HC:sP->Value->Bool
 | .inl k,v=>Value.isInt k v
 | .inr x,v=>Value.isStrOf x v
def pW(w:World):sP->Int
 | .inl k=>hashInt k
 | .inr x=>hashStr w x
theorem E4:∀{k:sP} {v:Value},HC k v=Aa->(∃i t,k=Cg i/\v=C9 i t)\/(∃x t,k=Iq x/\v=Value.str x t)
 | .inl i,v,h=>by obtain⟨t,e⟩:=Value.isInt_shape (k:=i) (v:=v) h;exact .inl ⟨i,t,rfl,e⟩
 | .inr x,v,h=>by obtain⟨t,e⟩:=Value.isStrOf_shape (x:=x) (v:=v) h;exact .inr ⟨x,t,rfl,e⟩
theorem kF(i:Int)(t:Tok):HC (.inl i) (.int i t)=Aa:=by simp[HC,Value.isInt]
theorem kG(x:Str)(t:Tok):HC (.inr x) (.str x t)=Aa:=by simp[HC,Value.isStrOf]
theorem dC(a b:Int):decide ((Cg a:sP)=Cg b)=(a==b):=by
 by_cases e:a=b
 .subst e;simp
 .have h:¬(Cg a:sP)=Cg b:=λq=>e (Sum.inl.inj q)
  rw[decide_eq_false h];exact(beq_eq_false_iff_ne.mpr e).symm
theorem cZ(a b:Str):decide ((Iq a:sP)=Iq b)=decide (a=b):=by
 by_cases e:a=b
 .subst e;simp
 .have h:¬(Iq a:sP)=Iq b:=λq=>e (Sum.inr.inj q)
  rw[decide_eq_false h,decide_eq_false e]
theorem dB(a:Int)(b:Str):decide ((Cg a:sP)=Iq b)=Ab:=decide_eq_false (λq=>nomatch q)
theorem dw(a:Str)(b:Int):decide ((Iq a:sP)=Cg b)=Ab:=decide_eq_false (λq=>nomatch q)
def BO(prog:Program)(w:World):PySem.KeyKind prog w sP where
 is:=HC
 hash:=pW w
 inj:=λv a b ha hb=>by
  rcases E4 ha with⟨i,t,rfl,rfl⟩|⟨x,t,rfl,rfl⟩
  .rcases E4 hb with⟨j,u,rfl,e⟩|⟨y,u,rfl,e⟩
   .injection e with e1 _;rw[e1]
   .exact nomatch e
  .rcases E4 hb with⟨j,u,rfl,e⟩|⟨y,u,rfl,e⟩
   .exact nomatch e
   .injection e with e1 _;rw[e1]
 byValue:=λk v h=>by rcases E4 h with⟨i,t,rfl,rfl⟩|⟨x,t,rfl,rfl⟩<;>rfl
 pyHash:=λhv h=>by
  rcases E4 hv with⟨i,t,rfl,rfl⟩|⟨x,t,rfl,rfl⟩
  .exact wpAny_pyHash_int h
  .exact wpAny_pyHash_str h
 eqBool:=λhu hv h=>by
  rcases E4 hu with⟨i,t,rfl,rfl⟩|⟨x,t,rfl,rfl⟩
  .rcases E4 hv with⟨j,u,rfl,rfl⟩|⟨y,u,rfl,rfl⟩
   .rw[dC]at h;exact Pk h
   .rw[dB]at h;exact aS i t y u _ _ _ _ h
  .rcases E4 hv with⟨j,u,rfl,rfl⟩|⟨y,u,rfl,rfl⟩
   .rw[dw]at h;exact aR x t j u _ _ _ _ h
   .rw[cZ]at h;exact wpAny_eqBool_str h
 «strs»:=λk x t v h=>by
  rcases E4 h with⟨i,u,rfl,e⟩|⟨y,u,rfl,e⟩
  .exact nomatch e
  .injection e with e1 _
   subst e1;cases v<;>rfl
theorem kL(prog:Program)(w:World)(k:sP)(v:Value):(BO prog w).is k v=HC k v:=rfl
theorem lQ(prog:Program)(w:World)(i:Int)(t:Tok):(BO prog w).is (.inl i) (.int i t)=Aa:=kF i t
theorem lS(prog:Program)(w:World)(x:Str)(t:Tok):(BO prog w).is (.inr x) (.str x t)=Aa:=kG x t
section
variable{a b:Addr}{o:HO}{h:Heap}{H:Hp}
inductive V where
 |non|bl (b:Bool)|int (i:Int)|str (x:Str)|byt (b:Array UInt8)|flt (b:UInt64)|ref (a:Addr)|ty (n:String)
 deriving DecidableEq
def RelV:V->Value->Prop
 | .non,u=>u=AM
 | .bl b,u=>u=Value.bool b
 | .int i,u=>∃t,u=C9 i t
 | .str x,u=>∃t,u=Value.str x t
 | .byt b,u=>∃t,u=Value.bytes b t
 | .flt b,u=>∃t,u=Value.float b t
 | .ref a,u=>u=Bb a
 | .ty n,u=>u=Gf n
abbrev sL:List V->List Value->Prop:=Paired RelV
theorem sL.length{xs:List V}{us:List Value}(r:sL xs us):xs.length=us.length:=Iz r
theorem sL.get:∀{xs:List V} {us:List Value} {i:Nat} {x:V},sL xs us->xs[i]?=Z x->∃u,us[i]?=Z u/\RelV x u
 |_,_,_,_,.nil,e=>by simp at e
 |_,_,0,_,.cons r _,e=>by simp at e;subst e;exact⟨_,rfl,r⟩
 |_,_,i+1,x,.cons _ t,e=>by obtain⟨u,h1,h2⟩:=sL.get (i:=i) (x:=x) t (by simpa using e);exact⟨u,by simpa using h1,h2⟩
theorem sL.set{x:V}{u:Value}(r:RelV x u):∀{xs:List V} {us:List Value} (i:Nat),sL xs us->sL (xs.set i x) (us.set i u)
 |_,_,_,.nil=>.nil
 |_,_,0,.cons _ t=>.cons r t
 |_,_,i+1,.cons q t=>.cons q (sL.set r i t)
theorem sL.append:∀{xs ys:List V} {us ws:List Value},sL xs us->sL ys ws->sL (xs++ys) (us++ws)
 |_,_,_,_,.nil,s=>s
 |_,_,_,_,.cons r t,s=>.cons r (sL.append t s)
theorem sL.take:∀{xs:List V} {us:List Value} (n:Nat),sL xs us->sL (xs.take n) (us.take n)
 |_,_,0,_=>.nil
 |_,_,_+1,.nil=>.nil
 |_,_,n+1,.cons r t=>.cons r (sL.take n t)
theorem sL.drop:∀{xs:List V} {us:List Value} (n:Nat),sL xs us->sL (xs.drop n) (us.drop n)
 |_,_,0,r=>r
 |_,_,_+1,.nil=>.nil
 |_,_,n+1,.cons _ t=>sL.drop n t
def D1:Option V->Option Value->Prop
 |some v,Z u=>RelV v u
 |none,J=>True
 |_,_=>False
def KV{κ:Type}:List (κ×V)->List (κ×Value)->Prop:=Paired λ(p:κ×V) (q:κ×Value)=>p.1=q.1/\RelV p.2 q.2
def kV:sP->V
 | .inl i=>.int i
 | .inr x=>.str x
inductive HO where
 |lst (xs:List V)
 |tup (xs:List V)
 |dK (kvs:List (sP×V))|dT (kvs:List (List sP×V))
 |set (S:Int->Bool) (n:Nat)
 |ins (C dx:Addr) (fs:List (Str×V))
 |own (x:Addr)
 |xd (fs:List (Str×V))
 |met (f x:Addr)
 |rng (lo hi:Int)
 |frz (o:Obj) (u:HO)
 |tbl (ps:Array Value)
 |ext (φ:Heap->Prop)
abbrev Hp:=Addr->Option HO
def upd(H:Hp)(a:Addr)(o:HO):Hp:=λb=>if b=a then Z o else H b
theorem Zz:upd H a o a=Z o:=by unfold upd;rw[if_pos rfl]
theorem ZB(h:b≠a):upd H a o b=H b:=by unfold upd;rw[if_neg h]
theorem Vc{u:HO}(h:H a=Z o)(h':H b=Z u)(d:o≠u):a≠b:=by intro e;subst e;rw[h]at h';exact d (Ct h')
theorem C6(h:H a=Z o)(h':H b=J):a≠b:=by intro e;subst e;rw[h]at h';cases h'
section
variable(P:Program)(w:World)
def ZZ(H:Hp)(h:Heap)(a:Addr):HO->Prop
 | .lst xs=>xs.length<=sizeLine/\∃(its:List Value) (n:Nat),sL xs its/\h.get? a=Z {cls:=.type "list",data:=.seq its.toArray n}
 | .tup xs=>xs.length<=sizeLine/\∃its:List Value,sL xs its/\IsTup h a its.toArray
 | .dK kvs=>kvs.length<=sizeLine/\(a==Dc)=Ab/\∃vs,KV kvs vs/\h.DictOf (BO P w) a vs
 | .dT kvs=>kvs.length<=sizeLine/\(a==Dc)=Ab/\∃xs:List (List sP×Addr×Value),
   Paired (λ(p:List sP×V) (q:List sP×Addr×Value)=>p.1=q.1/\H q.2.1=Z (.tup (p.1.map kV))/\RelV p.2 q.2.2) kvs xs /\
   ∃o es ep,h.get? a=Z o/\o.ExactDict/\o.data=.dict es ep/\es.toList=xs.map (entryOfKey (Hj (BO P w)))/\(xs.map (·.1)).Nodup
 | .set S n=>h.SetOf (intKind P w) a S n
 | .ins C dx fs=>H dx=Z (.own a)/\fs.length<=1000/\dx≠a/\h.get? a=Z (PySem.W.instObj C dx) /\
   ∃mA,h.Ns1 dx mA/\(∀f,D1 (fs.lookup f) (mA f))/\PySem.Within mA (fs.map (·.1))
 | .own _=>∃o,h.get? a=Z o
 | .xd fs=>∃mA,h.Ns1 a mA/\∀f,D1 (fs.lookup f) (mA f)
 | .rng lo hi=>∃t u v,h.get? a=Z {cls:=.type "range",data:=.fields #[.int lo t,.int hi u,.int 1 v]}
 | .frz o u=>h.get? a=Z o/\ZZ H h a u
 | .tbl ps=>h.get? a=Z {cls:=.none,data:=.fields ps}
 | .met f x=>h.get? a=Z (T5 (.ref f) (.ref x))
 | .ext φ=>φ h/\(∃o,h.get? a=Z o)/\∀h1 h2:Heap,φ h1->(∀o,h1.get? a=Z o->h2.get? a=Z o)->φ h2
def tK(H:Hp)(h:Heap):Prop:=∀a o,H a=Z o->ZZ P w H h a o
end
section
variable{P:Program}{w:World}{H H':Hp}{h h':Heap}{a:Addr}{o:HO}
theorem ZZ.lt(x:ZZ P w H h a o):a<h.objs.size:=by
 cases o with
 |lst xs=>obtain⟨_,_,_,_,e⟩:=x;exact Ao e
 |tup xs=>obtain⟨_,_,_,p⟩:=x;exact p.lt
 |dK kvs=>obtain⟨_,_,_,_,o,_,_,e,_⟩:=x;exact Ao e
 |dT kvs=>obtain⟨_,_,_,_,o,_,_,e,_⟩:=x;exact Ao e
 |set S n=>obtain⟨o,_,_,_,e,_⟩:=x;exact Ao e
 |ins C dx fs=>obtain⟨_,_,_,e,_⟩:=x;exact Ao e
 |own y=>obtain⟨_,e⟩:=x;exact Ao e
 |xd fs=>obtain⟨_,⟨_,_,_,e,_⟩,_⟩:=x;exact Ao e
 |rng lo hi=>obtain⟨_,_,_,e⟩:=x;exact Ao e
 |frz ob u=>obtain⟨e,_⟩:=x;exact Ao e
 |tbl ps=>exact Ao (show h.get? a=Z _ from x)
 |met f y=>exact Ao (show h.get? a=Z _ from x)
 |ext φ=>obtain⟨_,⟨_,e⟩,_⟩:=x;exact Ao e
theorem Paired.mapP{α β:Type}{F G:α->β->Prop}:∀{l₁:List α} {l₂:List β},Paired F l₁ l₂->(∀a b,F a b->G a b)->Paired G l₁ l₂
 |_,_,.nil,_=>.nil
 |_,_,.cons r t,f=>.cons (f _ _ r) (Paired.mapP t f)
theorem ZZ.stay(x:ZZ P w H h a o)(k:∀b u,(b=a\/H b=Z (.own a))->h.get? b=Z u->h'.get? b=Z u)(ho:∀b,H b=Z (.own a)->H' b=Z (.own a))(ht:∀b xs,H b=Z (.tup xs)->H' b=Z (.tup xs)):ZZ P w H' h' a o:=by
 induction o with
 |lst xs=>obtain⟨z,its,n,r,e⟩:=x;exact⟨z,its,n,r,k _ _ (.inl rfl) e⟩
 |tup xs=>obtain⟨z,its,r,ob,e,c⟩:=x;exact⟨z,its,r,ob,k _ _ (.inl rfl) e,c⟩
 |dK kvs=>obtain⟨z,y,vs,r,ob,es,ep,e,c⟩:=x;exact⟨z,y,vs,r,ob,es,ep,k _ _ (.inl rfl) e,c⟩
 |dT kvs=>obtain⟨z,y,xs,r,ob,es,ep,e,c⟩:=x;exact⟨z,y,xs,Paired.mapP r λp q z=>⟨z.1,ht _ _ z.2.1,z.2.2⟩,ob,es,ep,k _ _ (.inl rfl) e,c⟩
 |set S n=>obtain⟨ob,es,ep,t,e,c⟩:=x;exact⟨ob,es,ep,t,k _ _ (.inl rfl) e,c⟩
 |ins C dx fs=>obtain⟨d,z,ne,e,mA,⟨od,es,ep,e2,c⟩,r⟩:=x;exact⟨ho _ d,z,ne,k _ _ (.inl rfl) e,mA,⟨od,es,ep,k _ _ (.inr d) e2,c⟩,r⟩
 |own y=>obtain⟨ob,e⟩:=x;exact⟨ob,k _ _ (.inl rfl) e⟩
 |xd fs=>obtain⟨mA,⟨od,es,ep,e,c⟩,r⟩:=x;exact⟨mA,⟨od,es,ep,k _ _ (.inl rfl) e,c⟩,r⟩
 |rng lo hi=>obtain⟨t,u,v,e⟩:=x;exact⟨t,u,v,k _ _ (.inl rfl) e⟩
 |frz ob u ih=>obtain⟨e,q⟩:=x;exact⟨k _ _ (.inl rfl) e,ih q⟩
 |tbl ps=>have e:h.get? a=Z {cls:=.none,data:=.fields ps}:=x;show h'.get? a=Z {cls:=.none,data:=.fields ps};exact k a _ (.inl rfl) e
 |met f y=>have e:h.get? a=Z (T5 (.ref f) (.ref y)):=x;show h'.get? a=Z (T5 (.ref f) (.ref y));exact k a _ (.inl rfl) e
 |ext φ=>obtain⟨p,⟨o,e⟩,st⟩:=x;exact⟨st _ _ p λo q=>k _ _ (.inl rfl) q,⟨o,k _ _ (.inl rfl) e⟩,st⟩
theorem tK.lt(x:tK P w H h)(e:H a=Z o):a<h.objs.size:=(x a o e).lt
theorem tK.fresh(x:tK P w H h)(e:h.objs.size<=a):H a=J:=by
 cases q:H a with
 |none=>rfl
 |some u=>exact absurd (Bz (x.lt q) e) (EC _)
theorem tK.kept(x:tK P w H h)(k:∀b u,h.get? b=Z u->h'.get? b=Z u):tK P w H h':=λa o e=>(x a o e).stay (λb u _ q=>k b u q) (λ_ q=>q) λ_ _ q=>q
theorem tK.laid(x:tK P w H h)(k:∀b u,h.get? b=Z u->h'.get? b=Z u)(hp:h.objs.size<=a)(new:ZZ P w (upd H a o) h' a o):tK P w (upd H a o) h':=λb u e=>by
 have hn:=x.fresh hp
 by_cases hb:b=a
 .subst hb;rw[Zz]at e;cases e;exact new
 .rw[ZB hb]at e
  exact(x b u e).stay (λc v _ q=>k c v q) (λc q=>by rw[ZB (C6 q hn)];exact q) λc xs q=>by rw[ZB (C6 q hn)];exact q
end
def Rd(H:Hp)(a:Addr)(u:HO):Prop:=H a=Z u\/∃o,H a=Z (.frz o u)
theorem Rd.ok{P:Program}{w:World}{H:Hp}{h:Heap}{a:Addr}{u:HO}(r:Rd H a u)(x:tK P w H h):ZZ P w H h a u:=by
 rcases r with r|⟨o,r⟩
 .exact x a u r
 .obtain⟨_,q⟩:=x a _ r
  exact q
def zU:Option HO->Prop
 |some (.lst _)=>True
 |some (.dK _)=>True
 |some (.dT _)=>True
 |some (.set _ _)=>True
 |some (.ins _ _ _)=>True
 |some (.ext _)=>True
 |_=>False
section
variable{P:Program}{w:World}{H:Hp}{h h':Heap}{x e:Addr}{o':HO}
theorem tK.write(ok:tK P w H h)(mu:zU (H x))(he:e=x\/H e=Z (.own x))(k:∀b u,b≠e->h.get? b=Z u->h'.get? b=Z u)(zh:∃u,h'.get? e=Z u)(new:ZZ P w (upd H x o') h' x o'):tK P w (upd H x o') h':=λb u q=>by
 have zY:∀c y,H c=Z (.own y)->c≠x:=λc y r z=>by subst z;rw[r]at mu;exact mu
 have ntup:∀c xs,H c=Z (.tup xs)->c≠x:=λc xs r z=>by subst z;rw[r]at mu;exact mu
 by_cases hb:b=x
 .subst hb;rw[Zz]at q;cases q;exact new
 .rw[ZB hb]at q
  by_cases hbe:b=e
  .have q':H b=Z (.own x):=by
    rcases he with z|z
    .exact absurd (hbe.trans z) hb
    .rw[hbe];exact z
   rw[q]at q';cases q';obtain⟨v,hv⟩:=zh;exact⟨v,by rw[hbe];exact hv⟩
  .refine(ok b u q).stay (λc v hc r=>k c v ?_ r) (λc r=>by rw[ZB (zY c b r)];exact r) λc xs r=>by rw[ZB (ntup c xs r)];exact r
   rcases hc with rfl|hc
   .exact hbe
   .rintro rfl
    rcases he with z|z
    .exact zY c b hc z
    .rw[hc]at z;cases z;exact hb rfl
end
structure Un(fs ex:List Addr)(H H':Hp)(h h':Heap):Prop where
 keep:∀b o,h.get? b=Z o->H b=J->b∉fs->b∉ex->h'.get? b=Z o
 slot:∀b o,h.get? b=Z o->H b=J->b∈fs->b∉ex->∃sl,h'.get? b=Z {o with slots:=sl}
 free:∀b o,h.get? b=Z o->H b=J->b∉ex->H' b=J
 there:∀b o,h.get? b=Z o->b∉ex->∃o',h'.get? b=Z o'
 tups:∀b xs,H b=Z (.tup xs)->H' b=Z (.tup xs)
 frzs:∀b o u,H b=Z (.frz o u)->H' b=Z (.frz o u)
 tbls:∀b ps,H b=Z (.tbl ps)->∃more,H' b=Z (.tbl (ps++more))
section
variable{fs fs' ex ex':List Addr}{H H1 H2:Hp}{h h1 h2 h':Heap}{a x e:Addr}{o:HO}
theorem Un.any(u:Un fs ex H H1 h h1){ob:Obj}(q:h.get? b=Z ob)(n:H b=J)(hx:b∉ex):∃sl,h1.get? b=Z {ob with slots:=sl}:=by
 by_cases hb:b∈fs
 .exact u.slot b ob q n hb hx
 .exact⟨ob.slots,u.keep b ob q n hb hx⟩
theorem Un.kept(k:∀b u,h.get? b=Z u->h'.get? b=Z u):Un fs ex H H h h' :=
 ⟨λb ob q _ _ _=>k b ob q,λb ob q _ _ _=>⟨ob.slots,k b ob q⟩,λ_ _ _ n _=>n,λb ob q _=>⟨ob,k b ob q⟩,λ_ _ q=>q,λ_ _ _ q=>q,λ_ ps q=>⟨#[],by rw[q];simp⟩⟩
theorem Un.refl:Un fs ex H H h h:=Un.kept λ_ _ q=>q
theorem Un.laid(k:∀b u,h.get? b=Z u->h'.get? b=Z u)(hp:h.objs.size<=a)(hn:H a=J):Un fs ex H (upd H a o) h h' where
 keep:=λb u q _ _ _=>k b u q
 slot:=λb u q _ _ _=>⟨u.slots,k b u q⟩
 free:=λb u q n _=>by rw[ZB (As (Bz (Ao q) hp))];exact n
 there:=λb u q _=>⟨u,k b u q⟩
 tups:=λb xs q=>by rw[ZB (C6 q hn)];exact q
 frzs:=λb u xs q=>by rw[ZB (C6 q hn)];exact q
 tbls:=λb ps q=>⟨#[],by rw[ZB (C6 q hn),q];simp⟩
theorem Un.write(mu:zU (H x))(he:e=x\/H e=Z (.own x))(k:∀b u,b≠e->h.get? b=Z u->h'.get? b=Z u)(zh:∃u,h'.get? e=Z u):Un fs ex H (upd H x o) h h':=by
 have hx:∀b,H b=J->b≠x:=λb n z=>by subst z;rw[n]at mu;exact mu
 have hb:∀b,H b=J->b≠e:=λb n z=>by
  subst z;rcases he with r|r
  .exact hx b n r
  .rw[n]at r;cases r
 have hm:∀b u,H b=Z u->¬zU (Z u)->b≠x:=λb u q nm z=>by subst z;rw[q]at mu;exact nm mu
 refine⟨λb u q n _ _=>k b u (hb b n) q,λb u q n _ _=>⟨u.slots,k b u (hb b n) q⟩,λb u q n _=>by rw[ZB (hx b n)];exact n,λb u q _=>?_,
  λb xs q=>by rw[ZB (hm b _ q λz=>z)];exact q,λb u xs q=>by rw[ZB (hm b _ q λz=>z)];exact q,λb ps q=>⟨#[],by rw[ZB (hm b _ q λz=>z),q];simp⟩⟩
 by_cases hbe:b=e
 .subst hbe;exact zh
 .exact⟨u,k b u hbe q⟩
end
def trk(h:Heap)(H:Hp):List Addr:=(Ah h.objs.size).filter λa=>(H a).isSome
def EO(h:Heap)(H:Hp):Heap:=PySem.W.hideAll h (trk h H)
theorem kd(h:Heap)(H:Hp):(EO h H).objs.size=h.objs.size:=PySem.W.hideAll_size _ _
theorem gd{o:Obj}(e:h.get? b=Z o)(n:H b=J):(EO h H).get? b=Z o :=
 Py _ e λhm=>by have q:(H b).isSome=Aa:=(B4.mp hm).2;rw[n]at q;simp at q
theorem fO{o:Obj}(e:(EO h H).get? b=Z o):h.get? b=Z o/\H b=J:=by
 have e':h.get? b=Z o:=aQ (trk h H) e;refine⟨e',?_⟩;cases q:H b with
 |none=>rfl
 |some x=>have hm:b∈trk h H:=B4.mpr ⟨AS.mpr (Ao e'),by simp[q]⟩;have z:(EO h H).get? b=J:=PySem.W.hideAll_none (trk h H) hm;rw[z]at e;cases e
end
section
variable{A:Around}{ch:List Addr}{i t':Nat}{x:Str}{u:Value}{E:Value->Shared->Prop}
structure Mod(K:Ae)(mg:Str->Option Value)(base:Heap):Prop where
 kin:K.In base
 glob:base.Ns Bh mg
 blt:∃mb,base.Ns LW mb/\∀x:Str,x ≠ "__name__"->mb x=B5 x
 nolimit:base.NoLimit
structure Cx where
 prog:Program
 w:World
 K:Ae
 mg:Str->Option Value
 base:Heap
 A:Around
 N:List Str
 s₀:Shared
 H₀:Hp
 env:Env
 outer:List Env
 stack:List Env
 ex:List Addr
 fn:Str->Bool
 calm:Bool
 pn:List (Addr×Obj)
 xe:Value->Shared->Prop
def t4(l:List Env):List Addr:=l.filterMap (·.frame)
abbrev Cx.fs(X:Cx):List Addr:=t4 X.outer
def vk(sc:Scope)(x:Str):Prop:=sc.names.lookup x=Z .local\/sc.names.lookup x=Z .cell\/sc.names.lookup x=Z .free
def Loc(sc:Scope)(x:Str):Prop:=sc.names.lookup x=Z .local\/sc.names.lookup x=Z .cell
def Look(env:Env)(h:Heap)(m:Str->Option Value)(x:Str)(u:Value):Prop :=
 (env.kindOf x=Z .local/\m x=Z u)\/((env.kindOf x=Z .cell\/env.kindOf x=Z .free)/\∃c,env.cells.lookup x=Z c/\h.IsCell c (Z u))
structure Cx.Ok(X:Cx):Prop where
 mod:Mod X.K X.mg X.base
 kind:X.env.scope.kind=.function
 glob:X.env.globals=Bh
 blt:X.env.builtins=LW
 above:X.s₀.heap.objs.size<=X.env.locals
 inj:∀x y c,X.env.cells.lookup x=Z c->X.env.cells.lookup y=Z c->x=y
 has:∀x,(X.env.kindOf x=Z .cell\/X.env.kindOf x=Z .free)->∃c,X.env.cells.lookup x=Z c
 cab:∀x c,X.fn x=Aa->X.env.cells.lookup x=Z c->X.s₀.heap.objs.size<=c
 hd:X.calm=Aa->X.A.handled=J
 frames:X.A.frames=Z X.stack
 stk:X.stack=X.outer\/(X.stack=X.env::X.outer/\X.env.frame=Z X.env.locals)
 exf:∀b∈X.ex,b≠X.env.locals/\∀x c,X.env.cells.lookup x=Z c->c≠b
 bs:∀b o,X.base.get? b=Z o->X.s₀.heap.get? b=Z o/\X.H₀ b=J
 bsz:X.base.objs.size<=X.s₀.heap.objs.size
 noex:∀b o,X.base.get? b=Z o->b∉X.ex
 exfs:∀b∈X.ex,b∉X.fs
 funs:X.s₀.heap.FunFrames X.base X.outer
 frf:∀b∈X.fs,X.H₀ b=J
structure Inv(X:Cx)(sI:List (Addr×Obj))(Y:List (Option V))(H:Hp)(s:Shared):Prop where
 ok:X.Ok
 os:s.os=X.s₀.os
 bare:AllBare s.gens
 base:Un X.fs X.ex X.H₀ H X.s₀.heap s.heap
 loc:∃m,s.heap.Ns X.env.locals m/\∀(i:Nat) (x:Str) (v:V),X.N[i]?=Z x->Y[i]?=Z (Z v)->vk X.env.scope x->∃u,RelV v u/\Look X.env s.heap m x u
 cell:∀x c,X.env.cells.lookup x=Z c->∃v,s.heap.IsCell c v
 free:H X.env.locals=J
 freeC:∀x c,X.env.cells.lookup x=Z c->H c=J
 pin:∀p∈X.pn++sI,s.heap.get? p.1=Z p.2/\H p.1=J/\p.1≠X.env.locals/\p.1∉X.fs/\∀v,p.2.data≠.cell v
 hok:tK X.prog X.w H s.heap
 len:Y.length=X.N.length
section
variable{X:Cx}{sI:List (Addr×Obj)}{Y:List (Option V)}{H H':Hp}{s:Shared}{h':Heap}
theorem Cx.Ok.nofr(ok:X.Ok){b:Addr}{o:Obj}(e:X.base.get? b=Z o):b∉X.fs:=λhb=>by have:=(ok.funs.mem hb).1;rw[e]at this;cases this
theorem Inv.bs(I:Inv X sI Y H s):∀b o,X.base.get? b=Z o->s.heap.get? b=Z o/\H b=J:=λb o e=>⟨I.base.keep b o (I.ok.bs b o e).1 (I.ok.bs b o e).2 (I.ok.nofr e) (I.ok.noex b o e),I.base.free b o (I.ok.bs b o e).1 (I.ok.bs b o e).2 (I.ok.noex b o e)⟩
theorem Inv.bk(I:Inv X sI Y H s):∀b o,X.base.get? b=Z o->s.heap.get? b=Z o:=λb o e=>(I.bs b o e).1
theorem Inv.mod(I:Inv X sI Y H s):Mod X.K X.mg X.base:=I.ok.mod
theorem Inv.kIn(I:Inv X sI Y H s):X.K.In s.heap:=I.ok.mod.kin.keeps I.bk
theorem Inv.lt(I:Inv X sI Y H s):X.env.locals<s.heap.objs.size:=let ⟨_,hn,_⟩:=I.loc;hn.lt
theorem Inv.sz(I:Inv X sI Y H s):X.s₀.heap.objs.size<=s.heap.objs.size:=Bf I.ok.above (DQ I.lt)
theorem Inv.nofs(I:Inv X sI Y H s){a:Addr}(h:s.heap.objs.size<=a):a∉X.fs:=λhb=>by obtain⟨_,o,ho,_⟩:=I.ok.funs.mem hb;exact absurd (Bz (Ao ho) (Bf I.sz h)) (EC _)
theorem Inv.cne(I:Inv X sI Y H s):∀x c,X.env.cells.lookup x=Z c->c≠X.env.locals:=λx c e z=>by obtain⟨v,o,ho,hd⟩:=I.cell x c e;obtain⟨m,⟨o',es,ep,ho',hd',_⟩,_⟩:=I.loc;rw[z,ho']at ho;cases ho;rw[hd']at hd;cases hd
theorem Inv.funs(I:Inv X sI Y H s):s.heap.FunFrames X.base X.outer:=by
 have all:∀(l:List Env),(∀b∈t4 l,b∈X.fs)->X.s₀.heap.FunFrames X.base l->s.heap.FunFrames X.base l:=by
  intro l
  induction l with
  |nil=>intro _ _;trivial
  |cons env r ih=>intro hs hl;obtain⟨hk,⟨L,o,hf,hn,ho,hd⟩,hr⟩:=hl;have hL:L∈X.fs:=hs L (by unfold t4;rw[Gh,hf];exact Am);obtain⟨sl,e⟩:=I.base.slot L o ho (I.ok.frf L hL) hL λz=>I.ok.exfs L z hL;exact⟨hk,⟨L,_,hf,hn,e,hd⟩,ih (λb hb=>hs b (by unfold t4;rw[Gh,hf];exact Ap _ hb)) hr⟩
 exact all X.outer (λ_ hb=>hb) I.ok.funs
theorem Inv.stack(I:Inv X sI Y H s):s.heap.FunFrames X.base X.stack:=by
 rcases I.ok.stk with e|⟨e,hf⟩
 .rw[e];exact I.funs
 .rw[e]
  obtain⟨m,hn,_⟩:=I.loc;refine .cons (by rw[I.ok.kind];decide) hf hn ?_ I.funs;exact Heap.get?_none_of_le (Bf I.ok.bsz I.ok.above)
theorem Inv.stkSub(I:Inv X sI Y H s):∀b∈t4 X.stack,b∈X.env.locals::X.fs:=λb hb=>by
 rcases I.ok.stk with e|⟨e,hf⟩
 .rw[e]at hb;exact Ap _ hb
 .rw[e]at hb
  unfold t4 at hb;rw[Gh,hf]at hb;exact hb
theorem Inv.stkFree(I:Inv X sI Y H s):∀b∈t4 X.stack,H b=J:=λb hb=>by
 rcases AE.mp (I.stkSub b hb)with e|hb
 .rw[e];exact I.free
 .obtain⟨_,o,ho,_⟩:=I.ok.funs.mem hb
  exact I.base.free b o ho (I.ok.frf b hb) λz=>I.ok.exfs b z hb
theorem Inv.step{g':Array GenState}{t':Nat}{d':Drawn}{ch:List Addr}(I:Inv X sI Y H s)(xC:∀b∈ch,(b∈X.ex\/X.s₀.heap.objs.size<=b)/\b≠X.env.locals/\(∀x c,X.env.cells.lookup x=Z c->c≠b)/\∀p∈X.pn++sI,p.1≠b)(keep:∀b o,b≠X.env.locals->b∉X.fs->b∉ch->s.heap.get? b=Z o->H b=J->h'.get? b=Z o)(slot:∀b o,b≠X.env.locals->b∈X.fs->b∉ch->s.heap.get? b=Z o->H b=J->∃sl,h'.get? b=Z {o with slots:=sl})(free:∀b o,b∉ch->s.heap.get? b=Z o->H b=J->H' b=J)(there:∀b o,b∉ch->s.heap.get? b=Z o->∃o',h'.get? b=Z o')(tups:∀b xs,H b=Z (.tup xs)->H' b=Z (.tup xs))(frzs:∀b o u,H b=Z (.frz o u)->H' b=Z (.frz o u))(tbls:∀b ps,H b=Z (.tbl ps)->∃more,H' b=Z (.tbl (ps++more)))(ns:∀m,s.heap.Ns X.env.locals m->h'.Ns X.env.locals m)(hok:tK X.prog X.w H' h')(hg:AllBare g'):Inv X sI Y H' {s with heap:=h',gens:=g',drawn:=d',toks:=t'}:=by
 have wL:∀b o,X.s₀.heap.get? b=Z o->b≠X.env.locals:=λb o e=>As (Bz (Ao e) I.ok.above);have xx:∀b o,X.s₀.heap.get? b=Z o->b∉X.ex->b∉ch:=λb o e hx hb=>by
  rcases(xC b hb).1 with z|z
  .exact hx z
  .exact absurd (Bz (Ao e) z) (EC _)
 have yD:∀x c,X.env.cells.lookup x=Z c->∀v,s.heap.IsCell c v->h'.IsCell c v:=λx c e v ⟨o,ho,hd⟩=>by
  have zy:c∉ch:=λz=>(xC c z).2.2.1 x c e rfl
  by_cases hc:c∈X.fs
  .obtain⟨sl,q⟩:=slot c o (I.cne x c e) hc zy ho (I.freeC x c e)
   exact⟨_,q,hd⟩
  .exact⟨o,keep c o (I.cne x c e) hc zy ho (I.freeC x c e),hd⟩
 refine⟨I.ok,I.os,hg,⟨λb o e n hb hx=>?_,λb o e n hb hx=>?_,λb o e n hx=>?_,λb o e hx=>?_,λb xs e=>tups b xs (I.base.tups b xs e),λb o xs e=>frzs b o xs (I.base.frzs b o xs e),λb ps e=>?_⟩,?_,λx c e=>?_,?_,λx c e=>?_,λp hp=>?_,hok,I.len⟩
 .exact keep b o (wL b o e) hb (xx b o e hx) (I.base.keep b o e n hb hx) (I.base.free b o e n hx)
 .obtain⟨sl,e1⟩:=I.base.slot b o e n hb hx
  obtain⟨sl',e2⟩:=slot b _ (wL b o e) hb (xx b o e hx) e1 (I.base.free b o e n hx);exact⟨sl',e2⟩
 .obtain⟨o',e1⟩:=I.base.there b o e hx
  exact free b o' (xx b o e hx) e1 (I.base.free b o e n hx)
 .obtain⟨o',e1⟩:=I.base.there b o e hx
  exact there b o' (xx b o e hx) e1
 .obtain⟨m1,e1⟩:=I.base.tbls b ps e
  obtain⟨m2,e2⟩:=tbls b _ e1;exact⟨m1++m2,by rw[e2,Array.append_assoc]⟩
 .obtain⟨m,hn,hl⟩:=I.loc
  refine⟨m,ns m hn,λi x v e1 e2 e3=>?_⟩;obtain⟨u,r,l⟩:=hl i x v e1 e2 e3;refine⟨u,r,?_⟩;rcases l with l|⟨k,c,e,z⟩
  .exact .inl l
  .exact .inr ⟨k,c,e,yD x c e _ z⟩
 .obtain⟨v,z⟩:=I.cell x c e
  exact⟨v,yD x c e v z⟩
 .obtain⟨m,⟨o,_,_,ho,_⟩,_⟩:=I.loc
  exact free _ o (λz=>(xC _ z).2.1 rfl) ho I.free
 .obtain⟨v,o,ho,hd⟩:=I.cell x c e
  exact free c o (λz=>(xC c z).2.2.1 x c e rfl) ho (I.freeC x c e)
 .obtain⟨e,n,ne,nf,d⟩:=I.pin p hp
  have zy:p.1∉ch:=λz=>(xC p.1 z).2.2.2 p hp rfl;exact⟨keep p.1 p.2 ne nf zy e n,free p.1 p.2 zy e n,ne,nf,d⟩
theorem Inv.un(I:Inv X sI Y H s)(u:Un X.fs [] H H' s.heap h')(hok:tK X.prog X.w H' h'):Inv X sI Y H' {s with heap:=h',toks:=t'}:=by obtain⟨m,⟨o,es,ep,ho,r⟩,_⟩:=id I.loc;obtain⟨sl,hL⟩:=u.any ho I.free (by simp);exact I.step (g':=s.gens) (d':=s.drawn) (ch:=[]) (λ_ z=>nomatch z) (λb o _ hb _ e n=>u.keep b o e n hb (by simp)) (λb o _ hb _ e n=>u.slot b o e n hb (by simp)) (λb o _ e n=>u.free b o e n (by simp)) (λb o _ e=>u.there b o e (by simp)) u.tups u.frzs u.tbls (λm' hm=>by obtain⟨o',es',ep',ho',r'⟩:=hm;rw[ho]at ho';cases ho';exact⟨_,es',ep',hL,r'⟩) hok I.bare
theorem Inv.call{g':Array GenState}{d':Drawn}(I:Inv X sI Y H s)(u:Un (t4 X.stack) ch H H' s.heap h')(hok:tK X.prog X.w H' h')(hg:AllBare g')(xC:∀b∈ch,(b∈X.ex\/X.s₀.heap.objs.size<=b)/\b≠X.env.locals/\(∀x c,X.env.cells.lookup x=Z c->c≠b)/\∀p∈X.pn++sI,p.1≠b):Inv X sI Y H' {s with heap:=h',gens:=g',drawn:=d',toks:=t'}:=by
 obtain⟨m,⟨o,es,ep,ho,r⟩,_⟩:=id I.loc;obtain⟨sl,hL⟩:=u.any ho I.free λz=>(xC _ z).2.1 rfl;exact I.step (ch:=ch) xC (λb o hL hb hc e n=>u.keep b o e n (λz=>(AE.mp (I.stkSub b z)).elim hL hb) hc) (λb o _ _ hc e n=>u.any e n hc) (λb o hc e n=>u.free b o e n hc) (λb o hc e=>u.there b o e hc) u.tups u.frzs u.tbls (λm' hm=>by obtain⟨o',es',ep',ho',r'⟩:=hm;rw[ho]at ho';cases ho';exact⟨_,es',ep',hL,r'⟩) hok hg
theorem Inv.turned{it:Addr}(I:Inv X sI Y H s)(k:∀b o,b≠it->s.heap.get? b=Z o->h'.get? b=Z o)(hn:H it=J)(hL:it≠X.env.locals)(h1:it∈X.ex\/X.s₀.heap.objs.size<=it)(h2:∀x c,X.env.cells.lookup x=Z c->c≠it)(h3:∀p∈X.pn++sI,p.1≠it):Inv X sI Y H {s with heap:=h',toks:=t'}:=by
 have nit:∀b u,H b=Z u->b≠it:=λb u e z=>by rw[z,hn]at e;cases e
 refine I.step (g':=s.gens) (d':=s.drawn) (ch:=[it]) (λb hb=>?_) (λb o _ _ hc e _=>k b o (λz=>hc (by simp[z])) e) (λb o _ _ hc e _=>⟨o.slots,k b o (λz=>hc (by simp[z])) e⟩) (λ_ _ _ _ n=>n)
  (λb o hc e=>⟨o,k b o (λz=>hc (by simp[z])) e⟩) (λ_ _ e=>e) (λ_ _ _ e=>e) (λb ps e=>⟨#[],by rw[e];simp⟩) (λm hm=>?_) (λb u e=>?_) I.bare
 .have e:b=it:=by simpa using hb
  subst e;exact⟨h1,hL,h2,h3⟩
 .obtain⟨o,es,ep,ho,r⟩:=hm
  exact⟨o,es,ep,k _ o (A8 hL) ho,r⟩
 .refine(I.hok b u e).stay (λc v hc q=>k c v ?_ q) (λ_ q=>q) λ_ _ q=>q
  rcases hc with z|z
  .rw[z];exact nit b u e
  .exact nit c _ z
theorem Inv.tok(I:Inv X sI Y H s)(t:Nat):Inv X sI Y H {s with toks:=t}:=I.un (h':=s.heap) (t':=t) Un.refl I.hok
theorem Inv.kept{t':Nat}(I:Inv X sI Y H s)(k:∀b u,s.heap.get? b=Z u->h'.get? b=Z u):Inv X sI Y H {s with heap:=h',toks:=t'}:=I.un (Un.kept k) (I.hok.kept k)
theorem Inv.laid{a:Addr}{o:HO}{t':Nat}(I:Inv X sI Y H s)(k:∀b u,s.heap.get? b=Z u->h'.get? b=Z u)(hp:s.heap.objs.size<=a)(new:ZZ X.prog X.w (upd H a o) h' a o):Inv X sI Y (upd H a o) {s with heap:=h',toks:=t'}:=I.un (Un.laid k hp (I.hok.fresh hp)) (I.hok.laid k hp new)
theorem Inv.write{x e:Addr}{o:HO}{t':Nat}(I:Inv X sI Y H s)(mu:zU (H x))(he:e=x\/H e=Z (.own x))(k:∀b u,b≠e->s.heap.get? b=Z u->h'.get? b=Z u)(zh:∃u,h'.get? e=Z u)(new:ZZ X.prog X.w (upd H x o) h' x o):Inv X sI Y (upd H x o) {s with heap:=h',toks:=t'}:=I.un (Un.write mu he k zh) (I.hok.write mu he k zh new)
theorem Inv.weak{σ':List (Option V)}(I:Inv X sI Y H s)(hl:σ'.length=Y.length)(w:∀(i:Nat) v,σ'[i]?=Z (Z v)->Y[i]?=Z (Z v)):Inv X sI σ' H s :=
 ⟨I.ok,I.os,I.bare,I.base,let ⟨m,hn,hl'⟩:=I.loc;⟨m,hn,λi x v e1 e2 e3=>hl' i x v e1 (w i v e2) e3⟩,I.cell,I.free,I.freeC,I.pin,I.hok,hl.trans I.len⟩
theorem Inv.pins_of{pins':List (Addr×Obj)}(I:Inv X sI Y H s)(h:∀p∈pins',s.heap.get? p.1=Z p.2/\H p.1=J/\p.1≠X.env.locals/\p.1∉X.fs/\∀v,p.2.data≠.cell v):Inv X pins' Y H s :=
 ⟨I.ok,I.os,I.bare,I.base,I.loc,I.cell,I.free,I.freeC,λp hp=>(Bg.mp hp).elim (λz=>I.pin p (De _ z)) (h p),I.hok,I.len⟩
theorem Xp{N:List Str}(hN:N.Nodup){j:Nat}(a:N[i]?=Z x)(b:N[j]?=Z x):i=j:=by obtain⟨h1,e1⟩:=A0.mp a;obtain⟨h2,e2⟩:=A0.mp b;exact(List.getElem_inj hN).mp (e1.trans e2.symm)
theorem RB{M:Model}{v:V}{Q:Unit->Shared->Prop}(I:Inv X sI Y H s)(hN:X.N.Nodup)(hi:X.N[i]?=Z x)(hx:Loc X.env.scope x)(r:RelV v u)(h:∀s',Inv X sI (Y.set i (Z v)) H s'->(∃a,EB a s.heap s'.heap/\(a=X.env.locals\/X.env.cells.lookup x=Z a))->Q () s')(hf:X.fn x=Aa\/X.env.scope.names.lookup x=Z .local:=by first|exact .inl rfl|exact .inr rfl|assumption):wpAny M A (storeName X.env x u) Q E s:=by
 obtain⟨m,hn,hl⟩:=id I.loc;have yX:(X.env.scope.kind==.class||(X.env.scope.kind==.module&&X.env.locals != X.env.globals))=Ab:=by rw[I.ok.kind];rfl
 have hiσ:i<Y.length:=by rw[I.len];exact(A0.mp hi).1
 have cne:=I.cne;have vz:∀{a:Addr} {h':Heap},(∃o,s.heap.get? a=Z o/\H a=J)->EB a s.heap h'->tK X.prog X.w H h':=λ{a h'} ha hs b ob e=>by
  obtain⟨_,_,uw⟩:=ha;refine(I.hok b ob e).stay (λc w' hc q=>(hs.2 c ?_).trans q) (λ_ q=>q) λ_ _ q=>q
  rintro rfl
  rcases hc with rfl|hc
  .rw[uw]at e;cases e
  .rw[uw]at hc;cases hc
 rcases hx with hk|hk
 .refine wpAny_storeName_local hk hn (λh' hn' hs=>?_) yX
  obtain⟨oL,_,_,vg,_⟩:=id hn;refine h _ ⟨I.ok,I.os,I.bare,⟨λb o e n hb hx=>?_,λb o e n hb hx=>?_,I.base.free,λb o e hx=>?_,I.base.tups,I.base.frzs,I.base.tbls⟩,⟨_,hn',λj y v' e1 e2 e3=>?_⟩,λy c e=>?_,I.free,I.freeC,λp hp=>?_,vz ⟨oL,vg,I.free⟩ hs,by simpa using I.len⟩ ⟨_,hs,.inl rfl⟩
  .exact(hs.2 b (As (Bz (Ao e) I.ok.above))).trans (I.base.keep b o e n hb hx)
  .obtain⟨sl,e1⟩:=I.base.slot b o e n hb hx
   exact⟨sl,(hs.2 b (As (Bz (Ao e) I.ok.above))).trans e1⟩
  .obtain⟨o',e1⟩:=I.base.there b o e hx
   exact⟨o',(hs.2 b (As (Bz (Ao e) I.ok.above))).trans e1⟩
  .by_cases hj:j=i
   .subst hj
    rw[hi]at e1;cases e1;rw[EG hiσ]at e2;cases e2;exact⟨u,r,.inl ⟨hk,by simp⟩⟩
   .rw[Cq (A8 hj)]at e2
    obtain⟨u',r',q⟩:=hl j y v' e1 e2 e3;refine⟨u',r',?_⟩;rcases q with⟨k,e⟩|⟨k,c,e,z⟩
    .refine .inl ⟨k,?_⟩
     have:y≠x:=λe=>hj (Xp hN e1 (e▸hi));simp[this,e]
    .exact .inr ⟨k,c,e,z.sameBut hs (cne y c e)⟩
  .obtain⟨w',z⟩:=I.cell y c e
   exact⟨w',z.sameBut hs (cne y c e)⟩
  .obtain⟨e,n,ne,nf,d⟩:=I.pin p hp
   exact⟨(hs.2 p.1 ne).trans e,n,ne,nf,d⟩
 .have hfn:X.fn x=Aa:=by
   rcases hf with z|z
   .exact z
   .rw[z]at hk;cases hk
  obtain⟨c,hc⟩:=I.ok.has x (.inl hk);obtain⟨w',z⟩:=I.cell x c hc;refine wpAny_storeName_cell I.ok.kind hk hc z (λh' hc' hs=>?_);obtain⟨oc,hoc,hocd⟩:=id z;refine h {s with heap:=h'} ⟨I.ok,I.os,I.bare,⟨λb o e n hb hx=>?_,λb o e n hb hx=>?_,I.base.free,λb o e hx=>?_,I.base.tups,I.base.frzs,I.base.tbls⟩,⟨m,hn.sameBut hs (A8 (cne x c hc)),λj y v' e1 e2 e3=>?_⟩,λy c' e=>?_,I.free,I.freeC,λp hp=>?_,vz ⟨oc,hoc,I.freeC x c hc⟩ hs,by simpa using I.len⟩ ⟨c,hs,.inr hc⟩
  .exact(hs.2 b (As (Bz (Ao e) (I.ok.cab x c hfn hc)))).trans (I.base.keep b o e n hb hx)
  .obtain⟨sl,e1⟩:=I.base.slot b o e n hb hx
   exact⟨sl,(hs.2 b (As (Bz (Ao e) (I.ok.cab x c hfn hc)))).trans e1⟩
  .obtain⟨o',e1⟩:=I.base.there b o e hx
   exact⟨o',(hs.2 b (As (Bz (Ao e) (I.ok.cab x c hfn hc)))).trans e1⟩
  .by_cases hj:j=i
   .subst hj
    rw[hi]at e1;cases e1;rw[EG hiσ]at e2;cases e2;exact⟨u,r,.inr ⟨.inl hk,c,hc,hc'⟩⟩
   .rw[Cq (A8 hj)]at e2
    obtain⟨u',r',q⟩:=hl j y v' e1 e2 e3;refine⟨u',r',?_⟩;rcases q with q|⟨k,c',e,z'⟩
    .exact .inl q
    .refine .inr ⟨k,c',e,z'.sameBut hs ?_⟩
     rintro rfl
     exact hj (Xp hN e1 (I.ok.inj _ _ _ e hc▸hi))
  .by_cases xD:c'=c
   .subst xD;exact⟨_,hc'⟩
   .obtain⟨w2,z2⟩:=I.cell y c' e
    exact⟨w2,z2.sameBut hs xD⟩
  .obtain⟨e,n,ne,nf,d⟩:=I.pin p hp
   refine⟨(hs.2 p.1 ?_).trans e,n,ne,nf,d⟩;intro q;rw[q,hoc]at e;have q':oc=p.2:=Ct e;exact d w' (by rw[<-q'];exact hocd)
theorem QK{M:Model}{v:V}{Q:Unit->Shared->Prop}(I:Inv X sI Y H s)(hN:X.N.Nodup)(hi:X.N[i]?=Z x)(hx:Loc X.env.scope x)(r:RelV v u)(h:∀s',Inv X sI (Y.set i (Z v)) H s'->Q () s')(hf:X.fn x=Aa\/X.env.scope.names.lookup x=Z .local:=by first|exact .inl rfl|exact .inr rfl|assumption):wpAny M A (storeName X.env x u) Q E s :=
 RB I hN hi hx r (λs' I' _=>h s' I') hf
theorem Inv.call'{s':Shared}(I:Inv X sI Y H s)(ho:s'.os=s.os)(u:Un (t4 X.stack) ch H H' s.heap s'.heap)(hok:tK X.prog X.w H' s'.heap)(hg:AllBare s'.gens)(xC:∀b∈ch,(b∈X.ex\/X.s₀.heap.objs.size<=b)/\b≠X.env.locals/\(∀x c,X.env.cells.lookup x=Z c->c≠b)/\∀p∈X.pn++sI,p.1≠b):Inv X sI Y H' s':=by
 obtain⟨h',g',d',t',o'⟩:=s';have e:o'=s.os:=ho;subst e;exact I.call (g':=g') (t':=t') (d':=d') u hok hg xC
end
abbrev XK:=Value->Option Addr->Hp->Prop
abbrev St:=List (Option V)
abbrev VK:=V->Hp->Prop
abbrev TE:=St->Hp->VK->Prop
abbrev TT:=St->Hp->(Bool->Hp->Prop)->Prop
abbrev TA:=St->Hp->(List V->Hp->Prop)->Prop
structure wJ where
 nx:St->Hp->Prop
 rt:VK
 bk:St->Hp->Prop:=λ_ _=>False
 ct:St->Hp->Prop:=λ_ _=>False
abbrev TS:=wJ->St->Hp->Prop
inductive EP(X:Cx)(sI:List (Addr×Obj))(Y:St)(Q:VK)(u:Value)(s':Shared):Prop
 |mk (v:V) (H':Hp) (I:Inv X sI Y H' s') (r:RelV v u) (q:Q v H'):EP X sI Y Q u s'
inductive TP(X:Cx)(sI:List (Addr×Obj))(Y:St)(Q:Bool->Hp->Prop)(b:Bool)(s':Shared):Prop
 |mk (H':Hp) (I:Inv X sI Y H' s') (q:Q b H'):TP X sI Y Q b s'
inductive AP(X:Cx)(sI:List (Addr×Obj))(Y:St)(Q:List V->Hp->Prop)(us:List Value)(s':Shared):Prop
 |mk (vs:List V) (H':Hp) (I:Inv X sI Y H' s') (r:sL vs us) (q:Q vs H'):AP X sI Y Q us s'
inductive SPn(X:Cx)(sI:List (Addr×Obj))(N:St->Hp->Prop)(s':Shared):Prop
 |mk (σ':St) (H':Hp) (I:Inv X sI σ' H' s') (q:N σ' H'):SPn X sI N s'
inductive SPr(X:Cx)(sI:List (Addr×Obj))(R:V->Hp->Prop)(u:Value)(s':Shared):Prop
 |mk (v:V) (σ':St) (H':Hp) (I:Inv X sI σ' H' s') (r:RelV v u) (q:R v H'):SPr X sI R u s'
def SP(X:Cx)(sI:List (Addr×Obj))(D:wJ)(f:Flow)(s':Shared):Prop :=
 match f with
 | .next=>SPn X sI D.nx s'
 | .brk=>SPn X sI D.bk s'
 | .cont=>SPn X sI D.ct s'
 | .ret u=>SPr X sI D.rt u s'
def PE(X:Cx)(e:Expr)(t:TE):Prop :=
 ∀(sI:List (Addr×Obj)) (s:Shared) (Y:St) (H:Hp) (Q:VK),Inv X sI Y H s->t Y H Q->wpAny (model X.prog X.w) X.A (eval e X.env) (EP X sI Y Q) X.xe s
def PT(X:Cx)(e:Expr)(t:TT):Prop :=
 ∀(sI:List (Addr×Obj)) (s:Shared) (Y:St) (H:Hp) (Q:Bool->Hp->Prop),Inv X sI Y H s->t Y H Q->wpAny (model X.prog X.w) X.A (isTrue e X.env (eval e X.env)) (TP X sI Y Q) X.xe s
def PW(X:Cx)(e:Expr)(t:TT):Prop :=
 ∀(u9:Sem Value) (sI:List (Addr×Obj)) (s:Shared) (Y:St) (H:Hp) (Q:Bool->Hp->Prop),Inv X sI Y H s->t Y H Q->wpAny (model X.prog X.w) X.A (isTrue e X.env u9) (TP X sI Y Q) X.xe s
theorem PW.pt{X:Cx}{e:Expr}{t:TT}(h:PW X e t):PT X e t:=h _
def PA(X:Cx)(es:List Expr)(t:TA):Prop :=
 ∀(pos:Pos) (sI:List (Addr×Obj)) (s:Shared) (Y:St) (H:Hp) (Q:List V->Hp->Prop),Inv X sI Y H s->t Y H Q->wpAny (model X.prog X.w) X.A (spliced (backTo pos (Ad es X.env))) (AP X sI Y Q) X.xe s
def PS(X:Cx)(st:Stmt)(t:TS):Prop :=
 ∀(sI:List (Addr×Obj)) (s:Shared) (Y:St) (H:Hp) (D:wJ),Inv X sI Y H s->t D Y H->wpAny (model X.prog X.w) X.A (exec st X.env) (SP X sI D) X.xe s
def uA(X:Cx)(st:List Stmt)(t:TS):Prop :=
 ∀(sI:List (Addr×Obj)) (s:Shared) (Y:St) (H:Hp) (D:wJ),Inv X sI Y H s->t D Y H->wpAny (model X.prog X.w) X.A (execs st X.env) (SP X sI D) X.xe s
theorem sS{α:Type}{t:Sem α}{Q Q':α->Shared->Prop}{M:Model}{s:Shared}(h:wpAny M A t Q E s)(hQ:∀a s,Q a s->Q' a s):wpAny M A t Q' E s:=Bw h hQ λ_ _ x=>x
end
section
variable{H:Hp}{sI:List (Addr×Obj)}{pos:Pos}{s:Shared}{Y:St}{x:Str}{u:Value}{E Q:Value->Shared->Prop}
section
variable{X:Cx}
def pG(i:Nat):TE:=λY H Q=>∃v,Y[i]?=Z (Z v)/\Q v H
noncomputable def tC (v:V):TE:=λ_ H Q=>Q v H
theorem CI{i:Nat}(hN:X.N[i]?=Z x)(hv:vk X.env.scope x)(hd:(x==("__debug__":Str))=Ab:=by decide)(tF:(x==("__classdict__":Str))=Ab:=by decide):PE X (.Name x pos) (pG i):=by
 intro sI s Y H Q I h;obtain⟨v,e,h⟩:=h;obtain⟨m,hn,hl⟩:=I.loc;obtain⟨u,r,l⟩:=hl i x v hN e hv;have tL:EP X sI Y Q u s:=⟨v,H,I,r,h⟩;rcases l with⟨hk,hm⟩|⟨hk,c,hc,vM⟩
 .exact wpAny_Name (wpAny_loadName_local I.ok.kind hk hn hm tL) hd
 .rcases hk with hk|hk
  .exact wpAny_Name (wpAny_loadName_cell I.ok.kind hk hc vM tL) hd
  .exact wpAny_Name (wpAny_loadName_free I.ok.kind hk hc vM tL tF) hd
theorem VU{i j pos}:PE X (.Constant (.int i) j pos) (tC (.int i)):=λ_ _ _ H _ I h=>wpAny_Constant_int ⟨.int i,H,I.tok _,⟨_,rfl⟩,h⟩
theorem bS{b j pos}:PE X (.Constant (.bool b) j pos) (tC (.bl b)):=λ_ _ _ H _ I h=>Constant_bool ⟨.bl b,H,I,rfl,h⟩
theorem VA{j pos}:PE X (.Constant .none j pos) (tC .non):=λ_ _ _ H _ I h=>Constant_none ⟨.non,H,I,rfl,h⟩
theorem e9{x j pos}:PE X (.Constant (.str x) j pos) (tC (.str x)):=λ_ _ _ H _ I h=>Calls.Constant_str ⟨.str x,H,I.tok _,⟨_,rfl⟩,h⟩
def Gl(X:Cx)(x:Str):Prop:=X.env.kindOf x=Z .globalImplicit
theorem KQ(I:Inv X sI Y H s)(hg:Gl X x)(hm:X.mg x=Z u)(h:Q u s)(hd:(x==("__debug__":Str))=Ab:=by decide):wpAny (model X.prog X.w) X.A (eval (.Name x pos) X.env) Q E s :=
 br I.ok.kind hg (Calls.loadGlobal_global (by rw[I.ok.glob];exact I.mod.glob.keeps I.bk) hm h) hd
theorem HH(I:Inv X sI Y H s)(hg:Gl X x)(hm:X.mg x=J)(hv:B5 x=Z u)(h:Q u s)(hn:x ≠ "__name__":=by decide)(hd:(x==("__debug__":Str))=Ab:=by decide):wpAny (model X.prog X.w) X.A (eval (.Name x pos) X.env) Q E s:=by
 obtain⟨mb,h1,h2⟩:=I.mod.blt;exact br I.ok.kind hg (Calls.loadGlobal_builtin (by rw[I.ok.glob];exact I.mod.glob.keeps I.bk) hm (by rw[I.ok.blt];exact h1.keeps I.bk) ((h2 x hn).trans hv) h) hd
theorem QC{v:V}(hg:Gl X x)(hm:X.mg x=Z u)(r:RelV v u)(hd:(x==("__debug__":Str))=Ab:=by decide):PE X (.Name x pos) (tC v) :=
 λ_ _ _ H _ I h=>KQ I hg hm ⟨v,H,I,r,h⟩ hd
theorem V3{v:V}(hg:Gl X x)(hm:X.mg x=J)(hv:B5 x=Z u)(r:RelV v u)(hn:x ≠ "__name__":=by decide)(hd:(x==("__debug__":Str))=Ab:=by decide):PE X (.Name x pos) (tC v) :=
 λ_ _ _ H _ I h=>HH I hg hm hv ⟨v,H,I,r,h⟩ hn hd
variable{a b:Expr}{ta tb:TE}{pos:Pos}
def PC(X:Cx)(op:CmpOp)(a b:Expr)(t:TE):Prop :=
 ∀(sI:List (Addr×Obj)) (s:Shared) (Y:St) (H:Hp) (Q:VK),Inv X sI Y H s->t Y H Q ->
  wpAny (model X.prog X.w) X.A (eval a X.env) (λv s₁=>wpAny (model X.prog X.w) X.A (eval b X.env) (λu s₂=>wpAny (model X.prog X.w) X.A (BQ op v u) (EP X sI Y Q) X.xe s₂) X.xe s₁) X.xe s
theorem QY(b:Expr){op:CmpOp}(h:op≠.In)(h2:op≠.NotIn):DA op b=Ab:=by
 have e1:(op==CmpOp.In)=Ab:=by cases op<;>first|rfl|exact absurd rfl h
 have e2:(op==CmpOp.NotIn)=Ab:=by cases op<;>first|rfl|exact absurd rfl h2
 cases b<;>simp[DA,e1,e2]
def tB(t:TE):TT:=λY H Q=>t Y H λx H1=>∃c,x=.bl c/\Q c H1
theorem Qe{op:CmpOp}{t:TE}(h:PC X op a b t)(h1:DA op b=Ab:=by first|exact QY _ (by decide) (by decide)|rfl):PT X (.Compare a [op] [b] pos) (tB t):=by intro sI s Y H Q I hw;refine wpAny_isTrue_Compare1 (sS (h sI s Y H _ I hw) λv s1 h1=>sS h1 λu s2 h2=>sS h2 λc s3 ⟨x,H1,I1,r1,q1⟩=>?_) h1;obtain⟨d,rfl,q⟩:=q1;cases r1;exact IS ⟨H1,I1,q⟩
theorem dM{e:Expr}{t:TE}(h:PE X e t)(he:∀u9,isTrue e X.env u9=(do let v <-u9;standAt e.pos;holding [v] (truthy v)):=by intro _;rfl):PT X e (tB t):=by intro sI s Y H Q I hw;refine isTrue_plain (sS (h sI s Y H _ I hw) λv s1 ⟨x,H1,I1,r1,q1⟩=>?_) (he _);obtain⟨d,rfl,q⟩:=q1;cases r1;exact IS ⟨H1,I1,q⟩
variable{tA tB':TT}{rest:List Expr}
def Cm(t u:TT):TT:=λY H Q=>t Y H λc H1=>if c=Aa then u Y H1 Q else Q Ab H1
def wq(t u:TT):TT:=λY H Q=>t Y H λc H1=>if c=Aa then Q Aa H1 else u Y H1 Q
def Cj(t:TT):TT:=λY H Q=>t Y H λc H1=>Q (!c) H1
theorem gB(ha:PT X a tA):PW X (.BoolOp .And [a] pos) tA:=by
 intro wh sI s Y H Q I h;refine isTrue_and (sS (ha sI s Y H Q I h) λc s1 e=>?_);cases c with
 |true=>exact isTrue_and_nil e
 |false=>exact e
theorem cm(ha:PT X a tA):PW X (.BoolOp .Or [a] pos) tA:=by
 intro wh sI s Y H Q I h;refine isTrue_or (sS (ha sI s Y H Q I h) λc s1 e=>?_);cases c with
 |false=>exact isTrue_or_nil e
 |true=>exact e
theorem VM(ha:PT X a tA)(hb:PW X (.BoolOp .And (b::rest) pos) tB'):PW X (.BoolOp .And (a::b::rest) pos) (Cm tA tB'):=by
 intro wh sI s Y H Q I h;refine isTrue_and (sS (ha sI s Y H _ I h) λc s1 ⟨H1,I1,q1⟩=>?_);cases c with
 |true=>exact hb wh sI s1 Y H1 Q I1 q1
 |false=>exact⟨H1,I1,q1⟩
theorem Vb(ha:PT X a tA)(hb:PW X (.BoolOp .Or (b::rest) pos) tB'):PW X (.BoolOp .Or (a::b::rest) pos) (wq tA tB'):=by
 intro wh sI s Y H Q I h;refine isTrue_or (sS (ha sI s Y H _ I h) λc s1 ⟨H1,I1,q1⟩=>?_);cases c with
 |true=>exact⟨H1,I1,q1⟩
 |false=>exact hb wh sI s1 Y H1 Q I1 q1
theorem fS(ha:PT X a tA):PT X (.UnaryOp .Not a pos) (Cj tA):=by intro sI s Y H Q I h;exact isTrue_not (sS (ha sI s Y H (λc H1=>Q (!c) H1) I h) λ_ _ ⟨H',I',q'⟩=>⟨H',I',q'⟩)
def bU(ta tb:TE):TE:=λY H Q=>ta Y H λx H1=>∃c,x=.bl c/\if c=Aa then tb Y H1 Q else Q (.bl Ab) H1
theorem dY{op}{t:TE}(h:PE X a t):PE X (.BoolOp op [a] pos) t:=λsI s Y H Q I hw=>BoolOp_one (h sI s Y H Q I hw)
theorem VO(ha:PE X a ta)(hb:PE X (.BoolOp .And (b::rest) pos) tb):PE X (.BoolOp .And (a::b::rest) pos) (bU ta tb):=by
 intro sI s Y H Q I h;refine BoolOp_and (sS (ha sI s Y H _ I h) λv s1 ⟨x,H1,I1,r1,q1⟩=>?_);obtain⟨c,rfl,q1⟩:=q1;cases r1;refine IS ?_;cases c with
 |true=>exact hb sI s1 Y H1 Q I1 q1
 |false=>exact⟨.bl Ab,H1,I1,rfl,q1⟩
def tIf(t:TT)(ta tb:TE):TE:=λY H Q=>t Y H λc H1=>if c=Aa then ta Y H1 Q else tb Y H1 Q
theorem Xh{c:Expr}(hc:PT X c tA)(ha:PE X a ta)(hb:PE X b tb):PE X (.IfExp c a b pos) (tIf tA ta tb):=by
 intro sI s Y H Q I h;refine wpAny_IfExp (sS (hc sI s Y H _ I h) λd s1 ⟨H1,I1,q1⟩=>?_);cases d with
 |true=>exact ha sI s1 Y H1 Q I1 q1
 |false=>exact hb sI s1 Y H1 Q I1 q1
end
end
section
variable{X:Cx}{c tg:Expr}{H:Hp}{sI:List (Addr×Obj)}{es:List Expr}{i:Nat}{P:Program}{K:Ae}{s:Shared}{Y:St}{x:Str}{u:Value}{E:Value->Shared->Prop}
def tU(K:Ae)(H:Hp)(a:Addr)(xs:List V):Prop :=
 Rd H a (.lst xs) \/
  ∃(o:Obj) (its:Array Value) (n:Nat),K.lookup a=Z o/\o.cls=.type "list"/\o.dict=J/\o.data=.seq its n/\its.size<=sizeLine/\sL xs its.toList
def uL(K:Ae)(H:Hp)(a:Addr)(xs:List V):Prop :=
 Rd H a (.tup xs) \/
  ∃(o:Obj) (its:Array Value) (n:Nat),K.lookup a=Z o/\o.cls=.type "tuple"/\o.data=.seq its n/\its.size<=sizeLine/\sL xs its.toList
def pK:Value->Option V
 | .none=>Z .non
 | .bool b=>Z (.bl b)
 | .int i _=>Z (.int i)
 | .str x _=>Z (.str x)
 | .bytes b _=>Z (.byt b)
 | .float b _=>Z (.flt b)
 | .ref a=>Z (.ref a)
 | .type n=>Z (.ty n)
 |_=>J
theorem RelV.abs{x:V}(r:RelV x u):pK u=Z x:=by
 cases x with
 |non=>cases r;rfl
 |bl _=>cases r;rfl
 |int _=>obtain⟨t,rfl⟩:=r;rfl
 |str _=>obtain⟨t,rfl⟩:=r;rfl
 |byt _=>obtain⟨t,rfl⟩:=r;rfl
 |flt _=>obtain⟨t,rfl⟩:=r;rfl
 |ref _=>cases r;rfl
 |ty _=>cases r;rfl
theorem RelV.inj{x y:V}{u:Value}(r:RelV x u)(q:RelV y u):x=y:=Ct (r.abs.symm.trans q.abs)
theorem sL.inj:∀{xs ys:List V} {us:List Value},sL xs us->sL ys us->xs=ys
 |_,_,_,.nil,.nil=>rfl
 |_,_,_,.cons r t,.cons r' t'=>by rw[r.inj r',sL.inj t t']
section
variable{X:Cx}{sI:List (Addr×Obj)}{Y:St}{H:Hp}{s:Shared}{a:Addr}{xs ys:List V}
theorem tU.of(h:H a=Z (.lst xs)):tU K H a xs:=.inl (.inl h)
theorem uL.of(h:H a=Z (.tup xs)):uL K H a xs:=.inl (.inl h)
theorem Inv.list(I:Inv X sI Y H s)(h:tU X.K H a xs):∃its:List Value,sL xs its/\PlainL s.heap a its.toArray/\xs.length<=sizeLine:=by
 rcases h with h|⟨o,its,n,hk,hc,hd,hs,hz,r⟩
 .obtain⟨z,its,n,r,e⟩:=h.ok I.hok
  exact⟨its,r,⟨_,n,e,rfl,rfl,rfl⟩,z⟩
 .refine⟨its.toList,r,⟨o,n,I.kIn a o hk,hc,hd,by simpa using hs⟩,?_⟩
  have e:=r.length;simp only[BB]at e;omega
theorem Inv.tuple(I:Inv X sI Y H s)(h:uL X.K H a xs):∃its:List Value,sL xs its/\IsTup s.heap a its.toArray/\xs.length<=sizeLine:=by
 rcases h with h|⟨o,its,n,hk,hc,hs,hz,r⟩
 .obtain⟨z,its,r,p⟩:=h.ok I.hok
  exact⟨its,r,p,z⟩
 .refine⟨its.toList,r,⟨o,I.kIn a o hk,hc,n,by simpa using hs⟩,?_⟩
  have e:=r.length;simp only[BB]at e;omega
theorem Inv.list_inj(I:Inv X sI Y H s)(h:tU X.K H a xs)(h':tU X.K H a ys):xs=ys:=by
 obtain⟨its,r,⟨o,n,e,_,_,d⟩,_⟩:=I.list h;obtain⟨its',r',⟨o',n',e',_,_,d'⟩,_⟩:=I.list h';rw[e]at e';cases e';rw[d]at d';injection d' with d1 _
 have:its=its':=by simpa using congrArg Array.toList d1
 subst this;exact r.inj r'
theorem Inv.tuple_inj(I:Inv X sI Y H s)(h:uL X.K H a xs)(h':uL X.K H a ys):xs=ys:=by
 obtain⟨its,r,⟨o,e,_,n,d⟩,_⟩:=I.tuple h;obtain⟨its',r',⟨o',e',_,n',d'⟩,_⟩:=I.tuple h';rw[e]at e';cases e';rw[d]at d';injection d' with d1 _
 have:its=its':=by simpa using congrArg Array.toList d1
 subst this;exact r.inj r'
end
abbrev Cx.wish(X:Cx)(E:Value->Shared->Prop):Cx:={X with xe:=E}
abbrev Cx.nox(X:Cx):Cx:=X.wish λ_ _=>False
theorem Cx.Ok.wish{X:Cx}(ok:X.Ok)(E:Value->Shared->Prop):(X.wish E).Ok :=
 ⟨ok.mod,ok.kind,ok.glob,ok.blt,ok.above,ok.inj,ok.has,ok.cab,ok.hd,ok.frames,ok.stk,ok.exf,ok.bs,ok.bsz,ok.noex,ok.exfs,ok.funs,ok.frf⟩
theorem Cx.Ok.unwish(ok:(X.wish E).Ok):X.Ok :=
 ⟨ok.mod,ok.kind,ok.glob,ok.blt,ok.above,ok.inj,ok.has,ok.cab,ok.hd,ok.frames,ok.stk,ok.exf,ok.bs,ok.bsz,ok.noex,ok.exfs,ok.funs,ok.frf⟩
section
variable{X:Cx}{sI:List (Addr×Obj)}{Y:St}{H:Hp}{s:Shared}{E:Value->Shared->Prop}
theorem Inv.wish(I:Inv X sI Y H s)(E:Value->Shared->Prop):Inv (X.wish E) sI Y H s:=⟨I.ok.wish E,I.os,I.bare,I.base,I.loc,I.cell,I.free,I.freeC,I.pin,I.hok,I.len⟩
theorem Inv.unwish(I:Inv (X.wish E) sI Y H s):Inv X sI Y H s:=⟨I.ok.unwish,I.os,I.bare,I.base,I.loc,I.cell,I.free,I.freeC,I.pin,I.hok,I.len⟩
theorem SP.unwish{D:wJ}{f:Flow}{s':Shared}(h:SP (X.wish E) sI D f s'):SP X sI D f s':=by
 cases f with
 |next=>obtain⟨σ',H',I,q⟩:=h;exact⟨σ',H',I.unwish,q⟩
 |brk=>obtain⟨σ',H',I,q⟩:=h;exact⟨σ',H',I.unwish,q⟩
 |cont=>obtain⟨σ',H',I,q⟩:=h;exact⟨σ',H',I.unwish,q⟩
 |ret u=>obtain⟨v,σ',H',I,r,q⟩:=h;exact⟨v,σ',H',I.unwish,r,q⟩
theorem uA.nox{st:List Stmt}{t:TS}(h:uA X.nox st t):uA X st t:=λsI s Y H D I hw=>Bw (h sI s Y H D (I.wish _) hw) (λ_ _ q=>q.unwish) λ_ _ z=>Bv z
end
section
variable{X:Cx}{st:Stmt}{rest:List Stmt}{t u:TS}{e:Expr}{te:TE}{pos:Pos}
noncomputable def cD:TS:=λD Y H=>D.nx Y H
noncomputable def pR (t u:TS):TS:=λD Y H=>t {D with nx:=u D} Y H
theorem fG:uA X [] cD:=λ_ _ Y H _ I h=>Mo ⟨Y,H,I,h⟩
theorem HY(h1:PS X st t)(h2:uA X rest u):uA X (st::rest) (pR t u):=by
 intro sI s Y H D I h;refine wpAny_execs_cons (sS (h1 sI s Y H {D with nx:=u D} I h) λf s1 q=>?_);cases f with
 |next=>obtain⟨σ',H',I',q⟩:=q;exact h2 sI s1 σ' H' D I' q
 |ret v=>exact q
 |brk=>exact q
 |cont=>exact q
theorem Qq(h1:PS X st t):uA X [st] t:=by
 intro sI s Y H D I h;refine wpAny_execs_cons (sS (h1 sI s Y H D I h) λf s1 q=>?_);cases f with
 |next=>exact Mo q
 |ret v=>exact q
 |brk=>exact q
 |cont=>exact q
theorem Inv.quiet(I:Inv X sI Y H s):interactive X.env=Ab:=by simp[interactive,I.ok.kind]
def cB(te:TE):TS:=λD Y H=>te Y H λ_ H1=>D.nx Y H1
theorem KO(he:PE X e te)(hs:DB e J pos.line X.env=pure Ab:=by rfl):PS X (.Expr e pos) (cB te):=by intro sI s Y H D I h;exact wpAny_Expr_any (sS (he sI s Y H _ I h) λv s1 ⟨x,H1,I1,r1,q1⟩=>⟨Y,H1,I1,q1⟩) I.quiet hs
def pJ(te:TE):TS:=λD Y H=>te Y H D.rt
theorem Kq(he:PE X e te):PS X (.Return (Z e) pos) (pJ te):=by intro sI s Y H D I h;exact wpAny_Return_some (sS (he sI s Y H _ I h) λv s1 ⟨x,H1,I1,r1,q1⟩=>⟨x,Y,H1,I1,r1,q1⟩)
def pV(c:TT)(t u:TS):TS:=λD Y H=>c Y H λb H1=>if b=Aa then t D Y H1 else u D Y H1
theorem MO{a b:List Stmt}{tc:TT}(hc:PT X c tc)(ha:uA X a t)(hb:uA X b u):PS X (.If c a b pos) (pV tc t u):=by
 intro sI s Y H D I h;refine wpAny_If (sS (hc sI s Y H _ I h) λd s1 ⟨H1,I1,q1⟩=>?_);cases d with
 |true=>exact ha sI s1 Y H1 D I1 q1
 |false=>exact hb sI s1 Y H1 D I1 q1
def c6:TS:=λ_ _ _=>False
theorem GR{wt:List Stmt}:uA X wt c6:=λ_ _ _ _ _ _ h=>h.elim
end
abbrev TG:=V->St->Hp->(St->Hp->Prop)->Prop
abbrev yP:=List V->St->Hp->(St->Hp->Prop)->Prop
def PG(X:Cx)(uP:Expr)(t:TG):Prop :=
 ∀(sI:List (Addr×Obj)) (s:Shared) (Y:St) (H:Hp) (v:V) (u:Value) (Q:St->Hp->Prop),Inv X sI Y H s->RelV v u->t v Y H Q ->
  wpAny (model X.prog X.w) X.A (assign uP X.env u) (λ_ s'=>∃σ' H',Inv X sI σ' H' s'/\Q σ' H') X.xe s
def PGs(X:Cx)(ts:List Expr)(t:yP):Prop :=
 ∀(sI:List (Addr×Obj)) (s:Shared) (Y:St) (H:Hp) (vs:List V) (us:List Value) (Q:St->Hp->Prop),Inv X sI Y H s->sL vs us->t vs Y H Q ->
  wpAny (model X.prog X.w) X.A (assignInOrder ((ED ts X.env).map (·.2)) us) (λ_ s'=>∃σ' H',Inv X sI σ' H' s'/\Q σ' H') X.xe s
abbrev PN:=V->V->V->Hp->(Hp->Prop)->Prop
def U0(X:Cx)(t:PN):Prop :=
 ∀(sI:List (Addr×Obj)) (s:Shared) (Y:St) (H:Hp) (o i v:V) (ov iv u:Value) (Q:Hp->Prop),Inv X sI Y H s->RelV o ov->RelV i iv->RelV v u->t o i v H Q ->
  wpAny (model X.prog X.w) X.A (setItem ov iv u) (λ_ s'=>∃H',Inv X sI Y H' s'/\Q H') X.xe s
section
variable{X:Cx}{pos:Pos}
def MK(i:Nat):TG:=λv Y H Q=>Q (Y.set i (Z v)) H
theorem Jh(hN:X.N.Nodup)(hi:X.N[i]?=Z x)(hx:Loc X.env.scope x)(hf:X.fn x=Aa\/X.env.scope.names.lookup x=Z .local:=by first|exact .inl rfl|exact .inr rfl|assumption):PG X (.Name x pos) (MK i):=by intro sI s Y H v u Q I r h;exact T4 (QK I hN hi hx r (λs' I'=>⟨_,H,I',h⟩) hf)
def UR:yP:=λvs Y H Q=>vs=[]/\Q Y H
def PX(t:TG)(u:yP):yP:=λvs Y H Q=>∃v r,vs=v::r/\t v Y H λσ' H'=>u r σ' H' Q
theorem Wd:PGs X [] UR:=by intro sI s Y H vs us Q I r h;obtain⟨e,h⟩:=h;subst e;cases r;exact assignInOrder_nil ⟨Y,H,I,h⟩
theorem Nq{e:Expr}{t:TG}{u:yP}(h1:PG X e t)(h2:PGs X es u)(hs:(ED (e::es) X.env).map (·.2)=assign e X.env::(ED es X.env).map (·.2):=by rfl):PGs X (e::es) (PX t u):=by
 intro sI s Y H vs us Q I r h;obtain⟨v,vr,e1,h⟩:=h;subst e1;cases r with
 |cons r rr=>rw[hs];refine assignInOrder_cons (sS (h1 sI s Y H _ _ _ I r h) λ_ s1 ⟨σ1,H1,I1,q1⟩=>?_);exact h2 sI s1 σ1 H1 _ _ Q I1 rr q1
def UQ(K:Ae)(n:Nat)(t:yP):TG:=λv Y H Q=>∃a xs,v=.ref a/\uL K H a xs/\xs.length=n/\t xs Y H Q
theorem Vj{k:Nat}{t:yP}{n:Nat}(hc:X.calm=Aa)(h:PGs X es t)(hn:(ED es X.env).length=n:=by rfl)(vf:(ED es X.env).findIdx? (·.1)=J:=by rfl):PG X (.Tuple es k pos) (UQ X.K n t):=by
 intro sI s Y H v u Q I r hw;obtain⟨a,xs,e1,hq,hl,hw⟩:=hw;subst e1;cases r;obtain⟨its,rv,ht,hz⟩:=I.tuple hq;refine assign_Tuple_tuple (I.ok.hd hc) ht (by simp[hn,<-hl,rv.length]) vf λh' hx=>?_;have I1:Inv X sI Y H {s with heap:=h'}:=I.kept (t':=s.toks) λb o e=>hx b o (As (Ao e)) e;exact h sI _ Y H xs _ Q I1 (by simpa using rv) hw
def Kk(to ti:TE)(t:PN):TG:=λv Y H Q=>to Y H λo H1=>ti Y H1 λi H2=>t o i v H2 λH3=>Q Y H3
theorem dz{o i:Expr}{to ti:TE}{t:PN}(ho:PE X o to)(hi:PE X i ti)(hs:U0 X t)
  (ha:∀v,assign (.Subscript o i pos) X.env v=(do
   let ov <-holding [v] (eval o X.env)
   let iv <-holding [v,ov] (eval i X.env)
   standAt pos
   holding [v,ov,iv] (setItem ov iv v)
   release [v,ov,iv] []):=by intro _;rfl):PG X (.Subscript o i pos) (Kk to ti t):=by
 intro sI s Y H v u Q I r h;rw[ha];refine Ac (Cu (sS (ho sI s Y H _ I h) λov s1 ⟨x,H1,I1,r1,q1⟩=>?_));refine Ac (Cu (sS (hi sI s1 Y H1 _ I1 q1) λiv s2 ⟨y,H2,I2,r2,q2⟩=>?_));refine Ac (OU (Ac (Cu (sS (hs sI s2 Y H2 x y v ov iv u _ I2 r1 r2 r q2) λ_ s3 ⟨H3,I3,q3⟩=>?_))));exact wpAny_release ⟨Y,H3,I3,q3⟩
def UO(te:TE)(g:TG):TS:=λD Y H=>te Y H λx H1=>g x Y H1 D.nx
theorem eh{e:Expr}{te:TE}{g:TG}(he:PE X e te)(hg:PG X tg g)(hs:swapsWithSole [tg] e pos.line X.env=pure Ab:=by rfl)(hw:swappedStores [tg] e X.env=pure J:=by rfl)(h1:(ED [tg] X.env).map (·.2)=[assign tg X.env]:=by rfl):PS X (.Assign [tg] e pos) (UO te g):=by
 intro sI s Y H D I h;refine wpAny_Assign_stores (sS (he sI s Y H _ I h) λv s1 ⟨x,H1,I1,r1,q1⟩=>?_) hs hw;rw[h1];exact sS (hg sI s1 Y H1 x v _ I1 r1 q1) λ_ s2 ⟨σ',H',I',q'⟩=>⟨σ',H',I',q'⟩
theorem P7{e:Expr}{te:TE}{pos':Pos}(hN:X.N.Nodup)(hi:X.N[i]?=Z x)(hx:Loc X.env.scope x)(he:PE X e te)(hs:DB e (Z (.Name x pos')) pos.line X.env=pure Ab:=by rfl)(hf:X.fn x=Aa\/X.env.scope.names.lookup x=Z .local:=by first|exact .inl rfl|exact .inr rfl|assumption):PS X (.Assign [.Name x pos'] e pos) (UO te (MK i)):=by
 intro sI s Y H D I h;refine wpAny_Assign_Name (sS (he sI s Y H _ I h) λv s1 ⟨y,H1,I1,r1,q1⟩=>?_) hs;exact QK I1 hN hi hx r1 (λs2 I2=>⟨_,H1,I2,q1⟩) hf
end
section
variable{X:Cx}{pos:Pos}
def dH(c:TT)(tb:TS):TS:=λD Y H=>∃W:Nat->St->Hp->Prop,(∃m,W m Y H)/\∀m Y H,W m Y H ->
 c Y H λb H1=>if b=Aa then ∃N:St->Hp->Prop,(∀σ' H',N σ' H'->∃m',m'<m/\W m' σ' H')/\tb {D with nx:=N,ct:=N,bk:=D.nx} Y H1 else D.nx Y H1
theorem jd{body:List Stmt}{tc:TT}{tb:TS}(hp:PassesOwn (model X.prog X.w) X.A X.env X.xe)(hc:PT X c tc)(hb:uA X body tb):PS X (.While c body [] pos) (dH tc tb):=by
 intro sI s Y H D I h;obtain⟨W,⟨m0,w0⟩,xf⟩:=h;refine wpAny_While (codeAny_whileLoop (λn s'=>∃σ' H',Inv X sI σ' H' s'/\W n σ' H') ?_ m0 ⟨Y,H,I,w0⟩)
 rintro n s1 ⟨σ1,H1,I1,w1⟩
 refine IE hp (sS (hc sI s1 σ1 H1 _ I1 (xf n σ1 H1 w1)) λb s2 ⟨H2,I2,q2⟩=>?_);cases b with
 |true =>
  obtain⟨N,hN,q2⟩:=q2;rw[if_pos rfl];refine IE hp (sS (hb sI s2 σ1 H2 _ I2 q2) λf s3 q3=>?_);cases f with
  |next=>obtain⟨σ3,H3,I3,n3⟩:=q3;obtain⟨m',hm,w3⟩:=hN σ3 H3 n3;exact⟨m',hm,σ3,H3,I3,w3⟩
  |cont=>obtain⟨σ3,H3,I3,n3⟩:=q3;obtain⟨m',hm,w3⟩:=hN σ3 H3 n3;exact⟨m',hm,σ3,H3,I3,w3⟩
  |brk=>exact q3
  |ret v=>exact q3
 |false=>rw[if_neg Dh];exact Mo ⟨σ1,H2,I2,q2⟩
end
structure It where
 go:Nat->Hp->Prop
 yld:Nat->Hp->V->Hp->Prop
 stop:Nat->Hp->Prop
def Eo(X:Cx)(sI:List (Addr×Obj))(H:Hp)(b:Addr):Prop :=
 H b=J/\b≠X.env.locals/\b∉X.fs/\(b∈X.ex\/X.s₀.heap.objs.size<=b)/\(∀x c,X.env.cells.lookup x=Z c->c≠b)/\∀p∈X.pn++sI,p.1≠b
theorem Inv.fpOk{H':Hp}{b:Addr}(I:Inv X sI Y H s)(hb:s.heap.objs.size<=b)(hn:H' b=J):Eo X sI H' b:=by
 refine⟨hn,II (Bz I.lt hb),I.nofs hb,.inr (Bf I.sz hb),λx c e z=>?_,λp hp z=>?_⟩
 .obtain⟨v,q⟩:=I.cell x c e
  exact absurd (Bz q.lt (by rw[z];exact hb)) (EC _)
 .exact absurd (Bz (Ao (I.pin p hp).1) (by rw[z];exact hb)) (EC _)
structure wI(P:Program)(w:World)(K:Ae)(tg:Expr)(z0:It)(fp:List Addr)(it:Addr)(tn:Nat->Heap->Prop):Prop where
 mem:it∈fp
 obj:∀i h,tn i h->∀b∈fp,∃o,h.get? b=Z o/\∀v,o.data≠.cell v
 keep:∀i h h',tn i h->(∀b∈fp,∀o,h.get? b=Z o->h'.get? b=Z o)->tn i h'
 item:∀(X:Cx),X.prog=P->X.w=w->X.K=K->X.calm=Aa->∀(i:Nat) (sI:List (Addr×Obj)) (s:Shared) (Y:St) (H:Hp) (E:Value->Shared->Prop),Inv X sI Y H s->(∀b∈fp,Eo X sI H b)->tn i s.heap->z0.go i H ->
  wpAny (model P w) X.A (pyNext (.ref it)) (λr s1=>∃u,r=Z u /\
   wpAny (model P w) X.A (Pg tg (.ref it) u) (λ_ s2=>∃x H',Inv X sI Y H' s2/\RelV x u/\z0.yld i H x H'/\tn (i+1) s2.heap/\∀b∈fp,H' b=J) E s1) E s
 done:∀(X:Cx),X.prog=P->X.w=w->X.K=K->X.calm=Aa->∀(i:Nat) (sI:List (Addr×Obj)) (s:Shared) (Y:St) (H:Hp) (E:Value->Shared->Prop),Inv X sI Y H s->(∀b∈fp,Eo X sI H b)->tn i s.heap->z0.stop i H ->
  wpAny (model P w) X.A (pyNext (.ref it)) (λr s1=>r=J/\Inv X sI Y H s1) E s
 self:∀(A:Around) (i:Nat) (s:Shared) (Q:Value->Shared->Prop) (E:Value->Shared->Prop),tn i s.heap->Q (.ref it) s->wpAny (model P w) A (pyIter (.ref it)) Q E s
abbrev TI:=St->Hp->(It->Hp->Prop)->Prop
def PIE(X:Cx)(sI:List (Addr×Obj))(Y:St)(tg:Expr)(R:It->Hp->Prop)(zA:Value)(s2:Shared):Prop :=
 ∃(it:Addr) (fp:List Addr) (tn:Nat->Heap->Prop) (z0:It) (H':Hp),zA=.ref it/\Inv X sI Y H' s2/\wI X.prog X.w X.K tg z0 fp it tn/\tn 0 s2.heap/\(∀b∈fp,Eo X sI H' b)/\R z0 H'
def PI(X:Cx)(tg iter:Expr)(wi:TI):Prop :=
 ∀(sI:List (Addr×Obj)) (s:Shared) (Y:St) (H:Hp) (R:It->Hp->Prop),Inv X sI Y H s->wi Y H R ->
  wpAny (model X.prog X.w) X.A (eval iter X.env) (λv s1=>wpAny (model X.prog X.w) X.A (pyIter v) (PIE X sI Y tg R) X.xe s1) X.xe s
theorem MG{M:Model}{A:Around}{it:Addr}{o:Obj}{n:String}{vs:Array Value}{Q:Unit->Shared->Prop}(ho:s.heap.get? it=Z o)(hc:o.cls=.type n)(hd:o.data=.fields vs)(hn:["enumerate","zip","dict_itemiterator","dict_reverseitemiterator","odict_iterator","itertools.zip_longest","itertools.pairwise"].contains n=Ab)(hQ:Q () s):wpAny M A (Pg tg (.ref it) u) Q E s:=by
  unfold Pg
  cases tg<;>first
    | exact Ag hQ
    | (cases u<;>first
        | exact Ag hQ
        | (refine Ac (wpAny_load ho ?_)
           rw [hc, hd]
           show wpAny M A (if (["enumerate", "zip", "dict_itemiterator", "dict_reverseitemiterator", "odict_iterator", "itertools.zip_longest", "itertools.pairwise"].contains n && vs[0]? == Z (rawInt _)) = Aa then _ else _) Q E s
           rw [if_neg (by intro h; rw [hn, Bool.false_and] at h; cases h)]
           exact Ag hQ))
def Itl(K:Ae)(a:Addr):It :=
 ⟨λi H=>∃xs x,tU K H a xs/\xs[i]?=Z x,λi H x H'=>H'=H/\∀xs,tU K H a xs->xs[i]?=Z x,λi H=>∃xs,tU K H a xs/\xs.length<=i⟩
def Itt(K:Ae)(a:Addr):It :=
 ⟨λi H=>∃xs x,uL K H a xs/\xs[i]?=Z x,λi H x H'=>H'=H/\∀xs,uL K H a xs->xs[i]?=Z x,λi H=>∃xs,uL K H a xs/\xs.length<=i⟩
def zV(lo:Int)(n:Nat):It:=⟨λi _=>i<n,λi H x H'=>H'=H/\x=.int (lo+i),λi _=>n<=i⟩
theorem jA{w:World}(a it:Addr):wI P w K tg (Itl K a) [it] it (λi h=>h.IsListIter it a i) where
 mem:=by simp
 obj:=λi h st b hb=>by
  have e:b=it:=by simpa using hb
  subst e;obtain⟨o,e,c,d⟩:=st;exact⟨o,e,λv z=>by rw[d]at z;cases z⟩
 keep:=λi h h' st k=>st.at λo e=>k it (by simp) o e
 item:=by intro X hP hw hK hc i sI s Y H E I hf st hg;subst hP hw hK;obtain⟨xs,x,hq,hx⟩:=hg;obtain⟨its,rv,p,hz⟩:=I.list hq;obtain⟨u,hu,ru⟩:=rv.get hx;obtain⟨f0,f1,f2,f3,f4,f5⟩:=hf it (by simp);refine wpAny_pyNext_list_item st p.isList (x:=u) (by simpa using hu) λh' st' sb=>?_;have I1:Inv X sI Y H {s with heap:=h'}:=I.turned (t':=s.toks) (λb o hb e=>(sb.2 b hb).trans e) f0 f1 f3 f4 f5;obtain⟨o,e,c,d⟩:=id st';exact⟨u,rfl,MG (s:={s with heap:=h'}) e c d (by decide) ⟨x,H,I1,ru,⟨rfl,λys hy=>by rw[I.list_inj hy hq];exact hx⟩,st',λb hb=>(hf b hb).1⟩⟩
 done:=by intro X hP hw hK hc i sI s Y H E I hf st hg;subst hP hw hK;obtain⟨xs,hq,hx⟩:=hg;obtain⟨its,rv,p,hz⟩:=I.list hq;obtain⟨f0,f1,f2,f3,f4,f5⟩:=hf it (by simp);have hl:=rv.length;exact wpAny_pyNext_list_end (I.ok.hd hc) st p.isList (by simp;omega) λh' eb=>⟨rfl,I.turned (t':=s.toks) (λb o hb e=>eb b o hb e) f0 f1 f3 f4 f5⟩
 self:=λ_ _ _ _ _ st h=>wpAny_pyIter_listiter st h
theorem j7{w:World}(a it:Addr):wI P w K tg (Itt K a) [it] it (λi h=>h.IsTupleIter it a i) where
 mem:=by simp
 obj:=λi h st b hb=>by
  have e:b=it:=by simpa using hb
  subst e;obtain⟨o,e,c,d⟩:=st;exact⟨o,e,λv z=>by rw[d]at z;cases z⟩
 keep:=λi h h' st k=>st.at λo e=>k it (by simp) o e
 item:=by intro X hP hw hK hc i sI s Y H E I hf st hg;subst hP hw hK;obtain⟨xs,x,hq,hx⟩:=hg;obtain⟨its,rv,p,hz⟩:=I.tuple hq;obtain⟨u,hu,ru⟩:=rv.get hx;obtain⟨f0,f1,f2,f3,f4,f5⟩:=hf it (by simp);refine wpAny_pyNext_tuple_item st (show s.heap.IsTuple a its.toArray from p) (x:=u) (by simpa using hu) λh' st' sb=>?_;have I1:Inv X sI Y H {s with heap:=h'}:=I.turned (t':=s.toks) (λb o hb e=>(sb.2 b hb).trans e) f0 f1 f3 f4 f5;obtain⟨o,e,c,d⟩:=id st';exact⟨u,rfl,MG (s:={s with heap:=h'}) e c d (by decide) ⟨x,H,I1,ru,⟨rfl,λys hy=>by rw[I.tuple_inj hy hq];exact hx⟩,st',λb hb=>(hf b hb).1⟩⟩
 done:=by intro X hP hw hK hc i sI s Y H E I hf st hg;subst hP hw hK;obtain⟨xs,hq,hx⟩:=hg;obtain⟨its,rv,p,hz⟩:=I.tuple hq;obtain⟨f0,f1,f2,f3,f4,f5⟩:=hf it (by simp);have hl:=rv.length;exact wpAny_pyNext_tuple_end (I.ok.hd hc) st (show s.heap.IsTuple a its.toArray from p) (by simp;omega) λh' eb=>⟨rfl,I.turned (t':=s.toks) (λb o hb e=>eb b o hb e) f0 f1 f3 f4 f5⟩
 self:=λ_ _ _ _ _ st h=>wpAny_pyIter_tupleiter st h
theorem lD{w:World}(it:Addr)(lo:Int)(n:Nat):wI P w K tg (zV lo n) [it] it (λi h=>IsRangeIter h it (lo+(i:Nat)*1) ((n:Int)-(i:Nat)) 1) where
 mem:=by simp
 obj:=λi h st b hb=>by
  have e:b=it:=by simpa using hb
  subst e;exact⟨_,st,λv z=>by have z':Data.fields _=Data.cell v:=z;cases z'⟩
 keep:=λi h h' st k=>k it (by simp) _ st
 item:=by intro X hP hw hK hc i sI s Y H E I hf st hg;subst hP hw hK;obtain⟨f0,f1,f2,f3,f4,f5⟩:=hf it (by simp);have W:=Walks.range (prog:=X.prog) (w:=X.w) (I.ok.hd hc) it lo 1 n;refine W.item i s _ _ hg st λv h' tk hv st' kk=>?_;obtain⟨t,rfl⟩:=hv;have I1:Inv X sI Y H {s with heap:=h',toks:=tk}:=I.turned (λb o hb e=>kk b o (by simpa using hb) e) f0 f1 f3 f4 f5;refine⟨_,rfl,MG (s:={s with heap:=h',toks:=tk}) (n:="range_iterator") st' rfl rfl (by decide) ⟨.int (lo+i),H,I1,⟨t,?_⟩,⟨rfl,rfl⟩,st',λb hb=>(hf b hb).1⟩⟩;rw[Int.mul_one]
 done:=by intro X hP hw hK hc i sI s Y H E I hf st hg;subst hP hw hK;obtain⟨f0,f1,f2,f3,f4,f5⟩:=hf it (by simp);exact wpAny_pyNext_range_end (I.ok.hd hc) st (by have:n<=i:=hg;omega) λh' eb=>⟨rfl,I.turned (t':=s.toks) (λb o hb e=>eb b o hb e) f0 f1 f3 f4 f5⟩
 self:=λ_ _ _ _ _ st h=>wpAny_pyIter_rangeiter st h
end
section
variable{a:Expr}{h:Heap}{H:Hp}{sI:List (Addr×Obj)}{fp:List Addr}{p pos:Pos}{s:Shared}{Y:St}
section
variable{X:Cx}{tg:Expr}
theorem WK{R:It->Hp->Prop}{E:Value->Shared->Prop}{lo hi:Int}{t u v:Tok}{tk:Nat}(I:Inv X sI Y H s)(h1:-(2 ^ 62)<=lo)(h2:lo<2 ^ 62)(h3:-(2 ^ 62)<=hi)(h4:hi<2 ^ 62)(q:R (zV lo (hi-lo).toNat) H):wpAny (model X.prog X.w) X.A (pyIter (.ref s.heap.objs.size)) (PIE X sI Y tg R) E {s with heap:=s.heap.push {cls:=.type "range",data:=.fields #[.int lo t,.int hi u,.int 1 v]},toks:=tk}:=by
 refine wpAny_pyIter_range (IsRange.new ..) (small_one h1 h2 h3 h4) ?_;have I1:Inv X sI Y H {s with heap:=s.heap.push {cls:=.type "range",data:=.fields #[.int lo t,.int hi u,.int 1 v]},toks:=tk}:=I.kept λb o e=>Ar _ e;refine⟨(s.heap.push {cls:=.type "range",data:=.fields #[.int lo t,.int hi u,.int 1 v]}).objs.size,[(s.heap.push {cls:=.type "range",data:=.fields #[.int lo t,.int hi u,.int 1 v]}).objs.size],_,_,H,rfl,
  I1.kept (t':=tk) λb o e=>Ar _ e,lD _ lo (hi-lo).toNat,?_,λb hb=>?_,q⟩
 .have e1:lo+((0:Nat):Int)*1=lo:=by simp
  have e2:(((hi-lo).toNat:Nat):Int)-((0:Nat):Int)=Mt lo hi 1:=by rw[rangeSize_one];split<;>omega
  show IsRangeIter _ _ (lo+((0:Nat):Int)*1) ((((hi-lo).toNat:Nat):Int)-((0:Nat):Int)) 1;rw[e1,e2];exact AZ _ rfl
 .have e:b=(s.heap.push {cls:=.type "range",data:=.fields #[.int lo t,.int hi u,.int 1 v]}).objs.size:=by simpa using hb
  subst e;exact I1.fpOk (Aj _) (I1.hok.fresh (Aj _))
def Ce(ta:TA):TI:=λY H R=>ta Y H λvs H1=>∃j:Int,vs=[.int j]/\-(2 ^ 62)<=j/\j<2 ^ 62/\R (zV 0 j.toNat) H1
def Nj(ta:TA):TI:=λY H R=>ta Y H λvs H1=>∃i j:Int,vs=[.int i,.int j]/\(-(2 ^ 62)<=i/\i<2 ^ 62/\-(2 ^ 62)<=j/\j<2 ^ 62)/\R (zV i (j-i).toNat) H1
theorem ky{ta:TA}(hg:Gl X "range")(hm:X.mg "range"=J)(ha:PA X [a] ta)(hs:Ad [a] X.env=[(Ab,eval a X.env)]:=by rfl):PI X tg (.Call (.Name "range" p) [a] [] pos) (Ce ta):=by
 intro sI s Y H R I h;refine Call_ (HH I hg hm boot_range (UH (sS (ha pos sI s Y H _ I h) λus s1 ⟨vs,H1,I1,r1,q1⟩=>?_) hs rfl));obtain⟨j,e,q1,q2,q⟩:=q1;subst e;cases r1 with
 |cons r rr=>cases rr;obtain⟨t,rfl⟩:=r;exact call_range_1 (WK I1 (by omega) (by omega) q1 q2 (by simpa using q))
theorem kx{b:Expr}{ta:TA}(hg:Gl X "range")(hm:X.mg "range"=J)(ha:PA X [a,b] ta)(hs:Ad [a,b] X.env=[(Ab,eval a X.env),(Ab,eval b X.env)]:=by rfl)(uo:Ad [b] X.env=[(Ab,eval b X.env)]:=by rfl):PI X tg (.Call (.Name "range" p) [a,b] [] pos) (Nj ta):=by
 intro sI s Y H R I h;refine Call_ (HH I hg hm boot_range (UH (sS (ha pos sI s Y H _ I h) λus s1 ⟨vs,H1,I1,r1,q1⟩=>?_) (by rw[hs,uo]) (by rw[uo];rfl)));obtain⟨i,j,e,⟨q1,q2,q3,q4⟩,q⟩:=q1;subst e;cases r1 with
 |cons r rr =>
  cases rr with
  |cons r' rr=>cases rr;obtain⟨t,rfl⟩:=r;obtain⟨t',rfl⟩:=r';exact call_range_2 (WK I1 q1 q2 q3 q4 q)
def qc(wi:TI)(g:TG)(tb:TS):TS:=λD Y H=>wi Y H λz0 H1=>∃W:Nat->Nat->St->Hp->Prop,(∃m,W 0 m Y H1)/\∀i m Y H,W i m Y H ->
 (z0.stop i H/\D.nx Y H)\/(z0.go i H/\∃N:St->Hp->Prop,(∀σ' H',N σ' H'->∃m',m'<m/\W (i+1) m' σ' H')/\∀x H',z0.yld i H x H'->g x Y H' λσ2 H2=>tb {D with nx:=N,ct:=N,bk:=D.nx} σ2 H2)
def Ks(fp:List Addr)(h:Heap):List (Addr×Obj):=fp.filterMap λb=>(h.get? b).map λo=>(b,o)
theorem NO{b:Addr}{o:Obj}(hb:b∈fp)(e:h.get? b=Z o):(b,o)∈Ks fp h:=Fg.mpr ⟨b,hb,by rw[e];rfl⟩
theorem kn{p:Addr×Obj}(hp:p∈Ks fp h):p.1∈fp/\h.get? p.1=Z p.2:=by
 obtain⟨b,hb,e⟩:=Fg.mp hp;cases q:h.get? b with
 |none=>rw[q]at e;cases e
 |some o=>rw[q]at e;have e':(b,o)=p:=Ct e;subst e';exact⟨hb,q⟩
theorem Inv.pinned(I:Inv X sI Y H s)(hf:∀b∈fp,Eo X sI H b)(ho:∀b∈fp,∃o,s.heap.get? b=Z o/\∀v,o.data≠.cell v):Inv X (sI++Ks fp s.heap) Y H s :=
 I.pins_of λp hp=>(Bg.mp hp).elim (λz=>I.pin p (Ci _ z)) λz=>by obtain⟨hb,e⟩:=kn z;obtain⟨f0,f1,f2,_⟩:=hf p.1 hb;obtain⟨o,e',d⟩:=ho p.1 hb;rw[e]at e';cases e';exact⟨e,f0,f1,f2,d⟩
theorem Inv.unpinned{pl:List (Addr×Obj)}(I:Inv X (sI++pl) Y H s):Inv X sI Y H s:=I.pins_of λp hp=>I.pin p (Ci _ (De _ hp))
theorem Vi{iter:Expr}{body:List Stmt}{wi:TI}{g:TG}{tb:TS}(hp:PassesOwn (model X.prog X.w) X.A X.env X.xe)(hc:X.calm=Aa)(hi:PI X tg iter wi)(hg:PG X tg g)(hb:uA X body tb)(hs:∀x,EA iter X.env x=pure x:=by intro _;rfl):PS X (.For tg iter body [] pos) (qc wi g tb):=by
 intro sI s Y H D I h;refine wpAny_For (sS (hi sI s Y H _ I h) λv s1 h1=>sS h1 λzA s2 h2=>?_) hs;obtain⟨it,fp,tn,z0,H2,e,I2,T,ve,f2,W,⟨m0,w0⟩,xf⟩:=h2;subst e;have vY:∀{H':Hp},(∀b∈fp,H' b=J)->∀b∈fp,Eo X sI H' b:=λhn b hb=>⟨hn b hb,(f2 b hb).2⟩;refine codeAny_forLoop_any (λn s'=>∃i σ' H',Inv X sI σ' H' s'/\tn i s'.heap/\(∀b∈fp,H' b=J)/\W i n σ' H') ?_ m0 ⟨0,Y,H2,I2,ve,λb hb=>(f2 b hb).1,w0⟩
 rintro n s3 ⟨i,σ3,H3,I3,st3,fr3,w3⟩
 rcases xf i n σ3 H3 w3 with⟨stop,qn⟩|⟨go,N,hN,step⟩
 .refine IE hp (sS (T.done X rfl rfl rfl hc i sI s3 σ3 H3 X.xe I3 (vY fr3) st3 stop) λr s4 ⟨hr,I4⟩=>?_)
  subst hr;exact Mo ⟨σ3,H3,I4,qn⟩
 .refine IE hp (sS (T.item X rfl rfl rfl hc i sI s3 σ3 H3 X.xe I3 (vY fr3) st3 go) λr s4 ⟨u,hr,h4⟩=>?_)
  subst hr;refine IE hp (sS h4 λ_ s5 ⟨x,H5,I5,r5,y5,st5,fr5⟩=>?_);have I5':=I5.pinned (vY fr5) (T.obj _ _ st5);refine IE hp (sS (hg _ s5 σ3 H5 x u _ I5' r5 (step x H5 y5)) λ_ s6 ⟨σ6,H6,I6,q6⟩=>?_);refine IE hp (sS (hb _ s6 σ6 H6 _ I6 q6) λf s7 q7=>?_);have again:∀{σ7:St} {H7:Hp},Inv X (sI++Ks fp s5.heap) σ7 H7 s7->N σ7 H7->∃m,m<n/\∃i σ' H',Inv X sI σ' H' s7/\tn i s7.heap/\(∀b∈fp,H' b=J)/\W i m σ' H':=λ{σ7 H7} I7 n7=>by obtain⟨m',hm,w7⟩:=hN σ7 H7 n7;refine⟨m',hm,i+1,σ7,H7,I7.unpinned,T.keep _ _ _ st5 λb hb o e=>(I7.pin (b,o) (Ci _ (Ci _ (NO hb e)))).1,λb hb=>?_,w7⟩;obtain⟨o,e,d⟩:=T.obj _ _ st5 b hb;exact(I7.pin (b,o) (Ci _ (Ci _ (NO hb e)))).2.1
  cases f with
  |next=>obtain⟨σ7,H7,I7,n7⟩:=q7;exact again I7 n7
  |cont=>obtain⟨σ7,H7,I7,n7⟩:=q7;exact again I7 n7
  |brk=>obtain⟨σ7,H7,I7,q7⟩:=q7;exact⟨σ7,H7,I7.unpinned,q7⟩
  |ret v=>obtain⟨x7,σ7,H7,I7,r7,q7⟩:=q7;exact⟨x7,σ7,H7,I7.unpinned,r7,q7⟩
end
end
section
variable{H:Hp}{g:Int->Int->Int}{sI:List (Addr×Obj)}{us:List Value}{s:Shared}{Y:St}{x:V}
abbrev R2:=V->V->Hp->VK->Prop
def uq(X:Cx)(f:Value->Value->Sem Value)(r:R2):Prop :=
 ∀(sI:List (Addr×Obj)) (s:Shared) (Y:St) (H:Hp) (x y:V) (v u:Value) (Q:VK),Inv X sI Y H s->RelV x v->RelV y u->r x y H Q ->
  wpAny (model X.prog X.w) X.A (f v u) (EP X sI Y Q) X.xe s
def A6(X:Cx)(f:Value)(r:List V->Hp->VK->Prop):Prop :=
 ∀(sI:List (Addr×Obj)) (s:Shared) (Y:St) (H:Hp) (xs:List V) (us:List Value) (Q:VK),Inv X sI Y H s->sL xs us->r xs H Q ->
  wpAny (model X.prog X.w) X.A (call f us) (EP X sI Y Q) X.xe s
def zv(r:R2)(ta tb:TE):TE:=λY H Q=>ta Y H λx H1=>tb Y H1 λy H2=>r x y H2 Q
def rI(C:Int->Int->Prop)(g:Int->Int->V):R2:=λx y H Q=>∃i j,x=.int i/\y=.int j/\C i j/\Q (g i j) H
def yi(g:Int->Int->V):R2:=λx y H Q=>∃i j,x=.int i/\y=.int j/\Q (g i j) H
section
variable{X:Cx}{a b c:Expr}{ta tb tc:TE}{pos:Pos}
theorem PM(ha:PE X a ta)(hb:PE X b tb){R:V->V->Hp->Prop}(I:Inv X sI Y H s)(h:ta Y H λx H1=>tb Y H1 λy H2=>R x y H2){Q:Value->Shared->Prop}{f:Value->Value->Sem Value}(hf:∀v u s2 x y H2,Inv X sI Y H2 s2->RelV x v->RelV y u->R x y H2->wpAny (model X.prog X.w) X.A (f v u) Q X.xe s2):wpAny (model X.prog X.w) X.A (eval a X.env) (λv s₁=>wpAny (model X.prog X.w) X.A (eval b X.env) (λu s₂=>wpAny (model X.prog X.w) X.A (f v u) Q X.xe s₂) X.xe s₁) X.xe s:=by
 refine sS (ha sI s Y H _ I h) λv s1 ⟨x,H1,I1,r1,q1⟩=>?_;refine sS (hb sI s1 Y H1 _ I1 q1) λu s2 ⟨y,H2,I2,r2,q2⟩=>?_;exact hf v u s2 x y H2 I2 r1 r2 q2
theorem Kl{op:Operator}{r:R2}(ho:uq X (Ed op) r)(ha:PE X a ta)(hb:PE X b tb):PE X (.BinOp a op b pos) (zv r ta tb):=by intro sI s Y H Q I h;exact wpAny_BinOp (PM ha hb I h λv u s2 x y H2 I2 rx ry q=>ho sI s2 Y H2 x y v u Q I2 rx ry q)
theorem opI{f:Value->Value->Sem Value}{C:Int->Int->Prop}(rule:∀(i j:Int) (t u:Tok) (s:Shared) (Q:Value->Shared->Prop) (E:Value->Shared->Prop),C i j->Q (.int (g i j) s.toks) {s with toks:=s.toks+1}->wpAny (model X.prog X.w) X.A (f (.int i t) (.int j u)) Q E s):uq X f (rI C λi j=>.int (g i j)):=by
 intro sI s Y H x y v u Q I rx ry h;obtain⟨i,j,rfl,rfl,hc,q⟩:=h;obtain⟨t,rfl⟩:=rx;obtain⟨t',rfl⟩:=ry;exact rule i j t t' s _ _ hc ⟨.int (g i j),H,I.tok _,⟨_,rfl⟩,q⟩
theorem UZ{f:Value->Value->Sem Value}(rule:∀(i j:Int) (t u:Tok) (s:Shared) (Q:Value->Shared->Prop) (E:Value->Shared->Prop),Q (.int (g i j) s.toks) {s with toks:=s.toks+1}->wpAny (model X.prog X.w) X.A (f (.int i t) (.int j u)) Q E s):uq X f (yi λi j=>.int (g i j)):=by
 intro sI s Y H x y v u Q I rx ry h;obtain⟨i,j,rfl,rfl,q⟩:=h;obtain⟨t,rfl⟩:=rx;obtain⟨t',rfl⟩:=ry;exact rule i j t t' s _ _ ⟨.int (g i j),H,I.tok _,⟨_,rfl⟩,q⟩
theorem PR{f:Value->Value->Sem Value}{g:Int->Int->Bool}(rule:∀(i j:Int) (t u:Tok) (s:Shared) (Q:Value->Shared->Prop) (E:Value->Shared->Prop),Q (.bool (g i j)) s->wpAny (model X.prog X.w) X.A (f (.int i t) (.int j u)) Q E s):uq X f (yi λi j=>.bl (g i j)):=by
 intro sI s Y H x y v u Q I rx ry h;obtain⟨i,j,rfl,rfl,q⟩:=h;obtain⟨t,rfl⟩:=rx;obtain⟨t',rfl⟩:=ry;exact rule i j t t' s _ _ ⟨.bl (g i j),H,I,rfl,q⟩
def Mw(i j:Int):Prop:=(-(2 ^ 64)<i/\i<2 ^ 64)\/(-(2 ^ 64)<j/\j<2 ^ 64)
theorem Mw.ok{i j:Int}(h:Mw i j):IntMulOk i j:=by
 rcases h with⟨h1,h2⟩|⟨h1,h2⟩
 .exact .of_left (intBits_le_64 h1 h2)
 .exact .of_right (intBits_le_64 h1 h2)
theorem dQ:uq X (Ed .Add) (yi λi j=>.int (i+j)):=UZ λ_ _ _ _ _ _ _ q=>add_int q
theorem d6:uq X (Ed .Sub) (yi λi j=>.int (i-j)):=UZ λ_ _ _ _ _ _ _ q=>sub_int q
theorem fV:uq X (Ed .Mult) (rI Mw λi j=>.int (i*j)):=opI λ_ _ _ _ _ _ _ hc q=>mul_int q hc.ok
theorem fX:uq X (Ed .Mod) (rI (λ_ j=>0<j) λi j=>.int (i%j)):=opI λi j _ _ _ _ _ hc q=>by have h1:(0:Int)<j:=hc;exact mod_int' (by omega) (by rw[Int.fmod_eq_emod_of_nonneg i (by omega)];exact q)
end
section
variable{X:Cx}{a b c:Expr}{ta tb tc:TE}{pos:Pos}
theorem Vh{Q:VK}{k k':Bool}(I:Inv X sI Y H s)(q:Q (.bl k) H)(e:k=k'):EP X sI Y Q (.bool k') s:=by subst e;exact⟨.bl k,H,I,rfl,q⟩
theorem bV:uq X (BQ .Lt) (yi λi j=>.bl (decide (i<j))):=PR λ_ _ _ _ _ _ _ q=>lt_int q
theorem cO:uq X (BQ .LtE) (yi λi j=>.bl (decide (i<=j))):=PR λ_ _ _ _ _ _ _ q=>le_int q
theorem cN:uq X (BQ .Gt) (yi λi j=>.bl (decide (j<i))):=PR λ_ _ _ _ _ _ _ q=>gt_int q
theorem dg:uq X (BQ .Is) (λx y H Q=>y=.non/\Q (.bl (decide (x=.non))) H):=by
 intro sI s Y H x y v u Q I rx ry h;obtain⟨rfl,q⟩:=h;cases ry;refine is_none_gen (Vh I q ?_);cases x<;>first
  |(cases rx;rfl)
  |(obtain⟨t,rfl⟩:=rx;rfl)
theorem eQ:uq X (BQ .IsNot) (λx y H Q=>y=.non/\Q (.bl (!decide (x=.non))) H):=by
 intro sI s Y H x y v u Q I rx ry h;obtain⟨rfl,q⟩:=h;cases ry;refine isnot_none_gen (Vh I q ?_);cases x<;>first
  |(cases rx;rfl)
  |(obtain⟨t,rfl⟩:=rx;rfl)
theorem V6{op:CmpOp}{r:R2}(ho:uq X (BQ op) r)(ha:PE X a ta)(hb:PE X b tb)(hm:DA op b=Ab):PE X (.Compare a [op] [b] pos) (zv r ta tb):=by intro sI s Y H Q I h;exact wpAny_Compare1 (PM ha hb I h λv u s2 x y H2 I2 rx ry q=>ho sI s2 Y H2 x y v u Q I2 rx ry q) hm
def cL(t:TE):TT:=λY H Q=>t Y H λx H'=>∃k,x=.bl k/\Q k H'
theorem QF{op:CmpOp}{r:R2}(ho:uq X (BQ op) r)(ha:PE X a ta)(hb:PE X b tb)(hm:DA op b=Ab):PT X (.Compare a [op] [b] pos) (cL (zv r ta tb)):=by intro sI s Y H Q I h;refine wpAny_isTrue_Compare1 (sS (ha sI s Y H _ I h) λv s1 ⟨x,H1,I1,r1,q1⟩=>sS (hb sI s1 Y H1 _ I1 q1) λu s2 ⟨y,H2,I2,r2,q2⟩=>sS (ho sI s2 Y H2 x y v u _ I2 r1 r2 q2) λc s3 ⟨z,H3,I3,r3,k,e,q3⟩=>?_) hm;subst e;cases r3;exact IS ⟨H3,I3,q3⟩
def df(r r':R2)(ta tb tc:TE):TE:=λY H Q=>ta Y H λx H1=>tb Y H1 λy H2=>r x y H2 λz H3=>∃k,z=.bl k /\
 (if k=Aa then tc Y H3 λw' H4=>r' y w' H4 Q else Q (.bl Ab) H3)
theorem Xf{op op':CmpOp}{r r':R2}(ho:uq X (BQ op) r)(ho':uq X (BQ op') r')(ha:PE X a ta)(hb:PE X b tb)(hc:PE X c tc)(hm:lastMarks [op,op'] [b,c]=Ab:=by with_unfolding_all rfl):PE X (.Compare a [op,op'] [b,c] pos) (df r r' ta tb tc):=by
 intro sI s Y H Q I h;refine Compare_chain (sS (ha sI s Y H _ I h) λv s1 ⟨x,H1,I1,r1,q1⟩=>chain_link (sS (hb sI s1 Y H1 _ I1 q1) λu s2 ⟨y,H2,I2,r2,q2⟩=>sS (ho sI s2 Y H2 x y v u _ I2 r1 r2 q2) λd s3 ⟨z,H3,I3,r3,k,e,q3⟩=>?_)) hm;subst e;cases r3;refine IS ?_;cases k with
 |false=>exact ite_ff ⟨.bl Ab,H3,I3,rfl,q3⟩
 |true=>exact ite_tt (chain_last (sS (hc sI s3 Y H3 _ I3 q3) λw' s4 ⟨z',H4,I4,r4,q4⟩=>ho' sI s4 Y H4 y z' u w' Q I4 r2 r4 q4))
theorem Kr:(sizeLine:Nat)<2 ^ 63:=by rw[Bo];decide
theorem vals1(r:sL [x] us):∃u,us=[u]/\RelV x u:=by
 cases r with
 |cons r1 r2=>cases r2;exact⟨_,rfl,r1⟩
theorem vals2{y:V}(r:sL [x,y] us):∃u w',us=[u,w']/\RelV x u/\RelV y w':=by
 cases r with
 |cons r1 r2 =>
  cases r2 with
  |cons r3 r4=>cases r4;exact⟨_,_,rfl,r1,r3⟩
theorem jY(hc:X.calm=Aa):A6 X (.builtin "max") (λxs H Q=>∃i j,xs=[.int i,.int j]/\Q (.int (if j > i then j else i)) H):=by
 intro sI s Y H xs us Q I r h;obtain⟨i,j,rfl,q⟩:=h;obtain⟨u,w',rfl,⟨t,rfl⟩,⟨t',rfl⟩⟩:=vals2 r;refine max_two_ints (I.ok.hd hc) λh' tk k=>⟨_,H,I.kept k,?_,q⟩
 by_cases hj:j > i
 .rw[if_pos hj,if_pos hj];exact⟨_,rfl⟩
 .rw[if_neg hj,if_neg hj];exact⟨_,rfl⟩
theorem kf(hc:X.calm=Aa):A6 X (.builtin "min") (λxs H Q=>∃i j,xs=[.int i,.int j]/\Q (.int (if j<i then j else i)) H):=by
 intro sI s Y H xs us Q I r h;obtain⟨i,j,rfl,q⟩:=h;obtain⟨u,w',rfl,⟨t,rfl⟩,⟨t',rfl⟩⟩:=vals2 r;refine min_two_ints (I.ok.hd hc) λh' tk k=>⟨_,H,I.kept k,?_,q⟩
 by_cases hj:j<i
 .rw[if_pos hj,if_pos hj];exact⟨_,rfl⟩
 .rw[if_neg hj,if_neg hj];exact⟨_,rfl⟩
theorem X0:A6 X (.type "int") (λxs H Q=>(∃i,xs=[.int i]/\Q (.int i) H)\/∃k,xs=[.bl k]/\Q (.int (if k then 1 else 0)) H):=by
 intro sI s Y H xs us Q I r h;rcases h with⟨i,rfl,q⟩|⟨k,rfl,q⟩
 .obtain⟨u,rfl,t,rfl⟩:=vals1 r
  exact call_int_int ⟨.int i,H,I,⟨_,rfl⟩,q⟩
 .obtain⟨u,rfl,r1⟩:=vals1 r
  cases r1;exact call_int_bool ⟨.int (if k then 1 else 0),H,I.tok _,⟨_,rfl⟩,q⟩
end
end
theorem D1.some_of{v:V}{o:Option Value}(r:D1 (Z v) o):∃u,o=Z u/\RelV v u:=by
 cases o with
 |none=>exact(show False from r).elim
 |some u=>exact⟨u,rfl,r⟩
section
variable{f:Addr}{A:Around}{base:Heap}{H:Hp}{ps:List Str}{vs:List V}{us:List Value}{P:Program}{K:Ae}{scope:Scope}{s:Shared}{qual:Str}{mg:Str->Option Value}
structure ZP(k:Nat)(A:Around):Prop where
 hd:A.handled=J
 dp:A.depth+3*k+5<recursionLimit
 un:A.units+16*k+200<cLine
theorem ZP.mono{j k:Nat}{A:Around}(r:ZP k A)(h:j<=k):ZP j A:=⟨r.hd,by have:=r.dp;omega,by have:=r.un;omega⟩
theorem ZP.deeper{k:Nat}{A:Around}(r:ZP (k+1) A)(env:Env):ZP k (A.deeper env) :=
 ⟨r.hd,by have:=r.dp;show A.depth+1+3*k+5<_;omega,by have:=r.un;show A.units+3+16*k+200<_;omega⟩
theorem ZP.in1{k:Nat}{A:Around}(r:ZP (k+1) A):ZP k A.in1 :=
 ⟨r.hd,by have:=r.dp;show A.depth+3*k+5<_;omega,by have:=r.un;show A.units+1+16*k+200<_;omega⟩
theorem ZP.depth{k:Nat}{A:Around}(r:ZP k A):A.depth<recursionLimit:=by have:=r.dp;omega
theorem ZP.units{k:Nat}{A:Around}(r:ZP k A):A.units+64<cLine:=by have:=r.un;omega
theorem ZP.units0{k:Nat}(r:ZP k A):A.units<cLine:=by have:=r.un;omega
def pO:TA:=λ_ H Q=>Q [] H
def bR(ta:TE)(tr:TA):TA:=λY H Q=>ta Y H λx H1=>tr Y H1 λxs H2=>Q (x::xs) H2
section
variable{X:Cx}{e:Expr}{es:List Expr}{te:TE}{t:TA}{pos:Pos}
theorem BV:PA X [] pO:=λ_ _ _ _ H Q I h=>T3 ⟨[],H,I,.nil,h⟩
theorem Z3(ha:PE X e te)(hr:PA X es t)(hs:Ad (e::es) X.env=(Ab,eval e X.env)::Ad es X.env:=by rfl):PA X (e::es) (bR te t):=by intro pos sI s Y H Q I h;rw[hs];show wpAny _ _ (spliced ((Ab,eval e X.env)::backTo pos (Ad es X.env))) _ _ s;refine Ml (sS (ha sI s Y H _ I h) λu s1 ⟨x,H1,I1,r1,q1⟩=>?_);exact sS (hr pos sI s1 Y H1 _ I1 q1) λus s2 ⟨xs,H2,I2,r2,q2⟩=>⟨x::xs,H2,I2,.cons r1 r2,q2⟩
def qd(t:TA):TE:=λY H Q=>t Y H λxs H1=>xs.length<=sizeLine/\∀p,H1 p=J->Q (.ref p) (upd H1 p (.tup xs))
def pN(t:TA):TE:=λY H Q=>t Y H λxs H1=>xs.length<=sizeLine/\∀p,H1 p=J->Q (.ref p) (upd H1 p (.lst xs))
theorem dO{x1}(h:PA X es t):PE X (.Tuple es x1 pos) (qd t):=by intro sI s Y H Q I hq;refine wpAny_Tuple_spliced (sS (h pos sI s Y H _ I hq) λus s1 ⟨xs,H1,I1,r,z,q⟩=>⟨by rw[<-r.length];exact z,?_⟩);have hf:H1 s1.heap.objs.size=J:=I1.hok.fresh (Aj _);refine⟨.ref s1.heap.objs.size,upd H1 s1.heap.objs.size (.tup xs),I1.laid (t':=s1.toks) (λb u e=>Ar _ e) (Aj _) ?_,rfl,q _ hf⟩;exact⟨z,us,r,⟨_,AZ _ rfl,rfl,_,rfl⟩⟩
theorem VB(h:PA X es t):PE X (.List es pos) (pN t):=by intro sI s Y H Q I hq;refine wpAny_List_spliced (sS (h pos sI s Y H _ I hq) λus s1 ⟨xs,H1,I1,r,z,q⟩=>⟨by rw[<-r.length];exact z,?_⟩);have hf:H1 s1.heap.objs.size=J:=I1.hok.fresh (Aj _);refine⟨.ref s1.heap.objs.size,upd H1 s1.heap.objs.size (.lst xs),I1.laid (t':=s1.toks) (λb u e=>Ar _ e) (Aj _) ?_,rfl,q _ hf⟩;exact⟨z,us,0,r,AZ _ rfl⟩
end
abbrev Sp:=List V->Hp->VK->XK->Prop
abbrev xH:=List Env->Hp->Shared->XK->Value->Shared->Prop
structure CA(P:Program)(w:World)(K:Ae)(mg:Str->Option Value)(base:Heap)(A:Around)(outer:List Env)(s:Shared)(H:Hp):Prop where
 frames:A.frames=Z outer
 mod:Mod K mg base
 bs:∀b o,base.get? b=Z o->s.heap.get? b=Z o/\H b=J
 bsz:base.objs.size<=s.heap.objs.size
 funs:s.heap.FunFrames base outer
 frf:∀b∈t4 outer,H b=J
 hok:tK P w H s.heap
 bare:AllBare s.gens
def CE(outer:List Env)(P:Program)(w:World)(H:Hp)(s:Shared)(Q:VK)(u:Value)(s':Shared):Prop :=
 ∃v H',s'.os=s.os/\AllBare s'.gens/\Un (t4 outer) [] H H' s.heap s'.heap/\tK P w H' s'.heap/\RelV v u/\Q v H'
def CR(CX:xH)(outer:List Env)(P:Program)(w:World)(H:Hp)(s:Shared)(Q:VK)(E:XK)(r:Result)(s':Shared):Prop :=
 match r with
 | .ok (.ret u)=>CE outer P w H s Q u s'
 | .ok _=>False
 | .error e=>CX outer H s E e s'
structure Cc(P:Program)(w:World)(K:Ae)(mg:Str->Option Value)(base:Heap)(CX:xH)(k:Nat)(f:Addr)(fd:FuncData)(ps:List Str)(sp:Sp):Prop where
 len:∀vs H Q E,sp vs H Q E->vs.length=ps.length
 run:∀(A:Around) (outer:List Env) (s:Shared) (H:Hp) (args:Args) (us:List Value) (vs:List V) (Q:VK) (E:XK),ZP k A->CA P w K mg base A outer s H->BindsTo s fd args (ps.zip us)->sL vs us->sp vs H Q E ->
  codeAny (model P w) A (.call (.ref f) args) (CR CX outer P w H s Q E) s
theorem Cc.mono{P:Program}{w:World}{K:Ae}{mg:Str->Option Value}{base:Heap}{CX:xH}{j k:Nat}{f:Addr}{fd:FuncData}{ps:List Str}{sp:Sp}(F:Cc P w K mg base CX j f fd ps sp)(h:j<=k):Cc P w K mg base CX k f fd ps sp:=⟨F.len,λA outer s H args us vs Q E hr=>F.run A outer s H args us vs Q E (hr.mono h)⟩
theorem CA.in1{P:Program}{w:World}{K:Ae}{mg:Str->Option Value}{base:Heap}{A:Around}{outer:List Env}{s:Shared}{H:Hp}(e:CA P w K mg base A outer s H):CA P w K mg base A.in1 outer s H:=⟨e.frames,e.mod,e.bs,e.bsz,e.funs,e.frf,e.hok,e.bare⟩
section
variable{X:Cx}{sI:List (Addr×Obj)}{Y:St}{H:Hp}{s s':Shared}
theorem Inv.env0(I:Inv X sI Y H s):CA X.prog X.w X.K X.mg X.base X.A X.stack s H :=
 ⟨I.ok.frames,I.ok.mod,I.bs,Bf I.ok.bsz I.sz,I.stack,I.stkFree,I.hok,I.bare⟩
theorem Inv.after{Q:VK}{u:Value}(I:Inv X sI Y H s)(h:CE X.stack X.prog X.w H s Q u s'):EP X sI Y Q u s':=by obtain⟨v,H',os,bare,un,hok,r,q⟩:=h;obtain⟨hh,g,d,t,os'⟩:=s';obtain rfl:os'=s.os:=os;exact⟨v,H',I.call (h':=hh) (g':=g) (d':=d) (t':=t) (ch:=[]) un hok bare (λb z=>absurd z (by simp)),r,q⟩
end
noncomputable def cS (sp:Sp) (yv:List V) (E:XK) (t:TA):TE:=λY H Q=>t Y H λvs H1=>sp (vs++yv) H1 Q E
def Binds(K:Ae)(fd:FuncData)(ps:List Str)(ds:List Value):Prop :=
 ∀(s:Shared) (us:List Value),K.In s.heap->(us++ds).length=ps.length->BindsTo s fd ⟨us,[]⟩ (ps.zip (us++ds))
theorem Binds.all{fd:FuncData}(h:∀us:List Value,us.length=ps.length->Iw fd ⟨us,[]⟩=pure (ps.zip us)):Binds K fd ps []:=λs us _ hl=>by rw[B6]at hl ⊢;exact .of_eq (h us hl)
def ub(CX:xH)(X:Cx)(E:XK):Prop:=∀(sI:List (Addr×Obj)) (Y:St) (H:Hp) (s:Shared) (e:Value) (s':Shared),Inv X sI Y H s->CX X.stack H s E e s'->X.xe e s'
section
variable{X:Cx}{CX:xH}{k:Nat}{f C:Addr}{fd:FuncData}{ps:List Str}{sp:Sp}{yv:List V}{ds:List Value}{E:XK}{x m:Str}{p pos uu:Pos}{e o:Expr}{es:List Expr}{ta:TE}{t:TA}
theorem bZ{sI:List (Addr×Obj)}{Y:St}{Q:VK}(F:Cc X.prog X.w X.K X.mg X.base CX k f fd ps sp)(hr:ZP k X.A)(hb:Binds X.K fd ps ds)(hd:sL yv ds)(hx:ub CX X E)(I:Inv X sI Y H s)(r:sL vs us)(h:sp (vs++yv) H Q E):wpAny (model X.prog X.w) X.A (call (.ref f) us) (EP X sI Y Q) X.xe s:=by
 have r2:sL (vs++yv) (us++ds):=r.append hd;have hl:(us++ds).length=ps.length:=by rw[<-r2.length];exact F.len _ _ _ _ h
 refine LV (Fm (F.run X.A X.stack s H ⟨us,[]⟩ (us++ds) (vs++yv) Q E hr I.env0 (hb s us I.kIn hl) r2 h) λr s' hq=>?_);cases r with
 |error e=>exact hx sI Y H s e s' I hq
 |ok fl =>
  cases fl with
  |ret u=>exact I.after hq
  |next=>exact Bv hq
  |brk=>exact Bv hq
  |cont=>exact Bv hq
theorem KJ(F:Cc X.prog X.w X.K X.mg X.base CX k f fd ps sp)(hr:ZP k X.A)(hg:Gl X x)(hm:X.mg x=Z (.ref f))(hk:Ef X.K (.ref f)=Aa)(hb:Binds X.K fd ps ds)(hd:sL yv ds)(hx:ub CX X E)(ha:PA X (e::es) t)(uh:(x==("__debug__":Str))=Ab:=by decide)(he:Ad (e::es) X.env=(Ab,eval e X.env)::Ad es X.env:=by rfl)(hpl:(backTo pos (Ad es X.env)).any (·.1)=Ab:=by rfl):PE X (.Call (.Name x p) (e::es) [] pos) (cS sp yv E t):=by
 intro sI s Y H Q I h;refine IL (KQ I hg hm ?_ uh);refine aO (h₀:=X.base) I.ok.mod.kin hk (sS (ha pos sI s Y H _ I h) λus s1 ⟨vs,H1,I1,r,q⟩=>⟨I1.kIn,?_⟩) he hpl;exact bZ F hr hb hd hx I1 r q
end
structure Zs(N P:List Str)(sc:Scope):Prop where
 kind:sc.kind=.function
 co:sc.isCoroutine=Ab
 gen:sc.isGenerator=Ab
 nd:N.Nodup
 pre:N.take P.length=P
 par:∀x∈P,sc.names.lookup x=Z .local\/sc.names.lookup x=Z .cell
 nofree:∀y∈sc.names,y.2≠.free
theorem Yb{kindOf:Str->Option NameKind}{x:Str}:∀{binds:List (Str×Value)} {m:Str->Option Value},(∀v,(x,v)∉binds)->bindL kindOf binds m x=m x
 |[],_,_=>rfl
 |(n,v)::r,m,h=>by
  unfold bindL;rw[Yb λw hw=>h w (Ap _ hw)];split
  .have:x≠n:=by rintro rfl;exact h v Am
   simp[this]
  .rfl
theorem XJ{kindOf:Str->Option NameKind}{x:Str}:∀{binds:List (Str×Value)} {m:Str->Option Value},(∀v,(x,v)∉binds)->bindC kindOf binds m x=m x
 |[],_,_=>rfl
 |(n,v)::r,m,h=>by
  unfold bindC;rw[XJ λw hw=>h w (Ap _ hw)];split
  .rfl
  .have:x≠n:=by rintro rfl;exact h v Am
   simp[this]
theorem XQ{kindOf:Str->Option NameKind}{x:Str}{v:Value}:∀{P:List Str} {vs:List Value} {i:Nat} {m:Str->Option Value},P.Nodup->P[i]?=Z x->vs[i]?=Z v->kindOf x=Z .local ->bindL kindOf (P.zip vs) m x=Z v
 |[],_,_,_,_,h,_,_=>by simp at h
 |_::_,[],_,_,_,_,h,_=>by simp at h
 |p::P,w::vs,0,m,nd,h1,h2,hk=>by simp at h1 h2;subst h1;subst h2;show bindL kindOf ((p,w)::P.zip vs) m p=_;unfold bindL;rw[Yb λv hv=>(Dg.mp nd).1 (Ub hv).1,if_pos hk];simp
 |p::P,w::vs,i+1,m,nd,h1,h2,hk=>by show bindL kindOf ((p,w)::P.zip vs) m x=_;unfold bindL;exact XQ (i:=i) (Dg.mp nd).2 (by simpa using h1) (by simpa using h2) hk
theorem XM{kindOf:Str->Option NameKind}{x:Str}{v:Value}:∀{P:List Str} {vs:List Value} {i:Nat} {m:Str->Option Value},P.Nodup->P[i]?=Z x->vs[i]?=Z v->kindOf x≠Z .local ->bindC kindOf (P.zip vs) m x=Z v
 |[],_,_,_,_,h,_,_=>by simp at h
 |_::_,[],_,_,_,_,h,_=>by simp at h
 |p::P,w::vs,0,m,nd,h1,h2,hk=>by simp at h1 h2;subst h1;subst h2;show bindC kindOf ((p,w)::P.zip vs) m p=_;unfold bindC;rw[XJ λv hv=>(Dg.mp nd).1 (Ub hv).1,if_neg hk];simp
 |p::P,w::vs,i+1,m,nd,h1,h2,hk=>by show bindC kindOf ((p,w)::P.zip vs) m x=_;unfold bindC;exact XM (i:=i) (Dg.mp nd).2 (by simpa using h1) (by simpa using h2) hk
def start(N:List Str)(vs:List V):St:=vs.map Z++Bl (N.length-vs.length) J
def CO(CX:xH)(P:Program)(w:World)(K:Ae)(mg:Str->Option Value)(base:Heap)(N:List Str)(qual:Str)(scope:Scope)(f:Addr)(cd:Value)(A:Around)(outer:List Env)(s:Shared)(H:Hp)(E:XK):Cx where
 prog:=P
 w:=w
 K:=K
 mg:=mg
 base:=base
 A:=A.deeper (envOfC qual scope s.heap.objs.size f cd)
 N:=N
 s₀:=s
 H₀:=H
 env:=envOfC qual scope s.heap.objs.size f cd
 outer:=outer
 stack:=envOfC qual scope s.heap.objs.size f cd::outer
 ex:=[]
 calm:=Aa
 fn:=λ_=>Aa
 pn:=[]
 xe:=λe s'=>wpAny (model P w) (A.deeper (envOfC qual scope s.heap.objs.size f cd)) (leaving (envOfC qual scope s.heap.objs.size f cd) e) (λ_ s''=>CX outer H s E e s'') (λe' s''=>CX outer H s E e' s'') s'
theorem WL{sc:Scope}{n:Nat}{x:Str}(h:sc.names.lookup x=Z .cell):∃c,(cellsFrom n sc.names []).lookup x=Z c:=by have q:=bM sc.names n [] (.inl h);exact EH.mp q
theorem kE{CX:xH}{w:World}{N:List Str}{cd:Value}{outer:List Env}{s1:Shared}{E:XK}(S:Zs N ps scope)(hd:A.handled=J)(e0:CA P w K mg base A outer s H)(hl:vs.length=ps.length)(r:sL vs us)(x:InCallC s s.heap.objs.size (bindL (envOfC qual scope s.heap.objs.size f cd).kindOf (ps.zip us) λ_=>J) (cellsFrom (s.heap.objs.size+1) scope.names []) (bindC (envOfC qual scope s.heap.objs.size f cd).kindOf (ps.zip us) λ_=>J) s1):Inv (CO CX P w K mg base N qual scope f cd A outer s H E) [] (start N vs) H s1:=by
 have hpl:ps.length<=N.length:=by have:=congrArg BC S.pre;rw[Fd]at this;omega
 obtain⟨h1,tk,rfl,hk⟩:=x.done;have xK:∀b:Addr,b∉(CO CX P w K mg base N qual scope f cd A outer s H E).ex:=λb z=>absurd (show b∈([]:List Addr) from z) (by simp);refine⟨⟨e0.mod,S.kind,rfl,rfl,Aj _,λy z c h1 h2=>?_,λy hy=>?_,λy c _ h=>?_,λ_=>hd,aX e0.frames,.inr ⟨rfl,rfl⟩,λb z=>absurd z (xK b),e0.bs,e0.bsz,λb _ _=>xK b,λb z=>absurd z (xK b),e0.funs,e0.frf⟩,
  rfl,e0.bare,Un.kept hk,⟨_,x.toInCall.ns,λi y v h1 h2 h3=>?_⟩,λy c h=>⟨_,x.cell y c h⟩,e0.hok.fresh (Aj _),λy c h=>?_,λp hp=>absurd (show p∈([]:List (Addr×Obj)) from hp) (by simp),e0.hok.kept hk,?_⟩
 .exact name_of_addr x.apart (Hk h1) (Hk h2)
 .have hy:scope.names.lookup y=Z .cell\/scope.names.lookup y=Z .free:=hy
  rcases hy with hy|hy
  .exact WL hy
  .exact absurd rfl (S.nofree _ (Hk hy))
 .exact DQ (x.above y c (Hk h))
 .have hi:i<vs.length:=by
   unfold start at h2
   by_cases hi:i<vs.length
   .exact hi
   .rw[EI (by simpa using hi)]at h2
    rw[Ms]at h2;split at h2<;>cases h2
  have ha:vs[i]?=Z v:=by
   unfold start at h2;rw[DD (by simpa using hi),A1]at h2;cases e:vs[i]? with
   |none=>rw[e]at h2;cases h2
   |some a=>rw[e]at h2;cases h2;rfl
  obtain⟨u,hu,rv⟩:=r.get ha;have hp:ps[i]?=Z y:=by rw[<-S.pre,bG (by omega)];exact h1
  have ndP:ps.Nodup:=by rw[<-S.pre];exact S.nd.sublist (List.take_sublist _ _)
  refine⟨u,rv,?_⟩;rcases S.par y (Bm hp)with k|k
  .exact .inl ⟨k,XQ ndP hp hu k⟩
  .obtain⟨c,e⟩:=WL (n:=s.heap.objs.size+1) k
   refine .inr ⟨.inl k,c,e,?_⟩;have q:=x.cell y c e;rw[XM ndP hp hu (by show scope.names.lookup y≠_;rw[k];decide)]at q;exact q
 .exact e0.hok.fresh (DQ (x.above y c (Hk h)))
 .unfold start
  show _=N.length;rw[AK,Af,El];omega
theorem PY{CX:xH}{w:World}{k:Nat}{name:Str}{params:Arguments}{body:List Stmt}{dV kV ui pm sO ct oc:Value}{an od:Option Addr}{vo:Array (Option Value)}{N ps:List Str}{sp:Sp}(lk:K.lookup f=Z ⟨oc,od,.func (Dz name qual params body scope dV kV ui pm an sO ct),vo⟩)(tF:Ho K sO qual=Aa)(S:Zs N ps scope)(len:∀vs H Q E,sp vs H Q E->vs.length=ps.length)
  (uI:∀(A:Around) (outer:List Env) (s:Shared) (H:Hp) (vs:List V) (Q:VK) (E:XK),ZP k (A.deeper (envOfC qual scope s.heap.objs.size f sO))->sp vs H Q E ->
   ∃t,uA (CO CX P w K mg base N qual scope f sO A outer s H E) body t/\t {nx:=λ_ H'=>Q .non H',rt:=Q} (start N vs) H):
  Cc P w K mg base CX (k+1) f (Dz name qual params body scope dV kV ui pm an sO ct) ps sp:=by
 refine⟨len,λA outer s H args us vs Q E hr e0 hb r yk=>?_⟩;have hl:=len _ _ _ _ yk;have KX:K.In s.heap:=e0.mod.kin.keeps λb o e=>(e0.bs b o e).1;have lim:s.heap.NoLimit:=e0.mod.nolimit.keeps λb o e=>(e0.bs b o e).1;have wm:∀y∈ps.zip us,scope.names.lookup y.1=Z .local\/(scope.names.lookup y.1=Z .cell/\((cellsFrom (s.heap.objs.size+1) scope.names []).lookup y.1).isSome=Aa):=λ⟨n,v⟩ hy=>by
  rcases S.par n (Ub hy).1 with q|q
  .exact .inl q
  .exact .inr ⟨q,bM _ _ _ (.inl q)⟩
 refine codeAny_call_function hr.depth (KX _ _ lk) rfl S.co S.gen rfl (PySem.W.codeRec_of KX tF) (hb _ _ _ _ ?_);refine wpAny_newFunctionEnv_cells S.kind wm λenv he s1 x=>?_;subst he;refine⟨lim.keeps x.toInCall.keep,codeAny_func ?_⟩;obtain⟨t,ht,hq⟩:=uI A outer s H vs Q E (hr.deeper _) yk;have I:Inv (CO CX P w K mg base N qual scope f sO A outer s H E) [] (start N vs) H s1:=kE S hr.hd e0 hl r x;refine Bw (ht [] s1 (start N vs) H _ I hq) (λfl s' hs=>?_) λe s' hs=>hs;have tL:∀{σ':St} {H':Hp} {v:V} {u:Value},Inv (CO CX P w K mg base N qual scope f sO A outer s H E) [] σ' H' s'->RelV v u->Q v H'->CE outer P w H s Q u s' :=
  λ{σ' H' v u} z0 rv q=>⟨v,H',z0.os,z0.bare,z0.base,z0.hok,rv,q⟩
 cases fl with
 |ret u=>obtain⟨v,σ',H',z0,rv,q⟩:=hs;exact tL z0 rv q
 |next=>obtain⟨σ',H',z0,q⟩:=hs;exact tL (v:=V.non) (u:=AM) z0 rfl q
 |brk=>obtain⟨_,_,_,q⟩:=hs;exact Bv q
 |cont=>obtain⟨_,_,_,q⟩:=hs;exact Bv q
end
section
variable{X:Cx}{x:Str}{p pos:Pos}{e:Expr}{es:List Expr}{t:TA}{id T:String}{r:List V->Hp->VK->Prop}
def tCB(r:List V->Hp->VK->Prop)(t:TA):TE:=λY H Q=>t Y H λvs H1=>r vs H1 Q
theorem Er(hc:A6 X (.builtin id) r)(hg:Gl X x)(hm:X.mg x=J)(hv:B5 x=Z (.builtin id))(ha:PA X (e::es) t)(hn:x ≠ "__name__":=by decide)(uh:(x==("__debug__":Str))=Ab:=by decide)(he:Ad (e::es) X.env=(Ab,eval e X.env)::Ad es X.env:=by rfl)(hpl:(backTo pos (Ad es X.env)).any (·.1)=Ab:=by rfl):PE X (.Call (.Name x p) (e::es) [] pos) (tCB r t):=by
 intro sI s Y H Q I h;refine IL (HH I hg hm hv ?_ hn uh);exact PyProof.Rows.callWith_builtin1 (sS (ha pos sI s Y H _ I h) λus s1 ⟨vs,H1,I1,r1,q1⟩=>hc sI s1 Y H1 vs us Q I1 r1 q1) he hpl
theorem FF(hc:A6 X (.type T) r)(hg:Gl X x)(hm:X.mg x=J)(hv:B5 x=Z (.type T))(ha:PA X (e::es) t)(hn:x ≠ "__name__":=by decide)(uh:(x==("__debug__":Str))=Ab:=by decide)(he:Ad (e::es) X.env=(Ab,eval e X.env)::Ad es X.env:=by rfl)(hpl:(backTo pos (Ad es X.env)).any (·.1)=Ab:=by rfl):PE X (.Call (.Name x p) (e::es) [] pos) (tCB r t):=by
 intro sI s Y H Q I h;refine IL (HH I hg hm hv ?_ hn uh);exact UH (sS (ha pos sI s Y H _ I h) λus s1 ⟨vs,H1,I1,r1,q1⟩=>hc sI s1 Y H1 vs us Q I1 r1 q1) he hpl
end
end L2
namespace HT
set_option maxHeartbeats 8000000
open PySem PyProof.Rows
section
open PySem.SeqAt
open PySem.MeetsSeq PySem.MeetsSeq2 PySem.MeetsSeq3
end
section
variable{prog:Program}{w:World}{A:Around}{E:Value->Shared->Prop}{s:Shared}
theorem qF{t b:Addr}{vs ws:List Value}{Q:Value->Shared->Prop}(ht:IsTup s.heap t vs.toArray)(hb:IsTup s.heap b ws.toArray)(hv:vs≠[])(h1:ws=[]->Q (.ref t) s)(h2:ws≠[]->Q (.ref s.heap.objs.size) {s with heap:=s.heap.push {cls:=.type "tuple",data:=.seq (vs++ws).toArray}})(hsz:vs.length+ws.length<=sizeLine):wpAny (model prog w) A (Ed .Add (.ref t) (.ref b)) Q E s:=by
 obtain⟨⟨cls,dd,data,sl⟩,ho,hc,n,hd⟩:=id ht;obtain⟨⟨cls2,dd2,data2,sl2⟩,yG,xE,n2,yH⟩:=id hb;simp only at hc hd xE yH;subst hc hd xE yH;have e:vs.toArray++ws.toArray=(vs++ws).toArray:=by simp
 by_cases hw:ws=[]
 .exact OY ⟨_,ho,rfl⟩ ⟨_,yG,rfl⟩ Uh seq_tuple_add Um Uq (UJ _ _)
   (tuple_addW1 t b vs.toArray ws.toArray n n2 dd dd2 sl sl2 (by simpa using hv) (by simp[hw])) ⟨ho,yG,h1 hw⟩
 .refine OY ⟨_,ho,rfl⟩ ⟨_,yG,rfl⟩ Uh seq_tuple_add Um Uq (UJ _ _)
   (tuple_addW2 t b vs.toArray ws.toArray n n2 dd dd2 sl sl2 (by simpa using hv) (by simpa using hw) (by rw[Ax,Ax];exact hsz)) ⟨ho,yG,?_⟩
  rw[e];exact h2 hw
def zw(n d:Nat):Option Int->Nat
 |none=>d
 |some v=>if v<0 then(v+(n:Int)).toNat else min v.toNat n
end
end HT
namespace L2
open PySem PySem.Spec PyProof.Rows
abbrev TO:=St->Hp->(Option Int->Hp->Prop)->Prop
def PO(X:Cx)(e:Option Expr)(t:TO):Prop :=
 ∀(sI:List (Addr×Obj)) (s:Shared) (Y:St) (H:Hp) (Q:Option Int->Hp->Prop),Inv X sI Y H s->t Y H Q ->
  wpAny (model X.prog X.w) X.A (evalPart e X.env) (λu s'=>∃o H',Inv X sI Y H' s'/\IsPart u o/\Q o H') X.xe s
def gF:TO:=λ_ H Q=>Q J H
def cG(t:TE):TO:=λY H Q=>t Y H λx H1=>∃i,x=.int i/\Q (Z i) H1
section
variable{X:Cx}{e:Expr}{te:TE}{lo hi:Option Expr}{tl th:TO}{pos p2:Pos}
theorem fP:PO X J gF:=by intro sI s Y H Q I h;rw[evalPart_none];exact Ag ⟨J,H,I,.none,h⟩
theorem fK(h:PE X e te):PO X (Z e) (cG te):=by intro sI s Y H Q I hw;rw[evalPart_some];refine sS (h sI s Y H _ I hw) λu s1 ⟨x,H1,I1,r1,q1⟩=>?_;obtain⟨i,rfl,q⟩:=q1;obtain⟨t,rfl⟩:=r1;exact⟨Z i,H1,I1,.int i t,q⟩
def SlR(X:Cx)(r:V->Option Int->Option Int->Hp->VK->Prop):Prop :=
 ∀(sI:List (Addr×Obj)) (s:Shared) (Y:St) (H:Hp) (x:V) (v vl vu:Value) (lo hi:Option Int) (sl:Addr) (Q:VK),Inv X sI Y H s->RelV x v->s.heap.IsSliceOf sl vl vu .none->IsPart vl lo->IsPart vu hi->r x lo hi H Q ->
  ∃T id,typeLookup (.type T) "__getitem__"=pure (Z (.builtin id))/\s.TypeIs v T/\wpAny (model X.prog X.w) X.A (getItem v (.ref sl)) (EP X sI Y Q) X.xe s
def tSl(r:V->Option Int->Option Int->Hp->VK->Prop)(te:TE)(tl th:TO):TE:=λY H Q=>te Y H λx H1=>tl Y H1 λl H2=>th Y H2 λu H3=>r x l u H3 Q
theorem iV{r:V->Option Int->Option Int->Hp->VK->Prop}(hr:SlR X r)(he:PE X e te)(hl:PO X lo tl)(hu:PO X hi th):PE X (.Subscript e (.Slice lo hi J p2) pos) (tSl r te tl th):=by intro sI s Y H Q I h;refine Subscript_ (sS (he sI s Y H _ I h) λv s1 ⟨x,H1,I1,r1,q1⟩=>?_);refine wpAny_Slice (sS (hl sI s1 Y H1 _ I1 q1) λvl s2 ⟨l,H2,I2,pl,q2⟩=>sS (hu sI s2 Y H2 _ I2 q2) λvu s3 ⟨u,H3,I3,pu,q3⟩=>?_);rw[evalPart_none];refine Ag ?_;have I4:Inv X sI Y H3 {s3 with heap:=s3.heap.push {cls:=.type "slice",data:=.fields #[vl,vu,.none]}}:=I3.kept (t':=s3.toks) λb ob q=>Ar _ q;obtain⟨T,id,hT,ht,hg⟩:=hr sI {s3 with heap:=s3.heap.push {cls:=.type "slice",data:=.fields #[vl,vu,.none]}} Y H3 x v vl vu l u s3.heap.objs.size Q I4 r1 (Heap.IsSliceOf.new ..) pl pu q3;show wpAny (model X.prog X.w) X.A (subscriptTail e (.Slice lo hi J p2) v (.ref s3.heap.objs.size)) (EP X sI Y Q) X.xe {s3 with heap:=s3.heap.push {cls:=.type "slice",data:=.fields #[vl,vu,.none]}};exact tail_any (ops:=[.ref s3.heap.objs.size,v]) ht hT hg (by with_unfolding_all rfl)
def Kd(xs:List V)(lo hi:Option Int):List V:=(xs.drop (HT.zw xs.length 0 lo)).take (HT.zw xs.length xs.length hi-HT.zw xs.length 0 lo)
theorem lO(xs:List V)(lo hi:Option Int):(Kd xs lo hi).length<=xs.length:=by unfold Kd;rw[Fd,Mh];omega
def cT(K:Ae):R2:=λx y H Q=>∃a b xs ys,x=.ref a/\y=.ref b/\uL K H a xs/\uL K H b ys/\xs≠[]/\xs.length+ys.length<=sizeLine /\
 (ys=[]->Q (.ref a) H)/\(ys≠[]->∀p,H p=J->Q (.ref p) (upd H p (.tup (xs++ys))))
theorem sL.nil_iff{xs:List V}{us:List Value}(r:sL xs us):us=[]↔xs=[]:=by
 cases r with
 |nil=>simp
 |cons _ _=>simp
theorem fH:uq X (Ed .Add) (cT X.K):=by intro sI s Y H x y v u Q I rx ry h;obtain⟨a,b,xs,ys,rfl,rfl,ha,hb,hx,hz,q1,q2⟩:=h;cases rx;cases ry;obtain⟨its,r1,p1,_⟩:=I.tuple ha;obtain⟨uG,r2,p2,_⟩:=I.tuple hb;refine HT.qF p1 p2 (λz=>hx (r1.nil_iff.mp z)) (λz=>⟨.ref a,H,I,rfl,q1 (r2.nil_iff.mp z)⟩) (λz=>?_) (by rw[<-r1.length,<-r2.length];exact hz);refine⟨.ref s.heap.objs.size,_,I.laid (t':=s.toks) (o:=.tup (xs++ys)) (λb ob q=>Ar _ q) (Aj _) ?_,rfl,q2 (λw=>z (r2.nil_iff.mpr w)) _ (I.hok.fresh (Aj _))⟩;exact⟨by rw[AK];exact hz,_,r1.append r2,IsTup.new _ _⟩
end
section
variable{H:Hp}{i:Int}{sI:List (Addr×Obj)}{n:Nat}{s:Shared}{Y:St}{x y:V}{u:Value}
def wu(n:Nat)(i:Int):Option Nat:=if 0<=i then(if i<n then Z i.toNat else J)else if -(n:Int)<=i then Z (i+n).toNat else J
def yN{α:Type}(xs:List α)(i:Int):Option α:=(wu xs.length i).bind λj=>xs[j]?
theorem Wc{j:Nat}(h:wu n i=Z j):seqIndex? i n=Z j/\j<n/\-(n:Int)<=i/\i<n:=by
 unfold wu at h
 by_cases h0:0<=i
 .rw[if_pos h0]at h
  by_cases h1:i<n
  .rw[if_pos h1]at h
   have e:i.toNat=j:=Ct h;exact⟨by rw[seqIndex_of h0 h1,e],by omega,by omega,h1⟩
  .rw[if_neg h1]at h;cases h
 .rw[if_neg h0]at h
  by_cases h1:-(n:Int)<=i
  .rw[if_pos h1]at h
   have e:(i+n).toNat=j:=Ct h;exact⟨by rw[seqIndex_neg (by omega) h1,e],by omega,h1,by omega⟩
  .rw[if_neg h1]at h;cases h
theorem Qn{α:Type}{xs:List α}{v:α}(h:yN xs i=Z v):∃j,seqIndex? i xs.length=Z j/\xs[j]?=Z v/\j<xs.length/\-(xs.length:Int)<=i/\i<xs.length:=by
 unfold yN at h;cases e:wu xs.length i with
 |none=>rw[e]at h;cases h
 |some j=>rw[e]at h;obtain⟨h1,h2,h3,h4⟩:=Wc e;exact⟨j,h1,h,h2,h3,h4⟩
def Wb(b:Expr):Prop:=∀o i,O2 b Ab o i=operate [o,i] (getItem o i)
def xT(X:Cx)(r:R2):Prop :=
 ∀(value t5:Expr) (sI:List (Addr×Obj)) (s:Shared) (Y:St) (H:Hp) (x y:V) (v u:Value) (Q:VK),Inv X sI Y H s->RelV x v->RelV y u->r x y H Q ->
  O2 t5 Ab v u=operate [v,u] (getItem v u)->wpAny (model X.prog X.w) X.A (subscriptTail value t5 v u) (EP X sI Y Q) X.xe s
def MtR(X:Cx)(id:String)(r:V->List V->Hp->VK->Prop):Prop :=
 ∀(sI:List (Addr×Obj)) (s:Shared) (Y:St) (H:Hp) (x:V) (xs:List V) (v:Value) (us:List Value) (Q:VK),Inv X sI Y H s->RelV x v->sL xs us->r x xs H Q ->
  wpAny (model X.prog X.w) X.A (call (.builtin id) (v::us)) (EP X sI Y Q) X.xe s
section
variable{X:Cx}{a b:Expr}{ta tb:TE}{pos:Pos}
theorem xT.or{r r':R2}(h:xT X r)(h':xT X r'):xT X (λx y H Q=>r x y H Q\/r' x y H Q):=by
 intro value t5 sI s Y H x y v u Q I rx ry q hs;rcases q with q|q
 .exact h value t5 sI s Y H x y v u Q I rx ry q hs
 .exact h' value t5 sI s Y H x y v u Q I rx ry q hs
theorem cA{r:R2}(hr:xT X r)(ha:PE X a ta)(hb:PE X b tb)(hs:Wb b):PE X (.Subscript a b pos) (zv r ta tb):=by intro sI s Y H Q I h;exact Subscript_ (PM ha hb I h λv u s2 x y H2 I2 rx ry q=>hr a b sI s2 Y H2 x y v u Q I2 rx ry q (hs _ _))
def U3(K:Ae):R2:=λx y H Q=>∃p xs i v,x=.ref p/\y=.int i/\tU K H p xs/\yN xs i=Z v/\Q v H
def U1(K:Ae):R2:=λx y H Q=>∃p xs i v,x=.ref p/\y=.int i/\uL K H p xs/\yN xs i=Z v/\Q v H
def UP:R2:=λx y H Q=>∃z i c,x=.str z/\y=.int i/\z.length<=sizeLine/\yN z.cps.toList i=Z c/\Q (.str ⟨#[c]⟩) H
theorem gL:xT X (U3 X.K):=by
 intro value t5 sI s Y H x y v u Q I rx ry h hs;obtain⟨p,xs,i,z,rfl,rfl,hq,he,q⟩:=h;cases rx;obtain⟨t,rfl⟩:=ry;obtain⟨its,r,pl,hz⟩:=I.list hq;obtain⟨j,h1,h2,h3,h4,h5⟩:=Qn he;obtain⟨w,ew,rw'⟩:=r.get h2;have hl:=r.length;have hn:=Kr;have tL:EP X sI Y Q w s:=⟨z,H,I,rw',q⟩
 by_cases h0:0<=i
 .have hj:i.toNat=j:=by
   rw[seqIndex_of h0 h5]at h1;exact Ct h1
  exact item_listR pl.isList h0 (by omega) (by rw[hj];simpa using ew) tL hs
 .have hj:(i+(its.toArray.size:Int)).toNat=j:=by
   rw[seqIndex_neg (by omega) h4]at h1;rw[Ax,<-hl];exact Ct h1
  exact subscriptTail_builtinR (x:=w) pl.isList.typeIs slot_list_getitem.lookup
   (wpAny_getItem_list_neg (Q:=λr s'=>r=w/\EP X sI Y Q r s') pl.isList (by omega) (by rw[Ax]<;>omega) (by omega) (by rw[hj];simpa using ew) ⟨rfl,tL⟩) hs
theorem dy:xT X (U1 X.K):=by
 intro value t5 sI s Y H x y v u Q I rx ry h hs;obtain⟨p,xs,i,z,rfl,rfl,hq,he,q⟩:=h;cases rx;obtain⟨t,rfl⟩:=ry;obtain⟨its,r,pl,hz⟩:=I.tuple hq;obtain⟨j,h1,h2,h3,h4,h5⟩:=Qn he;obtain⟨w,ew,rw'⟩:=r.get h2;have hl:=r.length;have hn:=Kr;have tL:EP X sI Y Q w s:=⟨z,H,I,rw',q⟩;exact subscriptTail_builtinR (x:=w) pl.typeIs slot_tuple_getitem.lookup
  (getItem_tuple (j:=j) (Q:=λr s'=>r=w/\EP X sI Y Q r s') pl (by omega) (by omega) (by rw[Ax,<-hl];exact h1) (by simpa using ew) ⟨rfl,tL⟩) hs
theorem dW:xT X UP:=by
 intro value t5 sI s Y H x y v u Q I rx ry h hs;obtain⟨z,i,c,rfl,rfl,hz,he,q⟩:=h;obtain⟨t,rfl⟩:=rx;obtain⟨t',rfl⟩:=ry;obtain⟨j,h1,h2,h3,h4,h5⟩:=Qn he;have hl:z.cps.toList.length=z.length:=by simp[Str.length]
 rw[hl]at h1 h4 h5;have hn:=Kr;exact tail_any (typeIs_str s z t) slot_str_getitem.lookup (getItem_str (c:=c) (by have e1:decide (i < -(2 ^ 63:Int))=Ab:=decide_eq_false (by omega);have e2:decide (i ≥ 2 ^ 63)=Ab:=decide_eq_false (by omega);rw[e1,e2,Bool.or_false]) (by rw[h1];simpa using h2) ⟨.str ⟨#[c]⟩,H,I.tok _,⟨_,rfl⟩,q⟩) hs
def rIx(K:Ae):R2:=λx y H Q=>U3 K x y H Q\/U1 K x y H Q\/UP x y H Q
theorem d5:xT X (rIx X.K):=gL.or (dy.or dW)
theorem kZ(its:List Value)(n j:Nat)(u:Value):Ej (·.setIfInBounds j u) {cls:=.type "list",data:=.seq its.toArray n}={cls:=.type "list",data:=.seq (its.set j u).toArray n}:=by simp[Ej]
theorem Inv.lst{sI:List (Addr×Obj)}{Y:St}{H:Hp}{s:Shared}{p:Addr}{xs:List V}(I:Inv X sI Y H s)(h:H p=Z (.lst xs)):∃(its:List Value) (n:Nat),sL xs its/\s.heap.get? p=Z {cls:=.type "list",data:=.seq its.toArray n}/\xs.length<=sizeLine:=by
 obtain⟨z,its,n,r,e⟩:=I.hok p _ h;exact⟨its,n,r,e,z⟩
theorem Inv.lstUpd{p:Addr}{xs ys:List V}{its its':List Value}{n':Nat}{f:Obj->Obj}(I:Inv X sI Y H s)(h:H p=Z (.lst xs))(ho:s.heap.get? p=Z {cls:=.type "list",data:=.seq its.toArray n})(hf:f {cls:=.type "list",data:=.seq its.toArray n}={cls:=.type "list",data:=.seq its'.toArray n'})(r:sL ys its')(hz:ys.length<=sizeLine)(t:Nat):Inv X sI Y (upd H p (.lst ys)) {s with heap:=s.heap.update p f,toks:=t}:=by
 have e:(s.heap.update p f).get? p=Z {cls:=.type "list",data:=.seq its'.toArray n'}:=by rw[Gi f ho (by rw[hf]<;>rfl),hf]
 refine I.write (x:=p) (e:=p) (by rw[h];trivial) (.inl rfl) (λb u hb q=>(IK _ _ (A8 hb)).trans q) ⟨_,e⟩ ?_;exact⟨hz,its',n',r,e⟩
def cU:V->V->V->Hp->(Hp->Prop)->Prop:=λo i v H Q=>∃p xs k j,o=.ref p/\i=.int k/\H p=Z (.lst xs)/\wu xs.length k=Z j/\Q (upd H p (.lst (xs.set j v)))
theorem xu:U0 X cU:=by
 intro sI s Y H o i v ov iv u Q I ro ri rv h;obtain⟨p,xs,k,j,rfl,rfl,hp,hj,q⟩:=h;cases ro;obtain⟨t,rfl⟩:=ri;obtain⟨its,n,r,ho,hz⟩:=I.lst hp;obtain⟨h1,h2,h3,h4⟩:=Wc hj;have hl:=r.length;have hn:=Kr;have I':Inv X sI Y (upd H p (.lst (xs.set j v))) {s with heap:=s.heap.update p (Ej (·.setIfInBounds j u))} :=
  I.lstUpd hp ho (kZ its n j u) (r.set rv j) (by rw[Eg];exact hz) s.toks
 by_cases h0:0<=k
 .have hk:k.toNat=j:=by
   rw[seqIndex_of h0 h4]at h1;exact Ct h1
  exact PySem.W.ki_setAt ho h0 (by omega) (by rw[Ax,<-hl];exact h4) (by rw[hk];exact⟨_,I',q⟩)
 .have hk:(k+(its.toArray.size:Int)).toNat=j:=by
   rw[seqIndex_neg (by omega) h3]at h1;rw[Ax,<-hl];exact Ct h1
  exact PySem.W.ki_setBack ho (by omega) (by rw[Ax,<-hl];exact h3) (by omega) (by rw[hk];exact⟨_,I',q⟩)
theorem ma(lo hi:Option Int)(n:Nat):(IG lo hi J n).1=((HT.zw n 0 lo:Nat):Int)/\(IG lo hi J n).2.1=((HT.zw n n hi:Nat):Int)/\(IG lo hi J n).2.2=1:=by
 refine⟨?_,?_,rfl⟩
 .cases lo with
  |none=>simp[IG,HT.zw]
  |some i =>
   simp only[IG,HT.zw,Option.getD_none,show(1:Int) > 0 by decide,if_true]
   by_cases h:i<0
   .simp only[h,if_true]<;>omega
   .simp only[h,if_false]<;>omega
 .cases hi with
  |none=>simp[IG,HT.zw]
  |some i =>
   simp only[IG,HT.zw,Option.getD_none,show(1:Int) > 0 by decide,if_true]
   by_cases h:i<0
   .simp only[h,if_true]<;>omega
   .simp only[h,if_false]<;>omega
theorem nr(its:List Value)(lo hi:Option Int):slicePick its.toArray lo hi J=((its.drop (HT.zw its.length 0 lo)).take (HT.zw its.length its.length hi-HT.zw its.length 0 lo)).toArray:=by obtain⟨h1,h2,h3⟩:=ma lo hi its.toArray.size;unfold slicePick;rw[h1,h2,h3];simp only[sliceRange_one,pick_run,Ax]<;>rfl
def qb(K:Ae):V->Option Int->Option Int->Hp->VK->Prop:=λx lo hi H Q=>∃a xs,x=.ref a/\tU K H a xs/\∀p,H p=J->Q (.ref p) (upd H p (.lst (Kd xs lo hi)))
theorem gE:SlR X (qb X.K):=by intro sI s Y H x v vl vu lo hi sl Q I rx hs pl pu h;obtain⟨a,xs,rfl,hx,q⟩:=h;cases rx;obtain⟨its,r,ht,hz⟩:=I.list hx;have sJ:=r.length;refine⟨"list",_,slot_list_getitem.lookup,ht.isList.typeIs,?_⟩;refine wpAny_getItem_list_slice ht.isList hs pl pu .none (by simp) ?_ (by rw[Ax]<;>omega);rw[nr,<-sJ];refine⟨.ref s.heap.objs.size,_,I.laid (t':=s.toks) (o:=.lst (Kd xs lo hi)) (λb ob q=>Ar _ q) (Aj _) ?_,rfl,q _ (I.hok.fresh (Aj _))⟩;exact⟨Bf (lO xs lo hi) hz,_,0,(r.drop (HT.zw xs.length 0 lo)).take (HT.zw xs.length xs.length hi-HT.zw xs.length 0 lo),AZ _ rfl⟩
def Bp:V->Bool
 | .non=>Aa
 | .bl _=>Aa
 | .int _=>Aa
 | .str _=>Aa
 |_=>Ab
def yu:V->V->Bool
 | .non,.non=>Aa
 | .bl a,.bl b=>a==b
 | .bl a,.int b=>(if a then 1 else 0)==b
 | .int a,.bl b=>a==(if b then 1 else 0)
 | .int a,.int b=>a==b
 | .str a,.str b=>a==b
 |_,_=>Ab
theorem fT{A:Around}{v:Value}(ry:RelV y u)(rx:RelV x v)(fy:Bp y=Aa)(fx:Bp x=Aa):SeqAt.EqAt A s u v (yu y x):=by
 cases y with
 |non =>
  cases ry;cases x with
  |non=>cases rx;exact SeqAt.EqAt.same _
  |bl b=>cases rx;exact SeqAt.EqAt.none_bool b
  |int b=>obtain⟨t,rfl⟩:=rx;exact SeqAt.EqAt.none_int b t
  |str b=>obtain⟨t,rfl⟩:=rx;exact SeqAt.EqAt.none_str b t
  |_=>exact absurd (show Ab=Aa from fx) Dh
 |bl a =>
  cases ry;cases x with
  |non=>cases rx;exact SeqAt.EqAt.bool_none a
  |bl b=>cases rx;exact SeqAt.EqAt.bool_bool a b
  |int b=>obtain⟨t,rfl⟩:=rx;exact SeqAt.EqAt.bool_int a b t
  |str b=>obtain⟨t,rfl⟩:=rx;exact SeqAt.EqAt.bool_str a b t
  |_=>exact absurd (show Ab=Aa from fx) Dh
 |int a =>
  obtain⟨t',rfl⟩:=ry;cases x with
  |non=>cases rx;exact SeqAt.EqAt.int_none a t'
  |bl b=>cases rx;exact SeqAt.EqAt.int_bool a t' b
  |int b=>obtain⟨t,rfl⟩:=rx;exact SeqAt.EqAt.int_int a t' b t
  |str b=>obtain⟨t,rfl⟩:=rx;exact aS a t' b t
  |_=>exact absurd (show Ab=Aa from fx) Dh
 |str a =>
  obtain⟨t',rfl⟩:=ry;cases x with
  |non=>cases rx;exact SeqAt.EqAt.str_none a t'
  |bl b=>cases rx;exact SeqAt.EqAt.str_bool a t' b
  |int b=>obtain⟨t,rfl⟩:=rx;exact aR a t' b t
  |str b=>obtain⟨t,rfl⟩:=rx;exact SeqAt.EqAt.str_str a t' b t
  |_=>exact absurd (show Ab=Aa from fx) Dh
 |_=>exact absurd (show Ab=Aa from fy) Dh
def vS(x:V)(u:Value):Bool:=match u with
 | .none=>yu .non x
 | .bool b=>yu (.bl b) x
 | .int i _=>yu (.int i) x
 | .str z _=>yu (.str z) x
 |_=>Ab
theorem Vx(r:RelV y u)(f:Bp y=Aa):vS x u=yu y x:=by
 cases y with
 |non=>cases r;rfl
 |bl b=>cases r;rfl
 |int i=>obtain⟨t,rfl⟩:=r;rfl
 |str z=>obtain⟨t,rfl⟩:=r;rfl
 |_=>exact absurd (show Ab=Aa from f) Dh
theorem KL{x:V}:∀{xs:List V} {us:List Value},sL xs us->xs.all Bp=Aa->us.any (vS x)=xs.any λy=>yu y x
 |_,_,.nil,_=>rfl
 |y::xs,u::us,.cons r t,f=>by rw[Di,AI]at f;rw[Ee,Ee,Vx r f.1,KL t f.2]
theorem K4{A:Around}{s:Shared}{x:V}{v:Value}(rx:RelV x v)(fx:Bp x=Aa):∀{xs:List V} {us:List Value},sL xs us->xs.all Bp=Aa->∀u∈us,SeqAt.EqAt A s u v (vS x u)
 |_,_,.nil,_=>λu hu=>by cases hu
 |y::xs,u::us,.cons r t,f=>λu' hu=>by
  rw[Di,AI]at f;rcases AE.mp hu with rfl|hu
  .rw[Vx r f.1];exact fT r rx f.1 fx
  .exact K4 rx fx t f.2 u' hu
def inV(x:V)(xs:List V):Bool:=xs.any λy=>yu y x
def rIn(K:Ae)(vQ:Bool):R2:=λx y H Q=>∃p xs,y=.ref p/\(tU K H p xs\/uL K H p xs)/\Bp x=Aa/\xs.all Bp=Aa/\Q (.bl (if vQ then !inV x xs else inV x xs)) H
theorem kC:uq X (BQ .In) (rIn X.K Ab):=by
 intro sI s Y H x y v u Q I rx ry h;obtain⟨p,xs,rfl,hq,fx,fs,q⟩:=h;cases ry;rcases hq with hq|hq
 .obtain⟨its,r,pl,hz⟩:=I.list hq
  refine SeqAt.in_listAt (vS x) pl.isList (λw hw=>K4 rx fx r fs w (by simpa using hw)) ⟨.bl _,H,I,rfl,?_⟩;rw[show its.toArray.any (vS x)=its.any (vS x) by simp,KL r fs];exact q
 .obtain⟨its,r,pl,hz⟩:=I.tuple hq
  refine SeqAt.in_tupleAt (vS x) pl (λw hw=>K4 rx fx r fs w (by simpa using hw)) ⟨.bl _,H,I,rfl,?_⟩;rw[show its.toArray.any (vS x)=its.any (vS x) by simp,KL r fs];exact q
theorem mf:uq X (BQ .NotIn) (rIn X.K Aa):=by
 intro sI s Y H x y v u Q I rx ry h;obtain⟨p,xs,rfl,hq,fx,fs,q⟩:=h;cases ry;rcases hq with hq|hq
 .obtain⟨its,r,pl,hz⟩:=I.list hq
  refine SeqAt.notIn_listAt (vS x) pl.isList (λw hw=>K4 rx fx r fs w (by simpa using hw)) ⟨.bl _,H,I,rfl,?_⟩;rw[show its.toArray.any (vS x)=its.any (vS x) by simp,KL r fs];exact q
 .obtain⟨its,r,pl,hz⟩:=I.tuple hq
  refine SeqAt.notIn_tupleAt (vS x) pl (λw hw=>K4 rx fx r fs w (by simpa using hw)) ⟨.bl _,H,I,rfl,?_⟩;rw[show its.toArray.any (vS x)=its.any (vS x) by simp,KL r fs];exact q
theorem mj:A6 X (.builtin "len") (λxs H Q=>∃p ys,xs=[.ref p]/\(tU X.K H p ys\/uL X.K H p ys)/\Q (.int ys.length) H):=by
 intro sI s Y H xs us Q I r h;obtain⟨p,ys,rfl,hq,q⟩:=h;obtain⟨u,rfl,rx⟩:=vals1 r;cases rx;have hn:=Kr;rcases hq with hq|hq
 .obtain⟨its,r',pl,hz⟩:=I.list hq
  have sJ:=r'.length;exact Calls.call_len_list pl.isList (by simp only[Ax]<;>omega) ⟨.int ys.length,H,I.tok _,⟨s.toks+1,by rw[Ax,sJ]⟩,q⟩
 .obtain⟨its,r',pl,hz⟩:=I.tuple hq
  have sJ:=r'.length;exact len_tuple pl (by simp only[Ax]<;>omega) ⟨.int ys.length,H,I.tok _,⟨s.toks+1,by rw[Ax,sJ]⟩,q⟩
theorem A6.or{f:Value}{r r':List V->Hp->VK->Prop}(h:A6 X f r)(h':A6 X f r'):A6 X f (λxs H Q=>r xs H Q\/r' xs H Q):=by
 intro sI s Y H xs us Q I rs q;rcases q with q|q
 .exact h sI s Y H xs us Q I rs q
 .exact h' sI s Y H xs us Q I rs q
theorem m7:A6 X (.type "list") (λxs H Q=>∃p ys,xs=[.ref p]/\(tU X.K H p ys\/uL X.K H p ys)/\∀l,H l=J->Q (.ref l) (upd H l (.lst ys))):=by
 intro sI s Y H xs us Q I r h;obtain⟨p,ys,rfl,hq,q⟩:=h;obtain⟨u,rfl,rx⟩:=vals1 r;cases rx;have tL:∀(its:List Value),sL ys its->ys.length<=sizeLine->∀(h':Heap) (c':Nat),(∀b o',s.heap.get? b=Z o'->h'.get? b=Z o') ->
   h'.get? s.heap.objs.size=Z {cls:=.type "list",dict:=J,data:=.seq its.toArray c',slots:=#[]}->EP X sI Y Q (.ref s.heap.objs.size) {s with heap:=h'}:=λits r' hz h' c' kp e =>
  ⟨.ref s.heap.objs.size,_,I.laid (t':=s.toks) kp (Aj _) (show ZZ X.prog X.w _ h' _ (.lst ys) from⟨hz,its,c',r',e⟩),rfl,q _ (I.hok.fresh (Aj _))⟩
 rcases hq with hq|hq
 .obtain⟨its,r',pl,hz⟩:=I.list hq
  have sJ:=r'.length;obtain⟨o,ho,hc,n,hd⟩:=pl.isList;exact call_list_seq p (.inl rfl) ho hc hd (λh' c' kp e=>tL its r' hz h' c' kp e) (by simp only[Ax]<;>omega)
 .obtain⟨its,r',pl,hz⟩:=I.tuple hq
  have sJ:=r'.length;obtain⟨o,ho,hc,n,hd⟩:=pl;exact call_list_seq p (.inr rfl) ho hc hd (λh' c' kp e=>tL its r' hz h' c' kp e) (by simp only[Ax]<;>omega)
theorem nj:A6 X (.type "tuple") (λxs H Q=>∃p ys,xs=[.ref p]/\((tU X.K H p ys/\∀l,H l=J->Q (.ref l) (upd H l (.tup ys)))\/(uL X.K H p ys/\Q (.ref p) H))):=by
 intro sI s Y H xs us Q I r h;obtain⟨p,ys,rfl,h⟩:=h;obtain⟨u,rfl,rx⟩:=vals1 r;cases rx;rcases h with⟨hq,q⟩|⟨hq,q⟩
 .obtain⟨its,r',pl,hz⟩:=I.list hq
  have sJ:=r'.length;refine call_tuple_list pl.isList (λh' kp=>?_) (by simp only[Ax]<;>omega);have I1:Inv X sI Y H {s with heap:=h'}:=I.kept (t':=s.toks) kp;have I2:Inv X sI Y (upd H h'.objs.size (.tup ys)) {s with heap:=h'.push {cls:=.type "tuple",data:=.seq its.toArray}} :=
   I1.laid (t':=s.toks) (λb o e=>Ar _ e) (Aj _) (show ZZ X.prog X.w _ _ _ (.tup ys) from⟨hz,its,r',IsTup.new _ _⟩)
  exact⟨.ref h'.objs.size,_,I2,rfl,q _ (I1.hok.fresh (Aj _))⟩
 .obtain⟨its,r',pl,hz⟩:=I.tuple hq
  exact call_tuple_same pl ⟨.ref p,H,I,rfl,q⟩
def tyV(K:Ae)(T:String)(x:V)(H:Hp):Prop:=match x with
 | .str _=>T = "str"
 | .int _=>T = "int"
 | .ref p=>(T = "list"/\∃xs,tU K H p xs)\/(T = "tuple"/\∃o,K.lookup p=Z o/\o.cls=.type "tuple"/\o.dict=J) \/
   (T = "dict"/\((∃kvs,H p=Z (.dK kvs))\/∃kvs,H p=Z (.dT kvs)))\/(T = "set"/\∃S n,H p=Z (.set S n))
 |_=>False
theorem VY{T:String}{v:Value}(I:Inv X sI Y H s)(r:RelV x v)(ty:tyV X.K T x H):s.TypeIs v T/\∀a,v=.ref a->∃ob,s.heap.get? a=Z ob/\ob.dict=J:=by
 cases x with
 |str z=>obtain⟨t,rfl⟩:=r;cases(show T = "str" from ty);exact⟨typeIs_str s z t,λ_ e=>nomatch e⟩
 |int i=>obtain⟨t,rfl⟩:=r;cases(show T = "int" from ty);exact⟨typeIs_int s i t,λ_ e=>nomatch e⟩
 |ref p =>
  cases r;rcases ty with⟨rfl,xs,hq⟩|⟨rfl,o,hk,hc,hd⟩|⟨rfl,hk⟩|⟨rfl,S,n,hk⟩
  .obtain⟨its,_,pl,_⟩:=I.list hq
   refine⟨pl.isList.typeIs,λa e=>?_⟩;cases e;obtain⟨o,n,e,c,hd,_⟩:=pl;exact⟨o,e,hd⟩
  .refine⟨⟨o,I.kIn p o hk,hc⟩,λa e=>?_⟩
   cases e;exact⟨o,I.kIn _ o hk,hd⟩
  .have z:∃o,s.heap.get? p=Z o/\o.ExactDict:=by
    rcases hk with⟨kvs,hk⟩|⟨kvs,hk⟩
    .obtain⟨_,_,_,_,o,_,_,e,ex,_⟩:=I.hok p _ hk
     exact⟨o,e,ex⟩
    .obtain⟨_,_,_,_,o,_,_,e,ex,_⟩:=I.hok p _ hk
     exact⟨o,e,ex⟩
   obtain⟨o,e,ex⟩:=z;refine⟨⟨o,e,ex.1⟩,λa e2=>?_⟩;cases e2;exact⟨o,e,ex.2.1⟩
  .obtain⟨o,_,_,_,e,ex,_⟩:=I.hok p _ hk
   refine⟨⟨o,e,ex.1⟩,λa e2=>?_⟩;cases e2;exact⟨o,e,ex.2.1⟩
 |_=>exact Bv ty
def pT(K:Ae)(T:String)(r:V->List V->Hp->VK->Prop)(to:TE):TE:=λY H Q=>to Y H λx H1=>tyV K T x H1/\r x [] H1 Q
def tBM(K:Ae)(T:String)(r:V->List V->Hp->VK->Prop)(to:TE)(t:TA):TE:=λY H Q=>to Y H λx H1=>tyV K T x H1/\t Y H1 λxs H2=>r x xs H2 Q
variable{o e:Expr}{es:List Expr}{to:TE}{t:TA}{name:Str}{uu tE:Pos}{T id:String}{r:V->List V->Hp->VK->Prop}
theorem dE(pa:PlainAttrs T)(slot:Slot T name id)(hty:typeOf (.builtin id)=pure (.type "method_descriptor"))(hm:MtR X id r)(ho:PE X o to)(t7:Hg o name X.env (eval o X.env)=eval o X.env:=by rfl)(t6:(uu.endLine==tE.line)=Aa:=by rfl):PE X (.Call (.Attribute o name uu) [] [] tE) (pT X.K T r to):=by
 intro sI s Y H Q I h;refine wpAny_Call_method0_late t7 t6 (sS (ho sI s Y H _ I h) λv s1 ⟨x,H1,I1,r1,ty,q1⟩=>?_);obtain⟨h1,h2⟩:=VY I1 r1 ty;exact⟨T,id,pa,slot,hty,h1,h2,PF rfl (PySem.evalArgs_none (hm sI s1 Y H1 x [] v [] Q I1 r1 .nil q1))⟩
theorem MQ(pa:PlainAttrs T)(slot:Slot T name id)(hty:typeOf (.builtin id)=pure (.type "method_descriptor"))(hm:MtR X id r)(ho:PE X o to)(ha:PA X (e::es) t)(t7:Hg o name X.env (eval o X.env)=eval o X.env:=by rfl)
  (uO:((backTo tE (Ad (e::es) X.env)).all (λx=>!x.1)&&(JP tE (JQ [] X.env)).all (λx=>x.1.isSome)
   && decide ((e::es).length+([]:List Keyword).length+(if([]:List Keyword).isEmpty then 0 else 1)<30))=Aa:=by rfl)
  (t6:(uu.endLine==tE.line)=Aa:=by rfl)(hs:Ad (e::es) X.env=(Ab,eval e X.env)::Ad es X.env:=by rfl)(y0:(backTo tE (Ad es X.env)).any (·.1)=Ab:=by rfl):
  PE X (.Call (.Attribute o name uu) (e::es) [] tE) (tBM X.K T r to t):=by
 intro sI s Y H Q I h;refine wpAny_Call_method_late t7 uO t6 rfl (sS (ho sI s Y H _ I h) λv s1 ⟨x,H1,I1,r1,ty,q1⟩=>?_);obtain⟨h1,h2⟩:=VY I1 r1 ty;refine⟨T,id,pa,slot,hty,h1,h2,?_⟩;have hA:=ha tE sI s1 Y H1 _ I1 q1;rw[hs]at hA ⊢;refine PF (by show(Ab||(backTo tE (Ad es X.env)).any (·.1))=Ab;rw[y0]<;>rfl) (PB ?_);exact sS hA λus s2 ⟨vs,H2,I2,r2,q2⟩=>hm sI s2 Y H2 x vs v us Q I2 r1 r2 q2
end
end
section
variable{its:List Value}{n t':Nat}
def MtM(X:Cx)(id:String)(r:V->List V->Hp->VK->Prop):Prop :=
 ∀(sI:List (Addr×Obj)) (s:Shared) (Y:St) (H:Hp) (x:V) (xs:List V) (v:Value) (us:List Value) (Q:VK),Inv X sI Y H s->RelV x v->sL xs us->r x xs H Q ->
  wpAny (model X.prog X.w) X.A (call (.builtin id) (v::us)) (EP X sI Y Q) X.xe s
theorem sL.one:∀{x:V} {us:List Value},sL [x] us->∃u,us=[u]/\RelV x u
 |_,_,.cons r .nil=>⟨_,rfl,r⟩
theorem sL.zero:∀{us:List Value},sL [] us->us=[]
 |_,.nil=>rfl
theorem sL.dropLast{xs:List V}{us:List Value}(h:sL xs us):sL xs.dropLast us.dropLast:=by
 induction h with
 |nil=>exact .nil
 |cons r t ih =>
  cases t with
  |nil=>exact .nil
  |cons q t'=>exact .cons r ih
theorem sL.rep{xs:List V}{us:List Value}(h:sL xs us):∀k:Nat,sL (Bl k xs).flatten (Bl k us).flatten
 |0=>.nil
 |k+1=>by rw[IM,IM,JY,JY];exact sL.append h (sL.rep h k)
theorem lJ{α:Type}(l:List α):l.eraseIdx (l.length-1)=l.dropLast:=by
 induction l with
 |nil=>rfl
 |cons a r ih =>
  cases r with
  |nil=>rfl
  |cons b r =>
   have e:(a::b::r).length-1=((b::r).length-1)+1:=by have h1:(a::b::r).length=r.length+2:=rfl;have h2:(b::r).length=r.length+1:=rfl;omega
   rw[e,List.eraseIdx_cons_succ,ih]
   all_goals rfl
theorem foldl_rep(its:List Value):∀(k:Nat) (acc:List Value),List.foldl (λx1 x2=>x1++x2) acc.toArray (Bl k its.toArray)=(acc++(Bl k its).flatten).toArray
 |0,acc=>by simp
 |k+1,acc=>by
  have e:acc.toArray++its.toArray=(acc++its).toArray:=by simp
  have e2:(acc++its)++(Bl k its).flatten=acc++(Bl (k+1) its).flatten:=by rw[IM,JY,Ff]
  rw[<-e2,<-foldl_rep its k (acc++its),<-e,IM,DT]
section
variable{X:Cx}{sI:List (Addr×Obj)}{Y:St}{H:Hp}{s:Shared}{l b:Addr}{xs ys zs:List V}
theorem Inv.lset{its':List Value}{f:Array Value->Array Value}(I:Inv X sI Y H s)(hH:H l=Z (.lst xs))(e:s.heap.get? l=Z {cls:=.type "list",data:=.seq its.toArray n})(hf:f its.toArray=its'.toArray)(hv:sL ys its')(hz:ys.length<=sizeLine):Inv X sI Y (upd H l (.lst ys)) {s with heap:=s.heap.update l (Ej f),toks:=t'}:=by
 have q:=PySem.IsL.update e f;rw[hf]at q;refine I.write (x:=l) (e:=l) (by rw[hH];exact trivial) (.inl rfl) (λb' u hb hu=>(IK s.heap (Ej f) (A8 hb)).trans hu) ⟨_,q⟩ ?_;exact⟨hz,its',_,hv,q⟩
theorem Inv.lnew(I:Inv X sI Y H s)(hv:sL ys its)(hz:ys.length<=sizeLine):Inv X sI Y (upd H s.heap.objs.size (.lst ys)) {s with heap:=s.heap.push {cls:=.type "list",data:=.seq its.toArray},toks:=t'} :=
 I.laid (λ_ _ q=>Ar _ q) (Aj _) ⟨hz,its,0,hv,AZ _ rfl⟩
theorem Inv.fresh(I:Inv X sI Y H s):H s.heap.objs.size=J:=I.hok.fresh (Aj _)
theorem Inv.lstM(I:Inv X sI Y H s)(hH:H l=Z (.lst xs)):xs.length<=sizeLine/\∃(its:List Value) (n:Nat),sL xs its/\xs.length=its.length/\s.heap.get? l=Z {cls:=.type "list",data:=.seq its.toArray n}:=by obtain⟨z,its,n,r,e⟩:=I.hok l _ hH;exact⟨z,its,n,r,r.length,e⟩
theorem Xl(h:n<=sizeLine):Pw n=Ab:=by unfold Pw;exact decide_eq_false (by omega)
end
section
variable{X:Cx}
def Ws:V->List V->Hp->VK->Prop:=λx vs H Q=>∃l xs y,x=.ref l/\vs=[y]/\H l=Z (.lst xs)/\xs.length<sizeLine/\Q .non (upd H l (.lst (xs++[y])))
theorem ND:MtM X "list.append" Ws:=by intro sI s Y H x vs v us Q I rx rv h;obtain⟨l,xs,y,rfl,rfl,hH,hz,q⟩:=h;cases rx;obtain⟨u,rfl,ru⟩:=rv.one;obtain⟨z,its,n,r,hl,e⟩:=I.lstM hH;refine LU F.slot_list_append ⟨_,e,rfl⟩ F.entry_list_append (F.args_list_append_2 _ _) (PySem.list_append l its.toArray n u (by rw[Ax];omega)) ⟨e,?_⟩;refine⟨.non,_,I.lset (its':=its++[u]) hH e (by simp) (r.append (.cons ru .nil)) ?_,rfl,q⟩;rw[AK,IP];omega
def g0:V->List V->Hp->VK->Prop:=λx vs H Q=>∃l b xs zs,x=.ref l/\vs=[.ref b]/\H l=Z (.lst xs)/\H b=Z (.lst zs)/\xs.length+zs.length<=sizeLine/\Q .non (upd H l (.lst (xs++zs)))
theorem jj:MtM X "list.extend" g0:=by
 intro sI s Y H x vs v us Q I rx rv h;obtain⟨l,b,xs,zs,rfl,rfl,hH,hB,hz,q⟩:=h;cases rx;obtain⟨u,rfl,ru⟩:=rv.one;cases ru;obtain⟨z,its,n,r,hl,e⟩:=I.lstM hH;obtain⟨z2,uG,n2,r2,vD,e2⟩:=I.lstM hB;have hsz:its.toArray.size+uG.toArray.size<=sizeLine:=by rw[Ax,Ax];omega
 have xn:¬(!its.toArray.isEmpty&&Pw (its.toArray.size+uG.toArray.size))=Aa:=by rw[Xl hsz,TN];exact Dh
 refine LU F.slot_list_extend ⟨_,e,rfl⟩ F.entry_list_extend (F.args_list_extend_2 _ _)
  (AutoSeq1.list_extend_list_list_0 l its.toArray n b uG.toArray n2 xn (by rw[Ax];omega) (by omega)) ⟨e,e2,?_⟩
 refine⟨.non,_,I.lset (its':=its++uG) hH e (by simp) (r.append r2) ?_,rfl,q⟩;rw[AK];omega
def pS:V->List V->Hp->VK->Prop:=λx vs H Q=>∃l xs y,x=.ref l/\vs=[]/\H l=Z (.lst xs)/\xs[xs.length-1]?=Z y/\Q y (upd H l (.lst xs.dropLast))
theorem dS:MtM X "list.pop" pS:=by
 intro sI s Y H x vs v us Q I rx rv h;obtain⟨l,xs,y,rfl,rfl,hH,hy,q⟩:=h;cases rx;have hus:=rv.zero;subst hus;obtain⟨z,its,n,r,hl,e⟩:=I.lstM hH;obtain⟨u,hu,ru⟩:=r.get hy;have hy':its.toArray[its.toArray.size-1]?=Z u:=by show its.toArray[its.length-1]?=Z u;rw[<-Ek,<-hl];exact hu
 refine LU F.slot_list_pop ⟨_,e,rfl⟩ F.entry_list_pop (F.args_list_pop_1 _) (MeetsSeq.list_pop_last l its.toArray n u hy' (by rw[Ax];omega)) ⟨e,?_⟩;refine⟨y,_,I.lset (its':=its.dropLast) hH e ?_ r.dropLast ?_,ru,q⟩
 .show its.toArray.eraseIdxIfInBounds (its.toArray.size-1)=its.dropLast.toArray
  rw[Ax,List.eraseIdxIfInBounds_toArray,lJ]
 .rw[List.length_dropLast]
  omega
def pX:R2:=λx y H Q=>∃l b xs zs,x=.ref l/\y=.ref b/\H l=Z (.lst xs)/\H b=Z (.lst zs)/\xs.length+zs.length<=sizeLine/\∀p,H p=J->Q (.ref p) (upd H p (.lst (xs++zs)))
theorem dP:uq X (Ed .Add) pX:=by
 intro sI s Y H x y v u Q I rx ry h;obtain⟨l,b,xs,zs,rfl,rfl,hH,hB,hz,q⟩:=h;cases rx;cases ry;obtain⟨z,its,n,r,hl,e⟩:=I.lstM hH;obtain⟨z2,uG,n2,r2,vD,e2⟩:=I.lstM hB;refine PySem.P.add_list e e2 ?_ (by rw[Ax,Ax];omega);have ea:its.toArray++uG.toArray=(its++uG).toArray:=by simp
 rw[ea];exact⟨.ref _,_,I.lnew (t':=s.toks) (r.append r2) (by rw[AK];omega),rfl,q _ I.fresh⟩
def pL:R2:=λx y H Q=>∃l k xs,x=.ref l/\y=.int k/\H l=Z (.lst xs)/\-(2 ^ 63)<=k/\k<2 ^ 63/\xs.length*k.toNat<=sizeLine /\
 ∀p,H p=J->Q (.ref p) (upd H p (.lst (Bl k.toNat xs).flatten))
theorem yd{α:Type}(xs:List α)(k:Nat):(Bl k xs).flatten.length=k*xs.length:=by
 induction k with
 |zero=>simp
 |succ k ih=>rw[IM,JY,AK,ih,Nat.succ_mul,Nat.add_comm]
theorem du:uq X (Ed .Mult) pL:=by
 intro sI s Y H x y v u Q I rx ry h;obtain⟨l,k,xs,rfl,rfl,hH,h1,h2,hz,q⟩:=h;cases rx;obtain⟨t,rfl⟩:=ry;obtain⟨z,its,n,r,hl,e⟩:=I.lstM hH;have sJ:its.toArray.size*k.toNat<=sizeLine:=by rw[Ax,<-hl];exact hz
 have wH:¬its.toArray.size*k.toNat > (2 ^ 63-1) / 8:=by
  have:(sizeLine:Nat)<=(2 ^ 63-1) / 8:=by decide
  omega
 have yW:¬(!Builtin.List.listFitsIndex k)=Aa:=by rw[fitsIndex_both h1 h2];exact Dh
 have xn:¬Pw (its.toArray.size*k.toNat)=Aa:=by rw[Xl sJ];exact Dh
 have hnew:List.foldl (λx1 x2=>x1++x2) #[] (Bl (if its.toArray.isEmpty=Aa then 0 else k.toNat) its.toArray)=(Bl k.toNat its).flatten.toArray:=by
  have f0:∀m:Nat,List.foldl (λx1 x2=>x1++x2) #[] (Bl m its.toArray)=(Bl m its).flatten.toArray:=λm=>by have:=foldl_rep its m [];rw[ID]at this;exact this
  rw[f0];cases its with
  |nil=>simp
  |cons a r'=>rw[if_neg (by simp)]
 refine wpAny_binaryOp_repeat_ref (T:="list") (U:="int") (by decide) ⟨_,e,rfl⟩ (λs'=>typeIs_int s' k t) noFill_list_mul F.fills_int_mul F.slot_int_rmul repeat_list F.slot_int_index.lookup
  (LU F.slot_int_rmul (typeIs_int s k t) F.entry_int_rmul (F.args_int_rmul_2 _ _) (int___rmul___int_list k t l its.toArray n)
   ⟨e,rfl,⟨_,e,rfl⟩,LU F.slot_list_mul ⟨_,e,rfl⟩ F.entry_list_mul (F.args_list_mul_2 _ _) (AutoListH.list___mul___list_int_3 l its.toArray n k t yW wH xn) ⟨e,?_⟩⟩)
 rw[hnew];exact⟨.ref _,_,I.lnew (t':=s.toks) (r.rep k.toNat) (by rw[yd,Nat.mul_comm];exact hz),rfl,q _ I.fresh⟩
end
end
section
variable{a b:Addr}{X:Cx}{h':Heap}{H H':Hp}{sI:List (Addr×Obj)}{xs:List (List sP×Addr×Value)}{kvs:List (List sP×V)}{o:Option V}{pos:Pos}{P:Program}{s:Shared}{Y:St}{y:V}{u:Value}{Q:Value->Shared->Prop}
section
variable{κ:Type}[DecidableEq κ]
def AV(kvs:List (κ×V))(k:κ):Option V:=(kvs.find? λkv=>decide (kv.1=k)).map (·.2)
def tW(kvs:List (κ×V))(k:κ)(v:V):List (κ×V) :=
 if(kvs.any λkv=>decide (kv.1=k))=Aa then kvs.map (λkv=>if kv.1=k then(kv.1,v)else kv)else kvs++[(k,v)]
theorem Ib{p:κ×V}{r:List (κ×V)}{k:κ}(e:p.1=k):AV (p::r) k=Z p.2:=by simp[AV,Df,e]
theorem HZ{p:κ×V}{r:List (κ×V)}{k:κ}(e:¬p.1=k):AV (p::r) k=AV r k:=by simp[AV,Df,e]
theorem Nv(k:κ):∀kvs:List (κ×V),(kvs.any λkv=>decide (kv.1=k))=(AV kvs k).isSome
 |[]=>rfl
 |p::r=>by
  rw[Ee]
  by_cases e:p.1=k
  .simp only[Ib e,decide_eq_true e,Bool.true_or,Option.isSome_some]
  .rw[HZ e,decide_eq_false e,OS];exact Nv k r
theorem RD(kvs:List (κ×V))(k:κ)(v:V):(tW kvs k v).length<=kvs.length+1:=by
 unfold tW;split
 .rw[Af];omega
 .rw[AK,AD,Mn];omega
theorem D1.isSome_eq{u:Option Value}(r:D1 o u):o.isSome=u.isSome:=by
 cases o with
 |none=>cases u with
  |none=>rfl
  |some _=>exact(show False from r).elim
 |some _=>cases u with
  |none=>exact(show False from r).elim
  |some _=>rfl
theorem D1.getD{o:Option V}{u:Option Value}{d:V}{d':Value}(r:D1 o u)(rd:RelV d d'):RelV (o.getD d) (u.getD d'):=by
 cases o with
 |none=>cases u with
  |none=>exact rd
  |some _=>exact(show False from r).elim
 |some _=>cases u with
  |none=>exact(show False from r).elim
  |some _=>exact r
theorem KV.val{kvs:List (κ×V)}{vs:List (κ×Value)}(r:KV kvs vs)(k:κ):D1 (AV kvs k) (valueAt vs k):=by
 unfold KV at r
 induction r with
 |nil=>exact Iu
 | @cons p q ps qs h t ih =>
  obtain⟨h1,h2⟩:=h
  by_cases e:p.1=k
  .have e':q.1=k:=h1.symm.trans e
   have b:valueAt (q::qs) k=Z q.2:=by simp[valueAt,Df,e']
   rw[Ib e,b];exact h2
  .have e':¬q.1=k:=λz=>e (h1.trans z)
   have b:valueAt (q::qs) k=valueAt qs k:=by simp[valueAt,Df,e']
   rw[HZ e,b];exact ih
theorem KV.any{kvs:List (κ×V)}{vs:List (κ×Value)}(r:KV kvs vs)(k:κ):(kvs.any λkv=>decide (kv.1=k))=vs.any λkv=>decide (kv.1=k):=by
 unfold KV at r
 induction r with
 |nil=>rfl
 |cons h t ih=>rw[Ee,Ee,ih,h.1]
theorem KV.repl{kvs:List (κ×V)}{vs:List (κ×Value)}(r:KV kvs vs)(k:κ)(ry:RelV y u):KV (kvs.map λkv=>if kv.1=k then(kv.1,y)else kv) (vs.map λkv=>if kv.1=k then(kv.1,u)else kv):=by
 unfold KV at r ⊢
 induction r with
 |nil=>exact .nil
 | @cons p q ps qs h t ih =>
  rw[Ak,Ak];refine .cons ?_ ih;obtain⟨h1,h2⟩:=h
  by_cases e:p.1=k
  .rw[if_pos e,if_pos (h1.symm.trans e)];exact⟨h1,ry⟩
  .rw[if_neg e,if_neg (λz=>e (h1.trans z))];exact⟨h1,h2⟩
theorem KV.put{kvs:List (κ×V)}{vs:List (κ×Value)}(r:KV kvs vs)(k:κ)(ry:RelV y u):KV (tW kvs k y) (stored vs k u):=by
 unfold tW stored;rw[r.any k]
 by_cases e:(vs.any λkv=>decide (kv.1=k))=Aa
 .rw[if_pos e,if_pos e];exact r.repl k ry
 .rw[if_neg e,if_neg e];exact Paired.snoc r ⟨rfl,ry⟩
theorem KV.length{kvs:List (κ×V)}{vs:List (κ×Value)}(r:KV kvs vs):kvs.length=vs.length:=Iz r
end
theorem Hy{w:World}{k:sP}(r:RelV (kV k) u):(BO P w).is k u=Aa:=by
 cases k with
 |inl i=>obtain⟨t,e⟩:=(show ∃t,u=C9 i t from r);subst e;exact lQ P w i t
 |inr x=>obtain⟨t,e⟩:=(show ∃t,u=Value.str x t from r);subst e;exact lS P w x t
theorem Xz{P:Program}{w:World}:∀{ks:List sP} {us:List Value},sL (ks.map kV) us->ItemsAre (BO P w) ks us
 |[],_,r=>by rw[Fl]at r;cases r;exact .nil
 |k::ks,_,r=>by
  rw[Ak]at r;cases r with
  |cons h t=>exact .cons (Hy h) (Xz t)
abbrev KT(H:Hp):List (List sP×V)->List (List sP×Addr×Value)->Prop:=Paired λp q=>p.1=q.1/\H q.2.1=Z (.tup (p.1.map kV))/\RelV p.2 q.2.2
theorem KT.val(r:KT H kvs xs)(k:List sP):D1 (AV kvs k) ((atKey xs k).map (·.2)):=by
 induction r with
 |nil=>exact Iu
 | @cons p q ps qs h t ih =>
  obtain⟨h1,_,h2⟩:=h
  by_cases e:p.1=k
  .have e':q.1=k:=h1.symm.trans e
   have b:atKey (q::qs) k=Z q.2:=by simp[atKey,Df,e']
   rw[Ib e,b];exact h2
  .have e':¬q.1=k:=λz=>e (h1.trans z)
   have b:atKey (q::qs) k=atKey qs k:=by simp[atKey,Df,e']
   rw[HZ e,b];exact ih
theorem KT.repl(r:KT H kvs xs)(k:List sP)(ry:RelV y u):KT H (kvs.map λkv=>if kv.1=k then(kv.1,y)else kv) (xs.map (putAt k u)):=by
 induction r with
 |nil=>exact .nil
 | @cons p q ps qs h t ih =>
  rw[Ak,Ak];refine .cons ?_ ih;obtain⟨h1,h2,h3⟩:=h;unfold putAt
  by_cases e:p.1=k
  .rw[if_pos e,if_pos (h1.symm.trans e)];exact⟨h1,h2,ry⟩
  .rw[if_neg e,if_neg (λz=>e (h1.trans z))];exact⟨h1,h2,h3⟩
theorem KT.put(r:KT H kvs xs)(k:List sP)(hb:H b=Z (.tup (k.map kV)))(ry:RelV y u):KT H (tW kvs k y) (storedH xs k b u):=by
 have e:(kvs.any λkv=>decide (kv.1=k))=(atKey xs k).isSome:=by rw[Nv,(r.val k).isSome_eq,Gg]
 unfold tW storedH;rw[e]
 by_cases q:(atKey xs k).isSome=Aa
 .rw[if_pos q,if_pos q];exact r.repl k ry
 .rw[if_neg q,if_neg q];exact Paired.snoc r ⟨rfl,hb,ry⟩
theorem KT.keeps(r:KT H kvs xs)(ht:∀b ys,H b=Z (.tup ys)->H' b=Z (.tup ys)):KT H' kvs xs :=
 Paired.mapP r λ_ _ z=>⟨z.1,ht _ _ z.2.1,z.2.2⟩
section
variable{P:Program}{w:World}{H:Hp}{h:Heap}{a:Addr}
theorem Km{u:HO}(ok:tK P w H h)(e:Rd H a u):ZZ P w H h a u:=e.ok ok
theorem Gw{kvs:List (sP×V)}(ok:tK P w H h)(e:Rd H a (.dK kvs)):kvs.length<=sizeLine/\(a==Dc)=Ab/\∃vs,KV kvs vs/\h.DictOf (BO P w) a vs :=
 show ZZ P w H h a (.dK kvs) from Km ok e
theorem P1{kvs:List (sP×V)}(ok:tK P w H h)(e:H a=Z (.dK kvs)):kvs.length<=sizeLine/\(a==Dc)=Ab/\∃vs,KV kvs vs/\h.DictOf (BO P w) a vs:=Gw ok (.inl e)
theorem HE{ks:List sP}(ok:tK P w H h)(e:H a=Z (.tup (ks.map kV))):(Hj (BO P w)).is h ks a:=by obtain⟨_,its,r,o,h1,h2,n,h3⟩:=(show ZZ P w H h a (.tup (ks.map kV)) from ok a _ e);exact⟨o,its.toArray,n,h1,h2,h3,by simpa using Xz r⟩
theorem HA(ok:tK P w H h)(e:Rd H a (.dT kvs)):kvs.length<=sizeLine/\(a==Dc)=Ab /\ ∃xs,KT H kvs xs/\h.DictOfH (Hj (BO P w)) a xs:=by
 obtain⟨z,y,xs,r,o,es,ep,h1,h2,h3,h4,h5⟩:=(show ZZ P w H h a (.dT kvs) from Km ok e);refine⟨z,y,xs,r,o,es,ep,h1,h2,h3,h4,λx hx=>?_,h5⟩;have all:∀{l:List (List sP×V)} {m:List (List sP×Addr×Value)},KT H l m->∀x∈m,(Hj (BO P w)).is h x.1 x.2.1:=by
  intro l m q
  induction q with
  |nil=>intro x hx;exact nomatch hx
  | @cons p q ps qs hq t ih =>
   intro x hx;rcases AE.mp hx with e|hx
   .subst e
    exact HE ok (by rw[<-hq.1];exact hq.2.1)
   .exact ih x hx
 exact all r x hx
theorem U9(ok:tK P w H h)(e:H a=Z (.dT kvs)):kvs.length<=sizeLine/\(a==Dc)=Ab /\ ∃xs,KT H kvs xs/\h.DictOfH (Hj (BO P w)) a xs:=HA ok (.inl e)
end
def BK(H:Hp)(a:Addr)(y:V)(r:Option V):Prop :=
 (∃kvs k,Rd H a (.dK kvs)/\y=kV k/\r=AV kvs k)\/∃kvs k b,Rd H a (.dT kvs)/\y=.ref b/\H b=Z (.tup (k.map kV))/\r=AV kvs k
def Ft(H:Hp)(a:Addr)(y v:V)(H':Hp):Prop :=
 (∃kvs k,H a=Z (.dK kvs)/\y=kV k/\kvs.length<sizeLine/\H'=upd H a (.dK (tW kvs k v))) \/
 ∃kvs k b,H a=Z (.dT kvs)/\y=.ref b/\H b=Z (.tup (k.map kV))/\kvs.length<sizeLine/\H'=upd H a (.dT (tW kvs k v))
theorem BK.k{H:Hp}{a:Addr}{kvs:List (sP×V)}{k:sP}(e:H a=Z (.dK kvs)):BK H a (kV k) (AV kvs k):=.inl ⟨kvs,k,.inl e,rfl,rfl⟩
theorem BK.t{k:List sP}(e:H a=Z (.dT kvs))(eb:H b=Z (.tup (k.map kV))):BK H a (.ref b) (AV kvs k):=.inr ⟨kvs,k,b,.inl e,rfl,eb,rfl⟩
theorem Ft.k{H:Hp}{a:Addr}{kvs:List (sP×V)}{k:sP}{v:V}(e:H a=Z (.dK kvs))(hl:kvs.length<sizeLine):Ft H a (kV k) v (upd H a (.dK (tW kvs k v))):=.inl ⟨kvs,k,e,rfl,hl,rfl⟩
theorem Ft.t{k:List sP}{v:V}(e:H a=Z (.dT kvs))(eb:H b=Z (.tup (k.map kV)))(hl:kvs.length<sizeLine):Ft H a (.ref b) v (upd H a (.dT (tW kvs k v))):=.inr ⟨kvs,k,b,e,rfl,eb,hl,rfl⟩
section
variable{X:Cx}{sI:List (Addr×Obj)}{Y:St}{H:Hp}{s:Shared}{a:Addr}{y v:V}{u r:Value}{o:Option V}{A:Around}{E:Value->Shared->Prop}
theorem Inv.big(I:Inv X sI Y H s):Dc<s.heap.objs.size:=by have h:Bh<s.heap.objs.size:=(I.mod.glob.keeps I.bk).lt;exact Dy (by decide) h
theorem jn(hu:A.units+1<cLine)(I:Inv X sI Y H s)(g:BK H a y (Z v))(ry:RelV y u)(h:∀w' s',Inv X sI Y H s'->RelV v w'->Q w' s'):wpAny (model X.prog X.w) A (getItem (.ref a) u) Q E s:=by
 rcases g with⟨kvs,k,e,ey,l⟩|⟨kvs,k,b,e,ey,eb,l⟩
 .subst ey
  obtain⟨z,hd,vs,tS,dd⟩:=Gw I.hok e;obtain⟨w',hw,rw'⟩:=D1.some_of (v:=v) (o:=valueAt vs k) (by rw[l];exact tS.val k);exact wpAny_getItem_of (Hy ry) dd.mapOf hw (h w' _ (I.tok _) rw')
 .subst ey
  cases(show u=Bb b from ry);obtain⟨z,hd,xs,tS,dd⟩:=HA I.hok e;obtain⟨w',hw,rw'⟩:=D1.some_of (v:=v) (o:=(atKey xs k).map (·.2)) (by rw[l];exact tS.val k);obtain⟨p,hp,hp2⟩:=Ai.mp hw;refine wpAny_getItem_heap (J8 hu) (HE I.hok eb) dd hp ?_;rw[hp2];exact h w' _ (I.tok _) rw'
theorem pZ(hu:A.units+1<cLine)(I:Inv X sI Y H s)(g:BK H a y o)(ry:RelV y u)(h:∀s',Inv X sI Y H s'->Q (.bool o.isSome) s'):wpAny (model X.prog X.w) A (BQ .In u (.ref a)) Q E s:=by
 rcases g with⟨kvs,k,e,ey,l⟩|⟨kvs,k,b,e,ey,eb,l⟩
 .subst ey
  obtain⟨z,hd,vs,tS,dd⟩:=Gw I.hok e;refine wpAny_in_of (Hy ry) hd dd.mapOf ?_;rw[<-(tS.val k).isSome_eq,<-l];exact h _ (I.tok _)
 .subst ey
  cases(show u=Bb b from ry);obtain⟨z,hd,xs,tS,dd⟩:=HA I.hok e;refine wpAny_in_heap (J8 hu) (HE I.hok eb) hd dd ?_;have q:=(tS.val k).isSome_eq;rw[Gg]at q;rw[<-q,<-l];exact h _ (I.tok _)
theorem g8(hu:A.units+1<cLine)(I:Inv X sI Y H s)(g:BK H a y o)(ry:RelV y u)(h:∀s',Inv X sI Y H s'->Q (.bool (!o.isSome)) s'):wpAny (model X.prog X.w) A (BQ .NotIn u (.ref a)) Q E s:=by
 rcases g with⟨kvs,k,e,ey,l⟩|⟨kvs,k,b,e,ey,eb,l⟩
 .subst ey
  obtain⟨z,hd,vs,tS,dd⟩:=Gw I.hok e;refine wpAny_notIn_of (Hy ry) hd dd.mapOf ?_;rw[<-(tS.val k).isSome_eq,<-l];exact h _ (I.tok _)
 .subst ey
  cases(show u=Bb b from ry);obtain⟨z,hd,xs,tS,dd⟩:=HA I.hok e;refine wpAny_notIn_heap (J8 hu) (HE I.hok eb) hd dd ?_;have q:=(tS.val k).isSome_eq;rw[Gg]at q;rw[<-q,<-l];exact h _ (I.tok _)
theorem M5{t':Nat}{ob:HO}(I:Inv X sI Y H s)(mu:zU (H a))(hs:EB a s.heap h')(he:∃q,h'.get? a=Z q)(new:ZZ X.prog X.w (upd H a ob) h' a ob):Inv X sI Y (upd H a ob) {s with heap:=h',toks:=t'} :=
 I.write (x:=a) (e:=a) mu (.inl rfl) (λb q hb z=>(hs.2 b hb).trans z) he new
theorem Vl{w:World}{kvs:List (sP×V)}{vs:List (sP×Value)}(z:kvs.length<=sizeLine)(hd:(a==Dc)=Ab)(tS:KV kvs vs)(dd:h'.DictOf (BO P w) a vs):ZZ P w H' h' a (.dK kvs):=⟨z,hd,vs,tS,dd⟩
theorem jM{Q:Unit->Shared->Prop}(hu:A.units+1<cLine)(I:Inv X sI Y H s)(g:Ft H a y v H')(ry:RelV y u)(rv:RelV v r)(h:∀s',Inv X sI Y H' s'->Q () s'):wpAny (model X.prog X.w) A (setItem (.ref a) u r) Q E s:=by
 rcases g with⟨kvs,k,e,ey,l,eH⟩|⟨kvs,k,b,e,ey,eb,l,eH⟩
 .subst ey eH
  obtain⟨z,hd,vs,tS,dd⟩:=P1 I.hok e;have hz:vs.length<=sizeLine:=by rw[<-tS.length];exact z
  have hl:(tW kvs k v).length<=sizeLine:=by have:=RD kvs k v;omega
  refine wpAny_setItem_pairs (hsz:=hz) (Hy ry) dd λh' dd' hs=>h _ ?_;have he:∃q,h'.get? a=Z q:=let ⟨q,_,_,hq,_⟩:=dd';⟨q,hq⟩
  exact M5 I (by rw[e];exact Iu) hs he (Vl hl hd (tS.put k rv) dd')
 .subst ey eH
  cases(show u=Bb b from ry);obtain⟨z,hd,xs,tS,dd⟩:=U9 I.hok e;have hz:xs.length<=sizeLine:=by rw[<-Iz tS];exact z
  have hl:(tW kvs k v).length<=sizeLine:=by have:=RD kvs k v;omega
  refine wpAny_setItem_heap (hsz:=hz) (J8 hu) (HE I.hok eb) dd λh' dd' hs=>h _ ?_;obtain⟨q,es,ep,hq,h2,h3,h4,_,h5⟩:=dd';refine M5 I (by rw[e];exact Iu) hs ⟨q,hq⟩ ⟨hl,hd,_,(tS.put k eb rv).keeps λc ys ec=>?_,q,es,ep,hq,h2,h3,h4,h5⟩;rw[ZB (Vc ec e (λz=>nomatch z))];exact ec
end
section
variable{X:Cx}{sI:List (Addr×Obj)}{Y:St}{H:Hp}{s:Shared}{a:Addr}{kvs:List (sP×V)}{k:sP}{u:Value}{A:Around}{E:Value->Shared->Prop}
theorem bQ(I:Inv X sI Y H s)(e:Rd H a (.dK kvs))(h:∀t s',Inv X sI Y H s'->Q (.int kvs.length t) s'):wpAny (model X.prog X.w) A (call (.builtin "len") [.ref a]) Q E s:=by obtain⟨z,hd,vs,tS,dd⟩:=Gw I.hok e;refine call_len_dict hd dd (by rw[<-tS.length];rw[Bo]at z;omega) ?_;rw[<-tS.length];exact h _ _ (I.tok _)
end
def Kc(i:Expr):Prop:=∀ov iv,O2 i Ab ov iv=operate [ov,iv] (getItem ov iv)
theorem eI{prog:Program}{w:World}{A:Around}{E:Value->Shared->Prop}{env:Env}{value t5:Expr}{T id:String}(hl:typeLookup (.type T) "__getitem__"=pure (Z (.builtin id)))(hs:Kc t5)(h:wpAny (model prog w) A (eval value env) (λo s₁=>wpAny (model prog w) A (eval t5 env) (λi s₂=>s₂.TypeIs o T/\wpAny (model prog w) A (getItem o i) Q E s₂) E s₁) E s):wpAny (model prog w) A (eval (.Subscript value t5 pos) env) Q E s:=by
 refine Subscript_ (Bw h (λo s₁ h₁=>Bw h₁ (λi s₂ h₂=>?_) λ_ _ x=>x) λ_ _ x=>x);obtain⟨hT,h₂⟩:=h₂;unfold subscriptTail;refine Ac ?_;rw[getitemInPython_of_ne hT.not_modules];refine Ac (wpAny_specialOf hT hl ?_);have tL:wpAny (model prog w) A (O2 t5 Ab o i) (λr s₃=>wpAny (model prog w) A (letTemporaryGo value o r >>= λ_=>pure r) Q E s₃) E s₂:=by rw[hs o i];exact wpAny_operating (Bw h₂ (λr s₃ h₃=>Ac (wpAny_letTemporaryGo (Ag h₃))) λ_ _ x=>x)
 first
  |exact Ag (Ac tL)
  |exact Ac (Ag (Ac tL))
  |exact Ac tL
theorem lU(I:Inv X sI Y H s)(g:BK H a y o):s.TypeIs (.ref a) "dict":=by
 rcases g with⟨kvs,k,e,_,_⟩|⟨kvs,k,b,e,_,_,_⟩
 .obtain⟨_,_,vs,_,dd⟩:=Gw I.hok e
  exact dd.typeIs
 .obtain⟨_,_,xs,_,dd⟩:=HA I.hok e
  exact dd.typeIs
def cF(td ty:TE):TE:=λY H Q=>td Y H λx H1=>ty Y H1 λy H2=>∃a v,x=.ref a/\BK H2 a y (Z v)/\Q v H2
def qa(ty td:TE):TE:=λY H Q=>ty Y H λy H1=>td Y H1 λx H2=>∃a o,x=.ref a/\BK H2 a y o/\Q (.bl o.isSome) H2
def eT(ty td:TE):TE:=λY H Q=>ty Y H λy H1=>td Y H1 λx H2=>∃a o,x=.ref a/\BK H2 a y o/\Q (.bl (!o.isSome)) H2
def bT(td ty tv:TE):TS:=λD Y H=>tv Y H λv H1=>td Y H1 λx H2=>ty Y H2 λy H3=>∃a H4,x=.ref a/\Ft H3 a y v H4/\D.nx Y H4
section
variable{X:Cx}{o i e value:Expr}{pos pos' tpos:Pos}{td ty tv:TE}
theorem QE(hu:X.A.units+1<cLine)(ho:PE X o td)(hi:PE X i ty)(hs:Kc i):PE X (.Subscript o i pos) (cF td ty):=by intro sI s Y H Q I h;refine eI PySem.F.slot_dict_getitem.lookup hs (sS (ho sI s Y H _ I h) λu s1 ⟨x,H1,I1,rx,q1⟩=>sS (hi sI s1 Y H1 _ I1 q1) λiv s2 ⟨y,H2,I2,ry,a,v,ex,g,q2⟩=>?_);subst ex;obtain rfl:u=Bb a:=rx;exact⟨lU I2 g,jn hu I2 g ry λw' s3 I3 rw'=>⟨v,H2,I3,rw',q2⟩⟩
theorem cn(hu:X.A.units+1<cLine)(hi:PE X i ty)(ho:PE X o td):PC X .In i o (qa ty td):=by intro sI s Y H Q I h;refine sS (hi sI s Y H _ I h) λiv s1 ⟨y,H1,I1,ry,q1⟩=>sS (ho sI s1 Y H1 _ I1 q1) λu s2 ⟨x,H2,I2,rx,a,ov,ex,g,q2⟩=>?_;subst ex;obtain rfl:u=Bb a:=rx;exact pZ hu I2 g ry λs3 I3=>⟨.bl ov.isSome,H2,I3,rfl,q2⟩
theorem X7(hu:X.A.units+1<cLine)(hi:PE X i ty)(ho:PE X o td):PC X .NotIn i o (eT ty td):=by intro sI s Y H Q I h;refine sS (hi sI s Y H _ I h) λiv s1 ⟨y,H1,I1,ry,q1⟩=>sS (ho sI s1 Y H1 _ I1 q1) λu s2 ⟨x,H2,I2,rx,a,ov,ex,g,q2⟩=>?_;subst ex;obtain rfl:u=Bb a:=rx;exact g8 hu I2 g ry λs3 I3=>⟨.bl (!ov.isSome),H2,I3,rfl,q2⟩
theorem Qr(hu:X.A.units+1<cLine)(ho:PE X o td)(hi:PE X i ty)(hv:PE X value tv)(hs:DB value (Z (.Subscript o i pos')) pos.line X.env=pure Ab):PS X (.Assign [.Subscript o i pos'] value pos) (bT td ty tv):=by
 intro sI s Y H D I h;refine wpAny_Assign_Subscript (sS (hv sI s Y H _ I h) λr s1 ⟨v,H1,I1,rv,q1⟩=>sS (ho sI s1 Y H1 _ I1 q1) λu s2 ⟨x,H2,I2,rx,q2⟩=>sS (hi sI s2 Y H2 _ I2 q2) λiv s3 ⟨y,H3,I3,ry,a,H4,ex,g,q3⟩=>?_) hs;subst ex;obtain rfl:u=Bb a:=rx;exact jM hu I3 g ry rv λs4 I4=>⟨Y,H4,I4,q3⟩
end
theorem W7{w:World}(h:Heap)(hb:Dc<h.objs.size):ZZ P w H (h.push {cls:=.type "dict",data:=.dict #[]}) h.objs.size (.dK []) :=
 ⟨BY _,beq_eq_false_iff_ne.mpr (A8 (As hb)),[],.nil,Heap.DictOf.new h⟩
theorem iI{w:World}(h:Heap)(hb:Dc<h.objs.size):ZZ P w H (h.push {cls:=.type "dict",data:=.dict #[]}) h.objs.size (.dT []) :=
 ⟨BY _,beq_eq_false_iff_ne.mpr (A8 (As hb)),[],.nil,_,#[],0,AZ _ rfl,⟨rfl,rfl,rfl⟩,rfl,rfl,Fo⟩
def c9:TE:=λ_ H Q=>∀p,H p=J->Q (.ref p) (upd H p (.dK []))
def el:TE:=λ_ H Q=>∀p,H p=J->Q (.ref p) (upd H p (.dT []))
section
variable{X:Cx}{pos:Pos}
theorem iz:PE X (.Dict [] [] pos) c9:=λsI s Y H Q I h=>wpAny_Dict_empty ⟨.ref s.heap.objs.size,_,I.laid (a:=s.heap.objs.size) (o:=.dK []) (t':=s.toks) (λ_ _ q=>Ar _ q) (Aj _) (W7 s.heap I.big),rfl,h _ (I.hok.fresh (Aj _))⟩
theorem Xq:PE X (.Dict [] [] pos) el:=λsI s Y H Q I h=>wpAny_Dict_empty ⟨.ref s.heap.objs.size,_,I.laid (a:=s.heap.objs.size) (o:=.dT []) (t':=s.toks) (λ_ _ q=>Ar _ q) (Aj _) (iI s.heap I.big),rfl,h _ (I.hok.fresh (Aj _))⟩
end
def Qf:List (TE×TE)->St->Hp->(List (V×V)->Hp->Prop)->Prop
 |[],_,H,Q=>Q [] H
 |(tk,tv)::r,Y,H,Q=>tk Y H λx H1=>tv Y H1 λy H2=>Qf r Y H2 λps H3=>Q ((x,y)::ps) H3
abbrev VV:List (V×V)->List (Value×Value)->Prop:=Paired λp q=>RelV p.1 q.1/\RelV p.2 q.2
def PPs(X:Cx)(pos:Pos)(vH:List (Option Expr))(va:List Expr)(xJ:List (TE×TE)):Prop :=
 ∀(sI:List (Addr×Obj)) (s:Shared) (Y:St) (H:Hp) (Q:List (V×V)->Hp->Prop),Inv X sI Y H s->Qf xJ Y H Q ->
  wpAny (model X.prog X.w) X.A (evalPairs (pairTrees vH va X.env pos)) (λvs s'=>∃ps H',Inv X sI Y H' s'/\VV ps vs/\Q ps H') X.xe s
theorem gU:PPs X pos [] [] []:=λsI s Y H Q I h=>pairTrees_nil_walk ⟨[],H,I,.nil,h⟩
theorem ik{k v:Expr}{ks:List (Option Expr)}{vs:List Expr}{tk tv:TE}{xJ:List (TE×TE)}(hk:PE X k tk)(hv:PE X v tv)(hr:PPs X pos ks vs xJ):PPs X pos (Z k::ks) (v::vs) ((tk,tv)::xJ):=λsI s Y H Q I h =>
 pairTrees_cons_walk (sS (hk sI s Y H _ I h) λu s1 ⟨x,H1,I1,rx,q1⟩=>sS (hv sI s1 Y H1 _ I1 q1) λw2 s2 ⟨y,H2,I2,ry,q2⟩=>sS (hr sI s2 Y H2 _ I2 q2) λws s3 ⟨ps,H3,I3,tS,q3⟩=>⟨(x,y)::ps,H3,I3,.cons ⟨rx,ry⟩ tS,q3⟩)
def Jc(kvs more:List (sP×V)):List (sP×V):=more.foldl (λacc kv=>tW acc kv.1 kv.2) kvs
theorem KV.merge:∀{more:List (sP×V)} {rs:List (sP×Value)} {kvs:List (sP×V)} {vs:List (sP×Value)},KV more rs->KV kvs vs->KV (Jc kvs more) (merged vs rs):=by
 intro more rs kvs vs r;unfold KV at r
 induction r generalizing kvs vs with
 |nil=>intro q;exact q
 | @cons p q ps qs h t ih =>
  intro r0;have e:KV (tW kvs p.1 p.2) (stored vs q.1 q.2):=by have:=r0.put p.1 h.2;rw[<-h.1];exact this
  exact ih e
theorem Y2:∀(more kvs:List (sP×V)),(Jc kvs more).length<=kvs.length+more.length
 |[],kvs=>by show kvs.length<=kvs.length+0;omega
 |p::r,kvs=>by have h1:=Y2 r (tW kvs p.1 p.2);have h2:=RD kvs p.1 p.2;show(Jc (tW kvs p.1 p.2) r).length<=_;rw[AD];omega
theorem Ys{P:Program}{w:World}:∀{kvs:List (sP×V)} {ws:List (Value×Value)},VV (kvs.map λkv=>(kV kv.1,kv.2)) ws->∃rs,Carries (BO P w) ws rs/\KV kvs rs
 |[],_,r=>by rw[Fl]at r;cases r;exact⟨[],Iu,.nil⟩
 |p::kvs,_,r=>by
  rw[Ak]at r;cases r with
  | @cons a b as bs h t=>obtain⟨rs,c,q⟩:=Ys (P:=P) (w:=w) t;obtain⟨b1,b2⟩:=b;exact⟨(p.1,b2)::rs,⟨Hy h.1,rfl,c⟩,.cons ⟨rfl,h.2⟩ q⟩
def cK(xJ:List (TE×TE)):TE:=λY H Q=>∀p,H p=J->Qf xJ Y (upd H p (.dK [])) λps H2=>H2 p=Z (.dK [])/\∃kvs:List (sP×V),ps=kvs.map (λkv=>(kV kv.1,kv.2))/\kvs.length<=15/\Q (.ref p) (upd H2 p (.dK (Jc [] kvs)))
theorem eE{vH:List (Option Expr)}{va:List Expr}{xJ:List (TE×TE)}(h:PPs X pos vH va xJ)(ur:vH.all (·.isSome)=Aa)(hl:vH.length=va.length)(h0:vH≠[])(h15:vH.length<=15):PE X (.Dict vH va pos) (cK xJ):=by
 intro sI s Y H Q I q;have hn:=I.hok.fresh (Aj s.heap.objs.size);have I1:=I.laid (a:=s.heap.objs.size) (o:=.dK []) (h':=s.heap.push {cls:=.type "dict",data:=.dict #[]}) (t':=s.toks) (λ_ _ q=>Ar _ q) (Aj _) (W7 s.heap I.big);refine wpAny_Dict_walk (knd:=BO X.prog X.w) ur hl h0 h15 (sS (h sI _ Y _ _ I1 (q _ hn)) λws s2 ⟨ps,H2,I2,tS,e,kvs,ep,lk,q2⟩=>?_);subst ep;obtain⟨rs,c,rk⟩:=Ys (P:=X.prog) (w:=X.w) tS;obtain⟨z,hd,vs0,r0,dd⟩:=P1 I2.hok e;cases r0;refine⟨rs,c,dd,λh' dd' hs=>⟨.ref s.heap.objs.size,_,?_,rfl,q2⟩⟩;have hz:(Jc [] kvs).length<=sizeLine:=by have h1:=Y2 kvs [];rw[Mn]at h1;rw[Bo];omega
 have he:∃q,h'.get? s.heap.objs.size=Z q:=let ⟨q,_,_,hq,_⟩:=dd';⟨q,hq⟩
 exact M5 I2 (by rw[e];exact Iu) hs he (Vl hz hd (rk.merge .nil) dd')
structure M2(X:Cx)(o:Expr)(m:Str)(uu:Pos)(e f:Expr)(tE:Pos):Prop where
 base:Hg o m X.env (eval o X.env)=eval o X.env
 few:((backTo tE (Ad [e,f] X.env)).all (λx=>!x.1)&&(JP tE (JQ [] X.env)).all (λx=>x.1.isSome)
  && decide (([e,f]:List Expr).length+([]:List Keyword).length+(if([]:List Keyword).isEmpty then 0 else 1)<30))=Aa
 line:(uu.endLine==tE.line)=Aa
 trees:backTo tE (Ad [e,f] X.env)=[(Ab,eval e X.env),(Ab,eval f X.env)]
def IsD(H:Hp)(a:Addr):Prop:=(∃kvs,Rd H a (.dK kvs))\/∃kvs,Rd H a (.dT kvs)
theorem VL(I:Inv X sI Y H s)(d:IsD H a):s.TypeIs (.ref a) "dict"/\(∀b,Bb a=.ref b->∃ob,s.heap.get? b=Z ob/\ob.dict=J)/\(a==Dc)=Ab:=by
 rcases d with⟨kvs,e⟩|⟨kvs,e⟩
 .obtain⟨_,hd,vs,_,dd⟩:=Gw I.hok e
  refine⟨dd.typeIs,λb q=>?_,hd⟩;cases q;obtain⟨ob,_,_,h1,h2,_⟩:=dd;exact⟨ob,h1,h2.2.1⟩
 .obtain⟨_,hd,xs,_,dd⟩:=HA I.hok e
  refine⟨dd.typeIs,λb q=>?_,hd⟩;cases q;obtain⟨ob,_,_,h1,h2,_⟩:=dd;exact⟨ob,h1,h2.2.1⟩
section
variable{X:Cx}{sI:List (Addr×Obj)}{Y:St}{H:Hp}{s:Shared}{a:Addr}{y d:V}{u r:Value}{o:Option V}{A:Around}{E:Value->Shared->Prop}
theorem dA(hu:A.units+1<cLine)(I:Inv X sI Y H s)(g:BK H a y o)(ry:RelV y u)(rd:RelV d r)(h:∀w' s',Inv X sI Y H s'->RelV (o.getD d) w'->Q w' s'):wpAny (model X.prog X.w) A (call (.builtin "dict.get") [.ref a,u,r]) Q E s:=by
 rcases g with⟨kvs,k,e,ey,l⟩|⟨kvs,k,b,e,ey,eb,l⟩
 .subst ey
  obtain⟨z,hd,vs,tS,dd⟩:=Gw I.hok e;refine call_meetsIn UE dd.typeIs bL (bC _ _ _) (meets_dict_get_default (BO X.prog X.w) a (Hy ry) hd r) ⟨_,dd.mapOf,h _ _ (I.tok _) ?_⟩;rw[l];exact(tS.val k).getD rd
 .subst ey
  cases(show u=Bb b from ry);obtain⟨z,hd,xs,tS,dd⟩:=HA I.hok e;refine call_meetsIn UE dd.typeIs bL (bC _ _ _) (meetsH_dict_get_default (Hj (BO X.prog X.w)) a b hd r) ⟨J8 hu,k,xs,HE I.hok eb,dd,h _ _ (I.tok _) ?_⟩;rw[l];exact(tS.val k).getD rd
end
def cY(td ty tx:TE):TE:=λY H Q=>td Y H λx H1=>∃a,x=.ref a/\IsD H1 a/\ty Y H1 λy H2=>tx Y H2 λz H3=>∃o,BK H3 a y o/\Q (o.getD z) H3
section
variable{X:Cx}{o e f:Expr}{uu tE:Pos}{td ty tx:TE}
theorem iK(hu:X.A.units+1<cLine)(ho:PE X o td)(he:PE X e ty)(hf:PE X f tx)(m:M2 X o "get" uu e f tE):PE X (.Call (.Attribute o "get" uu) [e,f] [] tE) (cY td ty tx):=by intro sI s Y H Q I h;refine wpAny_Call_method m.base m.few m.line bB UE PySem.F.type_dict_get (sS (ho sI s Y H _ I h) λu s1 ⟨x,H1,I1,rx,a,ex,d,q1⟩=>?_);subst ex;obtain rfl:u=Bb a:=rx;obtain⟨t1,t2,_⟩:=VL I1 d;refine⟨t1,t2,?_⟩;rw[m.trees];refine PF rfl (PB (Ml (sS (he sI s1 Y H1 _ I1 q1) λiv s2 ⟨y,H2,I2,ry,q2⟩=>Ml (sS (hf sI s2 Y H2 _ I2 q2) λfv s3 ⟨z,H3,I3,rz,ov,g,q3⟩=>T3 ?_))));exact dA hu I3 g ry rz λw' s4 I4 rw'=>⟨_,H3,I4,rw',q3⟩
end
end
end L2
namespace Att
open PySem PySem.W PySem.Calls PyProof.Rows
variable{h:Heap}{n:Nat}
theorem oK{P:Params}:∀(ns:List Int) (vs:List Value),WellAll P h vs (ns.map WData.int)->IntsAre vs ns:=by
 intro ns
 induction ns with
 |nil=>intro vs w;rw[Fl]at w;cases w;exact .nil
 |cons n ns ih =>
  intro vs w;rw[Ak]at w;cases w with
  |cons a b=>cases a;exact .cons _ _ (ih _ b)
theorem jF{l:OpenLaw}(hn:l.most=Z n){P:Params}{args:List WData}{yQ:List Value}(xW:l.row.toRowW.claim.pre args=Aa)(hwl:WellAll P h yQ args):∃a vs ns,yQ=[Bb a]/\args=[WData.list (ns.map WData.int)]/\h.get? a=Z {cls:=.type "list",data:=.seq vs.toArray}/\IntsAre vs ns/\ns.length<=n:=by
 have zB:WShape.hasAll [] args [.list .int]=Aa:=(pre_splitW xW).1;have hc:l.pre.holds [] {args:=args}=Aa:=(pre_splitW xW).2;obtain⟨d,r,rfl,h1,h2⟩:=hasAllW_cons zB;obtain rfl:=hasAllW_nil h2;obtain⟨xs,rfl,h3⟩:=hasW_list h1;obtain⟨ns,rfl⟩:=items_int h3;have sJ:ns.length<=n:=by
  unfold OpenLaw.pre at hc;have h4:(WTm.not (.lt (.lit (.int (n:Int))) (.len (.arg 0)))).holds [] {args:=[.list (ns.map .int)]}=Aa:=by have h4:=(holds_andW hc).1;rw[hn]at h4;exact h4
  have h5:=condW_of h4 (w_not (w_lt w_lit (w_len_list (w_arg rfl))));rw[Af]at h5;refine JV λq=>?_;have q':(n:Int)<((ns.length:Nat):Int):=by omega
  first
   |(rw[decide_eq_true q']at h5;exact absurd h5 (by decide))
   |(simp at h5;omega)
 cases hwl with
 |cons w1 w2 =>
  cases w2;cases w1 with
  |list ho ur=>exact⟨_,_,ns,rfl,rfl,ho,oK ns _ ur,sJ⟩
theorem jt(l:OpenLaw)(args:List WData):l.row.toRowW.claim.post args (.bool Aa) args=Aa :=
 postW_of (r:=l.row.toRowW) (X:=(Aa==Aa))
  (show WShape.has [] (.bool Aa) .bool=Aa by first|rfl|decide|simp[WShape.has,WShape.arms,WShape.armsAll])
  (show(WTm.eq .res (.lit (.bool Aa))).value [] {args:=args,res:=Z (.bool Aa),after:=args}=Z (.bool (Aa==Aa)) from w_eq_bool (w_res rfl) w_lit) rfl
theorem qT{l:OpenLaw}{q:Program}{vn:List Str}{XP:(Str->Option Value)->Heap->Prop}{YP:World->Heap->Prop}{d:DefRec}(hn:l.most=Z n)(zI:d.params.defaults=[])
  (call:∀(w:World) (s₀ s₁:Shared) (mg mb:Str->Option Value) (fa:Addr) (o:Obj) (pm cd ui:Value) (a:Addr) (vs:List Value) (ns:List Int),
   Ground q vn [] XP w s₀ mg mb s₁.heap->YP w s₁.heap ->
   s₁.heap.get? fa=Z o->o.data=.func (docDef d.name d.params d.body d.scope pm cd ui)->s₁.heap.CodeRec cd d.name->mg d.name=Z (.ref fa) ->
   s₁.heap.get? a=Z {cls:=.type "list",data:=.seq vs.toArray}->IntsAre vs ns->ns.length<=n->s₁.gens=#[] ->
   codeAny (model l.prog w) callerA (.call (.ref fa) ⟨[.ref a],[]⟩) (λr s'=>r=.ok (.ret (.bool Aa))/\OldK s₁.heap s'.heap/\s'.os=s₁.os/\AllBare s'.gens) s₁):
  WalkO q vn XP YP l.row.toRowW d [] (λf vs=>PySem.call f vs):=by
 intro w s₀ s₁ mg mb G zZ fa o pm cd ui dV kV ho hd tF hD yo hg args yQ as xW hlay hrd hwl hlo;obtain rfl:dV=.none:=Dflts.none hD zI;obtain rfl:kV=.none:=Dflts.noKw hD;obtain⟨a,vs,ns,rfl,rfl,yU,xp,sJ⟩:=jF hn xW hwl;refine enter_call (Fm (call w s₀ s₁ mg mb fa o pm cd ui a vs ns G zZ ho (fd_plain hd) tF yo yU xp sJ hg) λr s' hq=>?_);obtain⟨rfl,h2,h3,h4⟩:=hq;exact⟨.inl ⟨.bool Aa,.bool Aa,[],rfl,λ_=>rfl,.bool Aa,jt l _,λ_=>⟨aN,λ_ hm=>(nomatch hm)⟩⟩,h2,h3,h4⟩
end Att
namespace L2
open PySem PySem.Spec PyProof.Rows
theorem XD:∀{vs:List Value} {ns:List Int},IntsAre vs ns->sL (ns.map V.int) vs
 |_,_,.nil=>.nil
 |_,_,.cons n t h=>.cons ⟨t,rfl⟩ (XD h)
section
variable{f:Addr}{H H':Hp}{A:Prop}{qual x:Str}
def D4(s:Stmt):Arguments:=match s with
 | .FunctionDef _ a _ _ _ _ _ _ _ _=>a
 |_=>{posonlyargs:=[],args:=[],vararg:=J,kwonlyargs:=[],kw_defaults:=[],kwarg:=J,defaults:=[]}
def BU(s:Stmt):List Stmt:=match s with
 | .FunctionDef _ _ b _ _ _ _ _ _ _=>b
 |_=>[]
def Ze(s:Stmt):Scope:=match s with
 | .FunctionDef _ _ _ _ _ _ sc _ _ _=>sc
 |_=>{kind:=.function,names:=[],isGenerator:=Ab,isCoroutine:=Ab}
abbrev vd:xH:=λ_ _ _ _ _ _=>False
abbrev E0:XK:=λ_ _ _=>False
theorem MD{X:Cx}:ub vd X E0:=λ_ _ _ _ _ _ _ h=>h.elim
structure vF(K:Ae)(x qual:Str)(st:Stmt)(f:Addr)(fd:FuncData):Prop where
 ex:∃(oc:Value) (od:Option Addr) (kV ui pm:Value) (an:Option Addr) (sO ct:Value) (vo:Array (Option Value)),
  fd=Dz x qual (D4 st) (BU st) (Ze st) .none kV ui pm an sO ct/\K.lookup f=Z ⟨oc,od,.func fd,vo⟩/\Ho K sO qual=Aa
 kp:Ef K (.ref f)=Aa
section
variable{P:Program}{w:World}{K:Ae}{mg:Str->Option Value}{base:Heap}
theorem vF.ok{x qual:Str}{st:Stmt}{f:Addr}{fd:FuncData}{N ps:List Str}{k:Nat}{sp:Sp}(F:vF K x qual st f fd)(S:Zs N ps (Ze st))(len:∀vs H Q E,sp vs H Q E->vs.length=ps.length)
  (uI:∀(sO:Value) (A:Around) (outer:List Env) (s:Shared) (H:Hp) (vs:List V) (Q:VK) (E:XK),ZP k (A.deeper (envOfC qual (Ze st) s.heap.objs.size f sO))->sp vs H Q E ->
   ∃t,uA (CO vd P w K mg base N qual (Ze st) f sO A outer s H E).nox (BU st) t/\t {nx:=λ_ H'=>Q .non H',rt:=Q} (start N vs) H):Cc P w K mg base vd (k+1) f fd ps sp:=by
 obtain⟨oc,od,kV,ui,pm,an,sO,ct,vo,rfl,lk,tF⟩:=F.ex;refine PY lk tF S len λA outer s H vs Q E hr yk=>?_;obtain⟨t,h,q⟩:=uI sO A outer s H vs Q E hr yk;exact⟨t,h.nox,q⟩
theorem vF.binds{st:Stmt}{fd:FuncData}{ps:List Str}(F:vF K x qual st f fd)(h:∀(kV ui pm:Value) (an:Option Addr) (sO ct:Value) (us:List Value),us.length=ps.length->Iw (Dz x qual (D4 st) (BU st) (Ze st) .none kV ui pm an sO ct) ⟨us,[]⟩=pure (ps.zip us)):Binds K fd ps []:=by
 obtain⟨oc,od,kV,ui,pm,an,sO,ct,vo,rfl,lk,tF⟩:=F.ex;exact .all (h kV ui pm an sO ct)
theorem Qg{st:Stmt}{oc:Value}{od an:Option Addr}{vo:Array (Option Value)}{kV ui pm sO ct:Value}(l:K.lookup f=Z ⟨oc,od,.func (Dz x qual (D4 st) (BU st) (Ze st) .none kV ui pm an sO ct),vo⟩)(c:Ho K sO qual=Aa)(k:Ef K (.ref f)=Aa):vF K x qual st f (Dz x qual (D4 st) (BU st) (Ze st) .none kV ui pm an sO ct):=⟨⟨oc,od,kV,ui,pm,an,sO,ct,vo,rfl,l,c⟩,k⟩
end
theorem DI{A:Around}{k:Nat}(hr:ZP k A):A.units+1<cLine:=Nat.lt_of_le_of_lt (Nat.add_le_add_left (by decide:1<=64) _) hr.units
theorem Hv{B:Prop}(h:B):if Ab=Aa then A else B:=by rw[if_neg Dh];exact h
theorem Hu{B:Prop}(h:A):if Aa=Aa then A else B:=by rw[if_pos rfl];exact h
def Zp(H H':Hp):Prop:=∀b o,H b=Z o->H' b=Z o
theorem Zp.refl(H:Hp):Zp H H:=λ_ _ h=>h
theorem Zp.trans{H1 H2:Hp}(a:Zp H H1)(b:Zp H1 H2):Zp H H2:=λc o h=>b c o (a c o h)
theorem Zp.free(e:Zp H H'){l:Addr}(h:H' l=Option.none):H l=Option.none:=by
 cases q:H l with
 |none=>rfl
 |some o=>rw[e l o q]at h;cases h
theorem Zp.seq{K:Ae}{a:Addr}{xs:List V}(e:Zp H H')(h:tU K H a xs):tU K H' a xs:=by
 rcases h with(h|⟨o,h⟩)|h
 .exact .inl (.inl (e _ _ h))
 .exact .inl (.inr ⟨o,e _ _ h⟩)
 .exact .inr h
end
section
variable{X:Cx}
theorem kB:A6 X (.builtin "len") (λxs H Q=>∃a kvs,xs=[V.ref a]/\H a=Z (.dK kvs)/\Q (.int kvs.length) H):=by intro sI s Y H xs us Q I r h;obtain⟨a,kvs,rfl,ha,q⟩:=h;obtain⟨u,rfl,ru⟩:=vals1 r;cases ru;exact bQ I (.inl ha) λt s' I'=>⟨.int kvs.length,H,I',⟨t,rfl⟩,q⟩
end
end L2
namespace HM
open PySem
abbrev D:=PyData
abbrev Ky:=Sum Int Str
inductive B where
 |pl (d:D)
 |ol (ds:List D)
 |ok (kvs:List (Ky×D))
 |ot (kvs:List (List Ky×D))
 |otl (kvs:List (List Ky×List D))
 |hd (es:List (D×D))
abbrev Env:=List (Option B)
inductive vW where
 |nx (r:Env)
 |rt (d:D)
 |bk (r:Env)
 |ct (r:Env)
abbrev EF:=Env->Option D
abbrev BF:=Env->Option B
abbrev TF:=Env->Option Bool
abbrev IF:=Env->Option (List D)
abbrev AF:=Env->Option (List D)
abbrev SF:=Env->Option vW
@[simp] def big:Nat:=1000000
@[simp] noncomputable def Za (i:Nat):EF:=λr=>match r[i]? with
 |some (Z (.pl d))=>Z d
 |_=>J
@[simp] noncomputable def Zo (i:Nat):BF:=λr=>match r[i]? with
 |some (Z b)=>Z b
 |_=>J
@[simp] noncomputable def sU (f:EF):BF:=λr=>(f r).map B.pl
def BS:Ky->D
 | .inl i=>.int i
 | .inr x=>.str x
noncomputable def Zn (kvs:List (List Ky×D)):List (D×D):=kvs.map λp=>(.tuple (p.1.map BS),p.2)
@[simp] noncomputable def frz:B->Option D
 | .pl d=>Z d
 | .ol ds=>Z (.list ds)
 | .ot kvs=>Z (.dict (Zn kvs))
 | .hd es=>Z (.dict es)
 |_=>J
@[simp] def uc(f:BF):EF:=λr=>(f r).bind frz
@[simp] noncomputable def eC (d:D):EF:=λ_=>Z d
@[simp] noncomputable def sM (g:D->D->Option D) (a b:EF):EF:=λr=>match a r with
 |some x=>match b r with
  |some y=>g x y
  |none=>J
 |none=>J
@[simp] noncomputable def Fw (g:Int->Int->Option D):D->D->Option D
 | .int i,.int j=>g i j
 |_,_=>J
def Z5(i:Int):Bool:=Nat.blt i.natAbs 18446744073709551616
@[simp] def A4(x y:D):Option D:=Fw (λi j=>Z (.int (i+j))) x y
@[simp] def Kk(x y:D):Option D:=Fw (λi j=>Z (.int (i-j))) x y
@[simp] def Cv(x y:D):Option D:=Fw (λi j=>if Z5 i||Z5 j then Z (.int (i*j))else J) x y
@[simp] def CQ(x y:D):Option D:=Fw (λi j=>if 0<j then Z (.int (i%j))else J) x y
@[simp] def xG(x y:D):Option D:=Fw (λi j=>Z (.bool (decide (i<j)))) x y
@[simp] def wU(x y:D):Option D:=Fw (λi j=>Z (.bool (decide (i<=j)))) x y
@[simp] def xb(x y:D):Option D:=Fw (λi j=>Z (.bool (decide (j<i)))) x y
def C2(d:D):Bool:=d.canLay0&&decide (d.depth<=60)
@[simp] def tT(a b:D):Option D:=if C2 a&&C2 b then Z (.bool (BR a b))else J
@[simp] def zO(a b:D):Option D:=if C2 a&&C2 b then Z (.bool (!PyData.eqv a b))else J
@[simp] def Gu(a b:D):Option D:=match b with
 | .none=>match a with
  | .none=>Z (.bool Aa)
  |_=>Z (.bool Ab)
 |_=>J
@[simp] def CB(a b:D):Option D:=match b with
 | .none=>match a with
  | .none=>Z (.bool Ab)
  |_=>Z (.bool Aa)
 |_=>J
@[simp] def Ye(g g':D->D->Option D)(a b c:EF):EF:=λr=>match a r with
 |some x=>match b r with
  |some y=>match g x y with
   |some (.bool Aa)=>match c r with
    |some z=>g' y z
    |none=>J
   |some (.bool Ab)=>Z (.bool Ab)
   |_=>J
  |none=>J
 |none=>J
@[simp] def Gr(a b:EF):EF:=λr=>match a r with
 |some (.bool Aa)=>b r
 |some (.bool Ab)=>Z (.bool Ab)
 |_=>J
@[simp] noncomputable def tV (a:EF):TF:=λr=>match a r with
 |some (.bool b)=>Z b
 |_=>J
@[simp] def Cj(a:TF):TF:=λr=>(a r).map (!·)
@[simp] def Cm(a b:TF):TF:=λr=>match a r with
 |some Aa=>b r
 |some Ab=>Z Ab
 |none=>J
@[simp] def wq(a b:TF):TF:=λr=>match a r with
 |some Aa=>Z Aa
 |some Ab=>b r
 |none=>J
@[simp] def eIf(c:TF)(a b:EF):EF:=λr=>match c r with
 |some Aa=>a r
 |some Ab=>b r
 |none=>J
@[simp] noncomputable def B8:B->Option (List D)
 | .pl (.tuple ds)=>Z ds
 | .pl (.list ds)=>Z ds
 | .ol ds=>Z ds
 |_=>J
def wu(n:Nat)(i:Int):Option Nat :=
 if 0<=i then(if i<n then Z i.toNat else J)else(if -(n:Int)<=i then Z (i+n).toNat else J)
noncomputable def vE (ds:List D) (i:Int):Option D:=match wu ds.length i with
 |some j=>ds[j]?
 |none=>J
@[simp] def tJ(a:BF)(b:EF):EF:=λr=>match a r with
 |some x=>match B8 x with
  |some ds=>match b r with
   |some (.int i)=>vE ds i
   |_=>J
  |none=>J
 |none=>J
@[simp] def pH:B->Option Nat
 | .pl (.tuple ds)=>Z ds.length
 | .pl (.list ds)=>Z ds.length
 | .ol ds=>Z ds.length
 | .ok kvs=>Z kvs.length
 |_=>J
@[simp] def AJ(a:BF):EF:=λr=>match a r with
 |some x=>(pH x).map λ(n:Nat)=>AB (n:Int)
 |none=>J
@[simp] def C4(a:BF):EF:=λr=>match a r with
 |some x=>(B8 x).map λds=>.tuple ds
 |none=>J
@[simp] def RC(a:BF):BF:=λr=>match a r with
 |some x=>(B8 x).map λds=>.ol ds
 |none=>J
def FA:List D->Option (List Bool)
 |[]=>Z []
 | .bool b::r=>(FA r).map (b::·)
 |_::_=>J
@[simp] noncomputable def EN:B->Option (List D)
 | .pl (.list ds)=>Z ds
 | .ol ds=>Z ds
 |_=>J
@[simp] def Hx(a:BF):EF:=λr=>match a r with
 |some x=>match EN x with
  |some ds=>(FA ds).map λbs=>.bool (bs.all id)
  |none=>J
 |none=>J
@[simp] def MT(a:BF):EF:=λr=>match a r with
 |some x=>match EN x with
  |some ds=>(FA ds).map λbs=>.bool (bs.any id)
  |none=>J
 |none=>J
@[simp] def Zh:AF:=λ_=>Z []
@[simp] def Zb(a:EF)(b:AF):AF:=λr=>match a r with
 |some x=>(b r).map (x::·)
 |none=>J
@[simp] def Br(a:AF):EF:=λr=>(a r).map λds=>.tuple ds
@[simp] def AY(a:AF):BF:=λr=>(a r).map λds=>.ol ds
inductive Ty where
 |bool|int|str|tuple|list|dict
@[simp] noncomputable def pD:Ty->D->Bool
 | .bool,.bool _=>Aa
 | .int,.int _=>Aa
 | .int,.bool _=>Aa
 | .str,.str _=>Aa
 | .tuple,.tuple _=>Aa
 | .list,.list _=>Aa
 | .dict,.dict _=>Aa
 |_,_=>Ab
@[simp] def K2(a:EF)(t:Ty):EF:=λr=>match a r with
 |some (.dict _)=>J
 |some d=>Z (.bool (pD t d))
 |none=>J
@[simp] def dD(x y:D):Option D:=Fw (λi j=>Z (.int (if j > i then j else i))) x y
@[simp] def da(x y:D):Option D:=Fw (λi j=>Z (.int (if j<i then j else i))) x y
@[simp] def m6(a:EF):EF:=λr=>match a r with
 |some (.int i)=>Z (.int i)
 |some (.bool b)=>Z (.int (if b then 1 else 0))
 |_=>J
@[simp] def MW(a b:BF):BF:=λr=>match a r with
 |some (.ol xs)=>match b r with
  |some (.ol ys)=>if xs.length+ys.length<big then Z (.ol (xs++ys))else J
  |_=>J
 |_=>J
@[simp] def iw(a:BF)(b:EF):BF:=λr=>match a r with
 |some (.ol xs)=>match b r with
  |some (.int k)=>if decide (k.natAbs<1000)&&decide (xs.length<1000)then Z (.ol (Bl k.toNat xs).flatten)else J
  |_=>J
 |_=>J
def zw(n d:Nat):Option Int->Nat
 |none=>d
 |some v=>if v<0 then(v+(n:Int)).toNat else min v.toNat n
noncomputable def cutD (xs:List D) (lo hi:Option Int):List D:=(xs.drop (zw xs.length 0 lo)).take (zw xs.length xs.length hi-zw xs.length 0 lo)
@[simp] def V0(a:Option EF)(r:Env):Option (Option Int):=match a with
 |none=>Z J
 |some f=>match f r with
  |some (.int i)=>Z (Z i)
  |_=>J
@[simp] def iM(a:BF)(lo hi:Option EF):BF:=λr=>match a r with
 |some x=>match EN x with
  |some xs=>match V0 lo r with
   |some l=>match V0 hi r with
    |some h=>Z (.ol (cutD xs l h))
    |none=>J
   |none=>J
  |none=>J
 |none=>J
noncomputable def BP:List D->Option (List Int)
 |[]=>Z []
 | .int i::r=>(BP r).map (i::·)
 |_::_=>J
def Jf:List D->Option (List (List Int))
 |[]=>Z []
 | .tuple ds::r=>match BP ds with
  |some ns=>(Jf r).map (ns::·)
  |none=>J
 |_::_=>J
def lexLt:List Int->List Int->Bool
 |[],[]=>Ab
 |[],_::_=>Aa
 |_::_,[]=>Ab
 |a::r,b::q=>if a=b then lexLt r q else decide (a<b)
noncomputable def sortI (ns:List Int):List Int:=ns.mergeSort λa b=>decide (a<=b)
def CY(ts:List (List Int)):List (List Int):=ts.mergeSort λa b=>!lexLt b a
def uQ(ns:List Int):List D:=ns.map λi=>AB i
def OP(ts:List (List Int)):List D:=ts.map λt=>BZ (uQ t)
def GC(ds:List D):Option (List D) :=
 if ds.length<64 then match BP ds with
  |some ns=>Z (uQ (sortI ns))
  |none=>match Jf ds with
   |some ts=>if ds.length<2||ts.all (λt=>!t.isEmpty)then Z (OP (CY ts))else J
   |none=>J
 else J
@[simp] noncomputable def gT:B->Option (List D)
 | .pl (.tuple ds)=>Z ds
 | .pl (.list ds)=>Z ds
 | .ol ds=>Z ds
 | .ok kvs=>Z (kvs.map λp=>BS p.1)
 | .ot kvs=>Z (kvs.map λp=>.tuple (p.1.map BS))
 | .otl kvs=>Z (kvs.map λp=>.tuple (p.1.map BS))
 |_=>J
@[simp] def N3(a:BF):BF:=λr=>match a r with
 |some x=>match gT x with
  |some ds=>(GC ds).map λds=>.ol ds
  |none=>J
 |none=>J
noncomputable def tY:List Int->List Int->List Int
 |acc,[]=>acc
 |acc,i::r=>if acc.contains i then tY acc r else tY (acc++[i]) r
def Mu(ns:List Int):Bool:=ns.all λn=>decide (0<=n)&&decide (n<8)
@[simp] def aJ(a:BF):BF:=λr=>match a r with
 |some x=>match EN x with
  |some ds=>match BP ds with
   |some ns=>if Mu ns then Z (.ol (uQ (sortI (tY [] ns))))else J
   |none=>J
  |none=>J
 |none=>J
@[simp] def Zj(m:List D->Option D)(a:AF):EF:=λr=>match a r with
 |some ds=>m ds
 |none=>J
@[simp] def ZD(a:BF):IF:=λr=>match a r with
 |some x=>B8 x
 |none=>J
noncomputable def D9 (lo:Int) (n:Nat):List D:=(Ah n).map λ(k:Nat)=>AB (lo+(k:Int))
def vp(j:Int):Bool:=Nat.blt j.natAbs 1000000
@[simp] def Ce(a:EF):IF:=λr=>match a r with
 |some (.int j)=>if vp j then Z (D9 0 j.toNat)else J
 |_=>J
@[simp] def Nj(a b:EF):IF:=λr=>match a r with
 |some (.int i)=>match b r with
  |some (.int j)=>if vp i&&vp j then Z (D9 i (j-i).toNat)else J
  |_=>J
 |_=>J
@[simp] def aE(i:IF):EF:=λr=>match i r with
 |some ds=>if ds.length<big then Z (.tuple ds)else J
 |none=>J
@[simp] def N0(i:IF):BF:=λr=>match i r with
 |some ds=>if ds.length<big then Z (.ol ds)else J
 |none=>J
noncomputable def Bc (c:TF) (e:EF) (r:Env):List D->Option (List D)
 |[]=>Z []
 |x::xs=>match c (Z (.pl x)::r)with
  |some Aa=>match e (Z (.pl x)::r)with
   |some y=>(Bc c e r xs).map (y::·)
   |none=>J
  |some Ab=>Bc c e r xs
  |none=>J
@[simp] def ZK:TF:=λ_=>Z Aa
@[simp] def ZA(i:IF)(c:TF)(e:EF):BF:=λr=>match i r with
 |some xs=>if xs.length<big then(Bc c e r xs).map λys=>.ol ys else J
 |none=>J
@[simp] def Zq(a b:SF):SF:=λr=>match a r with
 |some (.nx r')=>b r'
 |some (.rt d)=>Z (.rt d)
 |some (.bk r')=>Z (.bk r')
 |some (.ct r')=>Z (.ct r')
 |none=>J
@[simp] noncomputable def AN:SF:=λr=>Z (.nx r)
@[simp] def Qs:SF:=λ_=>J
@[simp] noncomputable def ZF (a:EF):SF:=λr=>(a r).map vW.rt
@[simp] def Z2(i:Nat)(a:EF):SF:=λr=>(a r).map λd=>.nx (r.set i (Z (.pl d)))
@[simp] def ZJ(i:Nat)(a:BF):SF:=λr=>(a r).map λb=>.nx (r.set i (Z b))
@[simp] def NU(i:Nat)(r:Env):Env:=match r[i]? with
 |some (Z (.ol ds))=>r.set i (Z (.pl (.list ds)))
 |some (Z (.ot kvs))=>r.set i (Z (.pl (.dict (Zn kvs))))
 |_=>r
@[simp] def Ck(i:Nat):SF->SF:=λa r=>a (NU i r)
@[simp] def Kz(a:EF):SF:=λr=>(a r).map λ_=>.nx r
@[simp] def tQ(c:TF)(a b:SF):SF:=λr=>match c r with
 |some Aa=>a r
 |some Ab=>b r
 |none=>J
noncomputable def ZN (i:Nat) (body:SF):List D->Env->Option vW
 |[],r=>Z (.nx r)
 |x::xs,r=>match body (r.set i (Z (.pl x)))with
  |some (.nx r')=>ZN i body xs r'
  |some (.ct r')=>ZN i body xs r'
  |some (.bk r')=>Z (.nx r')
  |some (.rt d)=>Z (.rt d)
  |none=>J
@[simp] def AR(i:Nat)(it:IF)(body:SF):SF:=λr=>match it r with
 |some xs=>if xs.length<big then ZN i body xs r else J
 |none=>J
noncomputable def Dx (c:TF) (body:SF):Nat->Env->Option vW
 |0,_=>J
 |n+1,r=>match c r with
  |some Aa=>match body r with
   |some (.nx r')=>Dx c body n r'
   |some (.ct r')=>Dx c body n r'
   |some (.bk r')=>Z (.nx r')
   |some (.rt d)=>Z (.rt d)
   |none=>J
  |some Ab=>Z (.nx r)
  |none=>J
@[simp] def FJ(i:Nat)(a:EF):SF:=λr=>match r[i]? with
 |some (Z (.ol ds))=>match a r with
  |some d=>if ds.length<big then Z (.nx (r.set i (Z (.ol (ds++[d])))))else J
  |none=>J
 |_=>J
@[simp] def k9(i:Nat)(k v:EF):SF:=λr=>match v r with
 |some d=>match r[i]? with
  |some (Z (.ol ds))=>match k r with
   |some (.int n)=>match wu ds.length n with
    |some j=>Z (.nx (r.set i (Z (.ol (ds.set j d)))))
    |none=>J
   |_=>J
  |_=>J
 |none=>J
noncomputable def tf {k v:Type} [DecidableEq k] (kvs:List (k×v)) (x:k) (y:v):List (k×v) :=
 if(kvs.any λp=>decide (p.1=x))=Aa then kvs.map (λp=>if p.1=x then(p.1,y)else p)else kvs++[(x,y)]
noncomputable def Zm {k v:Type} [DecidableEq k] (kvs:List (k×v)) (x:k):Option v:=(kvs.find? λp=>decide (p.1=x)).map (·.2)
@[simp] def Jb:D->Option Ky
 | .int i=>Z (.inl i)
 | .str x=>Z (.inr x)
 |_=>J
def NM:List D->Option (List Ky)
 |[]=>Z []
 |d::r=>match Jb d with
  |some k=>(NM r).map (k::·)
  |none=>J
noncomputable def tkL:D->Option (List Ky)
 | .tuple ds=>NM ds
 |_=>J
def MU:List D->Option (List Ky)
 |[]=>Z []
 | .int i::r=>(MU r).map (Cg i::·)
 |_::_=>J
def Be:D->Option (List Ky)
 | .tuple ds=>MU ds
 |_=>J
@[simp] def Gx(i:Nat)(k v:EF):SF:=λr=>match v r with
 |some d=>match k r with
  |some x=>match r[i]? with
   |some (Z (.ok kvs))=>match Jb x with
    |some y=>if kvs.length<big then Z (.nx (r.set i (Z (.ok (tf kvs y d)))))else J
    |none=>J
   |some (Z (.ot kvs))=>match Be x with
    |some y=>if kvs.length<big then Z (.nx (r.set i (Z (.ot (tf kvs y d)))))else J
    |none=>J
   |_=>J
  |none=>J
 |none=>J
@[simp] def fDk:BF:=λ_=>Z (.ok [])
@[simp] def zQ:BF:=λ_=>Z (.ot [])
@[simp] def Vf:BF:=λ_=>Z (.otl [])
@[simp] def mX(k v:EF):BF:=λr=>match k r with
 |some x=>match v r with
  |some d=>match Jb x with
   |some y=>Z (.ok [(y,d)])
   |none=>J
  |none=>J
 |none=>J
def Cf{k v:Type}[DecidableEq k](kvs:List (k×List v))(x:k):List (k×List v):=match Zm kvs x with
 |some _=>kvs
 |none=>kvs++[(x,[])]
def Dq{k v:Type}[DecidableEq k]:List (k×List v)->k->v->List (k×List v)
 |[],_,_=>[]
 |(x,ds)::r,y,d=>if x=y then(x,ds++[d])::r else(x,ds)::Dq r y d
@[simp] def nc(i:Nat)(k v:EF):SF:=λr=>match k r with
 |some x=>match r[i]? with
  |some (Z (.otl kvs))=>match Be x with
   | some y=>if kvs.length<big then
     match v (r.set i (Z (.otl (Cf kvs y))))with
     |some d=>match Zm (Cf kvs y) y with
      |some ds=>if ds.length<big then Z (.nx (r.set i (Z (.otl (Dq (Cf kvs y) y d)))))else J
      |none=>J
     |none=>J
    else J
   |none=>J
  |_=>J
 |none=>J
@[simp] def nZ(i:Nat)(k:EF):SF:=λr=>match k r with
 |some x=>match r[i]? with
  |some (Z (.otl kvs))=>match Be x with
   | some y=>if kvs.length<big then
     match Zm kvs y with
     |none=>Z (.nx (r.set i (Z (.otl (kvs++[(y,[])])))))
     |some _=>J
    else J
   |none=>J
  |_=>J
 |none=>J
@[simp] def m5(i:Nat)(k v:EF):SF:=λr=>match k r with
 |some x=>match r[i]? with
  |some (Z (.otl kvs))=>match Be x with
   |some y=>match v r with
    |some d=>match Zm kvs y with
     |some ds=>if ds.length<big then Z (.nx (r.set i (Z (.otl (Dq kvs y d)))))else J
     |none=>J
    |none=>J
   |none=>J
  |_=>J
 |none=>J
@[simp] def hasB(b:B)(x:D):Option Bool:=match b with
 | .ok kvs=>(Jb x).map λy=>(Zm kvs y).isSome
 | .ot kvs=>(Be x).map λy=>(Zm kvs y).isSome
 | .otl kvs=>(Be x).map λy=>(Zm kvs y).isSome
 |_=>J
@[simp] def oN(k:EF)(a:BF):EF:=λr=>match k r with
 |some x=>match a r with
  |some b=>(hasB b x).map λc=>.bool (!c)
  |none=>J
 |none=>J
@[simp] def Xc(i:Nat)(k:EF):BF:=λr=>match k r with
 |some x=>match r[i]? with
  |some (Z (.ok kvs))=>match Jb x with
   |some y=>(Zm kvs y).map B.pl
   |none=>J
  |some (Z (.ot kvs))=>match Be x with
   |some y=>(Zm kvs y).map B.pl
   |none=>J
  |some (Z (.otl kvs))=>match Be x with
   |some y=>(Zm kvs y).map B.ol
   |none=>J
  |_=>J
 |none=>J
abbrev sV(t:Nat)(cs:List D):D:=.dict [(.none,.int (Int.ofNat t)),(.none,.list cs)]
@[simp] noncomputable def OL (n:Nat) (ds:List D):Env:=ds.map (λd=>Z (B.pl d))++Bl (n-ds.length) J
@[simp] noncomputable def fnOf (k n:Nat) (m:SF):List D->Option D:=λds =>
 if ds.length=k then match m (OL n ds)with
  |some (.nx _)=>Z .none
  |some (.rt d)=>Z d
  |_=>J
 else J
def FO(c:TF)(e:EF)(r:Env):List D->Option (List D)
 |[]=>Z []
 | .tuple [x,y]::xs=>match c (Z (.pl x)::Z (.pl y)::r)with
  |some Aa=>match e (Z (.pl x)::Z (.pl y)::r)with
   |some z=>(FO c e r xs).map (z::·)
   |none=>J
  |some Ab=>FO c e r xs
  |none=>J
 |_=>J
@[simp] def Od(i:IF)(c:TF)(e:EF):BF:=λr=>match i r with
 |some xs=>if xs.length<big then(FO c e r xs).map λys=>.ol ys else J
 |none=>J
def Hr(ds:List D)(i:Int):Option Bool:=(BP ds).map λns=>ns.contains i
@[simp] def M4(k:EF)(a:BF):EF:=λr=>match k r with
 |some (.int i)=>match a r with
  |some b=>match B8 b with
   |some ds=>(Hr ds i).map λc=>.bool c
   |none=>J
  |none=>J
 |_=>J
@[simp] def Jz(k:EF)(a:BF):EF:=λr=>match k r with
 |some (.int i)=>match a r with
  |some b=>match B8 b with
   |some ds=>(Hr ds i).map λc=>.bool (!c)
   |none=>J
  |none=>J
 |_=>J
@[simp] def Qt(n:Nat)(c:TF)(body:SF):SF:=λr=>Dx c body n r
def Jr(i j:Nat)(body:SF):List D->Env->Option vW
 |[],r=>Z (.nx r)
 | .tuple [x,y]::xs,r=>match body ((r.set i (Z (.pl x))).set j (Z (.pl y)))with
  |some (.nx r')=>Jr i j body xs r'
  |some (.ct r')=>Jr i j body xs r'
  |some (.bk r')=>Z (.nx r')
  |some (.rt d)=>Z (.rt d)
  |none=>J
 |_,_=>J
@[simp] def Xr(i j:Nat)(it:IF)(body:SF):SF:=λr=>match it r with
 |some xs=>if xs.length<big then Jr i j body xs r else J
 |none=>J
def P8(ds:List D)(x:D):Option Bool:=if C2 x&&ds.all C2 then Z (ds.any λd=>BR d x)else J
@[simp] def aA(k:EF)(a:BF):EF:=λr=>match k r with
 |some x=>match a r with
  |some b=>match B8 b with
   |some ds=>(P8 ds x).map λc=>.bool (!c)
   |none=>J
  |none=>J
 |none=>J
noncomputable def ER:List (D×D)->Option (List (List Ky×D))
 |[]=>Z []
 |(k,v)::r=>match tkL k with
  |some ks=>(ER r).map ((ks,v)::·)
  |none=>J
@[simp] def MY:B->Option (List (List Ky×D))
 | .ot kvs=>Z kvs
 | .pl (.dict es)=>ER es
 | .hd es=>ER es
 |_=>J
@[simp] def Xb(k:EF)(a:BF):EF:=λr=>match k r with
 |some x=>match a r with
  |some b=>match MY b with
   |some kvs=>(Be x).map λy=>.bool (Zm kvs y).isSome
   |none=>J
  |none=>J
 |none=>J
@[simp] def FI(k:EF)(a:BF):EF:=λr=>match k r with
 |some x=>match a r with
  |some b=>match MY b with
   |some kvs=>(Be x).map λy=>.bool (!(Zm kvs y).isSome)
   |none=>J
  |none=>J
 |none=>J
@[simp] def B2(a:BF)(k:EF):EF:=λr=>match a r with
 |some b=>match MY b with
  |some kvs=>match k r with
   |some x=>match Be x with
    |some y=>Zm kvs y
    |none=>J
   |none=>J
  |none=>J
 |none=>J
@[simp] def Rb(a:BF)(k e:EF):EF:=λr=>match a r with
 |some b=>match MY b with
  |some kvs=>match k r with
   |some x=>match e r with
    |some z=>match Be x with
     |some y=>Z ((Zm kvs y).getD z)
     |none=>J
    |none=>J
   |none=>J
  |none=>J
 |none=>J
@[simp] def M8:D->Bool
 | .none=>Aa
 | .bool _=>Aa
 | .int _=>Aa
 | .str _=>Aa
 |_=>Ab
@[simp] def Qi(f:BF):EF:=λr=>(f r).bind frz
@[simp] def md(m:List D->Option D)(a:AF):EF:=λr=>match a r with
 |some ds=>match m ds with
  |some d=>if M8 d then Z d else J
  |none=>J
 |none=>J
theorem hJ(ks:List Ky):tkL (.tuple (ks.map BS))=Z ks:=by
 show NM (ks.map BS)=Z ks
 induction ks with
 |nil=>rfl
 |cons k ks ih=>show(match Jb (BS k)with|some q=>(NM (ks.map BS)).map (q::·)|none=>J)=_;rw[ih];cases k<;>rfl
theorem sY(kvs:List (List Ky×D)):ER (Zn kvs)=Z kvs:=by
 induction kvs with
 |nil=>rfl
 |cons p kvs ih=>obtain⟨k,d⟩:=p;show(match tkL (.tuple (k.map BS))with|some ks=>(ER (Zn kvs)).map ((ks,d)::·)|none=>J)=_;rw[hJ,ih];rfl
@[simp] def KW(a:BF):EF:=λr=>match a r with
 |some x=>match EN x with
  |some ds=>match BP ds with
   |some ns=>ns.max?.map λi=>AB i
   |none=>J
  |none=>J
 |none=>J
@[simp] def YO(i:Nat)(f:BF):SF:=λr=>match r[i]? with
 |some (Z (.ol ds))=>match f r with
  |some (.ol es)=>if ds.length+es.length<big then Z (.nx (r.set i (Z (.ol (ds++es)))))else J
  |_=>J
 |_=>J
@[simp] def iU(i j:Nat):SF:=λr=>match r[j]? with
 |some (Z (.ol ds))=>match ds[ds.length-1]? with
  |some d=>Z (.nx ((r.set j (Z (.ol ds.dropLast))).set i (Z (.pl d))))
  |none=>J
 |_=>J
@[simp] def Rc(m:List D->Option D)(a:AF):BF:=λr=>match a r with
 |some ds=>match m ds with
  |some (.list ys)=>Z (.ol ys)
  |_=>J
 |none=>J
def Bj:Option B->Bool
 |some (.hd _)=>Aa
 |_=>Ab
@[simp] def GD(i:Nat)(g:SF):SF:=λr=>match r[i]? with
 | some (Z (.pl (.dict es)))=>if r.all (λq=>!Bj q)then match g (r.set i (Z (.hd es)))with
   |some (.nx r')=>match r'[i]? with
    |some (Z (.hd es'))=>if(r'.set i J).all (λq=>!Bj q)then Z (.nx (r'.set i (Z (.pl (.dict es')))))else J
    |_=>J
   |some (.rt d)=>Z (.rt d)
   |_=>J
  else J
 |_=>g r
@[simp] def BM(i:Nat):IF:=λr=>match r[i]? with
 |some (Z (.pl (.tuple ds)))=>Z ds
 |some (Z (.pl (.list ds)))=>Z ds
 |some (Z (.hd es))=>(ER es).map λkvs=>kvs.map λp=>.tuple (p.1.map BS)
 |_=>J
noncomputable def MV:Nat->D->Bool
 |_,.none=>Aa
 |_,.bool _=>Aa
 |_,.int _=>Aa
 |_,.str _=>Aa
 |n+1,.tuple ds=>ds.all (MV n)
 |_,_=>Ab
@[simp] def IZ(a b:D):Option D:=if a.canLay0&&C2 b then Z (.bool (BR a b))else J
abbrev AP:=Nat->List D->List D->Option D
noncomputable def MX:D->Option (Nat×List D)
 | .dict [(.none,.int (Int.ofNat t)),(.none,.list cs)]=>Z (t,cs)
 |_=>J
@[simp] def K7(ap:AP)(i:Nat)(a:AF):EF:=λr=>match r[i]? with
 |some (Z (.pl d))=>match MX d with
  |some (t,cs)=>match a r with
   |some ds=>ap t cs ds
   |none=>J
  |none=>J
 |_=>J
noncomputable def uT:Nat->D->Bool
 |_,.none=>Aa
 |_,.bool _=>Aa
 |_,.int _=>Aa
 |_,.str _=>Aa
 |n+1,.tuple ds=>ds.all (uT n)
 |n+1,.list ds=>ds.all (uT n)
 |n+1,.dict es=>es.all λp=>(match p.1 with | .none=>Ab|_=>Aa)&&uT n p.2
 |_,_=>Ab
def Yn:List Nat->Env->Option (List D)
 |[],_=>Z []
 |i::is,r=>match r[i]? with
  |some (Z (.pl d))=>(Yn is r).map (d::·)
  |_=>J
@[simp] def aD(m:List D->Option D)(t:Nat)(is:List Nat)(a:EF):EF:=λr=>match a r with
 |some d1=>match Yn is r with
  | some cs=>if cs.all (uT 20)then match m [d1,sV t cs]with
    |some d=>if uT 20 d then Z d else J
    |none=>J
   else J
  |none=>J
 |none=>J
def R5(n m:Nat)(e:EF):List D->List D->Option D:=λcs ds=>if ds.length=n/\cs.length=m/\ds.all (uT 20)=Aa then e ((ds++cs).map λd=>Z (B.pl d))else J
@[simp] def HJ(a:BF):EF:=λr=>match a r with
 |some x=>match EN x with
  |some ds=>match BP ds with
   |some ns=>Z (match ns.min? with|some i=>.int i|none=>.none)
   |none=>J
  |none=>J
 |none=>J
abbrev NF:=Env->Option (List (List Ky×D))
@[simp] def Kp(a:SF)(m:NF):NF:=λr=>match a r with
 |some (.nx r')=>m r'
 |_=>J
@[simp] def P5(j:Nat):NF:=λr=>match r[j]? with
 |some (Z (.ot kvs))=>Z kvs
 |_=>J
def yA(k n:Nat)(m:NF):List D->Option (List (List Ky×D)):=λds=>if ds.length=k then m (OL n ds)else J
@[simp] def Ro(m:List D->Option (List (List Ky×D)))(a:AF):BF:=λr=>match a r with
 |some ds=>match m ds with
  |some kvs=>if kvs.all (λp=>M8 p.2)then Z (.ot kvs)else J
  |none=>J
 |none=>J
@[simp] def Jm(a b:EF):EF:=λr=>match a r with
 |some (.tuple xs)=>match b r with
  |some (.tuple ys)=>if xs.length+ys.length<big then Z (.tuple (xs++ys))else J
  |_=>J
 |_=>J
@[simp] def Nk(a b:BF):BF:=λr=>match a r with
 |some x=>match EN x with
  |some xs=>match b r with
   |some y=>match EN y with
    |some ys=>if xs.length+ys.length<big then Z (.ol (xs++ys))else J
    |none=>J
   |none=>J
  |none=>J
 |none=>J
def E1(t:List Int):List Int:=(t.length:Int)::t
def Bs(ts:List (List Int)):List (List Int):=ts.mergeSort λa b=>!lexLt (E1 b) (E1 a)
@[simp] def aI(a:BF):BF:=λr=>match a r with
 |some x=>match EN x with
  |some ds=>match Jf ds with
   |some ts=>if ts.length<64 then Z (.ol (OP (Bs ts)))else J
   |none=>J
  |none=>J
 |none=>J
@[simp] def U5(i:Nat)(t:TF):TF:=λr=>t (NU i r)
abbrev RF:=Env->Option Str
@[simp] def rNo:RF:=λ_=>J
@[simp] def oO(x:Str)(a:AF):RF:=λr=>match a r with
 |some _=>Z x
 |none=>J
@[simp] def rIf(t:TF)(a b:RF):RF:=λr=>match t r with
 |some Aa=>a r
 |some Ab=>b r
 |none=>J
@[simp] def VZ(g:RF)(m:SF)(rest:RF):RF:=λr=>match g r with
 |some x=>Z x
 |none=>match m r with
  |some (.nx r')=>rest r'
  |_=>J
@[simp] def nS(m:List D->Option Str)(a:AF):RF:=λr=>match a r with
 |some ds=>m ds
 |none=>J
def WV(k n:Nat)(g:RF):List D->Option Str:=λds=>if ds.length=k then g (OL n ds)else J
@[simp] def lx(g:RF)(h:Str->Option D)(m:SF):SF:=λr=>match g r with
 |some x=>(h x).map .rt
 |none=>m r
def Kt:List D->Option (List (List Int))
 |[]=>Z []
 | .tuple [.int n,.tuple ds]::r=>match BP ds with
  |some t=>(Kt r).map ((n::t)::·)
  |none=>J
 |_::_=>J
def unP:List Int->D
 |[]=>.none
 |n::t=>.tuple [.int n,.tuple (uQ t)]
@[simp] def Oc(a:BF):BF:=λr=>match a r with
 |some x=>match EN x with
  |some ds=>match Kt ds with
   |some ks=>if ks.length<64 then Z (.ol ((CY ks).map unP))else J
   |none=>J
  |none=>J
 |none=>J
@[simp] def Yp(i:Nat)(a:BF):BF:=λr=>match a (NU i r)with
 |some (.ol ds)=>if ds.all (MV 400)then Z (.ol ds)else J
 |_=>J
def hdT(x:Str):Str->Option D:=λy=>if y==x then Z (.list [.bool Aa,.bool Aa])else J
end HM
namespace HP
open PySem PySem.Spec PyProof.Rows L2
variable{a b l p:Addr}{o ob u:HO}{F F' H H' H1:Hp}{vvs:List (List sP×V)}{fp':List Addr}
@[reducible] def Dp(H':Hp)(b:Addr):HO->Prop
 | .tbl _=>∃ps',H' b=Z (.tbl ps')
 |o=>H' b=Z o
def AU(H H':Hp):Prop:=∀b o,H b=Z o->Dp H' b o
theorem Dp.of(h:H' b=Z o):Dp H' b o:=by cases o<;>first|exact h|exact⟨_,h⟩
theorem Dp.ex(h:Dp H' b o):∃u,H' b=Z u:=by cases o<;>first|exact⟨_,h⟩|(obtain⟨ps,e⟩:=h;exact⟨_,e⟩)
theorem Dp.no(h:Dp H' b o)(n:∀ps,o≠.tbl ps):H' b=Z o:=by cases o<;>first|exact h|exact absurd rfl (n _)
theorem AU.of{H H':Hp}(s:Zp H H'):AU H H':=λb o h=>.of (s b o h)
theorem AU.refl(H:Hp):AU H H:=.of (.refl H)
theorem AU.trans{H2:Hp}(a:AU H H1)(b:AU H1 H2):AU H H2:=λc o h=>by have h1:=a c o h;cases o<;>first|exact b c _ h1|(obtain⟨ps,e⟩:=h1;exact(show ∃ps',H2 c=Z (.tbl ps') from b c _ e))
theorem AU.free(e:AU H H')(h:H' l=J):H l=J:=by
 cases q:H l with
 |none=>rfl
 |some o=>obtain⟨u,z⟩:=(e l o q).ex;rw[h]at z;cases z
theorem AU.back(e:AU H H')(h:H l=Z o)(h':H' l=Z u)(n:∀ps,u≠.tbl ps):o=u:=by have z:=e l o h;cases o<;>first|(obtain⟨ps,q⟩:=z;rw[h']at q;cases q;exact absurd rfl (n _))|(have z:H' l=Z _:=z;rw[h']at z;cases z;rfl)
def CC(H:Hp):Hp:=λb=>match H b with
 |some (.tbl _)=>J
 |x=>x
def nt:HO->Bool
 | .tbl _=>Ab
 |_=>Aa
def uN(F:Hp):Prop:=∀b o,F b=Z o->nt o=Aa
theorem EX(h:H b=Z o)(n:nt o=Aa):CC H b=Z o:=by unfold CC;rw[h];cases o<;>first|rfl|cases n
theorem NI(h:CC H b=Z o):H b=Z o/\nt o=Aa:=by
 unfold CC at h;split at h
 .cases h
 .rename_i n
  refine⟨h,?_⟩;cases o<;>first|rfl|exact absurd h (n _)
theorem Rn:Zp (CC H) H:=λb o h=>(NI h).1
theorem uN.drop{H:Hp}:uN (CC H):=λb o h=>(NI h).2
theorem uN.sub(n:uN F)(s:Zp F H):Zp F (CC H):=λb o h=>EX (s b o h) (n b o h)
theorem uN.upd{F:Hp}{p:Addr}{o:HO}(n:uN F)(h:nt o=Aa):uN (upd F p o):=λb u z=>by
 by_cases hb:b=p
 .subst hb;rw[Zz]at z;cases z;exact h
 .rw[ZB hb]at z;exact n b u z
theorem AU.ntb(s:AU H H')(h:H b=Z o)(n:nt o=Aa):H' b=Z o:=(s b o h).no λps z=>by subst z;cases n
def Dk(vvs:List (List sP×V))(u:HO):Prop:=u=.dT vvs\/∃o,u=.frz o (.dT vvs)
def sw(a:Addr)(ob:HO)(G:Hp):Hp:=λb=>if b=a then(G a).map (λ_=>ob)else G b
class FX where
 tl:List (Addr×Str)
 fv:Nat->List PyData->Hp->Addr->Prop
 sw:∀{t:Nat} {cs:List PyData} {F:Hp} {a b:Addr} {ob:HO} {vvs:List (List sP×V)},(∀u,F a=Z u->Dk vvs u)->Dk vvs ob->fv t cs F b->fv t cs (sw a ob F) b
 drop:∀{t:Nat} {cs:List PyData} {F:Hp} {a:Addr},fv t cs F a->fv t cs (CC F) a
 mono:∀{t:Nat} {cs:List PyData} {F F':Hp} {a:Addr},fv t cs F a->Zp F F'->fv t cs F' a
variable[FX]
def AA(a:Addr)(o:Obj):HO:=.ext λh=>h.get? a=Z o
def Qm(o:Obj)(q:Str):Prop:=∃vs t,o.data=.fields vs/\vs[1]?=Z (.str q t)
def Tb(H:Hp):Prop:=∀P q,(P,q)∈FX.tl->∃ps,H P=Z (.tbl ps)/\TriplesOk ps.toList/\∀pos c,JT pos ps.toList=Z c->∃a o,c=.ref a/\H a=Z (AA a o)/\Qm o q
def IU:HO->Bool
 | .lst _=>Aa
 | .dK _=>Aa
 | .dT _=>Aa
 |_=>Ab
def te:HO->Bool
 | .tbl _=>Aa
 | .ext _=>Aa
 |_=>Ab
theorem Vu(h:IU o=Aa)(h':te o=Aa):False:=by cases o<;>simp_all [IU,te]
theorem Tb.keep(t:Tb H)(k:∀a o,H a=Z o->te o=Aa->H' a=Z o):Tb H':=λP q hP=>by obtain⟨ps,h1,h2,h3⟩:=t P q hP;refine⟨ps,k _ _ h1 rfl,h2,λpos c hc=>?_⟩;obtain⟨a,o,e1,e2,e3⟩:=h3 pos c hc;exact⟨a,o,e1,k _ _ e2 rfl,e3⟩
theorem Dk.te{vvs:List (List sP×V)}{u:HO}(h:Dk vvs u):te u=Ab:=by rcases h with h|⟨o,h⟩<;>subst h<;>rfl
theorem Dk.ntt(h:Dk vvs u):nt u=Aa:=by rcases h with h|⟨o,h⟩<;>subst h<;>rfl
theorem Tb.sw{G:Hp}{a:Addr}{ob:HO}{vvs:List (List sP×V)}(hG:∀u,G a=Z u->Dk vvs u)(t:Tb G):Tb (HP.sw a ob G):=t.keep λb o z ht=>by
 have hb:b≠a:=λe=>by subst e;rw[(hG o z).te]at ht;cases ht
 unfold HP.sw;rw[if_neg hb];exact z
theorem Tb.unsw{G:Hp}(ux:Dk vvs ob)(t:Tb (HP.sw a ob G)):Tb G:=t.keep λb o z ht=>by
 unfold HP.sw at z;split at z
 .obtain⟨u,_,e⟩:=Ai.mp z
  subst e;rw[ux.te]at ht;cases ht
 .exact z
theorem Dp.cong(e:H' b=H b)(h:Dp H b o):Dp H' b o:=by unfold Dp at h ⊢;rw[e];exact h
theorem AU.sw{H0 H:Hp}{a:Addr}{ob:HO}(s:AU H0 H):AU (HP.sw a ob H0) (HP.sw a ob H):=λb o z=>by
 by_cases hb:b=a
 .subst hb
  unfold HP.sw at z;rw[if_pos rfl]at z;obtain⟨u,h1,h2⟩:=Ai.mp z;obtain⟨w,hw⟩:=(s _ _ h1).ex;refine .of ?_;unfold HP.sw;rw[if_pos rfl,hw,h2.symm];rfl
 .unfold HP.sw at z
  rw[if_neg hb]at z;refine(s b o z).cong ?_;unfold HP.sw;rw[if_neg hb]
theorem Tb.same(t:Tb H)(s:Zp H H'):Tb H':=t.keep λa o h _=>s a o h
theorem Na(r:Rd F a u)(s:Zp F F'):Rd F' a u:=r.imp (λh=>s _ _ h) λ⟨o,h⟩=>⟨o,s _ _ h⟩
def qf(K:Ae)(a:Addr)(vs:List V):Prop:=∃(o:Obj) (its:Array Value) (n:Nat),K.lookup a=Z o/\o.cls=.type "tuple"/\o.data=.seq its n/\its.size<=sizeLine/\sL vs its.toList
theorem QL{K:Ae}{vs:List V}(h:uL K F a vs)(s:Zp F F'):uL K F' a vs:=h.imp (λh=>Na h s) id
inductive Rep(K:Ae)(F:Hp):PyData->V->Prop where
 |non:Rep K F .none .non
 |bl (b:Bool):Rep K F (.bool b) (.bl b)
 |int (i:Int):Rep K F (.int i) (.int i)
 |str (x:Str):Rep K F (.str x) (.str x)
 |tupk {a:Addr} {x:Str} (h:qf K a [.str x]):Rep K F (.tuple [.str x]) (.ref a)
 |tup {a:Addr} {ds:List PyData} {vs:List V} (h:F a=Z (.tup vs)) (hl:ds.length=vs.length) (hr:∀(i:Nat) (d:PyData) (v:V),ds[i]?=Z d->vs[i]?=Z v->Rep K F d v):Rep K F (.tuple ds) (.ref a)
 |lst {a:Addr} {ds:List PyData} {vs:List V} (h:tU K F a vs) (hl:ds.length=vs.length) (hr:∀(i:Nat) (d:PyData) (v:V),ds[i]?=Z d->vs[i]?=Z v->Rep K F d v):Rep K F (.list ds) (.ref a)
 |dct {a:Addr} {es:List (PyData×PyData)} {kvs:List (List sP×PyData)} {vvs:List (List sP×V)} (h:Rd F a (.dT vvs)) (he:es=HM.Zn kvs) (hk:kvs.map (·.1)=vvs.map (·.1)) (hr:∀(i:Nat) (d:PyData) (v:V),(kvs.map (·.2))[i]?=Z d->(vvs.map (·.2))[i]?=Z v->Rep K F d v):Rep K F (.dict es) (.ref a)
 |fn {a:Addr} {t:Nat} {cs:List PyData} (h:FX.fv t cs F a):Rep K F (.dict [(.none,.int (Int.ofNat t)),(.none,.list cs)]) (.ref a)
def Zt(K:Ae)(F:Hp)(ds:List PyData)(vs:List V):Prop:=ds.length=vs.length/\∀(i:Nat) (d:PyData) (v:V),ds[i]?=Z d->vs[i]?=Z v->Rep K F d v
section
variable{K:Ae}{F F':Hp}{d:PyData}{v:V}{ds es:List PyData}{vs us:List V}
theorem Rep.mono(r:Rep K F d v)(s:Zp F F'):Rep K F' d v:=by
 induction r with
 |non=>exact .non
 |bl b=>exact .bl b
 |int i=>exact .int i
 |str x=>exact .str x
 |tup h hl _ ih=>exact .tup (s _ _ h) hl ih
 |tupk h=>exact .tupk h
 |lst h hl _ ih=>exact .lst (s.seq h) hl ih
 |dct h he hk _ ih=>exact .dct (Na h s) he hk ih
 |fn h=>exact .fn (FX.mono h s)
theorem Rep.drop(r:Rep K F d v):Rep K (CC F) d v:=by
 induction r with
 |non=>exact .non
 |bl b=>exact .bl b
 |int i=>exact .int i
 |str x=>exact .str x
 |tup h hl _ ih=>exact .tup (EX h rfl) hl ih
 |tupk h=>exact .tupk h
 |lst h hl _ ih =>
  refine .lst ?_ hl ih;rcases h with(h|⟨o,h⟩)|h
  .exact .inl (.inl (EX h rfl))
  .exact .inl (.inr ⟨o,EX h rfl⟩)
  .exact .inr h
 |dct h he hk _ ih =>
  refine .dct ?_ he hk ih;rcases h with h|⟨o,h⟩
  .exact .inl (EX h rfl)
  .exact .inr ⟨o,EX h rfl⟩
 |fn h=>exact .fn (FX.drop h)
theorem Zt.drop'(r:Zt K F ds vs):Zt K (CC F) ds vs:=⟨r.1,λi d v h1 h2=>(r.2 i d v h1 h2).drop⟩
theorem AU.dr(s:AU H H'):Zp (CC H) H':=λb o h=>s.ntb (NI h).1 (NI h).2
theorem Rep.monoT(r:Rep K H d v)(s:AU H H'):Rep K H' d v:=r.drop.mono s.dr
theorem Zt.mono(r:Zt K F ds vs)(s:Zp F F'):Zt K F' ds vs:=⟨r.1,λi d v h1 h2=>(r.2 i d v h1 h2).mono s⟩
theorem Zt.nil:Zt K F [] []:=⟨rfl,λi d v h=>by simp at h⟩
theorem Zt.cons(r:Rep K F d v)(q:Zt K F ds vs):Zt K F (d::ds) (v::vs) :=
 ⟨by rw[AD,AD,q.1],λi e u h1 h2=>by
  cases i with
  |zero=>rw[Pt]at h1 h2;cases h1;cases h2;exact r
  |succ i=>rw[Em]at h1 h2;exact q.2 i e u h1 h2⟩
theorem Zt.nil_inv(r:Zt K F [] vs):vs=[]:=Mp r.1.symm
theorem Zt.cons_inv(r:Zt K F (d::ds) vs):∃v us,vs=v::us/\Rep K F d v/\Zt K F ds us:=by
 cases vs with
 |nil=>exact absurd r.1 (by simp)
 |cons v us =>
  refine⟨v,us,rfl,r.2 0 d v rfl rfl,?_,λi e u h1 h2=>r.2 (i+1) e u ?_ ?_⟩
  .have:=r.1
   rw[AD,AD]at this;omega
  .rw[Em];exact h1
  .rw[Em];exact h2
theorem Zt.append(r:Zt K F ds vs)(q:Zt K F es us):Zt K F (ds++es) (vs++us):=by
 refine⟨by rw[AK,AK,r.1,q.1],λi e u h1 h2=>?_⟩
 by_cases hi:i<ds.length
 .rw[DD hi]at h1
  rw[DD (by rw[<-r.1];exact hi)]at h2;exact r.2 i e u h1 h2
 .rw[EI (by omega)]at h1
  rw[EI (by have:=r.1;omega),<-r.1]at h2;exact q.2 _ e u h1 h2
theorem Zt.get(r:Zt K F ds vs){i:Nat}(h:ds[i]?=Z d):∃v,vs[i]?=Z v/\Rep K F d v:=by
 have hi:i<vs.length:=by rw[<-r.1];exact(A0.mp h).1
 exact⟨vs[i],A2 hi,r.2 i d _ h (A2 hi)⟩
theorem Zt.drop(r:Zt K F ds vs)(n:Nat):Zt K F (ds.drop n) (vs.drop n) :=
 ⟨by rw[Mh,Mh,r.1],λi e u h1 h2=>by rw[List.getElem?_drop]at h1 h2;exact r.2 _ e u h1 h2⟩
theorem Zt.take(r:Zt K F ds vs)(n:Nat):Zt K F (ds.take n) (vs.take n) :=
 ⟨by rw[Fd,Fd,r.1],λi e u h1 h2=>by
  by_cases hi:i<n
  .rw[bG hi]at h1 h2
   exact r.2 _ e u h1 h2
  .rw[List.getElem?_take_eq_none (by omega)]at h1
   cases h1⟩
theorem Zt.set(r:Zt K F ds vs)(q:Rep K F d v)(j:Nat):Zt K F (ds.set j d) (vs.set j v):=by
 refine⟨by rw[Eg,Eg,r.1],λi e u h1 h2=>?_⟩;have hi:i<ds.length:=by have:=(A0.mp h1).1;rwa [Eg]at this
 by_cases e1:j=i
 .subst e1
  rw[EG hi]at h1;rw[EG (by rw[<-r.1];exact hi)]at h2;cases h1;cases h2;exact q
 .rw[Cq e1]at h1 h2
  exact r.2 i e u h1 h2
theorem Zt.rep(r:Zt K F ds vs)(k:Nat):Zt K F (Bl k ds).flatten (Bl k vs).flatten:=by
 induction k with
 |zero=>exact Zt.nil
 |succ k ih=>rw[IM,IM,JY,JY];exact r.append ih
theorem Zt.one(r:Rep K F d v):Zt K F [d] [v]:=.cons r .nil
end
def yy(H:Hp)(a:Addr)(o:HO):Prop:=H a=J\/∃xs,o=.tup xs/\H a=Z (.tup xs)
theorem yy.back{H H':Hp}{a:Addr}{o:HO}(s:AU H H')(f:yy H' a o):yy H a o:=by
 rcases f with f|⟨xs,e,f⟩
 .exact .inl (s.free f)
 .cases q:H a with
  |none=>exact .inl q
  |some u =>
   have:=s.back q f λ_ z=>by cases z
   subst this;exact .inr ⟨xs,e,q⟩
theorem yy.no(f:yy H a o)(h:H a=Z u)(n:∀xs,u≠.tup xs):False:=by
 rcases f with f|⟨xs,_,f⟩
 .rw[h]at f;cases f
 .rw[h]at f;cases f;exact n xs rfl
structure sQ(F H F' H':Hp):Prop where
 ff:Zp F F'
 hh:AU H H'
 sub:Zp F' H'
 new:∀a o,F' a=Z o->F a=Z o\/yy H a o
 tab:Tb H->Tb H'
 nts:uN F->uN F'
theorem sQ.refl{F H:Hp}(s:Zp F H):sQ F H F H:=⟨Zp.refl F,AU.refl H,s,λ_ _ h=>.inl h,id,id⟩
theorem sQ.trans{F H F1 H1 F2 H2:Hp}(a:sQ F H F1 H1)(b:sQ F1 H1 F2 H2):sQ F H F2 H2 :=
 ⟨a.ff.trans b.ff,a.hh.trans b.hh,b.sub,λx o h=>by
  rcases b.new x o h with q|q
  .exact a.new x o q
  .exact .inr (q.back a.hh),λt=>b.tab (a.tab t),λt=>b.nts (a.nts t)⟩
theorem Hw(h:F p=J):Zp F (upd F p o):=λb q z=>by rw[ZB (C6 z h)];exact z
theorem sQ.lay(e:sQ F H F' H')(h:H' p=J)(no:nt o=Aa:=by rfl):sQ F H (upd F' p o) (upd H' p o):=by
 have hF:F' p=J:=e.sub.free h;refine⟨λb q z=>?_,e.hh.trans (.of (Hw h)),λb q z=>?_,λb q z=>?_,λt=>(e.tab t).same (Hw h),λt=>(e.nts t).upd no⟩
 .rw[ZB (C6 (e.ff b q z) hF)];exact e.ff b q z
 .by_cases hb:b=p
  .subst hb;rw[Zz]at z ⊢;exact z
  .rw[ZB hb]at z ⊢;exact e.sub b q z
 .by_cases hb:b=p
  .subst hb;exact .inr (.inl (e.hh.free h))
  .rw[ZB hb]at z;exact e.new b q z
theorem sQ.lay'(e:sQ F H F' H')(h:H' p=J):sQ F H F' (upd H' p o):=by refine⟨e.ff,e.hh.trans (.of (Hw h)),λb q z=>?_,e.new,λt=>(e.tab t).same (Hw h),e.nts⟩;rw[ZB (C6 (e.sub b q z) h)];exact e.sub b q z
theorem Zp.upd'(h:F p=J):Zp F (upd F p o):=λb q z=>by rw[ZB (C6 z h)];exact z
def BD(F H:Hp):Hp:=λa=>match H a with
 |some (.tup xs)=>Z (.tup xs)
 |_=>F a
theorem QU{xs:List V}(h:H a=Z (.tup xs)):BD F H a=Z (.tup xs):=by unfold BD;rw[h]
theorem EW(s:Zp F H):Zp F (BD F H):=λa o h=>by
 have:=s a o h;unfold BD;split
 .rename_i xs q
  rw[q]at this;exact this
 .exact h
theorem sQ.tups(e:sQ F H F' H'):sQ F H (BD F' H') H':=by
 have key:sQ F' H' (BD F' H') H':=by
  refine⟨EW e.sub,AU.refl H',λa o h=>?_,λa o h=>?_,id,λn a o h=>?_⟩
  .unfold BD at h
   split at h
   .rename_i xs q;rw[q];exact h
   .exact e.sub a o h
  .unfold BD at h
   split at h
   .rename_i xs q
    cases h;exact .inr (.inr ⟨xs,rfl,q⟩)
   .exact .inl h
  .unfold BD at h
   split at h
   .cases h;rfl
   .exact n a o h
 exact e.trans key
inductive Ay(K:Ae)(F H:Hp):HM.B->V->List Addr->Prop where
 |pl {d:PyData} {v:V} (r:Rep K F d v):Ay K F H (.pl d) v []
 |ol {a:Addr} {ds:List PyData} {vs:List V} (h:H a=Z (.lst vs)) (r:Zt K F ds vs):Ay K F H (.ol ds) (.ref a) [a]
 |ok {a:Addr} {kvs:List (sP×PyData)} {vvs:List (sP×V)} (h:H a=Z (.dK vvs)) (hk:kvs.map (·.1)=vvs.map (·.1)) (r:Zt K F (kvs.map (·.2)) (vvs.map (·.2))):Ay K F H (.ok kvs) (.ref a) [a]
 |ot {a:Addr} {kvs:List (List sP×PyData)} {vvs:List (List sP×V)} (h:H a=Z (.dT vvs)) (hk:kvs.map (·.1)=vvs.map (·.1)) (r:Zt K F (kvs.map (·.2)) (vvs.map (·.2))):Ay K F H (.ot kvs) (.ref a) [a]
 | otl {a:Addr} {kvs:List (List sP×List PyData)} {vvs:List (List sP×V)} {ls:List Addr} (h:H a=Z (.dT vvs)) (hk:kvs.map (·.1)=vvs.map (·.1)) (hv:vvs.map (·.2)=ls.map V.ref)
   (r:∀(i:Nat) (ds:List PyData) (l:Addr),(kvs.map (·.2))[i]?=Z ds->ls[i]?=Z l->∃vs,H l=Z (.lst vs)/\Zt K F ds vs):Ay K F H (.otl kvs) (.ref a) (a::ls)
 |hd {a:Addr} {o:Obj} {es:List (PyData×PyData)} {kvs:List (List sP×PyData)} {vvs:List (List sP×V)} (h:F a=Z (.frz o (.dT vvs))) (he:es=HM.Zn kvs) (hk:kvs.map (·.1)=vvs.map (·.1)) (r:Zt K F (kvs.map (·.2)) (vvs.map (·.2))):Ay K F H (.hd es) (.ref a) []
 |hf {a:Addr} {t:Nat} {cs:List PyData} (h:FX.fv t cs F a):Ay K F H (.hd [(.none,.int (Int.ofNat t)),(.none,.list cs)]) (.ref a) []
section
variable{K:Ae}{F F' H H':Hp}{b:HM.B}{v:V}{fp:List Addr}
theorem Ay.mono(r:Ay K F H b v fp)(s:Zp F F')(k:∀a∈fp,∀o,H a=Z o->Dp H' a o):Ay K F' H' b v fp:=by
 cases r with
 |pl r=>exact .pl (r.mono s)
 |ol h r=>exact .ol (k _ (by simp) _ h) (r.mono s)
 |ok h hk r=>exact .ok (k _ (by simp) _ h) hk (r.mono s)
 |ot h hk r=>exact .ot (k _ (by simp) _ h) hk (r.mono s)
 |hd h he hk r=>exact .hd (s _ _ h) he hk (r.mono s)
 |hf h=>exact .hf (FX.mono h s)
 |otl h hk hv r=>refine .otl (k _ (by simp) _ h) hk hv λi ds l h1 h2=>?_;obtain⟨vs,q1,q2⟩:=r i ds l h1 h2;exact⟨vs,k l (Ap _ (Bm h2)) _ q1,q2.mono s⟩
theorem Ay.there2(r:Ay K F H b v fp)(h:a∈fp):∃o,H a=Z o/\IU o=Aa:=by
 cases r with
 |pl r=>simp at h
 |hd _ _ _ _=>simp at h
 |hf _=>simp at h
 |ol q r=>simp at h;subst h;exact⟨_,q,rfl⟩
 |ok q hk r=>simp at h;subst h;exact⟨_,q,rfl⟩
 |ot q hk r=>simp at h;subst h;exact⟨_,q,rfl⟩
 | @otl a' kvs vvs ls q hk hv r =>
  rcases AE.mp h with e|e
  .subst e;exact⟨_,q,rfl⟩
  .obtain⟨i,hi⟩:=List.getElem?_of_mem e
   have hl:kvs.length=ls.length:=by have e1:=congrArg BC hk;have e2:=congrArg BC hv;rw[Af,Af]at e1 e2;omega
   have hi':i<kvs.length:=by rw[hl];exact(A0.mp hi).1
   obtain⟨vs,q1,_⟩:=r i (kvs[i].2) a (by simp[hi']) hi;exact⟨_,q1,rfl⟩
theorem Ay.there'(r:Ay K F H b v fp)(h:a∈fp):∃o,H a=Z o/\∀xs,o≠.tup xs:=by
 cases r with
 |pl r=>simp at h
 |hd _ _ _ _=>simp at h
 |hf _=>simp at h
 |ol q r=>simp at h;subst h;exact⟨_,q,λ_ z=>by cases z⟩
 |ok q hk r=>simp at h;subst h;exact⟨_,q,λ_ z=>by cases z⟩
 |ot q hk r=>simp at h;subst h;exact⟨_,q,λ_ z=>by cases z⟩
 | @otl a' kvs vvs ls q hk hv r =>
  rcases AE.mp h with e|e
  .subst e;exact⟨_,q,λ_ z=>by cases z⟩
  .obtain⟨i,hi⟩:=List.getElem?_of_mem e
   have hl:kvs.length=ls.length:=by have e1:=congrArg BC hk;have e2:=congrArg BC hv;rw[Af,Af]at e1 e2;omega
   have hi':i<kvs.length:=by rw[hl];exact(A0.mp hi).1
   obtain⟨vs,q1,_⟩:=r i (kvs[i].2) a (by simp[hi']) hi;exact⟨_,q1,λ_ z=>by cases z⟩
theorem Ay.there(r:Ay K F H b v fp)(h:a∈fp):∃o,H a=Z o:=let ⟨o,q,_⟩:=r.there' h;⟨o,q⟩
end
structure A9(K:Ae)(F0 H0 F H:Hp)(r:HM.Env)(Y:L2.St)(fp:Nat->List Addr):Prop where
 ext:sQ F0 H0 F H
 len:r.length=Y.length
 at_:∀(i:Nat) (b:HM.B),r[i]?=Z (Z b)->∃v,Y[i]?=Z (Z v)/\Ay K F H b v (fp i)
 emp:∀(i:Nat),(∀b,r[i]?≠Z (Z b))->fp i=[]
 own:∀(i:Nat) (a:Addr),a∈fp i->F a=J/\H0 a=J
 nd:∀i,(fp i).Nodup
 dis:∀(i j:Nat) (a:Addr),i≠j->a∈fp i->¬a∈fp j
 tb:Tb H0
 nt:uN F0
def At(K:Ae)(F0 H0 F H:Hp)(r:HM.Env)(Y:L2.St):Prop:=∃fp,A9 K F0 H0 F H r Y fp
section
variable{K:Ae}{F0 H0 F H F' H':Hp}{r:HM.Env}{Y:L2.St}{fp:Nat->List Addr}{i:Nat}{b:HM.B}{v:V}{d:PyData}
theorem A9.bound(e:A9 K F0 H0 F H r Y fp)(h:a∈fp i):∃b,r[i]?=Z (Z b):=by
 cases q:r[i]? with
 |none=>rw[e.emp i (λb z=>by rw[q]at z;cases z)]at h;simp at h
 |some x =>
  cases x with
  |none=>rw[e.emp i (λb z=>by rw[q]at z;cases z)]at h;simp at h
  |some b=>exact⟨b,rfl⟩
theorem A9.there'(e:A9 K F0 H0 F H r Y fp){a:Addr}(h:a∈fp i):∃o,H a=Z o/\∀xs,o≠.tup xs:=by obtain⟨b,hb⟩:=e.bound h;obtain⟨v,_,q⟩:=e.at_ i b hb;exact q.there' h
theorem A9.there2(e:A9 K F0 H0 F H r Y fp){a:Addr}(h:a∈fp i):∃o,H a=Z o/\IU o=Aa:=by obtain⟨b,hb⟩:=e.bound h;obtain⟨v,_,q⟩:=e.at_ i b hb;exact q.there2 h
theorem A9.there(e:A9 K F0 H0 F H r Y fp)(h:a∈fp i):∃o,H a=Z o:=let ⟨o,q,_⟩:=e.there' h;⟨o,q⟩
theorem A9.sub(e:A9 K F0 H0 F H r Y fp):Zp F H:=e.ext.sub
theorem A9.grow(e:A9 K F0 H0 F H r Y fp)(x:sQ F H F' H'):A9 K F0 H0 F' H' r Y fp:=by
 refine⟨e.ext.trans x,e.len,λi b h=>?_,e.emp,λi a h=>⟨?_,(e.own i a h).2⟩,e.nd,e.dis,e.tb,e.nt⟩
 .obtain⟨v,h1,h2⟩:=e.at_ i b h
  exact⟨v,h1,h2.mono x.ff λa _ o q=>x.hh a o q⟩
 .cases q:F' a with
  |none=>rfl
  |some o =>
   rcases x.new a o q with z|z
   .rw[(e.own i a h).1]at z;cases z
   .obtain⟨o',h',hn⟩:=e.there' h
    exact(z.no h' hn).elim
theorem At.grow(e:At K F0 H0 F H r Y)(x:sQ F H F' H'):At K F0 H0 F' H' r Y:=let ⟨fp,e⟩:=e;⟨fp,e.grow x⟩
theorem At.tb(e:At K F0 H0 F H r Y):Tb H:=let ⟨_,e⟩:=e;e.ext.tab e.tb
theorem At.tbx(e:At K F0 H0 F H r Y)(x:sQ F H F' H'):Tb H':=x.tab e.tb
theorem At.nt(e:At K F0 H0 F H r Y):uN F:=let ⟨_,e⟩:=e;e.ext.nts e.nt
theorem At.ntx(e:At K F0 H0 F H r Y)(x:sQ F H F' H'):uN F':=x.nts e.nt
theorem At.nt0(e:At K F0 H0 F H r Y):uN F0:=let ⟨_,e⟩:=e;e.nt
theorem At.sub(e:At K F0 H0 F H r Y):Zp F H:=let ⟨_,e⟩:=e;e.ext.sub
theorem At.ext(e:At K F0 H0 F H r Y):sQ F0 H0 F H:=let ⟨_,e⟩:=e;e.ext
theorem At.refl(e:At K F0 H0 F H r Y):sQ F H F H:=.refl e.sub
theorem At.plain(e:At K F0 H0 F H r Y)(h:r[i]?=Z (Z (.pl d))):∃v,Y[i]?=Z (Z v)/\Rep K F d v:=by
 obtain⟨fp,e⟩:=e;obtain⟨v,h1,h2⟩:=e.at_ i _ h;generalize fp i=f at h2;cases h2 with
 |pl q=>exact⟨v,h1,q⟩
theorem At.any(e:At K F0 H0 F H r Y)(h:r[i]?=Z (Z b)):∃v fp,Y[i]?=Z (Z v)/\Ay K F H b v fp:=by obtain⟨fp,e⟩:=e;obtain⟨v,h1,h2⟩:=e.at_ i _ h;exact⟨v,_,h1,h2⟩
theorem At.store(e:At K F0 H0 F H r Y)(q:Ay K F H b v fp')(nd:fp'.Nodup)(h1:∀a∈fp',F a=J/\H0 a=J)(h2:∀fp,A9 K F0 H0 F H r Y fp->∀j a,j≠i->a∈fp j->¬a∈fp'):At K F0 H0 F H (r.set i (Z b)) (Y.set i (Z v)):=by
 obtain⟨fp,e⟩:=e;have h2:=h2 fp e
 by_cases hi:i<r.length
 .refine⟨λj=>if j=i then fp' else fp j,e.ext,by rw[Eg,Eg,e.len],λj c h=>?_,λj h=>?_,λj a h=>?_,λj=>?_,λj k a ze h=>?_,e.tb,e.nt⟩
  .by_cases hj:j=i
   .subst hj
    rw[EG hi]at h;cases h;refine⟨v,EG (by rw[<-e.len];exact hi),?_⟩;rw[if_pos rfl];exact q
   .rw[Cq (A8 hj)]at h
    obtain⟨u,q1,q2⟩:=e.at_ j c h;refine⟨u,by rw[Cq (A8 hj)];exact q1,?_⟩;rw[if_neg hj];exact q2
  .by_cases hj:j=i
   .subst hj
    exact absurd (EG hi) (h b)
   .show(if j=i then fp' else fp j)=[]
    rw[if_neg hj];exact e.emp j λc z=>h c (by rw[Cq (A8 hj)];exact z)
  .by_cases hj:j=i
   .rw[if_pos hj]at h;exact h1 a h
   .rw[if_neg hj]at h;exact e.own j a h
  .show(if j=i then fp' else fp j).Nodup
   by_cases hj:j=i
   .rw[if_pos hj];exact nd
   .rw[if_neg hj];exact e.nd j
  .show ¬a∈(if k=i then fp' else fp k)
   by_cases hj:j=i
   .rw[if_pos hj]at h
    by_cases hk:k=i
    .exact absurd (hj.trans hk.symm) ze
    .rw[if_neg hk];exact λz=>h2 k a hk z h
   .rw[if_neg hj]at h
    by_cases hk:k=i
    .rw[if_pos hk];exact h2 j a hj h
    .rw[if_neg hk];exact e.dis j k a ze h
 .have e1:r.set i (Z b)=r:=bF (by omega)
  have e2:Y.set i (Z v)=Y:=bF (by have:=e.len;omega);rw[e1,e2];exact⟨fp,e⟩
theorem At.set(e:At K F0 H0 F H r Y)(q:Rep K F d v):At K F0 H0 F H (r.set i (Z (.pl d))) (Y.set i (Z v)) :=
 e.store (.pl q) Fo (λa h=>by simp at h) λ_ _ _ _ _ _ h=>by simp at h
theorem A9.changeW(e:A9 K F0 H0 F H r Y fp)(hv:Y[i]?=Z (Z v))(q:Ay K F H' b v fp')(nd:fp'.Nodup)(h1:∀a∈fp',a∈fp i\/(F a=J/\H0 a=J/\∀j,a∉fp j))(h2:∀a o,H a=Z o->¬a∈fp i->H' a=Z o):At K F0 H0 F H' (r.set i (Z b)) Y:=by
 have sF:Zp F H':=λa o z=>h2 a o (e.sub a o z) λm=>by rw[(e.own i a m).1]at z;cases z
 have sH:AU H0 H':=λa o z=>by
  have nm:¬a∈fp i:=λm=>by rw[(e.own i a m).2]at z;cases z
  have y:=e.ext.hh a o z;cases o<;>first|exact h2 a _ y nm|(obtain⟨ps,q⟩:=y;exact⟨ps,h2 a _ q nm⟩)
 have sT:Tb H0->Tb H':=λt=>(e.ext.tab t).keep λa o z ho=>h2 a o z λm=>by obtain⟨o',q1,q2⟩:=e.there2 m;rw[z]at q1;cases q1;exact Vu q2 ho
 have e':A9 K F0 H0 F H' (r.set i J) (Y.set i J) (λj=>if j=i then[]else fp j):=by
  refine⟨⟨e.ext.ff,sH,sF,e.ext.new,sT,e.ext.nts⟩,by rw[Eg,Eg,e.len],λj c h=>?_,λj h=>?_,λj a h=>?_,λj=>?_,λj k a ze h=>?_,e.tb,e.nt⟩
  .by_cases hj:j=i
   .subst hj
    by_cases hi:j<r.length
    .rw[EG hi]at h;cases h
    .rw[bo (by rw[Eg];omega)]at h;cases h
   .rw[Cq (A8 hj)]at h
    obtain⟨u,q1,q2⟩:=e.at_ j c h;refine⟨u,by rw[Cq (A8 hj)];exact q1,?_⟩;rw[if_neg hj];exact q2.mono (Zp.refl F) λa ha o z=>.of (h2 a o z (e.dis j i a hj ha))
  .show(if j=i then[]else fp j)=[]
   by_cases hj:j=i
   .rw[if_pos hj]
   .rw[if_neg hj]
    exact e.emp j λc z=>h c (by rw[Cq (A8 hj)];exact z)
  .by_cases hj:j=i
   .rw[if_pos hj]at h;simp at h
   .rw[if_neg hj]at h;exact e.own j a h
  .show(if j=i then[]else fp j).Nodup
   by_cases hj:j=i
   .rw[if_pos hj];exact Fo
   .rw[if_neg hj];exact e.nd j
  .show ¬a∈(if k=i then[]else fp k)
   by_cases hj:j=i
   .rw[if_pos hj]at h;simp at h
   .rw[if_neg hj]at h
    by_cases hk:k=i
    .rw[if_pos hk];simp
    .rw[if_neg hk];exact e.dis j k a ze h
 have hF:∀a∈fp',F a=J/\H0 a=J:=λa ha=>by
  rcases h1 a ha with z|z
  .exact e.own i a z
  .exact⟨z.1,z.2.1⟩
 have e2:=At.store (i:=i) ⟨_,e'⟩ q nd hF λfq eq j a hj ha z=>by
  obtain⟨c,hc⟩:=eq.bound ha;rw[Cq (A8 hj)]at hc;obtain⟨u1,s1,r1⟩:=eq.at_ j c (by rw[Cq (A8 hj)];exact hc);obtain⟨u2,s2,r2⟩:=e.at_ j c hc;rw[Cq (A8 hj),s2]at s1;cases s1;have hm:a∈fp j:=by
   have r2':=r2.mono (H':=H') (Zp.refl F) λa ha o z=>.of (h2 a o z (e.dis j i a hj ha))
   clear r2
   generalize fq j=f1 at r1 ha;generalize fp j=f2 at r2' ⊢;cases r1 with
   |pl _=>simp at ha
   |hd _ _ _ _=>simp at ha
   |hf _=>simp at ha
   |ol _ _=>cases r2' with|ol _ _=>exact ha
   |ok _ _ _=>cases r2' with|ok _ _ _=>exact ha
   |ot _ _ _=>cases r2' with|ot _ _ _=>exact ha
   |otl a1 _ v1 _ =>
    cases r2' with
    |otl a2 _ v2 _ =>
     rw[a1]at a2;cases a2;rw[v1]at v2;have:∀{l l':List Addr},l.map V.ref=l'.map V.ref->l=l':=by
      intro l
      induction l with
      |nil=>intro l' h;cases l' with|nil=>rfl|cons _ _=>simp at h
      |cons x xs ih =>
       intro l' h;cases l' with
       |nil=>simp at h
       |cons y ys =>
        rw[Ak,Ak]at h;injection h with h1 h2
        injection h1 with h1
        rw[h1,ih h2]
     rw[<-this v2];exact ha
  rcases h1 a z with w|w
  .exact e.dis j i a hj hm w
  .exact w.2.2 j hm
 rw[L8,L8]at e2;have es:Y.set i (Z v)=Y:=by have hi:i<Y.length:=(A0.mp hv).1;have hq:Y[i]=Z v:=(A0.mp hv).2;rw[<-hq];exact PD hi
 rwa [es]at e2
theorem A9.change(e:A9 K F0 H0 F H r Y fp)(hv:Y[i]?=Z (Z v))(q:Ay K F H' b v fp')(nd:fp'.Nodup)(h1:∀a∈fp',a∈fp i\/H a=J)(h2:∀a o,H a=Z o->¬a∈fp i->H' a=Z o):At K F0 H0 F H' (r.set i (Z b)) Y :=
 e.changeW hv q nd (λa ha=>(h1 a ha).imp id λz=>⟨e.sub.free z,e.ext.hh.free z,λj hj=>by obtain⟨o,ho⟩:=e.there hj;rw[z]at ho;cases ho⟩) h2
theorem At.storeNew{Hb:Hp}(e:At K F0 H0 F H r Y)(hb:At K F0 H0 F' Hb r Y)(sb:AU Hb H)(q:Ay K F H b v fp')(nd:fp'.Nodup)(h1:∀a∈fp',F a=J/\Hb a=J):At K F0 H0 F H (r.set i (Z b)) (Y.set i (Z v)):=by
 refine e.store q nd (λa h=>⟨(h1 a h).1,hb.ext.hh.free (h1 a h).2⟩) λfp e1 j a hj ha z=>?_;obtain⟨fq,eb⟩:=hb;obtain⟨c,hc⟩:=e1.bound ha;obtain⟨u1,s1,r1⟩:=e1.at_ j c hc;obtain⟨u2,s2,r2⟩:=eb.at_ j c hc;rw[s2]at s1;cases s1;have hn:=(h1 a z).2;have old:∀{x:Addr} {o o':HO},Hb x=Z o->H x=Z o'->(∀ps,o'≠.tbl ps)->o=o':=λ{x o o'} h1 h2 n=>sb.back h1 h2 n;generalize fp j=f1 at r1 ha;generalize fq j=f2 at r2;cases r1 with
 |pl _=>simp at ha
 |hd _ _ _ _=>simp at ha
 |hf _=>simp at ha
 |ol k _=>cases r2 with|ol k' _=>simp at ha;subst ha;rw[hn]at k';cases k'
 |ok k _ _=>cases r2 with|ok k' _ _=>simp at ha;subst ha;rw[hn]at k';cases k'
 |ot k _ _=>cases r2 with|ot k' _ _=>simp at ha;subst ha;rw[hn]at k';cases k'
 |otl k _ v1 _ =>
  cases r2 with
  |otl k' hk' v2 r2' =>
   have eo:=old k' k λ_ z=>by cases z
   injection eo with eo
   subst eo;have v2':=v2;rw[v1]at v2;rcases AE.mp ha with z2|z2
   .subst z2;rw[hn]at k';cases k'
   .have:V.ref a∈Iv V.ref _:=Al.mpr ⟨a,z2,rfl⟩
    rw[v2]at this;obtain⟨a',m1,m2⟩:=Al.mp this;injection m2 with m2
    subst m2;obtain⟨o,ho⟩:=Ay.there (Ay.otl k' hk' v2' r2') (Ap _ m1);rw[hn]at ho;cases ho
theorem At.rebase(e:At K F0 H0 F H r Y):At K F H0 F H r Y:=by obtain⟨fp,e⟩:=e;exact⟨fp,⟨Zp.refl F,e.ext.hh,e.ext.sub,λ_ _ z=>.inl z,e.ext.tab,id⟩,e.len,e.at_,e.emp,e.own,e.nd,e.dis,e.tb,e.ext.nts e.nt⟩
theorem sQ.unbase{F1:Hp}(x:sQ F0 H0 F1 H1)(y:sQ F1 H0 F H):sQ F0 H0 F H :=
 ⟨x.ff.trans y.ff,y.hh,y.sub,λa o z=>(y.new a o z).elim (λq=>x.new a o q) .inr,y.tab,λt=>y.nts (x.nts t)⟩
theorem At.unbase{F1 H1:Hp}(x:sQ F0 H0 F1 H1)(n:uN F0)(e:At K F1 H0 F H r Y):At K F0 H0 F H r Y:=by obtain⟨fp,e⟩:=e;exact⟨fp,x.unbase e.ext,e.len,e.at_,e.emp,e.own,e.nd,e.dis,e.tb,n⟩
theorem A9.freeze{fp:Nat->List Addr}(e:A9 K F0 H0 F H r Y fp)(i:Nat){b:HM.B}{d:PyData}(hb:r[i]?=Z (Z b))(h1:Y[i]?=Z (Z (.ref a)))(wM:fp i=[a])(ha:H a=Z ob)(hr:Zp F (upd F a ob)->Rep K (upd F a ob) d (.ref a))(no:HP.nt ob=Aa:=by rfl):∃F',sQ F0 H0 F' H/\Zp F F'/\At K F0 H0 F' H (r.set i (Z (.pl d))) Y:=by
 have hF:F a=J:=(e.own i a (by rw[wM];simp)).1;have s:Zp F (upd F a ob):=Zp.upd' hF;have x:sQ F0 H0 (upd F a ob) H:=by
  refine⟨e.ext.ff.trans s,e.ext.hh,λc o z=>?_,λc o z=>?_,e.ext.tab,λt=>(e.ext.nts t).upd no⟩
  .by_cases hc:c=a
   .subst hc;rw[Zz]at z;cases z;exact ha
   .rw[ZB hc]at z;exact e.sub c o z
  .by_cases hc:c=a
   .subst hc;exact .inr (.inl (e.own i c (by rw[wM];simp)).2)
   .rw[ZB hc]at z;exact e.ext.new c o z
 refine⟨_,x,s,?_⟩;have e1:A9 K F0 H0 (upd F a ob) H (r.set i J) (Y.set i J) (λj=>if j=i then[]else fp j):=by
  refine⟨x,by rw[Eg,Eg,e.len],λj c h=>?_,λj h=>?_,λj c h=>?_,λj=>?_,λj k c ze h=>?_,e.tb,e.nt⟩
  .by_cases hj:j=i
   .subst hj
    rw[EG (A0.mp hb).1]at h;cases h
   .rw[Cq (A8 hj)]at h
    obtain⟨u,q1,q2⟩:=e.at_ j c h;refine⟨u,by rw[Cq (A8 hj)];exact q1,?_⟩;rw[if_neg hj];exact q2.mono s λ_ _ _ z=>.of z
  .show(if j=i then[]else fp j)=[]
   by_cases hj:j=i
   .rw[if_pos hj]
   .rw[if_neg hj]
    exact e.emp j λc z=>h c (by rw[Cq (A8 hj)];exact z)
  .by_cases hj:j=i
   .rw[if_pos hj]at h;simp at h
   .rw[if_neg hj]at h
    have hca:c≠a:=λz=>e.dis j i c hj h (by rw[wM,z];simp);exact⟨by rw[ZB hca];exact(e.own j c h).1,(e.own j c h).2⟩
  .show(if j=i then[]else fp j).Nodup
   by_cases hj:j=i
   .rw[if_pos hj];exact Fo
   .rw[if_neg hj];exact e.nd j
  .show ¬c∈(if k=i then[]else fp k)
   by_cases hj:j=i
   .rw[if_pos hj]at h;simp at h
   .rw[if_neg hj]at h
    by_cases hk:k=i
    .rw[if_pos hk];simp
    .rw[if_neg hk];exact e.dis j k c ze h
 have rp:=hr s;have e2:=At.set (i:=i) ⟨_,e1⟩ rp;rw[L8,L8]at e2;have es:Y.set i (Z (.ref a))=Y:=by have hi:i<Y.length:=(A0.mp h1).1;have hq:Y[i]=Z (.ref a):=(A0.mp h1).2;rw[<-hq];exact PD hi
 rwa [es]at e2
theorem At.freeze(e:At K F0 H0 F H r Y)(i:Nat):∃F',sQ F0 H0 F' H/\Zp F F'/\At K F0 H0 F' H (HM.NU i r) Y:=by
 unfold HM.NU;split
 .rename_i ds hb
  obtain⟨fp,e⟩:=e;obtain⟨v,h1,h2⟩:=e.at_ i _ hb;generalize wM:fp i=f at h2;cases h2 with
  | @ol a _ vs ha q=>exact e.freeze i hb h1 wM ha λs=>.lst (.of Zz) q.1 (q.mono s).2
 .rename_i kvs hb
  obtain⟨fp,e⟩:=e;obtain⟨v,h1,h2⟩:=e.at_ i _ hb;generalize wM:fp i=f at h2;cases h2 with
  | @ot a _ vvs ha hk q=>exact e.freeze i hb h1 wM ha λs=>.dct (.inl Zz) rfl hk (q.mono s).2
 .exact⟨F,e.ext,Zp.refl F,e⟩
end
inductive vt(K:Ae)(r:HM.Env)(Y:L2.St)(H:Hp)(C:Hp->Hp->Hp->Prop):Prop
 |mk (F0 H0 F:Hp) (at_:At K F0 H0 F H r Y) (k:C F0 H0 F):vt K r Y H C
end HP
namespace HP
open PySem PySem.Spec PyProof.Rows L2
variable[FX]
section
variable{X:Cx}{f:HM.AF}{r:HM.Env}{u:HM.TF}{F:Hp}{i:Int}{es rest:List Expr}{j:Nat}{g:PyData->PyData->Option PyData}{K:Ae}{x:Str}
def yE(K:Ae)(r:HM.Env)(P:Hp->Hp->Hp->V->Prop):TE:=λY H Q=>vt K r Y H λF0 H0 F=>∀v F' H',sQ F H F' H'->P H F' H' v->Q v H'
def XE(X:Cx)(e:Expr)(f:HM.EF):Prop:=∀r d,f r=Z d->PE X e (yE X.K r λ_ F' _ v=>Rep X.K F' d v)
def XB(X:Cx)(e:Expr)(f:HM.BF):Prop:=∀r b,f r=Z b->PE X e (yE X.K r λ_ F' H' v=>∃fp,Ay X.K F' H' b v fp)
def XF(X:Cx)(e:Expr)(f:HM.BF):Prop:=∀r b,f r=Z b->PE X e (yE X.K r λH F' H' v=>∃fp,Ay X.K F' H' b v fp/\fp.Nodup/\∀a∈fp,F' a=J/\H a=J)
def XT(X:Cx)(e:Expr)(f:HM.TF):Prop:=∀r c,f r=Z c->PT X e λY H Q=>vt X.K r Y H λF0 H0 F=>∀F' H',sQ F H F' H'->Q c H'
def XW(X:Cx)(e:Expr)(f:HM.TF):Prop:=∀r c,f r=Z c->PW X e λY H Q=>vt X.K r Y H λF0 H0 F=>∀F' H',sQ F H F' H'->Q c H'
structure XA(X:Cx)(es:List Expr)(f:HM.AF):Prop where
 len:∀r ds,f r=Z ds->ds.length=es.length
 pa:∀r ds,f r=Z ds->PA X es λY H Q=>vt X.K r Y H λF0 H0 F=>∀vs F' H',sQ F H F' H'->Zt X.K F' ds vs->Q vs H'
def yx(K:Ae)(z0:It)(ds:List PyData)(F:Hp):Prop:=∀F' H,Zp F F'->Zp F' H ->
 (∀(i:Nat) (d:PyData),ds[i]?=Z d->z0.go i H/\∀x H',z0.yld i H x H'->H'=H/\Rep K (BD F' H) d x)/\z0.stop ds.length H
def XI(X:Cx)(tg e:Expr)(f:HM.IF):Prop:=∀r ds,f r=Z ds->PI X tg e λY H R=>vt X.K r Y H λF0 H0 F=>∀z0 F' H',sQ F H F' H'->yx X.K z0 ds F'->R z0 H'
def pM(K:Ae)(F0 H0:Hp)(o:HM.vW)(E:wJ):Prop:=match o with
 | .nx r=>∀Y F H,At K F0 H0 F H r Y->E.nx Y H
 | .rt d=>∀v F H,sQ F0 H0 F H->Rep K F d v->E.rt v H
 | .bk r=>∀Y F H,At K F0 H0 F H r Y->E.bk Y H
 | .ct r=>∀Y F H,At K F0 H0 F H r Y->E.ct Y H
def zu(K:Ae)(r:HM.Env)(o:HM.vW):TS:=λE Y H=>vt K r Y H λF0 H0 F=>pM K F0 H0 o E
def XS(X:Cx)(st:Stmt)(g:HM.SF):Prop:=∀r o,g r=Z o->PS X st (zu X.K r o)
def vV(X:Cx)(wt:List Stmt)(g:HM.SF):Prop:=∀r o,g r=Z o->uA X wt (zu X.K r o)
theorem PE.imp{e:Expr}{t u:TE}(h:PE X e t)(hi:∀Y H Q,u Y H Q->t Y H Q):PE X e u:=λsI s Y H Q I q=>h sI s Y H Q I (hi Y H Q q)
theorem PT.imp{e:Expr}{t u:TT}(h:PT X e t)(hi:∀Y H Q,u Y H Q->t Y H Q):PT X e u:=λsI s Y H Q I q=>h sI s Y H Q I (hi Y H Q q)
theorem PW.imp{e:Expr}{t u:TT}(h:PW X e t)(hi:∀Y H Q,u Y H Q->t Y H Q):PW X e u:=λwh sI s Y H Q I q=>h wh sI s Y H Q I (hi Y H Q q)
theorem PA.imp{t u:TA}(h:PA X es t)(hi:∀Y H Q,u Y H Q->t Y H Q):PA X es u:=λp sI s Y H Q I q=>h p sI s Y H Q I (hi Y H Q q)
theorem PS.imp{st:Stmt}{t u:TS}(h:PS X st t)(hi:∀E Y H,u E Y H->t E Y H):PS X st u:=λsI s Y H E I q=>h sI s Y H E I (hi E Y H q)
theorem uA.imp{wt:List Stmt}{t u:TS}(h:uA X wt t)(hi:∀E Y H,u E Y H->t E Y H):uA X wt u:=λsI s Y H E I q=>h sI s Y H E I (hi E Y H q)
section
variable{X:Cx}{a b c e:Expr}{fa fb fc:HM.EF}{pos p:Pos}
theorem hU{i:Nat}{d:PyData}(h:HM.Za i r=Z d):r[i]?=Z (Z (.pl d)):=by
 unfold HM.Za at h;split at h
 .rename_i q;cases h;exact q
 .cases h
theorem gw{i:Nat}{d:HM.B}(h:HM.Zo i r=Z d):r[i]?=Z (Z d):=by
 unfold HM.Zo at h;split at h
 .rename_i q;cases h;exact q
 .cases h
theorem Zc(i:Nat){pos:Pos}(hN:X.N[i]?=Z x:=by rfl)(hv:vk X.env.scope x:=by first|exact AG rfl|exact An (AG rfl)|exact An (An rfl))(hd:(x==("__debug__":Str))=Ab:=by decide)(tF:(x==("__classdict__":Str))=Ab:=by decide):XE X (.Name x pos) (HM.Za i):=by
 intro r d h;refine PE.imp (CI hN hv hd tF) λY H Q ⟨F0,H0,F,at_,k⟩=>?_;obtain⟨v,h1,h2⟩:=at_.plain (hU h);exact⟨v,h1,k v F H at_.refl h2⟩
theorem Zr(i:Nat){pos:Pos}(hN:X.N[i]?=Z x:=by rfl)(hv:vk X.env.scope x:=by first|exact AG rfl|exact An (AG rfl)|exact An (An rfl))(hd:(x==("__debug__":Str))=Ab:=by decide)(tF:(x==("__classdict__":Str))=Ab:=by decide):XB X (.Name x pos) (HM.Zo i):=by
 intro r d h;refine PE.imp (CI hN hv hd tF) λY H Q ⟨F0,H0,F,at_,k⟩=>?_;obtain⟨v,fp,h1,h2⟩:=at_.any (gw h);exact⟨v,h1,k v F H at_.refl ⟨fp,h2⟩⟩
theorem Jl{v:V}{d:PyData}(h:PE X e (tC v))(r:∀F,Rep X.K F d v):XE X e (HM.eC d):=by intro r' d' h';cases h';exact PE.imp h λY H Q ⟨F0,H0,F,at_,k⟩=>k v F H at_.refl (r F)
theorem Zl:XE X (.Constant (.int i) j pos) (HM.eC (.int i)):=Jl VU λ_=>.int i
theorem Co{q:Bool}:XE X (.Constant (.bool q) j pos) (HM.eC (.bool q)):=Jl bS λ_=>.bl q
theorem CW:XE X (.Constant .none j pos) (HM.eC .none):=Jl VA λ_=>.non
theorem VJ:XE X (.Constant (.str x) j pos) (HM.eC (.str x)):=Jl e9 λ_=>.str x
theorem HV(hm:∃t,X.mg x=Z (.int i t))(hg:Gl X x:=by rfl)(hd:(x==("__debug__":Str))=Ab:=by decide):XE X (.Name x pos) (HM.eC (.int i)):=by obtain⟨t,hm⟩:=hm;exact Jl (QC hg hm (v:=.int i) ⟨t,rfl⟩ hd) λ_=>.int i
theorem VI{p':Pos}:XE X (.UnaryOp .USub (.Constant (.int i) j p') pos) (HM.eC (.int (-i))):=by intro r d h;cases h;intro sI s Y H Q I q;obtain⟨F0,H0,F,at_,k⟩:=q;refine UnaryOp_ (sS (VU sI s Y H (λv H'=>v=.int i/\H'=H) I ⟨rfl,rfl⟩) λu s1 ⟨x,H1,I1,r1,e1,e2⟩=>?_);subst e1 e2;obtain⟨t,rfl⟩:=r1;exact neg_int ⟨.int (-i),H1,I1.tok _,⟨_,rfl⟩,k _ F H1 at_.refl (.int _)⟩
theorem BW(h:XE X e fa):XB X e (HM.sU fa):=by intro r b hb;obtain⟨d,h1,h2⟩:=Ai.mp hb;subst h2;exact PE.imp (h r d h1) λY H Q ⟨F0,H0,F,at_,k⟩=>⟨F0,H0,F,at_,λv F' H' x q=>k v F' H' x ⟨[],.pl q⟩⟩
theorem A7{f:HM.BF}(h:XF X e f):XB X e f:=λr b hb=>PE.imp (h r b hb) λY H Q ⟨F0,H0,F,at_,k⟩=>⟨F0,H0,F,at_,λv F' H' x ⟨fp,q,_⟩=>k v F' H' x ⟨fp,q⟩⟩
theorem B9{f:HM.BF}(h:XF X e f):XE X e (HM.uc f):=by
 intro r d hd;unfold HM.uc at hd;obtain⟨b,h1,h2⟩:=Uo.mp hd;refine PE.imp (h r b h1) λY H Q ⟨F0,H0,F,at_,k⟩=>⟨F0,H0,F,at_,λv F' H' x ⟨fp,q,_,hn⟩=>?_⟩;cases q with
 |pl q=>cases h2;exact k v F' H' x q
 | @ol l ds vs hl q =>
  cases h2;have hF:F' l=J:=(hn l (by simp)).1;have s:Zp F' (upd F' l (.lst vs)):=Zp.upd' hF;refine k _ (upd F' l (.lst vs)) H' ⟨x.ff.trans s,x.hh,λc o z=>?_,λc o z=>?_,x.tab,λt=>(x.nts t).upd rfl⟩ (.lst (.of Zz) q.1 (q.mono s).2)
  .by_cases hc:c=l
   .subst hc;rw[Zz]at z;cases z;exact hl
   .rw[ZB hc]at z;exact x.sub c o z
  .by_cases hc:c=l
   .subst hc;exact .inr (.inl (hn c (by simp)).2)
   .rw[ZB hc]at z;exact x.new c o z
 | @ot l kvs vvs hl hk q =>
  cases h2;have hF:F' l=J:=(hn l (by simp)).1;have s:Zp F' (upd F' l (.dT vvs)):=Zp.upd' hF;refine k _ (upd F' l (.dT vvs)) H' ⟨x.ff.trans s,x.hh,λc o z=>?_,λc o z=>?_,x.tab,λt=>(x.nts t).upd rfl⟩ (.dct (.inl Zz) rfl hk (q.mono s).2)
  .by_cases hc:c=l
   .subst hc;rw[Zz]at z;cases z;exact hl
   .rw[ZB hc]at z;exact x.sub c o z
  .by_cases hc:c=l
   .subst hc;exact .inr (.inl (hn c (by simp)).2)
   .rw[ZB hc]at z;exact x.new c o z
 |ok _ _ _=>cases h2
 |hd h3 h4 h5 h6=>cases h2;exact k _ F' H' x (.dct (.inr ⟨_,h3⟩) h4 h5 h6.2)
 |hf h3=>cases h2;exact k _ F' H' x (.fn h3)
 |otl _ _ _ _=>cases h2
def Bin(K:Ae)(r:R2)(g:PyData->PyData->Option PyData):Prop:=∀(F H:Hp) (x y z:PyData) (v w:V) (Q:VK),Zp F H->g x y=Z z->Rep K F x v->Rep K F y w->(∀u,Rep K F z u->Q u H)->r v w H Q
structure Kj(X:Cx)(op:Operator)(g:PyData->PyData->Option PyData):Prop where
 ex:∃r,uq X (Ed op) r/\Bin X.K r g
structure DV(X:Cx)(op:CmpOp)(g:PyData->PyData->Option PyData):Prop where
 ex:∃r,uq X (BQ op) r/\Bin X.K r g
 n1:op≠.In
 n2:op≠.NotIn
theorem KG{d:PyData}(h:HM.sM g fa fb r=Z d):∃x y,fa r=Z x/\fb r=Z y/\g x y=Z d:=by
 unfold HM.sM at h;split at h
 .split at h
  .exact⟨_,_,by assumption,by assumption,h⟩
  .cases h
 .cases h
theorem two{x y:PyData}{P:Hp->Hp->Hp->V->Prop}{Y:L2.St}{H:Hp}{Q:VK}{R:V->V->Hp->VK->Prop}(h:yE K r P Y H Q)(hk:∀H F2 H2 v w,Zp F2 H2->Rep K F2 x v->Rep K F2 y w->(∀u F3 H3,sQ F2 H2 F3 H3->P H F3 H3 u->Q u H3)->AU H H2->R v w H2 Q):zv R (yE K r λ_ F' _ v=>Rep K F' x v) (yE K r λ_ F' _ v=>Rep K F' y v) Y H Q:=by
 obtain⟨F0,H0,F,at_,k⟩:=h;refine⟨F0,H0,F,at_,λv F1 H1 x1 r1=>⟨F0,H0,F1,at_.grow x1,λw F2 H2 x2 r2=>?_⟩⟩;exact hk H F2 H2 v w x2.sub (r1.mono x2.ff) r2 (λu F3 H3 x3 q=>k u F3 H3 ((x1.trans x2).trans x3) q) (x1.hh.trans x2.hh)
theorem ZI{op:Operator}(o:Kj X op g)(ha:XE X a fa)(hb:XE X b fb):XE X (.BinOp a op b pos) (HM.sM g fa fb):=by intro r d h;obtain⟨x,y,h1,h2,h3⟩:=KG h;obtain⟨R,o1,o2⟩:=o.ex;refine PE.imp (Kl o1 (ha r x h1) (hb r y h2)) λY H Q q=>?_;exact two q λ_ F2 H2 v w s r1 r2 k _=>o2 F2 H2 x y d v w Q s h3 r1 r2 λu ru=>k u F2 H2 (.refl s) ru
theorem HQ{op:CmpOp}(o:DV X op g)(ha:XE X a fa)(hb:XE X b fb):XE X (.Compare a [op] [b] pos) (HM.sM g fa fb):=by intro r d h;obtain⟨x,y,h1,h2,h3⟩:=KG h;obtain⟨R,o1,o2⟩:=o.ex;refine PE.imp (V6 o1 (ha r x h1) (hb r y h2) (QY _ o.n1 o.n2)) λY H Q q=>?_;exact two q λ_ F2 H2 v w s r1 r2 k _=>o2 F2 H2 x y d v w Q s h3 r1 r2 λu ru=>k u F2 H2 (.refl s) ru
theorem HI{c:Bool}(h:HM.tV fa r=Z c):fa r=Z (.bool c):=by
 unfold HM.tV at h;split at h
 .rename_i q;cases h;exact q
 .cases h
theorem Rep.bool_inv{c:Bool}{v:V}(h:Rep K F (.bool c) v):v=.bl c:=by cases h;rfl
theorem Rep.int_inv{v:V}(h:Rep K F (.int i) v):v=.int i:=by cases h;rfl
theorem Rep.none_inv{v:V}(h:Rep K F .none v):v=.non:=by cases h;rfl
theorem Ba{op:CmpOp}(o:DV X op g)(ha:XE X a fa)(hb:XE X b fb):XT X (.Compare a [op] [b] pos) (HM.tV (HM.sM g fa fb)):=by intro r d h;obtain⟨x,y,h1,h2,h3⟩:=KG (HI h);obtain⟨R,o1,o2⟩:=o.ex;refine PT.imp (QF o1 (ha r x h1) (hb r y h2) (QY _ o.n1 o.n2)) λY H Q ⟨F0,H0,F,at_,k⟩=>?_;refine⟨F0,H0,F,at_,λv F1 H1 x1 r1=>⟨F0,H0,F1,at_.grow x1,λw F2 H2 x2 r2=>?_⟩⟩;refine o2 F2 H2 x y _ v w _ x2.sub h3 (r1.mono x2.ff) r2 λu ru=>?_;exact⟨d,ru.bool_inv,k F2 H2 (x1.trans x2)⟩
theorem B7(h:XE X e fa)(he:∀u9,isTrue e X.env u9=(do let v <-u9;standAt e.pos;holding [v] (truthy v)):=by intro _;rfl):XT X e (HM.tV fa):=by intro r c hc;refine PT.imp (dM (h r _ (HI hc)) he) λY H Q ⟨F0,H0,F,at_,k⟩=>?_;exact⟨F0,H0,F,at_,λv F1 H1 x1 r1=>⟨c,r1.bool_inv,k F1 H1 x1⟩⟩
theorem DK{t:HM.TF}(h:XT X a t):XT X (.UnaryOp .Not a pos) (HM.Cj t):=by intro r c hc;obtain⟨d,h1,h2⟩:=Ai.mp hc;subst h2;refine PT.imp (fS (h r d h1)) λY H Q ⟨F0,H0,F,at_,k⟩=>?_;exact⟨F0,H0,F,at_,λF1 H1 x1=>k F1 H1 x1⟩
theorem Gn{t:HM.TF}(h:XW X e t):XT X e t:=λr c hc=>(h r c hc).pt
theorem QA{t:HM.TF}(h:XT X a t):XW X (.BoolOp .And [a] pos) t:=λr c hc=>gB (h r c hc)
theorem KA{t:HM.TF}(h:XT X a t):XW X (.BoolOp .Or [a] pos) t:=λr c hc=>cm (h r c hc)
theorem WU{e:Expr}:PW X e λ_ _ _=>False:=λ_ _ _ _ _ _ _ h=>h.elim
theorem Nw{e:Expr}:PE X e λ_ _ _=>False:=λ_ _ _ _ _ _ h=>h.elim
theorem M3{t:HM.TF}(ha:XT X a t)(hb:XW X (.BoolOp .And (b::rest) pos) u):XW X (.BoolOp .And (a::b::rest) pos) (HM.Cm t u):=by
 intro r c hc;unfold HM.Cm at hc;split at hc
 .rename_i q
  refine PW.imp (VM (ha r Aa q) (hb r c hc)) λY H Q ⟨F0,H0,F,at_,k⟩=>?_;exact⟨F0,H0,F,at_,λF1 H1 x1=>Hu ⟨F0,H0,F1,at_.grow x1,λF2 H2 x2=>k F2 H2 (x1.trans x2)⟩⟩
 .rename_i q
  cases hc;refine PW.imp (VM (ha r Ab q) WU) λY H Q ⟨F0,H0,F,at_,k⟩=>?_;exact⟨F0,H0,F,at_,λF1 H1 x1=>Hv (k F1 H1 x1)⟩
 .cases hc
theorem Ko{t:HM.TF}(ha:XT X a t)(hb:XW X (.BoolOp .Or (b::rest) pos) u):XW X (.BoolOp .Or (a::b::rest) pos) (HM.wq t u):=by
 intro r c hc;unfold HM.wq at hc;split at hc
 .rename_i q
  cases hc;refine PW.imp (Vb (ha r Aa q) WU) λY H Q ⟨F0,H0,F,at_,k⟩=>?_;exact⟨F0,H0,F,at_,λF1 H1 x1=>Hu (k F1 H1 x1)⟩
 .rename_i q
  refine PW.imp (Vb (ha r Ab q) (hb r c hc)) λY H Q ⟨F0,H0,F,at_,k⟩=>?_;exact⟨F0,H0,F,at_,λF1 H1 x1=>Hv ⟨F0,H0,F1,at_.grow x1,λF2 H2 x2=>k F2 H2 (x1.trans x2)⟩⟩
 .cases hc
theorem GB{op:BoolOp}(h:XE X a fa):XE X (.BoolOp op [a] pos) fa:=λr d hd=>dY (h r d hd)
theorem GA(ha:XE X a fa)(hb:XE X (.BoolOp .And (b::rest) pos) fb):XE X (.BoolOp .And (a::b::rest) pos) (HM.Gr fa fb):=by
 intro r d hd;unfold HM.Gr at hd;split at hd
 .rename_i q
  refine PE.imp (VO (ha r _ q) (hb r d hd)) λY H Q ⟨F0,H0,F,at_,k⟩=>?_;exact⟨F0,H0,F,at_,λv F1 H1 x1 r1=>⟨Aa,r1.bool_inv,Hu ⟨F0,H0,F1,at_.grow x1,λw F2 H2 x2 r2=>k w F2 H2 (x1.trans x2) r2⟩⟩⟩
 .rename_i q
  cases hd;refine PE.imp (VO (ha r _ q) Nw) λY H Q ⟨F0,H0,F,at_,k⟩=>?_;exact⟨F0,H0,F,at_,λv F1 H1 x1 r1=>⟨Ab,r1.bool_inv,Hv (k _ F1 H1 x1 (.bl Ab))⟩⟩
 .cases hd
theorem U4{t:HM.TF}(hc:XT X c t)(ha:XE X a fa)(hb:XE X b fb):XE X (.IfExp c a b pos) (HM.eIf t fa fb):=by
 intro r d hd;unfold HM.eIf at hd;split at hd
 .rename_i q
  refine PE.imp (Xh (hc r _ q) (ha r d hd) Nw) λY H Q ⟨F0,H0,F,at_,k⟩=>?_;exact⟨F0,H0,F,at_,λF1 H1 x1=>Hu ⟨F0,H0,F1,at_.grow x1,λw F2 H2 x2 r2=>k w F2 H2 (x1.trans x2) r2⟩⟩
 .rename_i q
  refine PE.imp (Xh (hc r _ q) Nw (hb r d hd)) λY H Q ⟨F0,H0,F,at_,k⟩=>?_;exact⟨F0,H0,F,at_,λF1 H1 x1=>Hv ⟨F0,H0,F1,at_.grow x1,λw F2 H2 x2 r2=>k w F2 H2 (x1.trans x2) r2⟩⟩
 .cases hd
theorem Xx{op op':CmpOp}{g':PyData->PyData->Option PyData}(o:DV X op g)(o':DV X op' g')(ha:XE X a fa)(hb:XE X b fb)(hc:XE X c fc)(hm:lastMarks [op,op'] [b,c]=Ab:=by with_unfolding_all rfl):XE X (.Compare a [op,op'] [b,c] pos) (HM.Ye g g' fa fb fc):=by
 intro r d hd;unfold HM.Ye at hd;obtain⟨R,o1,o2⟩:=o.ex;obtain⟨R',o1',o2'⟩:=o'.ex;split at hd
 .rename_i x hx
  split at hd
  .rename_i y hy
   split at hd
   .rename_i hg
    split at hd
    .rename_i z hz
     refine PE.imp (Xf o1 o1' (ha r x hx) (hb r y hy) (hc r z hz) hm) λY H Q ⟨F0,H0,F,at_,k⟩=>?_;refine⟨F0,H0,F,at_,λv F1 H1 x1 r1=>⟨F0,H0,F1,at_.grow x1,λw F2 H2 x2 r2=>?_⟩⟩;refine o2 F2 H2 x y _ v w _ x2.sub hg (r1.mono x2.ff) r2 λu ru=>?_;refine⟨Aa,ru.bool_inv,Hu ⟨F0,H0,F2,(at_.grow x1).grow x2,λw' F3 H3 x3 r3=>?_⟩⟩;exact o2' F3 H3 y z d w w' Q x3.sub hd (r2.mono x3.ff) r3 λu' ru'=>k u' F3 H3 ((x1.trans x2).trans x3) ru'
    .cases hd
   .rename_i hg
    cases hd;refine PE.imp (Xf o1 o1' (ha r x hx) (hb r y hy) Nw hm) λY H Q ⟨F0,H0,F,at_,k⟩=>?_;refine⟨F0,H0,F,at_,λv F1 H1 x1 r1=>⟨F0,H0,F1,at_.grow x1,λw F2 H2 x2 r2=>?_⟩⟩;refine o2 F2 H2 x y _ v w _ x2.sub hg (r1.mono x2.ff) r2 λu ru=>?_;exact⟨Ab,ru.bool_inv,Hv (k _ F2 H2 (x1.trans x2) (.bl Ab))⟩
   .cases hd
  .cases hd
 .cases hd
theorem Zg:XA X [] HM.Zh:=by refine⟨λr ds h=>by cases h;rfl,λr ds h=>?_⟩;cases h;exact PA.imp BV λY H Q ⟨F0,H0,F,at_,k⟩=>k [] F H at_.refl .nil
theorem Zd(ha:XE X e fa)(hr:XA X es f)(hs:Ad (e::es) X.env=(Ab,eval e X.env)::Ad es X.env:=by rfl):XA X (e::es) (HM.Zb fa f):=by
 refine⟨λr ds h=>?_,λr ds h=>?_⟩
 .unfold HM.Zb at h
  split at h
  .obtain⟨xs,h1,h2⟩:=Ai.mp h
   subst h2;rw[AD,AD,hr.len r xs h1]
  .cases h
 unfold HM.Zb at h;split at h
 .rename_i x hx
  obtain⟨xs,h1,h2⟩:=Ai.mp h;subst h2;refine PA.imp (Z3 (ha r x hx) (hr.pa r xs h1) hs) λY H Q ⟨F0,H0,F,at_,k⟩=>?_;exact⟨F0,H0,F,at_,λv F1 H1 x1 r1=>⟨F0,H0,F1,at_.grow x1,λvs F2 H2 x2 r2=>k (v::vs) F2 H2 (x1.trans x2) (.cons (r1.mono x2.ff) r2)⟩⟩
 .cases h
theorem CT{x1:Nat}(h:XA X es f)(hl:es.length<=100:=by exact Nat.le_of_ble_eq_true rfl):XE X (.Tuple es x1 pos) (HM.Br f):=by
 intro r d hd;obtain⟨ds,h1,h2⟩:=Ai.mp hd;subst h2;refine PE.imp (dO (h.pa r ds h1)) λY H Q ⟨F0,H0,F,at_,k⟩=>⟨F0,H0,F,at_,λvs F1 H1 x1 r1=>⟨?_,λp hp=>?_⟩⟩
 .have e1:=h.len r ds h1
  have e2:=r1.1;have e3:(100:Nat)<=sizeLine:=by decide
  omega
 .have hF:F1 p=J:=x1.sub.free hp
  exact k _ (upd F1 p (.tup vs)) _ (x1.lay hp) (.tup Zz r1.1 (r1.mono (Zp.upd' hF)).2)
theorem BH(h:XA X es f)(hl:es.length<=100:=by exact Nat.le_of_ble_eq_true rfl):XF X (.List es pos) (HM.AY f):=by
 intro r d hd;obtain⟨ds,h1,h2⟩:=Ai.mp hd;subst h2;refine PE.imp (VB (h.pa r ds h1)) λY H Q ⟨F0,H0,F,at_,k⟩=>⟨F0,H0,F,at_,λvs F1 H1 x1 r1=>⟨?_,λp hp=>?_⟩⟩
 .have e1:=h.len r ds h1
  have e2:=r1.1;have e3:(100:Nat)<=sizeLine:=by decide
  omega
 .have hF:F1 p=J:=x1.sub.free hp
  refine k _ F1 _ (x1.lay' hp) ⟨[p],.ol Zz r1,by simp,λa ha=>?_⟩;have:a=p:=by simpa using ha
  subst this;exact⟨hF,x1.hh.free hp⟩
end
end
section
variable{f:Addr}{fd:FuncData}{g:HM.SF}{base:Heap}{N ps:List Str}{p':Pos}{P:Program}{K:Ae}{qual x:Str}{mg:Str->Option Value}
section
variable{X:Cx}{a b c e:Expr}{fa fb fc:HM.EF}{pos p:Pos}{st:Stmt}{rest:List Stmt}{g u:HM.SF}
theorem Q5(h:X.xe=λ_ _=>False):PassesOwn (model X.prog X.w) X.A X.env X.xe:=by rw[h];exact PassesOwn.never
theorem Z0:vV X [] HM.AN:=by intro r o h;cases h;exact uA.imp fG λE Y H ⟨F0,H0,F,at_,k⟩=>k Y F H at_
theorem Zi(h:XS X st g):vV X [st] g:=λr o ho=>Qq (h r o ho)
theorem Zf(h1:XS X st g)(h2:vV X rest u):vV X (st::rest) (HM.Zq g u):=by
  intro r o h
  unfold HM.Zq at h
  split at h
  · rename_i r' q
    refine uA.imp (HY (h1 r _ q) (h2 r' o h)) λE Y H ⟨F0,H0,F,at_,k⟩=>?_
    exact⟨F0,H0,F,at_,λσ' F' H' at'=>⟨F0,H0,F',at',k⟩⟩
  all_goals first
    | cases h
      rename_i q
      refine uA.imp (HY (h1 r _ q) GR) λE Y H ⟨F0,H0,F,at_,k⟩=>?_
      exact⟨F0,H0,F,at_,k⟩
    |cases h
theorem QP:XS X st HM.Qs:=λr o h=>nomatch h
theorem Zw(h:XE X e fa):XS X (.Return (Z e) pos) (HM.ZF fa):=by intro r o ho;obtain⟨d,h1,h2⟩:=Ai.mp ho;subst h2;refine PS.imp (Kq (h r d h1)) λE Y H ⟨F0,H0,F,at_,k⟩=>?_;exact⟨F0,H0,F,at_,λv F' H' x q=>k v F' H' (at_.ext.trans x) q⟩
theorem KU(h:XE X e fa)(hs:DB e J pos.line X.env=pure Ab:=by rfl):XS X (.Expr e pos) (HM.Kz fa):=by intro r o ho;obtain⟨d,h1,h2⟩:=Ai.mp ho;subst h2;refine PS.imp (KO (h r d h1) hs) λE Y H ⟨F0,H0,F,at_,k⟩=>?_;exact⟨F0,H0,F,at_,λv F' H' x q=>k Y F' H' (at_.grow x)⟩
theorem A5{t:HM.TF}{sa sb:List Stmt}(hc:XT X c t)(ha:vV X sa g)(hb:vV X sb u):XS X (.If c sa sb pos) (HM.tQ t g u):=by
 intro r o ho;unfold HM.tQ at ho;split at ho
 .rename_i q
  refine PS.imp (MO (hc r _ q) (ha r o ho) GR) λE Y H ⟨F0,H0,F,at_,k⟩=>?_;exact⟨F0,H0,F,at_,λF' H' x=>Hu ⟨F0,H0,F',at_.grow x,k⟩⟩
 .rename_i q
  refine PS.imp (MO (hc r _ q) GR (hb r o ho)) λE Y H ⟨F0,H0,F,at_,k⟩=>?_;exact⟨F0,H0,F,at_,λF' H' x=>Hv ⟨F0,H0,F',at_.grow x,k⟩⟩
 .cases ho
theorem CK(i:Nat)(h:XS X st g):XS X st (HM.Ck i g):=by intro r o ho;refine PS.imp (h (HM.NU i r) o ho) λE Y H ⟨F0,H0,F,at_,k⟩=>?_;obtain⟨F',_,_,a'⟩:=at_.freeze i;exact⟨F0,H0,F',a',k⟩
theorem ZS(i:Nat)(hN:X.N.Nodup)(h:XE X e fa)(hi:X.N[i]?=Z x:=by rfl)(hx:Loc X.env.scope x:=by first|exact AG rfl|exact An rfl)(hs:DB e (Z (.Name x p')) pos.line X.env=pure Ab:=by rfl)(hf:X.fn x=Aa\/X.env.scope.names.lookup x=Z .local:=by first|exact .inl rfl|exact .inr rfl):XS X (.Assign [.Name x p'] e pos) (HM.Z2 i fa):=by
 intro r o ho;obtain⟨d,h1,h2⟩:=Ai.mp ho;subst h2;refine PS.imp (P7 hN hi hx (h r d h1) hs hf) λE Y H ⟨F0,H0,F,at_,k⟩=>?_;exact⟨F0,H0,F,at_,λv F' H' x q=>k _ F' H' ((at_.grow x).set q)⟩
theorem Z8(i:Nat){f:HM.BF}(hN:X.N.Nodup)(h:XF X e f)(hi:X.N[i]?=Z x:=by rfl)(hx:Loc X.env.scope x:=by first|exact AG rfl|exact An rfl)(hs:DB e (Z (.Name x p')) pos.line X.env=pure Ab:=by rfl)(hf:X.fn x=Aa\/X.env.scope.names.lookup x=Z .local:=by first|exact .inl rfl|exact .inr rfl):XS X (.Assign [.Name x p'] e pos) (HM.ZJ i f):=by
 intro r o ho;obtain⟨d,h1,h2⟩:=Ai.mp ho;subst h2;refine PS.imp (P7 hN hi hx (h r d h1) hs hf) λE Y H ⟨F0,H0,F,at_,k⟩=>?_;exact⟨F0,H0,F,at_,λv F' H' x ⟨fp,q,nd,hn⟩=>k _ F' H' ((at_.grow x).storeNew at_ x.hh q nd hn)⟩
theorem BG(i:Nat){iter:Expr}{body:List Stmt}{fi:HM.IF}(hN:X.N.Nodup)(uU:X.xe=λ_ _=>False)(hc:X.calm=Aa)(hi:XI X (.Name x p') iter fi)(hb:vV X body g)(zF:X.N[i]?=Z x:=by rfl)(hx:Loc X.env.scope x:=by first|exact AG rfl|exact An rfl)(hf:X.fn x=Aa\/X.env.scope.names.lookup x=Z .local:=by first|exact .inl rfl|exact .inr rfl)(hs:∀x,EA iter X.env x=pure x:=by intro _;rfl):XS X (.For (.Name x p') iter body [] pos) (HM.AR i fi g):=by
 intro r o ho;unfold HM.AR at ho;split at ho
 .rename_i ds sW
  split at ho
  .rename_i vj
   have pb:uA X body (λE Y H=>∃r o,g r=Z o/\zu X.K r o E Y H):=λsI s Y H E I ⟨r,o,h1,h2⟩=>hb r o h1 sI s Y H E I h2;refine PS.imp (Vi (Q5 uU) hc (hi r ds sW) (Jh hN zF hx hf) pb hs) λE Y H ⟨F0,H0,F,at_,k⟩=>?_;refine⟨F0,H0,F,at_,λz0 F1 H1 x1 it=>?_⟩;refine⟨λn m Y H=>∃F r,At X.K F0 H0 F H r Y/\Zp F1 F/\n+m=ds.length/\HM.ZN i g (ds.drop n) r=Z o,⟨ds.length,F1,r,at_.grow x1,Zp.refl _,by omega,ho⟩,?_⟩
   rintro n m Y H ⟨F2,r2,uE,s2,hn,go⟩
   obtain⟨y9,y8⟩:=it F2 H s2 uE.sub;cases m with
   |zero =>
    have e:n=ds.length:=by omega
    subst e;rw[Ug]at go;cases go;exact .inl ⟨y8,k Y F2 H uE⟩
   |succ m =>
    have tu:n<ds.length:=by omega
    rw[UN tu]at go;obtain⟨j1,j2⟩:=y9 n ds[n] (A2 tu);refine .inr ⟨j1,λσ' H'=>∃F r,At X.K F0 H0 F H' r σ'/\Zp F1 F/\HM.ZN i g (ds.drop (n+1)) r=Z o,λσ' H' ⟨F,r,a1,a2,a3⟩=>⟨m,by omega,F,r,a1,a2,by omega,a3⟩,λy H' hy=>?_⟩;obtain⟨e1,ry⟩:=j2 y H' hy;subst e1;obtain⟨F3,uz,s3,ry⟩:∃F3,At X.K F0 H0 F3 H' r2 Y/\Zp F1 F3/\Rep X.K F3 ds[n] y:=⟨_,uE.grow uE.refl.tups,s2.trans (EW uE.sub),ry⟩;have a3:=uz.set (i:=i) ry;have a4:=a3.rebase;unfold HM.ZN at go;split at go
    .rename_i r' hr
     exact⟨_,_,hr,F3,H0,F3,a4,λσ' F' H' a'=>⟨F',r',a'.unbase uz.ext uz.nt0,s3.trans a'.ext.ff,go⟩⟩
    .rename_i r' hr
     exact⟨_,_,hr,F3,H0,F3,a4,λσ' F' H' a'=>⟨F',r',a'.unbase uz.ext uz.nt0,s3.trans a'.ext.ff,go⟩⟩
    .rename_i r' hr
     cases go;exact⟨_,_,hr,F3,H0,F3,a4,λσ' F' H' a'=>k σ' F' H' (a'.unbase uz.ext uz.nt0)⟩
    .rename_i d hr
     cases go;exact⟨_,_,hr,F3,H0,F3,a4,λv F' H' x q=>k v F' H' (uz.ext.unbase x) q⟩
    .cases go
  .cases ho
 .cases ho
end
def spD(K:Ae)(n:Nat)(M:List PyData->Option PyData):Sp:=λvs H Q _=>∃F ds d,vs.length=n/\Zp F H/\Tb H/\uN F/\Zt K F ds vs/\M ds=Z d/\∀v F' H',sQ F H F' H'->Rep K F' d v->Q v H'
structure Callee(P:Program)(w:World)(K:Ae)(mg:Str->Option Value)(base:Heap)(k:Nat)(x:Str)(M:List PyData->Option PyData):Prop where
 ex:∃f fd ps,(∀ds d,M ds=Z d->ds.length=ps.length)/\Cc P w K mg base vd k f fd ps (spD K ps.length M)/\mg x=Z (.ref f)/\Ef K (.ref f)=Aa/\Binds K fd ps []
theorem Callee.mono{P:Program}{w:World}{K:Ae}{mg:Str->Option Value}{base:Heap}{j k:Nat}{x:Str}{M:List PyData->Option PyData}(C:Callee P w K mg base j x M)(h:j<=k):Callee P w K mg base k x M:=by obtain⟨f,fd,ps,l,F,r⟩:=C.ex;exact⟨f,fd,ps,l,F.mono h,r⟩
section
variable{X:Cx}{pos p:Pos}{e:Expr}{es:List Expr}{f:HM.AF}
theorem Zk{k:Nat}{M:List PyData->Option PyData}(C:Callee X.prog X.w X.K X.mg X.base k x M)(hr:ZP k X.A)(ha:XA X (e::es) f)(hg:Gl X x:=by rfl)(uh:(x==("__debug__":Str))=Ab:=by decide)(he:Ad (e::es) X.env=(Ab,eval e X.env)::Ad es X.env:=by rfl)(hpl:(backTo pos (Ad es X.env)).any (·.1)=Ab:=by rfl):XE X (.Call (.Name x p) (e::es) [] pos) (HM.Zj M f):=by
 intro r d hd;unfold HM.Zj at hd;split at hd
 .rename_i ds sW
  obtain⟨fa,fd,ps,hl,F,hm,hk,hb⟩:=C.ex;refine PE.imp (KJ (E:=E0) F hr hg hm hk hb .nil MD (ha.pa r ds sW) uh he hpl) λY H Q ⟨F0,H0,F1,at_,k⟩=>?_;refine⟨F0,H0,F1,at_,λvs F' H' x q=>?_⟩;show spD X.K ps.length M (vs++[]) H' Q E0;rw[B6];exact⟨F',ds,d,by rw[<-q.1];exact hl ds d hd,x.sub,at_.tbx x,at_.ntx x,q,hd,λv F2 H2 x2 q2=>k v F2 H2 (x.trans x2) q2⟩
 .cases hd
end
theorem Jk{F H:Hp}{ds:List PyData}{vs:List V}(s:Zp F H)(tb:Tb H)(nt:uN F)(q:Zt K F ds vs)(hl:ds.length<=N.length):At K F H F H (HM.OL N.length ds) (L2.start N vs):=by
 have hv:=q.1;refine⟨λ_=>[],.refl s,?_,λi b h=>?_,λ_ _=>rfl,λi a h=>by simp at h,λ_=>Fo,λi j a _ h=>by simp at h,tb,nt⟩
 .unfold HM.OL L2.start
  rw[AK,AK,Af,Af,El,El,hv]
 .unfold HM.OL at h
  by_cases hi:i<ds.length
  .rw[DD (by rw[Af];exact hi),A1,A2 hi]at h
   cases h;obtain⟨v,h1,h2⟩:=q.get (A2 hi);refine⟨v,?_,.pl h2⟩;unfold L2.start;rw[DD (by rw[Af,<-hv];exact hi),A1,h1];rfl
  .rw[EI (by rw[Af];omega),Ms]at h
   split at h<;>cases h
theorem V5{w:World}{k:Nat}{st:Stmt}(Fn:vF K x qual st f fd)(S:Zs N ps (Ze st))(body:∀(sO:Value) (A:Around) (outer:List Env) (s:Shared) (H:Hp) (E:XK),ZP k (A.deeper (envOfC qual (Ze st) s.heap.objs.size f sO))->vV (CO vd P w K mg base N qual (Ze st) f sO A outer s H E).nox (BU st) g):Cc P w K mg base vd (k+1) f fd ps (spD K ps.length (HM.fnOf ps.length N.length g)):=by
 have hpl:ps.length<=N.length:=by have:=congrArg BC S.pre;rw[Fd]at this;omega
 refine Fn.ok S (λvs H Q E h=>?_) (λsO A outer s H vs Q E hr h=>?_)
 .obtain⟨_,_,_,h,_⟩:=h
  exact h
 .obtain⟨F,ds,d,hl,sub,tb,nt,q,hM,kk⟩:=h
  unfold HM.fnOf at hM;split at hM
  .rename_i sW
   have a0:=Jk (N:=N) sub tb nt q (by omega);split at hM
   .rename_i r hr'
    cases hM;exact⟨_,body sO A outer s H E hr _ _ hr',F,H,F,a0,λY F' H' a'=>kk .non F' H' a'.ext .non⟩
   .rename_i d' hr'
    cases hM;exact⟨_,body sO A outer s H E hr _ _ hr',F,H,F,a0,λv F' H' x q=>kk v F' H' x q⟩
   .cases hM
  .cases hM
theorem jQ{w:World}{k:Nat}{st:Stmt}(Fn:vF K x qual st f fd)(S:Zs N ps (Ze st))(hm:mg x=Z (.ref f))(hb:Binds K fd ps [])(body:∀(sO:Value) (A:Around) (outer:List Env) (s:Shared) (H:Hp) (E:XK),ZP k (A.deeper (envOfC qual (Ze st) s.heap.objs.size f sO))->vV (CO vd P w K mg base N qual (Ze st) f sO A outer s H E).nox (BU st) g):Callee P w K mg base (k+1) x (HM.fnOf ps.length N.length g):=by
 refine⟨f,fd,ps,λds d h=>?_,V5 Fn S body,hm,Fn.kp,hb⟩;unfold HM.fnOf at h;split at h
 .assumption
 .cases h
end
section
variable{q:HM.B}{F H:Hp}{ds:List PyData}{K:Ae}
section
variable{X:Cx}{a b c e:Expr}{fa fb fc:HM.EF}{pos p:Pos}
theorem K0{h:Int->Int->Option PyData}{x y z:PyData}(e:HM.Fw h x y=Z z):∃i j,x=.int i/\y=.int j/\h i j=Z z:=by
 unfold HM.Fw at e;split at e
 .exact⟨_,_,rfl,rfl,e⟩
 .cases e
theorem Kh{g:Int->Int->V}{h:Int->Int->PyData}(hr:∀F i j,Rep K F (h i j) (g i j)):Bin K (yi g) (HM.Fw λi j=>Z (h i j)):=by intro F H x y z v w Q s e r1 r2 k;obtain⟨i,j,rfl,rfl,e⟩:=K0 e;cases e;exact⟨i,j,r1.int_inv,r2.int_inv,k _ (hr F i j)⟩
theorem Bq:Kj X .Add HM.A4:=⟨_,dQ,Kh λ_ _ _=>.int _⟩
theorem PU:Kj X .Sub HM.Kk:=⟨_,d6,Kh λ_ _ _=>.int _⟩
theorem DZ:Kj X .Mult HM.Cv:=by
 refine⟨_,fV,λF H x y z v w Q s e r1 r2 k=>?_⟩;obtain⟨i,j,rfl,rfl,e'⟩:=K0 e;split at e'
 .rename_i hs
  cases e';refine⟨i,j,r1.int_inv,r2.int_inv,?_,k _ (.int _)⟩;unfold HM.Z5 at hs;rw[Gj,Hi,Hi]at hs;unfold Mw;omega
 .cases e'
theorem wF:Kj X .Mod HM.CQ:=by
 refine⟨_,fX,λF H x y z v w Q s e r1 r2 k=>?_⟩;obtain⟨i,j,rfl,rfl,e'⟩:=K0 e;split at e'
 .rename_i hs
  cases e';exact⟨i,j,r1.int_inv,r2.int_inv,hs,k _ (.int _)⟩
 .cases e'
theorem zR:DV X .Lt HM.xG:=⟨⟨_,bV,Kh λ_ _ _=>.bl _⟩,by decide,by decide⟩
theorem zm:DV X .LtE HM.wU:=⟨⟨_,cO,Kh λ_ _ _=>.bl _⟩,by decide,by decide⟩
theorem zS:DV X .Gt HM.xb:=⟨⟨_,cN,Kh λ_ _ _=>.bl _⟩,by decide,by decide⟩
theorem Rep.non_iff{d:PyData}{v:V}(h:Rep K F d v):decide (v=.non)=match d with | .none=>Aa|_=>Ab:=by cases h<;>first|rfl|exact decide_eq_false (λz=>nomatch z)
theorem UY:DV X .Is HM.Gu:=by
 refine⟨⟨_,dg,λF H x y z v w Q s e r1 r2 k=>?_⟩,by decide,by decide⟩;unfold HM.Gu at e;split at e
 .refine⟨r2.none_inv,k _ ?_⟩
  rw[r1.non_iff];split at e
  .cases e;exact .bl _
  .rename_i hx
   cases e;cases x<;>first|exact .bl _|exact absurd rfl hx
 .cases e
theorem HB:DV X .IsNot HM.CB:=by
 refine⟨⟨_,eQ,λF H x y z v w Q s e r1 r2 k=>?_⟩,by decide,by decide⟩;unfold HM.CB at e;split at e
 .refine⟨r2.none_inv,k _ ?_⟩
  rw[r1.non_iff];split at e
  .cases e;exact .bl _
  .rename_i hx
   cases e;cases x<;>first|exact .bl _|exact absurd rfl hx
 .cases e
theorem RE{h:Heap}:∀{ds:List PyData} {us:List Value},ds.length=us.length->(∀(i:Nat) d u,ds[i]?=Z d->us[i]?=Z u->∃as,Reads h u d as)->∃as,ReadsAll h us ds as
 |[],[],_,_=>⟨[],.nil⟩
 |[],_::_,hl,_=>by simp at hl
 |_::_,[],hl,_=>by simp at hl
 |d::ds,u::us,hl,k=>by obtain⟨as,h1⟩:=k 0 d u rfl rfl;obtain⟨bs,h2⟩:=RE (ds:=ds) (us:=us) (by simpa using hl) λi d u e1 e2=>k (i+1) d u (by simpa using e1) (by simpa using e2);exact⟨_,.cons h1 h2⟩
theorem Wt:∀{ds:List PyData},Mk ds=Aa->∀{i:Nat} {d:PyData},ds[i]?=Z d->d.canLay0=Aa
 |[],_,i,d,e=>by simp at e
 |x::ds,h,i,d,e=>by
  have h':(x.canLay0&&Mk ds)=Aa:=h;rw[AI]at h';cases i with
  |zero=>rw[Pt]at e;cases e;exact h'.1
  |succ i=>rw[Em]at e;exact Wt h'.2 e
theorem WZ(h:Mk ds=Aa){i:Nat}{d:PyData}(e:ds[i]?=Z d):d.canLay0=Aa:=Wt h e
theorem Rep.reads{sI:List (Addr×Obj)}{s:Shared}{Y:L2.St}{d:PyData}{v:V}(I:Inv X sI Y H s)(sub:Zp F H)(r:Rep X.K F d v):d.canLay0=Aa->∀u,RelV v u->∃as,Reads s.heap u d as:=by
 induction r with
 |non=>intro _ u ru;cases ru;exact⟨[],.none⟩
 |bl b=>intro _ u ru;cases ru;exact⟨[],.bool b⟩
 |int i=>intro _ u ru;obtain⟨t,rfl⟩:=ru;exact⟨[],.int i t⟩
 |str x=>intro _ u ru;obtain⟨t,rfl⟩:=ru;exact⟨[],.str x t⟩
 |dct _ _ _ _ _=>intro z;cases z
 |fn _=>intro z;cases z
 | @tupk a x h=>intro z u ru;cases ru;obtain⟨its,rv,⟨o,ho,hc,n,hd⟩,_⟩:=I.tuple (.inr h);obtain⟨u,rfl,t,rfl⟩:=rv.one;exact⟨_,.tuple ho hc hd (by simpa using ReadsAll.cons (.str x t) .nil)⟩
 | @tup a ds vs h hl _ ih =>
  intro z u ru;cases ru;obtain⟨its,rv,⟨o,ho,hc,n,hd⟩,_⟩:=I.tuple (.of (sub _ _ h));obtain⟨as,hr⟩:=RE (h:=s.heap) (ds:=ds) (us:=its) (hl.trans rv.length) λi d u e1 e2=>by
   have hi:i<vs.length:=by rw[<-hl];exact(A0.mp e1).1
   obtain⟨u',q1,q2⟩:=rv.get (A2 hi);rw[e2]at q1;cases q1;exact ih i d _ e1 (A2 hi) (WZ z e1) u q2
  exact⟨_,.tuple ho hc hd (by simpa using hr)⟩
 | @lst a ds vs h hl _ ih =>
  intro z u ru;cases ru;obtain⟨its,rv,⟨o,n,ho,hc,_,hd⟩,_⟩:=I.list (sub.seq h);obtain⟨as,hr⟩:=RE (h:=s.heap) (ds:=ds) (us:=its) (hl.trans rv.length) λi d u e1 e2=>by
   have hi:i<vs.length:=by rw[<-hl];exact(A0.mp e1).1
   obtain⟨u',q1,q2⟩:=rv.get (A2 hi);rw[e2]at q1;cases q1;exact ih i d _ e1 (A2 hi) (WZ z e1) u q2
  exact⟨_,.list ho hc hd (by simpa using hr)⟩
def US(K:Ae)(vQ:Bool):R2:=λv w H Q=>∃F x y,Zp F H/\Rep K F x v/\Rep K F y w/\HM.C2 x=Aa/\HM.C2 y=Aa/\Q (.bl (if vQ then !PyData.eqv x y else BR x y)) H
theorem Ic{d:PyData}(h:HM.C2 d=Aa):d.canLay0=Aa/\d.depth<=60:=by unfold HM.C2 at h;simpa using h
theorem cQ{k:Nat}(hr:ZP k X.A):uq X (BQ .Eq) (US X.K Ab):=by intro sI s Y H v w u u' Q I r1 r2 ⟨F,x,y,sub,q1,q2,p1,p2,q⟩;obtain⟨a1,a2⟩:=Ic p1;obtain⟨b1,b2⟩:=Ic p2;obtain⟨as,h1⟩:=q1.reads I sub a1 u r1;obtain⟨bs,h2⟩:=q2.reads I sub b1 u' r2;refine bK X.prog X.w X.A X.xe s u u' x y as bs _ h1 h2 a1 b1 ?_ ⟨.bl _,H,I,rfl,q⟩;have:=hr.un;have:min x.depth y.depth<=60:=Bf (Ua _ _) a2;omega
theorem cM{k:Nat}(hr:ZP k X.A):uq X (BQ .NotEq) (US X.K Aa):=by intro sI s Y H v w u u' Q I r1 r2 ⟨F,x,y,sub,q1,q2,p1,p2,q⟩;obtain⟨a1,a2⟩:=Ic p1;obtain⟨b1,b2⟩:=Ic p2;obtain⟨as,h1⟩:=q1.reads I sub a1 u r1;obtain⟨bs,h2⟩:=q2.reads I sub b1 u' r2;refine PySem.SeqAt.neOverData X.prog X.w X.A X.xe s u u' x y as bs _ h1 h2 a1 b1 ?_ ⟨.bl _,H,I,rfl,q⟩;have:=hr.un;have:min x.depth y.depth<=60:=Bf (Ua _ _) a2;omega
theorem wD{k:Nat}(hr:ZP k X.A):DV X .Eq HM.tT:=by
 refine⟨⟨_,cQ hr,λF H x y z v w Q s e r1 r2 k=>?_⟩,by decide,by decide⟩;unfold HM.tT at e;split at e
 .rename_i hp
  cases e;rw[AI]at hp;exact⟨F,x,y,s,r1,r2,hp.1,hp.2,k _ (.bl _)⟩
 .cases e
theorem cNe{k:Nat}(hr:ZP k X.A):DV X .NotEq HM.zO:=by
 refine⟨⟨_,cM hr,λF H x y z v w Q s e r1 r2 k=>?_⟩,by decide,by decide⟩;unfold HM.zO at e;split at e
 .rename_i hp
  cases e;rw[AI]at hp;exact⟨F,x,y,s,r1,r2,hp.1,hp.2,k _ (.bl _)⟩
 .cases e
theorem K5{v:V}{fp:List Addr}(sub:Zp F H)(r:Ay K F H q v fp)(h:HM.B8 q=Z ds):∃a vs,v=.ref a/\(tU K H a vs\/uL K H a vs)/\Zt K F ds vs:=by
 cases r with
 |pl r =>
  cases r with
  |tup h1 h2 h3=>cases h;exact⟨_,_,rfl,.inr (.of (sub _ _ h1)),h2,h3⟩
  | @tupk a x h1=>cases h;exact⟨_,_,rfl,.inr (.inr h1),.one (.str x)⟩
  |lst h1 h2 h3=>cases h;exact⟨_,_,rfl,.inl (sub.seq h1),h2,h3⟩
  |dct _ _ _ _=>cases h
  |fn _=>cases h
  |non=>cases h
  |bl _=>cases h
  |int _=>cases h
  |str _=>cases h
 |ol h1 r=>cases h;exact⟨_,_,rfl,.inl (.of h1),r⟩
 |ok _ _ _=>cases h
 |hd _ _ _ _=>cases h
 |hf _=>cases h
 |ot _ _ _=>cases h
 |otl _ _ _ _=>cases h
theorem gD{vs:List V}{i:Int}{d:PyData}(r:Zt K F ds vs)(h:HM.vE ds i=Z d):∃v,yN vs i=Z v/\Rep K F d v:=by
 unfold HM.vE at h;split at h
 .rename_i j hj
  obtain⟨v,h1,h2⟩:=r.get h;refine⟨v,?_,h2⟩;unfold yN;rw[<-r.1,show wu ds.length i=Z j from hj];exact h1
 .cases h
theorem AL{fb':HM.BF}(ha:XB X a fb')(hb:XE X b fb)(hs:Wb b:=by intro _ _;rfl):XE X (.Subscript a b pos) (HM.tJ fb' fb):=by
 intro r d h;unfold HM.tJ at h;split at h
 .rename_i x hx
  split at h
  .rename_i ds sW
   split at h
   .rename_i i hi
    refine PE.imp (cA d5 (ha r x hx) (hb r _ hi) hs) λY H Q ⟨F0,H0,F,at_,k⟩=>?_;refine⟨F0,H0,F,at_,λv F1 H1 x1 ⟨fp,r1⟩=>⟨F0,H0,F1,at_.grow x1,λw F2 H2 x2 r2=>?_⟩⟩;obtain⟨l,vs,e1,hq,rs⟩:=K5 x2.sub (r1.mono x2.ff λ_ _ _ z=>x2.hh _ _ z) sW;obtain⟨u,hu,ru⟩:=gD rs h;have tL:=k u F2 H2 (x1.trans x2) ru;rcases hq with hq|hq
    .exact .inl ⟨l,vs,i,u,e1,r2.int_inv,hq,hu,tL⟩
    .exact .inr (.inl ⟨l,vs,i,u,e1,r2.int_inv,hq,hu,tL⟩)
   .cases h
  .cases h
 .cases h
def PAB(X:Cx)(e:Expr)(r:HM.Env)(q:HM.B):Prop:=PA X [e] λY H Q=>vt X.K r Y H λF0 H0 F=>∀v fp F' H',sQ F H F' H'->Ay X.K F' H' q v fp->Q [v] H'
theorem Ep{f:HM.BF}{r:HM.Env}(ha:XB X e f)(h:f r=Z q)(hs:Ad [e] X.env=[(Ab,eval e X.env)]:=by rfl):PAB X e r q:=by refine PA.imp (Z3 (ha r q h) BV hs) λY H Q ⟨F0,H0,F,at_,k⟩=>?_;exact⟨F0,H0,F,at_,λv F1 H1 x1 ⟨fp,r1⟩=>k v fp F1 H1 x1 r1⟩
end
end
theorem dR:B5 "all"=Z (.builtin "all"):=by decide +kernel
theorem cu:B5 "any"=Z (.builtin "any"):=by decide +kernel
theorem dq:B5 "len"=Z (.builtin "len"):=by decide +kernel
theorem VW:B5 "max"=Z (.builtin "max"):=by decide +kernel
theorem Vw:B5 "min"=Z (.builtin "min"):=by decide +kernel
theorem NH:B5 "sorted"=Z (.builtin "sorted"):=by decide +kernel
theorem Y0:B5 "isinstance"=Z (.builtin "isinstance"):=by decide +kernel
theorem P6:B5 "int"=Z (.type "int"):=by decide +kernel
theorem eU:B5 "bool"=Z (.type "bool"):=by decide +kernel
theorem Qx:B5 "list"=Z (.type "list"):=by decide +kernel
theorem QT:B5 "tuple"=Z (.type "tuple"):=by decide +kernel
theorem d9:B5 "set"=Z (.type "set"):=by decide +kernel
section
variable{X:Cx}{a b c e:Expr}{fa fb fc:HM.EF}{pos p:Pos}{f:HM.BF}
theorem B1(hm:X.mg "len"=J)(ha:XB X a f)(hg:Gl X "len":=by rfl)(hs:Ad [a] X.env=[(Ab,eval a X.env)]:=by rfl):XE X (.Call (.Name "len" p) [a] [] pos) (HM.AJ f):=by
 intro r d h;unfold HM.AJ at h;split at h
 .rename_i x hx
  obtain⟨n,h1,h2⟩:=Ai.mp h;subst h2;refine PE.imp (Er (mj.or kB) hg hm dq (Ep ha hx hs) (he:=hs)) λY H Q ⟨F0,H0,F,at_,k⟩=>?_;refine⟨F0,H0,F,at_,λv fp F1 H1 x1 r1=>?_⟩;have tL:=λ(m:Nat) (e:m=n)=>k (.int m) F1 H1 x1 (by rw[e];exact .int _);cases r1 with
  |pl q =>
   cases q with
   |tup q1 q2 q3=>cases h1;exact .inl ⟨_,_,rfl,.inr (.of (x1.sub _ _ q1)),tL _ q2.symm⟩
   |tupk q1=>cases h1;exact .inl ⟨_,_,rfl,.inr (.inr q1),tL _ rfl⟩
   |lst q1 q2 q3=>cases h1;exact .inl ⟨_,_,rfl,.inl (x1.sub.seq q1),tL _ q2.symm⟩
   |dct _ _ _ _=>cases h1
   |fn _=>cases h1
   |non=>cases h1
   |bl _=>cases h1
   |int _=>cases h1
   |str _=>cases h1
  |ol q1 q2=>cases h1;exact .inl ⟨_,_,rfl,.inl (.of q1),tL _ q2.1.symm⟩
  |ok q1 q2 q3=>cases h1;refine .inr ⟨_,_,rfl,q1,tL _ ?_⟩;have:=congrArg BC q2;rw[Af,Af]at this;exact this.symm
  |ot _ _ _=>cases h1
  |otl _ _ _ _=>cases h1
  |hd _ _ _ _=>cases h1
  |hf _=>cases h1
 .cases h
theorem CZ(hm:X.mg "tuple"=J)(ha:XB X a f)(hg:Gl X "tuple":=by rfl)(hs:Ad [a] X.env=[(Ab,eval a X.env)]:=by rfl):XE X (.Call (.Name "tuple" p) [a] [] pos) (HM.C4 f):=by
 intro r d h;unfold HM.C4 at h;split at h
 .rename_i x hx
  obtain⟨ds,h1,h2⟩:=Ai.mp h;subst h2;refine PE.imp (FF nj hg hm QT (Ep ha hx hs) (he:=hs)) λY H Q ⟨F0,H0,F,at_,k⟩=>?_;refine⟨F0,H0,F,at_,λv fp F1 H1 x1 r1=>?_⟩;have new:∀(vs:List V),Zt X.K F1 ds vs->∀l,H1 l=J->Q (.ref l) (upd H1 l (.tup vs)):=λvs q l hl=>k _ (upd F1 l (.tup vs)) _ (x1.lay hl) (.tup Zz q.1 (q.mono (Zp.upd' (x1.sub.free hl))).2);cases r1 with
  |pl q =>
   cases q with
   |tup q1 q2 q3=>cases h1;exact⟨_,_,rfl,.inr ⟨.of (x1.sub _ _ q1),k _ F1 H1 x1 (.tup q1 q2 q3)⟩⟩
   |tupk q1=>cases h1;exact⟨_,_,rfl,.inr ⟨.inr q1,k _ F1 H1 x1 (.tupk q1)⟩⟩
   |lst q1 q2 q3=>cases h1;exact⟨_,_,rfl,.inl ⟨x1.sub.seq q1,new _ ⟨q2,q3⟩⟩⟩
   |dct _ _ _ _=>cases h1
   |fn _=>cases h1
   |non=>cases h1
   |bl _=>cases h1
   |int _=>cases h1
   |str _=>cases h1
  |ol q1 q2=>cases h1;exact⟨_,_,rfl,.inl ⟨.of q1,new _ q2⟩⟩
  |ok _ _ _=>cases h1
  |ot _ _ _=>cases h1
  |otl _ _ _ _=>cases h1
  |hd _ _ _ _=>cases h1
  |hf _=>cases h1
 .cases h
theorem EY{K:Ae}{F H F1 H1:Hp}{ds:List PyData}{vs:List V}{l:Addr}{P:V->Hp->Hp->Prop}(x1:sQ F H F1 H1)(q:Zt K F1 ds vs)(hl:H1 l=J)(k:∀v F' H',sQ F H F' H'->(∃fp,Ay K F' H' (.ol ds) v fp/\fp.Nodup/\∀a∈fp,F' a=J/\H a=J)->P v F' H'):P (.ref l) F1 (upd H1 l (.lst vs)):=by
 refine k _ F1 _ (x1.lay' hl) ⟨[l],.ol Zz q,by simp,λa ha=>?_⟩;have:a=l:=by simpa using ha
 subst this;exact⟨x1.sub.free hl,x1.hh.free hl⟩
theorem Rw(hm:X.mg "list"=J)(ha:XB X a f)(hg:Gl X "list":=by rfl)(hs:Ad [a] X.env=[(Ab,eval a X.env)]:=by rfl):XF X (.Call (.Name "list" p) [a] [] pos) (HM.RC f):=by
 intro r d h;unfold HM.RC at h;split at h
 .rename_i x hx
  obtain⟨ds,h1,h2⟩:=Ai.mp h;subst h2;refine PE.imp (FF m7 hg hm Qx (Ep ha hx hs) (he:=hs)) λY H Q ⟨F0,H0,F,at_,k⟩=>?_;refine⟨F0,H0,F,at_,λv fp F1 H1 x1 r1=>?_⟩;obtain⟨l,vs,e1,hq,rs⟩:=K5 x1.sub r1 h1;subst e1;exact⟨l,vs,rfl,hq,λl' hl'=>EY (P:=λv _ H'=>Q v H') x1 rs hl' k⟩
 .cases h
theorem R0{K:Ae}{F:Hp}:∀{ds:List PyData} {vs:List V} {bs:List Bool},HM.FA ds=Z bs->Zt K F ds vs->vs=bs.map V.bl
 |[],vs,bs,h,r=>by cases h;exact r.nil_inv
 |d::ds,vs,bs,h,r=>by
  obtain⟨v,us,rfl,r1,r2⟩:=r.cons_inv;cases d with
  |bool b=>obtain⟨bs',h1,h2⟩:=Ai.mp h;subst h2;rw[r1.bool_inv,R0 h1 r2];rfl
  |none=>cases h
  |int _=>cases h
  |str _=>cases h
  |list _=>cases h
  |tuple _=>cases h
  |dict _=>cases h
end
section
variable{p2:Pos}
section
variable{X:Cx}{a b c e:Expr}{fa fb fc:HM.EF}{pos p:Pos}{f:HM.BF}
theorem Yw:∀{bs:List Bool} {us:List Value},sL (bs.map V.bl) us->LSm.BoolsAre us bs:=by
 intro bs
 induction bs with
 |nil=>intro us r;rw[Fl]at r;cases r;exact .nil
 |cons b bs ih =>
  intro us r;rw[Ak]at r;cases r with
  |cons r1 r2=>cases r1;exact .cons b (ih r2)
theorem VD{A:Around}{s:Shared}{l:Addr}{vs:List Value}{bs:List Bool}{dflt:Bool}(hh:A.handled=J)(hl:s.heap.IsList l vs.toArray)(hb:LSm.BoolsAre vs bs){E:Value->Shared->Prop}{Q:Value->Shared->Prop}{prog:Program}{w:World}(h:∀it fp wr (P:Nat->Value->Prop) St,Walks prog w A it fp wr vs.length P St->St 0 (s.heap.push {cls:=.type "list_iterator",data:=.fields #[.ref l,rawInt 0]})->TruthOf prog w A P (λi=>(bs[i]?).getD dflt)->wr=[s.heap.objs.size]->it=s.heap.objs.size->Q (.ref it) {s with heap:=s.heap.push {cls:=.type "list_iterator",data:=.fields #[.ref l,rawInt 0]}}):wpAny (model prog w) A (pyIter (.ref l)) Q E s:=by
 have tu:l<s.heap.objs.size:=let ⟨_,e,_⟩:=hl;Ao e
 refine TZ hl ?_;have W:=Walks.list (prog:=prog) (w:=w) hh s.heap.objs.size l (As tu) vs.toArray;rw[Ax]at W;refine h _ _ _ _ _ W ⟨⟨_,AZ _ rfl,rfl,rfl⟩,hl.push _⟩ (λi v s' Q' E' hP hQ=>?_) rfl rfl;obtain⟨b,e,rfl⟩:=hb.get i v (by simpa using hP);simp only[e,Option.getD_some]at hQ;exact IS hQ
theorem js(hc:X.calm=Aa):A6 X (.builtin "all") (λxs H Q=>∃(p:Addr) (bs:List Bool),xs=[.ref p]/\tU X.K H p (bs.map V.bl)/\Q (.bl (bs.all id)) H):=by intro sI s Y H xs us Q I r h;obtain⟨p,bs,rfl,hq,q⟩:=h;obtain⟨u,rfl,rx⟩:=vals1 r;cases rx;obtain⟨its,rv,pl,hz⟩:=I.list hq;have hb:=Yw rv;refine call_all_walk (VD (dflt:=Aa) (A:=X.A.in1) (I.ok.hd hc) pl.isList hb λit fp wr P St W st tr e1 e2=>?_);subst e1 e2;refine⟨_,_,_,_,P,St,_,rfl,W,st,tr,λh' tk hk=>?_⟩;rw[hb.length,LSm.range_all bs];exact⟨.bl _,H,I.kept (LSm.kept_iter hk),rfl,q⟩
theorem jB(hc:X.calm=Aa):A6 X (.builtin "any") (λxs H Q=>∃(p:Addr) (bs:List Bool),xs=[.ref p]/\tU X.K H p (bs.map V.bl)/\Q (.bl (bs.any id)) H):=by intro sI s Y H xs us Q I r h;obtain⟨p,bs,rfl,hq,q⟩:=h;obtain⟨u,rfl,rx⟩:=vals1 r;cases rx;obtain⟨its,rv,pl,hz⟩:=I.list hq;have hb:=Yw rv;refine call_any_walk (VD (dflt:=Ab) (A:=X.A.in1) (I.ok.hd hc) pl.isList hb λit fp wr P St W st tr e1 e2=>?_);subst e1 e2;refine⟨_,_,_,_,P,St,_,rfl,W,st,tr,λh' tk hk=>?_⟩;rw[hb.length,LSm.range_any bs];exact⟨.bl _,H,I.kept (LSm.kept_iter hk),rfl,q⟩
theorem EZ{K:Ae}{F H:Hp}{q:HM.B}{v:V}{fp:List Addr}{ds:List PyData}(sub:Zp F H)(r:Ay K F H q v fp)(h:HM.EN q=Z ds):∃a vs,v=.ref a/\tU K H a vs/\Zt K F ds vs:=by
 cases r with
 |pl r =>
  cases r with
  |lst h1 h2 h3=>cases h;exact⟨_,_,rfl,sub.seq h1,h2,h3⟩
  |dct _ _ _ _=>cases h
  |fn _=>cases h
  |tupk _=>cases h
  |tup _ _ _=>cases h
  |non=>cases h
  |bl _=>cases h
  |int _=>cases h
  |str _=>cases h
 |ol h1 r=>cases h;exact⟨_,_,rfl,.of h1,r⟩
 |ok _ _ _=>cases h
 |hd _ _ _ _=>cases h
 |hf _=>cases h
 |ot _ _ _=>cases h
 |otl _ _ _ _=>cases h
theorem HN(hm:X.mg "all"=J)(hc:X.calm=Aa)(ha:XB X a f)(hg:Gl X "all":=by rfl)(hs:Ad [a] X.env=[(Ab,eval a X.env)]:=by rfl):XE X (.Call (.Name "all" p) [a] [] pos) (HM.Hx f):=by
 intro r d h;unfold HM.Hx at h;split at h
 .rename_i x hx
  split at h
  .rename_i ds sW
   obtain⟨bs,h1,h2⟩:=Ai.mp h;subst h2;refine PE.imp (Er (js hc) hg hm dR (Ep ha hx hs) (he:=hs)) λY H Q ⟨F0,H0,F,at_,k⟩=>?_;refine⟨F0,H0,F,at_,λv fp F1 H1 x1 r1=>?_⟩;obtain⟨l,vs,e1,hq,rs⟩:=EZ x1.sub r1 sW;rw[R0 h1 rs]at hq;exact⟨l,bs,by rw[e1],hq,k _ F1 H1 x1 (.bl _)⟩
  .cases h
 .cases h
theorem fE(hm:X.mg "any"=J)(hc:X.calm=Aa)(ha:XB X a f)(hg:Gl X "any":=by rfl)(hs:Ad [a] X.env=[(Ab,eval a X.env)]:=by rfl):XE X (.Call (.Name "any" p) [a] [] pos) (HM.MT f):=by
 intro r d h;unfold HM.MT at h;split at h
 .rename_i x hx
  split at h
  .rename_i ds sW
   obtain⟨bs,h1,h2⟩:=Ai.mp h;subst h2;refine PE.imp (Er (jB hc) hg hm cu (Ep ha hx hs) (he:=hs)) λY H Q ⟨F0,H0,F,at_,k⟩=>?_;refine⟨F0,H0,F,at_,λv fp F1 H1 x1 r1=>?_⟩;obtain⟨l,vs,e1,hq,rs⟩:=EZ x1.sub r1 sW;rw[R0 h1 rs]at hq;exact⟨l,bs,by rw[e1],hq,k _ F1 H1 x1 (.bl _)⟩
  .cases h
 .cases h
theorem MS{wb:String}{t:HM.Ty}(hr:∀(s:Shared) (d:PyData) (v:V) (u:Value) (Q:Value->Shared->Prop),RelV v u->(∃(K:Ae) (F:Hp),Rep K F d v)->(∀es,d≠.dict es)->(∀x,v=.ref x->∃o,s.heap.get? x=Z o/\((∃ds,d=.tuple ds/\o.cls=.type "tuple")\/(∃ds,d=.list ds/\o.cls=.type "list")\/∃ds,d=.dict ds/\o.cls=.type "dict")) ->
   (∀tk,Q (.bool (HM.pD t d)) {s with toks:=tk})->wpAny (model X.prog X.w) X.A (call (.builtin "isinstance") [u,.type wb]) Q X.xe s):
  A6 X (.builtin "isinstance") (λxs H Q=>∃F d v,xs=[v,.ty wb]/\Zp F H/\Rep X.K F d v/\(∀es,d≠.dict es)/\Q (.bl (HM.pD t d)) H):=by
 intro sI s Y H xs us Q I r h;obtain⟨F,d,v,rfl,sub,rp,nd,q⟩:=h;obtain⟨u,u',rfl,ru,ru'⟩:=vals2 r;cases(show u'=Gf wb from ru');refine hr s d v u _ ru ⟨_,_,rp⟩ nd (λx e=>?_) λtk=>⟨.bl _,H,I.tok tk,rfl,q⟩;subst e;cases rp with
 |tup h1 h2 h3=>obtain⟨its,rv,⟨o,ho,hc,n,hd⟩,_⟩:=I.tuple (.of (sub _ _ h1));exact⟨o,ho,.inl ⟨_,rfl,hc⟩⟩
 |tupk h1=>obtain⟨its,rv,⟨o,ho,hc,n,hd⟩,_⟩:=I.tuple (.inr h1);exact⟨o,ho,.inl ⟨_,rfl,hc⟩⟩
 |lst h1 h2 h3=>obtain⟨its,rv,⟨o,n,ho,hc,_,hd⟩,_⟩:=I.list (sub.seq h1);exact⟨o,ho,.inr (.inl ⟨_,rfl,hc⟩)⟩
 | @dct a es kvs vvs h1 _ _ _=>obtain⟨_,_,xs,_,o,es,ep,q1,q2,_⟩:=(show ZZ X.prog X.w H s.heap x (.dT vvs) from Km I.hok (Na h1 sub));exact⟨o,q1,.inr (.inr ⟨_,rfl,q2.1⟩)⟩
 |fn _=>exact absurd rfl (nd _)
theorem iT:A6 X (.builtin "isinstance") (λxs H Q=>∃F d v,xs=[v,.ty "bool"]/\Zp F H/\Rep X.K F d v/\(∀es,d≠.dict es)/\Q (.bl (HM.pD .bool d)) H):=by
 refine MS λs d v u Q ru ⟨K,F,rp⟩ nd ho k=>?_;cases rp with
 |non=>cases ru;exact IsiPair.NoneType_bool (k _)
 |bl _=>cases ru;exact IsiPair.bool_bool (k _)
 |int _=>obtain⟨t,rfl⟩:=ru;exact IsiPair.int_bool (k _)
 |str _=>obtain⟨t,rfl⟩:=ru;exact IsiPair.str_bool (k _)
 |tup _ _ _|tupk _ =>
  cases ru;obtain⟨o,h1,⟨_,_,h2⟩|⟨_,e,_⟩|⟨_,e,_⟩⟩:=ho _ rfl
  .exact IsiPair.tuple_bool h1 h2 (k _)
  .cases e
  .cases e
 |lst _ _ _ =>
  cases ru;obtain⟨o,h1,⟨_,e,_⟩|⟨_,_,h2⟩|⟨_,e,_⟩⟩:=ho _ rfl
  .cases e
  .exact IsiPair.list_bool h1 h2 (k _)
  .cases e
 |dct _ _ _ _ =>
  cases ru;obtain⟨o,h1,⟨_,e,_⟩|⟨_,e,_⟩|⟨_,_,h2⟩⟩:=ho _ rfl
  .cases e
  .cases e
  .exact IsiPair.dict_bool h1 h2 (k _)
 |fn _=>exact absurd rfl (nd _)
theorem eO:A6 X (.builtin "isinstance") (λxs H Q=>∃F d v,xs=[v,.ty "int"]/\Zp F H/\Rep X.K F d v/\(∀es,d≠.dict es)/\Q (.bl (HM.pD .int d)) H):=by
 refine MS λs d v u Q ru ⟨K,F,rp⟩ nd ho k=>?_;cases rp with
 |non=>cases ru;exact IsiPair.NoneType_int (k _)
 |bl _=>cases ru;exact IsiPair.bool_int (k _)
 |int _=>obtain⟨t,rfl⟩:=ru;exact IsiPair.int_int (k _)
 |str _=>obtain⟨t,rfl⟩:=ru;exact IsiPair.str_int (k _)
 |tup _ _ _|tupk _ =>
  cases ru;obtain⟨o,h1,⟨_,_,h2⟩|⟨_,e,_⟩|⟨_,e,_⟩⟩:=ho _ rfl
  .exact IsiPair.tuple_int h1 h2 (k _)
  .cases e
  .cases e
 |lst _ _ _ =>
  cases ru;obtain⟨o,h1,⟨_,e,_⟩|⟨_,_,h2⟩|⟨_,e,_⟩⟩:=ho _ rfl
  .cases e
  .exact IsiPair.list_int h1 h2 (k _)
  .cases e
 |dct _ _ _ _ =>
  cases ru;obtain⟨o,h1,⟨_,e,_⟩|⟨_,e,_⟩|⟨_,_,h2⟩⟩:=ho _ rfl
  .cases e
  .cases e
  .exact IsiPair.dict_int h1 h2 (k _)
 |fn _=>exact absurd rfl (nd _)
theorem ku:A6 X (.builtin "isinstance") (λxs H Q=>∃F d v,xs=[v,.ty "tuple"]/\Zp F H/\Rep X.K F d v/\(∀es,d≠.dict es)/\Q (.bl (HM.pD .tuple d)) H):=by
 refine MS λs d v u Q ru ⟨K,F,rp⟩ nd ho k=>?_;cases rp with
 |non=>cases ru;exact IsiPair.NoneType_tuple (k _)
 |bl _=>cases ru;exact IsiPair.bool_tuple (k _)
 |int _=>obtain⟨t,rfl⟩:=ru;exact IsiPair.int_tuple (k _)
 |str _=>obtain⟨t,rfl⟩:=ru;exact IsiPair.str_tuple (k _)
 |tup _ _ _|tupk _ =>
  cases ru;obtain⟨o,h1,⟨_,_,h2⟩|⟨_,e,_⟩|⟨_,e,_⟩⟩:=ho _ rfl
  .exact IsiPair.tuple_tuple h1 h2 (k _)
  .cases e
  .cases e
 |lst _ _ _ =>
  cases ru;obtain⟨o,h1,⟨_,e,_⟩|⟨_,_,h2⟩|⟨_,e,_⟩⟩:=ho _ rfl
  .cases e
  .exact IsiPair.list_tuple h1 h2 (k _)
  .cases e
 |dct _ _ _ _ =>
  cases ru;obtain⟨o,h1,⟨_,e,_⟩|⟨_,e,_⟩|⟨_,_,h2⟩⟩:=ho _ rfl
  .cases e
  .cases e
  .exact IsiPair.dict_tuple h1 h2 (k _)
 |fn _=>exact absurd rfl (nd _)
theorem gm:A6 X (.builtin "isinstance") (λxs H Q=>∃F d v,xs=[v,.ty "list"]/\Zp F H/\Rep X.K F d v/\(∀es,d≠.dict es)/\Q (.bl (HM.pD .list d)) H):=by
 refine MS λs d v u Q ru ⟨K,F,rp⟩ nd ho k=>?_;cases rp with
 |non=>cases ru;exact IsiPair.NoneType_list (k _)
 |bl _=>cases ru;exact IsiPair.bool_list (k _)
 |int _=>obtain⟨t,rfl⟩:=ru;exact IsiPair.int_list (k _)
 |str _=>obtain⟨t,rfl⟩:=ru;exact IsiPair.str_list (k _)
 |tup _ _ _|tupk _ =>
  cases ru;obtain⟨o,h1,⟨_,_,h2⟩|⟨_,e,_⟩|⟨_,e,_⟩⟩:=ho _ rfl
  .exact IsiPair.tuple_list h1 h2 (k _)
  .cases e
  .cases e
 |lst _ _ _ =>
  cases ru;obtain⟨o,h1,⟨_,e,_⟩|⟨_,_,h2⟩|⟨_,e,_⟩⟩:=ho _ rfl
  .cases e
  .exact IsiPair.list_list h1 h2 (k _)
  .cases e
 |dct _ _ _ _ =>
  cases ru;obtain⟨o,h1,⟨_,e,_⟩|⟨_,e,_⟩|⟨_,_,h2⟩⟩:=ho _ rfl
  .cases e
  .cases e
  .exact IsiPair.dict_list h1 h2 (k _)
 |fn _=>exact absurd rfl (nd _)
theorem M1{wb:Str}{tys:String}{t:HM.Ty}(hR:A6 X (.builtin "isinstance") (λxs H Q=>∃F d v,xs=[v,.ty tys]/\Zp F H/\Rep X.K F d v/\(∀es,d≠.dict es)/\Q (.bl (HM.pD t d)) H))(bt:B5 wb=Z (.type tys))(hm:X.mg "isinstance"=J)(wz:X.mg wb=J)(ha:XE X a fa)(hg:Gl X "isinstance")(wA:Gl X wb)(hn:wb ≠ "__name__")(hd:(wb==("__debug__":Str))=Ab)(vc:Ad [a,.Name wb p2] X.env=(Ab,eval a X.env)::Ad [.Name wb p2] X.env)(uo:Ad [.Name wb p2] X.env=[(Ab,eval (.Name wb p2) X.env)]):XE X (.Call (.Name "isinstance" p) [a,.Name wb p2] [] pos) (HM.K2 fa t):=by
 intro r d h;have key:∃x,fa r=Z x/\(∀es,x≠.dict es)/\d=.bool (HM.pD t x):=by
  unfold HM.K2 at h;split at h
  .cases h
  .rename_i x hn hx
   cases h;exact⟨x,hx,λes z=>hn es (by rw[z]),rfl⟩
  .cases h
 obtain⟨x,h1,nd,h2⟩:=key;subst h2;refine PE.imp (Er hR hg hm Y0 (Z3 (ha r x h1) (Z3 (V3 (v:=.ty tys) wA wz bt rfl hn hd) BV (by rw[uo];rfl)) vc) (he:=vc) (hpl:=by rw[uo];rfl)) λY H Q ⟨F0,H0,F,at_,k⟩=>?_;exact⟨F0,H0,F,at_,λv F1 H1 x1 r1=>⟨F1,x,v,rfl,x1.sub,r1,nd,k _ F1 H1 x1 (.bl _)⟩⟩
theorem mL(hm:X.mg "isinstance"=J)(wz:X.mg "bool"=J)(ha:XE X a fa)(hg:Gl X "isinstance":=by rfl)(wA:Gl X "bool":=by rfl)(vc:Ad [a,.Name "bool" p2] X.env=(Ab,eval a X.env)::Ad [.Name "bool" p2] X.env:=by rfl):XE X (.Call (.Name "isinstance" p) [a,.Name "bool" p2] [] pos) (HM.K2 fa .bool):=M1 iT eU hm wz ha hg wA (by decide) (by decide) vc rfl
theorem l7(hm:X.mg "isinstance"=J)(wz:X.mg "int"=J)(ha:XE X a fa)(hg:Gl X "isinstance":=by rfl)(wA:Gl X "int":=by rfl)(vc:Ad [a,.Name "int" p2] X.env=(Ab,eval a X.env)::Ad [.Name "int" p2] X.env:=by rfl):XE X (.Call (.Name "isinstance" p) [a,.Name "int" p2] [] pos) (HM.K2 fa .int):=M1 eO P6 hm wz ha hg wA (by decide) (by decide) vc rfl
theorem aw(hm:X.mg "isinstance"=J)(wz:X.mg "tuple"=J)(ha:XE X a fa)(hg:Gl X "isinstance":=by rfl)(wA:Gl X "tuple":=by rfl)(vc:Ad [a,.Name "tuple" p2] X.env=(Ab,eval a X.env)::Ad [.Name "tuple" p2] X.env:=by rfl):XE X (.Call (.Name "isinstance" p) [a,.Name "tuple" p2] [] pos) (HM.K2 fa .tuple):=M1 ku QT hm wz ha hg wA (by decide) (by decide) vc rfl
theorem mK(hm:X.mg "isinstance"=J)(wz:X.mg "list"=J)(ha:XE X a fa)(hg:Gl X "isinstance":=by rfl)(wA:Gl X "list":=by rfl)(vc:Ad [a,.Name "list" p2] X.env=(Ab,eval a X.env)::Ad [.Name "list" p2] X.env:=by rfl):XE X (.Call (.Name "isinstance" p) [a,.Name "list" p2] [] pos) (HM.K2 fa .list):=M1 gm Qx hm wz ha hg wA (by decide) (by decide) vc rfl
theorem fD(hm:X.mg "max"=J)(hc:X.calm=Aa)(ha:XE X a fa)(hb:XE X b fb)(hg:Gl X "max":=by rfl)(vc:Ad [a,b] X.env=(Ab,eval a X.env)::Ad [b] X.env:=by rfl)(uo:Ad [b] X.env=[(Ab,eval b X.env)]:=by rfl):XE X (.Call (.Name "max" p) [a,b] [] pos) (HM.sM HM.dD fa fb):=by
 intro r d h;obtain⟨x,y,h1,h2,h3⟩:=KG h;obtain⟨i,j,rfl,rfl,e⟩:=K0 h3;cases e;refine PE.imp (Er (jY hc) hg hm VW (Z3 (ha r _ h1) (Z3 (hb r _ h2) BV uo) vc) (he:=vc) (hpl:=by rw[uo];rfl)) λY H Q ⟨F0,H0,F,at_,k⟩=>?_;exact⟨F0,H0,F,at_,λv F1 H1 x1 r1=>⟨F0,H0,F1,at_.grow x1,λw F2 H2 x2 r2=>⟨i,j,by rw[r1.int_inv,r2.int_inv],k _ F2 H2 (x1.trans x2) (.int _)⟩⟩⟩
theorem fC(hm:X.mg "min"=J)(hc:X.calm=Aa)(ha:XE X a fa)(hb:XE X b fb)(hg:Gl X "min":=by rfl)(vc:Ad [a,b] X.env=(Ab,eval a X.env)::Ad [b] X.env:=by rfl)(uo:Ad [b] X.env=[(Ab,eval b X.env)]:=by rfl):XE X (.Call (.Name "min" p) [a,b] [] pos) (HM.sM HM.da fa fb):=by
 intro r d h;obtain⟨x,y,h1,h2,h3⟩:=KG h;obtain⟨i,j,rfl,rfl,e⟩:=K0 h3;cases e;refine PE.imp (Er (kf hc) hg hm Vw (Z3 (ha r _ h1) (Z3 (hb r _ h2) BV uo) vc) (he:=vc) (hpl:=by rw[uo];rfl)) λY H Q ⟨F0,H0,F,at_,k⟩=>?_;exact⟨F0,H0,F,at_,λv F1 H1 x1 r1=>⟨F0,H0,F1,at_.grow x1,λw F2 H2 x2 r2=>⟨i,j,by rw[r1.int_inv,r2.int_inv],k _ F2 H2 (x1.trans x2) (.int _)⟩⟩⟩
theorem jX(hm:X.mg "int"=J)(ha:XE X a fa)(hg:Gl X "int":=by rfl)(hs:Ad [a] X.env=[(Ab,eval a X.env)]:=by rfl):XE X (.Call (.Name "int" p) [a] [] pos) (HM.m6 fa):=by
 intro r d h;unfold HM.m6 at h;split at h
 .rename_i i hi
  cases h;refine PE.imp (FF X0 hg hm P6 (Z3 (ha r _ hi) BV hs) (he:=hs)) λY H Q ⟨F0,H0,F,at_,k⟩=>?_;exact⟨F0,H0,F,at_,λv F1 H1 x1 r1=>.inl ⟨i,by rw[r1.int_inv],k _ F1 H1 x1 (.int _)⟩⟩
 .rename_i q hq
  cases h;refine PE.imp (FF X0 hg hm P6 (Z3 (ha r _ hq) BV hs) (he:=hs)) λY H Q ⟨F0,H0,F,at_,k⟩=>?_;exact⟨F0,H0,F,at_,λv F1 H1 x1 r1=>.inr ⟨q,by rw[r1.bool_inv],k _ F1 H1 x1 (.int _)⟩⟩
 .cases h
end
end
section
variable{ga:HM.BF}{r:HM.Env}{F F0 H H0:Hp}{Y:L2.St}{ds:List PyData}{vs:List V}{i:Nat}{p1 p2:Pos}{K:Ae}{x:Str}
section
variable{X:Cx}{a b c e:Expr}{fa fb fc:HM.EF}{pos p:Pos}{f:HM.BF}{tg:Expr}
theorem PI.imp{X:Cx}{tg e:Expr}{t u:TI}(h:PI X tg e t)(hi:∀Y H R,u Y H R->t Y H R):PI X tg e u:=λsI s Y H R I q=>h sI s Y H R I (hi Y H R q)
theorem fZ{l:Expr}{tl:TE}(hl:PE X l tl):PI X tg l (λY H R=>tl Y H λx H1=>∃a,x=.ref a/\((∃xs,tU X.K H1 a xs)/\R (Itl X.K a) H1\/(∃xs,uL X.K H1 a xs)/\R (Itt X.K a) H1)):=by
 intro sI s Y H R I h;refine sS (hl sI s Y H _ I h) λv s1 ⟨x,H1,I1,r1,q1⟩=>?_;obtain⟨a,e,q1⟩:=q1;subst e;cases r1;rcases q1 with⟨⟨xs,hq⟩,q⟩|⟨⟨xs,hq⟩,q⟩
 .obtain⟨its,rv,p,hz⟩:=I1.list hq
  refine TZ p.isList ⟨s1.heap.objs.size,[s1.heap.objs.size],_,_,H1,rfl,I1.kept (t':=s1.toks) λb o e=>Ar _ e,jA a _,⟨_,AZ _ rfl,rfl,rfl⟩,λb hb=>?_,q⟩;obtain rfl:b=s1.heap.objs.size:=by simpa using hb
  exact I1.fpOk (Aj _) (I1.hok.fresh (Aj _))
 .obtain⟨its,rv,p,hz⟩:=I1.tuple hq
  refine wpAny_pyIter_tuple (show s1.heap.IsTuple a its.toArray from p) ⟨s1.heap.objs.size,[s1.heap.objs.size],_,_,H1,rfl,I1.kept (t':=s1.toks) λb o e=>Ar _ e,j7 a _,⟨_,AZ _ rfl,rfl,rfl⟩,λb hb=>?_,q⟩;obtain rfl:b=s1.heap.objs.size:=by simpa using hb
  exact I1.fpOk (Aj _) (I1.hok.fresh (Aj _))
theorem gs{a:Addr}(h:tU K F a vs)(r:Zt K F ds vs):yx K (Itl K a) ds F:=by intro F' H s1 s2;have hq:tU K H a vs:=(s1.trans s2).seq h;refine⟨λi d hd=>?_,⟨vs,hq,by rw[r.1];exact Aj _⟩⟩;obtain⟨v,h1,h2⟩:=r.get hd;refine⟨⟨vs,v,hq,h1⟩,λx H' hy=>?_⟩;obtain⟨e,y⟩:=hy;refine⟨e,?_⟩;have:=y vs hq;rw[h1]at this;cases this;exact h2.mono (s1.trans (EW s2))
theorem iX{a:Addr}(h:uL K F a vs)(r:Zt K F ds vs):yx K (Itt K a) ds F:=by intro F' H s1 s2;have hq:uL K H a vs:=QL h (s1.trans s2);refine⟨λi d hd=>?_,⟨vs,hq,by rw[r.1];exact Aj _⟩⟩;obtain⟨v,h1,h2⟩:=r.get hd;refine⟨⟨vs,v,hq,h1⟩,λx H' hy=>?_⟩;obtain⟨e,y⟩:=hy;refine⟨e,?_⟩;have:=y vs hq;rw[h1]at this;cases this;exact h2.mono (s1.trans (EW s2))
theorem gV{a:Addr}(h:F a=Z (.tup vs))(r:Zt K F ds vs):yx K (Itt K a) ds F:=by intro F' H s1 s2;have hq:uL K H a vs:=.of (s2 _ _ (s1 _ _ h));refine⟨λi d hd=>?_,⟨vs,hq,by rw[r.1];exact Aj _⟩⟩;obtain⟨v,h1,h2⟩:=r.get hd;refine⟨⟨vs,v,hq,h1⟩,λx H' hy=>?_⟩;obtain⟨e,y⟩:=hy;refine⟨e,?_⟩;have:=y vs hq;rw[h1]at this;cases this;exact h2.mono (s1.trans (EW s2))
theorem ZG(h:XE X e fa):XI X tg e (HM.ZD (HM.sU fa)):=by
 intro r ds hd;unfold HM.ZD HM.sU at hd;cases hx:fa r with
 |none=>rw[hx]at hd;cases hd
 |some d =>
  rw[hx]at hd;have hd:HM.B8 (.pl d)=Z ds:=hd;refine PI.imp (fZ (h r d hx)) λY H R ⟨F0,H0,F,at_,k⟩=>?_;refine⟨F0,H0,F,at_,λv F1 H1 x1 r1=>?_⟩;cases r1 with
  | @tupk a x h1=>cases hd;exact⟨a,rfl,.inr ⟨⟨_,.inr h1⟩,k _ F1 H1 x1 (iX (.inr h1) (.one (.str x)))⟩⟩
  | @tup a ds' vs h1 h2 h3=>cases hd;exact⟨a,rfl,.inr ⟨⟨vs,.of (x1.sub _ _ h1)⟩,k _ F1 H1 x1 (gV h1 ⟨h2,h3⟩)⟩⟩
  | @lst a ds' vs h1 h2 h3=>cases hd;exact⟨a,rfl,.inl ⟨⟨vs,x1.sub.seq h1⟩,k _ F1 H1 x1 (gs h1 ⟨h2,h3⟩)⟩⟩
  |dct _ _ _ _=>cases hd
  |fn _=>cases hd
  |non=>cases hd
  |bl _=>cases hd
  |int _=>cases hd
  |str _=>cases hd
theorem V7(lo:Int)(n:Nat):yx K (zV lo n) (HM.D9 lo n) F:=by
 intro F' H s1 s2;have hl:(HM.D9 lo n).length=n:=by unfold HM.D9;rw[Af,Fe]
 refine⟨λi d hd=>?_,?_⟩
 .have hi:i<n:=by rw[<-hl];exact(A0.mp hd).1
  unfold HM.D9 at hd;rw[A1,List.getElem?_range hi]at hd;cases hd;exact⟨hi,λx H' ⟨e1,e2⟩=>⟨e1,by rw[e2];exact .int _⟩⟩
 .rw[hl];exact Aj _
theorem KN{j:Int}(h:HM.vp j=Aa):-1000000<j/\j<1000000:=by unfold HM.vp at h;rw[Hi]at h;omega
theorem FH(hm:X.mg "range"=J)(ha:XE X a fa)(hg:Gl X "range":=by rfl)(hs:Ad [a] X.env=[(Ab,eval a X.env)]:=by rfl):XI X tg (.Call (.Name "range" p) [a] [] pos) (HM.Ce fa):=by
 intro r ds hd;unfold HM.Ce at hd;split at hd
 .rename_i j hj
  split at hd
  .rename_i hok
   cases hd;obtain⟨k1,k2⟩:=KN hok;refine PI.imp (ky hg hm (Z3 (ha r _ hj) BV hs) hs) λY H R ⟨F0,H0,F,at_,k⟩=>?_;exact⟨F0,H0,F,at_,λv F1 H1 x1 r1=>⟨j,by rw[r1.int_inv],by omega,by omega,k _ F1 H1 x1 (V7 0 j.toNat)⟩⟩
  .cases hd
 .cases hd
theorem j4(hm:X.mg "range"=J)(ha:XE X a fa)(hb:XE X b fb)(hg:Gl X "range":=by rfl)(hs:Ad [a,b] X.env=[(Ab,eval a X.env),(Ab,eval b X.env)]:=by rfl)(uo:Ad [b] X.env=[(Ab,eval b X.env)]:=by rfl):XI X tg (.Call (.Name "range" p) [a,b] [] pos) (HM.Nj fa fb):=by
 intro r ds hd;unfold HM.Nj at hd;split at hd
 .rename_i i hi
  split at hd
  .rename_i j hj
   split at hd
   .rename_i hok
    cases hd;rw[AI]at hok;obtain⟨k1,k2⟩:=KN hok.1;obtain⟨k3,k4⟩:=KN hok.2;refine PI.imp (kx hg hm (Z3 (ha r _ hi) (Z3 (hb r _ hj) BV uo) (by rw[hs,uo])) hs uo) λY H R ⟨F0,H0,F,at_,k⟩=>?_;exact⟨F0,H0,F,at_,λv F1 H1 x1 r1=>⟨F0,H0,F1,at_.grow x1,λw F2 H2 x2 r2=>⟨i,j,by rw[r1.int_inv,r2.int_inv],⟨by omega,by omega,by omega,by omega⟩,k _ F2 H2 (x1.trans x2) (V7 i (j-i).toNat)⟩⟩⟩
   .cases hd
  .cases hd
 .cases hd
theorem MZ{gb:HM.BF}(ha:XB X a ga)(hb:XB X b gb):XF X (.BinOp a .Add b pos) (HM.MW ga gb):=by
 intro r d h;unfold HM.MW at h;split at h
 .rename_i xs hx
  split at h
  .rename_i ys hy
   split at h
   .rename_i hz
    cases h;refine PE.imp (Kl dP (ha r _ hx) (hb r _ hy)) λY H Q ⟨F0,H0,F,at_,k⟩=>?_;refine⟨F0,H0,F,at_,λv F1 H1 x1 ⟨fp,r1⟩=>⟨F0,H0,F1,at_.grow x1,λw F2 H2 x2 ⟨fq,r2⟩=>?_⟩⟩;cases r1 with
    |ol h1 q1 =>
     cases r2 with
     |ol h2 q2 =>
      have q1':=q1.mono x2.ff;refine⟨_,_,_,_,rfl,rfl,x2.hh _ _ h1,h2,?_,λl hl=>EY (P:=λv _ H'=>Q v H') (x1.trans x2) (q1'.append q2) hl k⟩;have e1:=q1.1;have e2:=q2.1;have e3:(1000000:Nat)<=sizeLine:=by decide
      unfold HM.big at hz;omega
   .cases h
  .cases h
 .cases h
theorem fB(ha:XB X a ga)(hb:XE X b fb):XF X (.BinOp a .Mult b pos) (HM.iw ga fb):=by
 intro r d h;unfold HM.iw at h;split at h
 .rename_i xs hx
  split at h
  .rename_i i hy
   split at h
   .rename_i hz
    cases h;rw[AI,decide_eq_true_eq,decide_eq_true_eq]at hz;refine PE.imp (Kl du (ha r _ hx) (hb r _ hy)) λY H Q ⟨F0,H0,F,at_,k⟩=>?_;refine⟨F0,H0,F,at_,λv F1 H1 x1 ⟨fp,r1⟩=>⟨F0,H0,F1,at_.grow x1,λw F2 H2 x2 r2=>?_⟩⟩;cases r1 with
    |ol h1 q1 =>
     have q1':=q1.mono x2.ff;refine⟨_,i,_,rfl,r2.int_inv,x2.hh _ _ h1,by omega,by omega,?_,λl hl=>EY (P:=λv _ H'=>Q v H') (x1.trans x2) (q1'.rep i.toNat) hl k⟩;have e1:=q1.1;have e3:(1000*1000:Nat)<=sizeLine:=by decide
     refine Bf (Nat.mul_le_mul (?_:_<=1000) (?_:_<=1000)) e3<;>omega
   .cases h
  .cases h
 .cases h
def XO(X:Cx)(e:Option Expr)(f:Option HM.EF):Prop:=∀r o,HM.V0 f r=Z o->PO X e λY H Q=>vt X.K r Y H λF0 H0 F=>∀F' H',sQ F H F' H'->Q o H'
theorem eS:XO X J J:=by intro r o h;cases h;intro sI s Y H Q I q;obtain⟨F0,H0,F,at_,k⟩:=q;exact fP sI s Y H Q I (k F H at_.refl)
theorem gY(h:XE X e fa):XO X (Z e) (Z fa):=by
 intro r o ho;unfold HM.V0 at ho;split at ho
 .rename_i z;cases z
 .rename_i g z
  cases z;split at ho
  .rename_i i hi
   cases ho;intro sI s Y H Q I q;obtain⟨F0,H0,F,at_,k⟩:=q;exact fK (h r _ hi) sI s Y H Q I ⟨F0,H0,F,at_,λv F1 H1 x1 r1=>⟨i,r1.int_inv,k F1 H1 x1⟩⟩
  .cases ho
theorem fA{lo hi:Option Expr}{fl fh:Option HM.EF}(ha:XB X a ga)(hl:XO X lo fl)(hh:XO X hi fh):XF X (.Subscript a (.Slice lo hi J p2) pos) (HM.iM ga fl fh):=by
 intro r d h;unfold HM.iM at h;split at h
 .rename_i x hx
  split at h
  .rename_i xs vR
   split at h
   .rename_i l hl'
    split at h
    .rename_i u hu'
     cases h;refine PE.imp (iV gE (ha r _ hx) (hl r _ hl') (hh r _ hu')) λY H Q ⟨F0,H0,F,at_,k⟩=>?_;refine⟨F0,H0,F,at_,λv F1 H1 x1 ⟨fp,r1⟩=>⟨F0,H0,F1,at_.grow x1,λF2 H2 x2=>⟨F0,H0,F2,(at_.grow x1).grow x2,λF3 H3 x3=>?_⟩⟩⟩;have x23:=x2.trans x3;obtain⟨l',vs,e1,hq,rs⟩:=EZ x3.sub (r1.mono x23.ff λ_ _ _ z=>x23.hh _ _ z) vR;refine⟨l',vs,e1,hq,λl2 vD=>EY (P:=λv _ H'=>Q v H') (x1.trans x23) ?_ vD k⟩;unfold HM.cutD Kd;rw[<-rs.1];exact(rs.drop _).take _
    .cases h
   .cases h
  .cases h
 .cases h
theorem A9.val{fp:Nat->List Addr}(e:A9 K F0 H0 F H r Y fp)(h:r[i]?=Z (Z (.ol ds))):∃l vs,Y[i]?=Z (Z (.ref l))/\H l=Z (.lst vs)/\Zt K F ds vs/\fp i=[l]:=by
 obtain⟨v,h1,h2⟩:=e.at_ i _ h;generalize hf:fp i=q at h2;cases h2 with
 |ol k1 k2=>exact⟨_,_,h1,k1,k2,rfl⟩
theorem At.chgList{es:List PyData}(e:At K F0 H0 F H r Y)(h:r[i]?=Z (Z (.ol ds))):∃l vs,Y[i]?=Z (Z (.ref l))/\H l=Z (.lst vs)/\Zt K F ds vs/\∀us,Zt K F es us->At K F0 H0 F (upd H l (.lst us)) (r.set i (Z (.ol es))) Y:=by
 obtain⟨fp,e⟩:=e;obtain⟨l,vs,h1,h2,h3,h4⟩:=e.val h;refine⟨l,vs,h1,h2,h3,λus q=>e.change (fp':=[l]) h1 (.ol Zz q) (by simp) (λa ha=>.inl (by rw[h4];exact ha)) λa o z hn=>?_⟩;rw[ZB (λz=>hn (by rw[h4,z];simp))];exact z
theorem GV(i:Nat){p3:Pos}(ha:XE X a fa)(hN:X.N[i]?=Z x:=by rfl)(hv:vk X.env.scope x:=by first|exact AG rfl|exact An (AG rfl)|exact An (An rfl))(hd:(x==("__debug__":Str))=Ab:=by decide)(tF:(x==("__classdict__":Str))=Ab:=by decide)(t7:Hg (.Name x p1) "append" X.env (eval (.Name x p1) X.env)=eval (.Name x p1) X.env:=by rfl)(uO:((backTo p3 (Ad [a] X.env)).all (λx=>!x.1)&&(JP p3 (JQ [] X.env)).all (λx=>x.1.isSome)&&decide (([a]:List Expr).length+([]:List Keyword).length+(if([]:List Keyword).isEmpty then 0 else 1)<30))=Aa:=by rfl)(t6:(p2.endLine==p3.line)=Aa:=by rfl)(hs:Ad [a] X.env=[(Ab,eval a X.env)]:=by rfl):XS X (.Expr (.Call (.Attribute (.Name x p1) "append" p2) [a] [] p3) pos) (HM.FJ i fa):=by
 intro r o h;unfold HM.FJ at h;split at h
 .rename_i ds sW
  split at h
  .rename_i d hd'
   split at h
   .rename_i hz
    cases h;refine PS.imp (KO (MQ Mr UI Ut ND (CI hN hv hd tF) (Z3 (ha r d hd') BV hs) t7 uO t6 hs rfl)) λE Y H ⟨F0,H0,F,at_,k⟩=>?_;obtain⟨l,vs,e1,e2,e3,_⟩:=at_.chgList (es:=ds) sW;refine⟨.ref l,e1,.inl ⟨rfl,_,tU.of e2⟩,F0,H0,F,at_,λv F1 H1 x1 r1=>?_⟩;have ud:=at_.grow x1;obtain⟨l',vs',f1,f2,f3,f4⟩:=ud.chgList (es:=ds++[d]) sW;rw[e1]at f1;cases f1;refine⟨_,vs',v,rfl,rfl,f2,?_,k _ F1 _ (f4 _ (f3.append (.one r1)))⟩;have e4:=f3.1;have e5:(1000000:Nat)<=sizeLine:=by decide
    unfold HM.big at hz;omega
   .cases h
  .cases h
 .cases h
theorem gR(i:Nat)(hk:XE X b fb)(ha:XE X a fa)(hN:X.N[i]?=Z x:=by rfl)(hv:vk X.env.scope x:=by first|exact AG rfl|exact An (AG rfl)|exact An (An rfl))(hd:(x==("__debug__":Str))=Ab:=by decide)(tF:(x==("__classdict__":Str))=Ab:=by decide)
  (uZ:∀v,assign (.Subscript (.Name x p1) b p2) X.env v=(do
   let ov <-holding [v] (eval (.Name x p1) X.env)
   let iv <-holding [v,ov] (eval b X.env)
   standAt p2
   holding [v,ov,iv] (setItem ov iv v)
   release [v,ov,iv] []):=by intro _;rfl)
  (hs:swapsWithSole [.Subscript (.Name x p1) b p2] a pos.line X.env=pure Ab:=by rfl) (hw:swappedStores [.Subscript (.Name x p1) b p2] a X.env=pure J:=by rfl)
  (h1:(ED [.Subscript (.Name x p1) b p2] X.env).map (·.2)=[assign (.Subscript (.Name x p1) b p2) X.env]:=by rfl):XS X (.Assign [.Subscript (.Name x p1) b p2] a pos) (HM.k9 i fb fa):=by
 intro r o h;unfold HM.k9 at h;split at h
 .rename_i d hd'
  split at h
  .rename_i ds sW
   split at h
   .rename_i n hn
    split at h
    .rename_i j hj
     cases h;refine PS.imp (eh (ha r d hd') (dz (CI hN hv hd tF) (hk r _ hn) xu uZ) hs hw h1) λE Y H ⟨F0,H0,F,at_,k⟩=>?_;refine⟨F0,H0,F,at_,λv F1 H1 x1 r1=>?_⟩;have ud:=at_.grow x1;obtain⟨l,vs,e1,e2,e3,_⟩:=ud.chgList (es:=ds) sW;refine⟨.ref l,e1,F0,H0,F1,ud,λw F2 H2 x2 r2=>?_⟩;obtain⟨l',vs',f1,f2,f3,f4⟩:=(ud.grow x2).chgList (es:=ds.set j d) sW;rw[e1]at f1;cases f1;refine⟨_,vs',n,j,rfl,r2.int_inv,f2,?_,k _ F2 _ (f4 _ (f3.set (r1.mono x2.ff) j))⟩;rw[<-f3.1];exact hj
    .cases h
   .cases h
  .cases h
 .cases h
end
end
section
variable{K:Ae}{F:Hp}{κ:Type}[DecidableEq κ]
def AO(K:Ae)(F:Hp)(kvs:List (κ×PyData))(vvs:List (κ×V)):Prop:=kvs.map (·.1)=vvs.map (·.1)/\Zt K F (kvs.map (·.2)) (vvs.map (·.2))
theorem AO.nil:AO K F ([]:List (κ×PyData)) []:=⟨rfl,.nil⟩
theorem AO.cons{k:κ}{d:PyData}{v:V}{kvs:List (κ×PyData)}{vvs:List (κ×V)}(r:Rep K F d v)(q:AO K F kvs vvs):AO K F ((k,d)::kvs) ((k,v)::vvs) :=
 ⟨by rw[Ak,Ak,q.1],by rw[Ak,Ak];exact .cons r q.2⟩
theorem AO.inv{kvs:List (κ×PyData)}{vvs:List (κ×V)}(q:AO K F kvs vvs):(kvs=[]/\vvs=[])\/∃k d v kvs' vvs',kvs=(k,d)::kvs'/\vvs=(k,v)::vvs'/\Rep K F d v/\AO K F kvs' vvs':=by
 cases kvs with
 |nil =>
  cases vvs with
  |nil=>exact .inl ⟨rfl,rfl⟩
  |cons p r=>exact absurd q.1 (by simp)
 |cons p kvs' =>
  cases vvs with
  |nil=>exact absurd q.1 (by simp)
  |cons p' vvs' =>
   obtain⟨k,d⟩:=p;obtain⟨k',v⟩:=p';obtain⟨q1,q2⟩:=q;rw[Ak,Ak]at q1 q2;injection q1 with e1 e2
   have e1:k=k':=e1;subst e1;obtain⟨v',us,e3,r1,r2⟩:=q2.cons_inv;injection e3 with e3 e4
   refine .inr ⟨k,d,v,kvs',vvs',rfl,rfl,?_,e2,?_⟩
   .rw[show v=v' from e3];exact r1
   .rw[e4];exact r2
theorem AO.len{kvs:List (κ×PyData)}{vvs:List (κ×V)}(q:AO K F kvs vvs):kvs.length=vvs.length:=by
 have:=congrArg BC q.1
 rwa [Af,Af]at this
theorem AO.any{kvs:List (κ×PyData)}{vvs:List (κ×V)}(k:κ)(q:AO K F kvs vvs):(kvs.any λp=>decide (p.1=k))=vvs.any λp=>decide (p.1=k):=by
 have e:∀{β:Type} (l:List (κ×β)),(l.any λp=>decide (p.1=k))=(l.map (·.1)).any λx=>decide (x=k):=λl=>by rw[TB];rfl
 rw[e,e,q.1]
theorem AO.repl{d:PyData}{v:V}(k:κ)(r:Rep K F d v):∀{kvs:List (κ×PyData)} {vvs:List (κ×V)},AO K F kvs vvs->AO K F (kvs.map λp=>if p.1=k then(p.1,d)else p) (vvs.map λp=>if p.1=k then(p.1,v)else p)
 |[],vvs,q=>by
  rcases q.inv with⟨_,e⟩|⟨_,_,_,_,_,e,_⟩
  .subst e;exact .nil
  .cases e
 |p::kvs,vvs,q=>by
  rcases q.inv with⟨e,_⟩|⟨k',d',v',kvs',vvs',e1,e2,r1,r2⟩
  .cases e
  .cases e1
   subst e2;have ih:=AO.repl k r r2;rw[Ak,Ak]
   by_cases h:k'=k
   .rw[if_pos h,if_pos h];exact .cons r ih
   .rw[if_neg h,if_neg h];exact .cons r1 ih
theorem AO.snoc{kvs:List (κ×PyData)}{vvs:List (κ×V)}{k:κ}{d:PyData}{v:V}(q:AO K F kvs vvs)(r:Rep K F d v):AO K F (kvs++[(k,d)]) (vvs++[(k,v)]) :=
 ⟨by rw[BI,BI,q.1];rfl,by rw[BI,BI];exact q.2.append (.one r)⟩
theorem AO.put{kvs:List (κ×PyData)}{vvs:List (κ×V)}{d:PyData}{v:V}(q:AO K F kvs vvs)(k:κ)(r:Rep K F d v):AO K F (HM.tf kvs k d) (tW vvs k v):=by
 unfold HM.tf tW;rw[q.any k]
 by_cases h:(vvs.any λp=>decide (p.1=k))=Aa
 .rw[if_pos h,if_pos h];exact q.repl k r
 .rw[if_neg h,if_neg h];exact q.snoc r
theorem AO.look{k:κ}:∀{kvs:List (κ×PyData)} {vvs:List (κ×V)},AO K F kvs vvs->(∀d,HM.Zm kvs k=Z d->∃v,AV vvs k=Z v/\Rep K F d v)/\(HM.Zm kvs k=J->AV vvs k=J)
 |[],vvs,q=>by
  rcases q.inv with⟨_,e⟩|⟨_,_,_,_,_,e,_⟩
  .subst e;exact⟨λd h=>(by cases h),λ_=>rfl⟩
  .cases e
 |p::kvs,vvs,q=>by
  rcases q.inv with⟨e,_⟩|⟨k',d',v',kvs',vvs',e1,e2,r1,r2⟩
  .cases e
  .cases e1
   subst e2;obtain⟨i1,i2⟩:=AO.look (k:=k) r2
   by_cases h:k'=k
   .have e3:HM.Zm ((k',d')::kvs) k=Z d':=by simp[HM.Zm,Df,h]
    rw[e3,Ib (p:=(k',v')) h];exact⟨λd hd=>(by cases hd;exact⟨v',rfl,r1⟩),λhd=>by cases hd⟩
   .have e3:HM.Zm ((k',d')::kvs) k=HM.Zm kvs k:=by simp[HM.Zm,Df,h]
    rw[e3,HZ (p:=(k',v')) h];exact⟨i1,i2⟩
theorem AO.some_iff{k:κ}{kvs:List (κ×PyData)}{vvs:List (κ×V)}(q:AO K F kvs vvs):(AV vvs k).isSome=(HM.Zm kvs k).isSome:=by
 obtain⟨i1,i2⟩:=q.look (k:=k);cases h:HM.Zm kvs k with
 |none=>rw[i2 h];rfl
 |some d=>obtain⟨v,h1,_⟩:=i1 d h;rw[h1];rfl
end
section
variable{K:Ae}{F:Hp}
theorem K6{d:PyData}{k:sP}{v:V}(h:HM.Jb d=Z k)(r:Rep K F d v):v=kV k:=by cases r<;>first|(cases h;rfl)|cases h
theorem X9:∀{ds:List PyData} {ks:List sP} {vs:List V},HM.NM ds=Z ks->Zt K F ds vs->vs=ks.map kV
 |[],ks,vs,h,r=>by cases h;exact r.nil_inv
 |d::ds,ks,vs,h,r=>by
  obtain⟨v,us,rfl,r1,r2⟩:=r.cons_inv;unfold HM.NM at h;split at h
  .rename_i k hk
   obtain⟨ks',h1,h2⟩:=Ai.mp h;subst h2;rw[K6 hk r1,X9 h1 r2];rfl
  .cases h
theorem Wx:∀{ds:List PyData} {ks:List sP},HM.MU ds=Z ks->HM.NM ds=Z ks
 |[],ks,h=>h
 |d::ds,ks,h=>by
  unfold HM.MU at h;split at h
  .cases ‹_=[]›
  .rename_i i r e
   injection e with e1 e2
   subst e1 e2;obtain⟨ks',h1,h2⟩:=Ai.mp h;subst h2;show(match HM.Jb (.int i)with|some k=>(HM.NM ds).map (k::·)|none=>J)=_;rw[Wx h1];rfl
  .cases h
theorem D8{d:PyData}{ks:List sP}{v:V}(h:HM.Be d=Z ks)(r:Rep K F d v):∃b,v=.ref b/\F b=Z (.tup (ks.map kV)):=by
 cases r with
 |tup h1 h2 h3=>refine⟨_,rfl,?_⟩;rw[<-X9 (Wx h) ⟨h2,h3⟩];exact h1
 |tupk _=>cases h
 |lst _ _ _=>cases h
 |dct _ _ _ _=>cases h
 |fn _=>cases h
 |non=>cases h
 |bl _=>cases h
 |int _=>cases h
 |str _=>cases h
end
section
variable{X:Cx}{a b c e:Expr}{fa fb fc:HM.EF}{pos p:Pos}{f:HM.BF}
theorem fresh_one{K:Ae}{F H F1 H1:Hp}{o:HO}{q:HM.B}{l:Addr}{P:V->Hp->Hp->Prop}(x1:sQ F H F1 H1)(hl:H1 l=J)(hq:Ay K F1 (upd H1 l o) q (.ref l) [l])(k:∀v F' H',sQ F H F' H'->(∃fp,Ay K F' H' q v fp/\fp.Nodup/\∀a∈fp,F' a=J/\H a=J)->P v F' H'):P (.ref l) F1 (upd H1 l o):=by
 refine k _ F1 _ (x1.lay' hl) ⟨[l],hq,by simp,λa ha=>?_⟩;obtain rfl:a=l:=by simpa using ha
 exact⟨x1.sub.free hl,x1.hh.free hl⟩
theorem bX:XF X (.Dict [] [] pos) HM.fDk:=by intro r d h;cases h;exact PE.imp iz λY H Q ⟨F0,H0,F,at_,k⟩ l hl=>fresh_one (P:=λv _ H'=>Q v H') at_.refl hl (.ok Zz rfl .nil) k
theorem ML:XF X (.Dict [] [] pos) HM.zQ:=by intro r d h;cases h;exact PE.imp Xq λY H Q ⟨F0,H0,F,at_,k⟩ l hl=>fresh_one (P:=λv _ H'=>Q v H') at_.refl hl (.ot Zz rfl .nil) k
theorem VH:XF X (.Dict [] [] pos) HM.Vf:=by intro r d h;cases h;exact PE.imp Xq λY H Q ⟨F0,H0,F,at_,k⟩ l hl=>fresh_one (P:=λv _ H'=>Q v H') at_.refl hl (.otl Zz rfl rfl λi ds l' h=>by simp at h) k
theorem jW(ha:XE X a fa)(hb:XE X b fb):XF X (.Dict [Z a] [b] pos) (HM.mX fa fb):=by
 intro r d h;unfold HM.mX at h;split at h
 .rename_i x hx
  split at h
  .rename_i y hy
   split at h
   .rename_i k hk
    cases h;refine PE.imp (eE (ik (ha r x hx) (hb r y hy) gU) rfl rfl (by simp) (by simp)) λY H Q ⟨F0,H0,F,at_,kk⟩ l hl=>?_;have hFl:F l=J:=at_.sub.free hl;have x0:sQ F H F (upd H l (.dK [])):=at_.refl.lay' hl;refine⟨F0,H0,F,at_.grow x0,λv F1 H1 x1 r1=>⟨F0,H0,F1,(at_.grow x0).grow x1,λw F2 H2 x2 r2=>?_⟩⟩;have vP:=x1.trans x2;have vD:H2 l=Z (.dK []):=vP.hh l _ Zz;have hF2:F2 l=J:=by
     cases q:F2 l with
     |none=>rfl
     |some o =>
      rcases vP.new l o q with z|z
      .rw[hFl]at z;cases z
      .exact(z.no Zz λ_ q=>by cases q).elim
    refine⟨vD,[(k,w)],?_,by simp,?_⟩
    .rw[K6 hk r1]
     rfl
    have xe:sQ F H F2 (upd H2 l (.dK (Jc [] [(k,w)]))):=by
     refine⟨vP.ff,λc o z=>?_,λc o z=>?_,λc o z=>?_,λt=>(vP.tab (t.same (Hw hl))).keep λa u z hu=>?_,vP.nts⟩
     .have hc:c≠l:=C6 z hl
      exact(vP.hh c o (by rw[ZB hc];exact z)).cong (ZB hc)
     .rw[ZB (λe=>by rw[e,hF2]at z;cases z)]
      exact vP.sub c o z
     .rcases vP.new c o z with q|q
      .exact .inl q
      .exact .inr (q.back (.of (Zp.upd' hl)))
     .rw[ZB (λe=>by subst e;rw[vD]at z;cases z;cases hu)];exact z
    refine kk _ F2 _ xe ⟨[l],.ok Zz rfl (.one r2),by simp,λc hc=>?_⟩;obtain rfl:c=l:=by simpa using hc
    exact⟨hF2,hl⟩
   .cases h
  .cases h
 .cases h
end
section
variable{q:HM.B}{r:HM.Env}{F H:Hp}{fp:List Addr}{i:Nat}{p1:Pos}{K:Ae}{x:Str}
theorem At.chgOne{F0 H0:Hp}{Y:L2.St}{l:Addr}(e:At K F0 H0 F H r Y)(h:r[i]?=Z (Z q))(hv:Y[i]?=Z (Z (.ref l)))(hone:∀v fp,Ay K F H q v fp->∃a,v=.ref a/\fp=[a]):∀o q',Ay K F (upd H l o) q' (.ref l) [l]->At K F0 H0 F (upd H l o) (r.set i (Z q')) Y:=by
 intro o q' hq;obtain⟨fp,e⟩:=e;obtain⟨v,h1,h2⟩:=e.at_ i _ h;obtain⟨a,e1,e2⟩:=hone v _ h2;subst e1;rw[hv]at h1;cases h1;refine e.change (fp':=[l]) hv hq (by simp) (λc hc=>.inl (by rw[e2];exact hc)) λc o' z hn=>?_;rw[ZB (λz=>hn (by rw[e2,z];simp))];exact z
section
variable{X:Cx}{a b c e:Expr}{fa fb fc:HM.EF}{pos p:Pos}{f:HM.BF}
theorem HS{n:Nat}(h:n<HM.big):n<sizeLine:=by
 have e5:(1000000:Nat)<=sizeLine:=by decide
 unfold HM.big at h;omega
theorem HL(hu:X.A.units+1<cLine)(i:Nat){p2:Pos}(hk:XE X b fb)(ha:XE X a fa)(hN:X.N[i]?=Z x:=by rfl)(hv:vk X.env.scope x:=by first|exact AG rfl|exact An (AG rfl)|exact An (An rfl))(hd:(x==("__debug__":Str))=Ab:=by decide)(tF:(x==("__classdict__":Str))=Ab:=by decide)(hs:DB a (Z (.Subscript (.Name x p1) b p2)) pos.line X.env=pure Ab:=by rfl):XS X (.Assign [.Subscript (.Name x p1) b p2] a pos) (HM.Gx i fb fa):=by
 intro r o h;unfold HM.Gx at h;split at h
 .rename_i d hd'
  split at h
  .rename_i y hy
   split at h
   .rename_i kvs hb
    split at h
    .rename_i k hk'
     split at h
     .rename_i hz
      cases h;refine PS.imp (Qr hu (CI hN hv hd tF) (hk r y hy) (ha r d hd') hs) λE Y H ⟨F0,H0,F,at_,kk⟩=>?_;refine⟨F0,H0,F,at_,λv F1 H1 x1 r1=>?_⟩;have ud:=at_.grow x1;obtain⟨u,fp,e1,e2⟩:=ud.any hb;refine⟨u,e1,F0,H0,F1,ud,λw F2 H2 x2 r2=>?_⟩;have uE:=ud.grow x2;cases e2 with
      | @ok l _ vvs e2 e3 e4=>have T:AO X.K F2 kvs vvs:=⟨e3,e4.mono x2.ff⟩;have T':=T.put k (r1.mono x2.ff);rw[K6 hk' r2];have hH:H2 l=Z (.dK vvs):=x2.hh _ _ e2;refine⟨l,_,rfl,Ft.k hH (by rw[<-T.len];exact HS hz),kk _ F2 _ (uE.chgOne hb e1 (λv fp q=>by cases q;exact⟨_,rfl,rfl⟩) _ _ (.ok Zz T'.1 T'.2))⟩
     .cases h
    .cases h
   .rename_i kvs hb
    split at h
    .rename_i k hk'
     split at h
     .rename_i hz
      cases h;refine PS.imp (Qr hu (CI hN hv hd tF) (hk r y hy) (ha r d hd') hs) λE Y H ⟨F0,H0,F,at_,kk⟩=>?_;refine⟨F0,H0,F,at_,λv F1 H1 x1 r1=>?_⟩;have ud:=at_.grow x1;obtain⟨u,fp,e1,e2⟩:=ud.any hb;refine⟨u,e1,F0,H0,F1,ud,λw F2 H2 x2 r2=>?_⟩;have uE:=ud.grow x2;cases e2 with
      | @ot l _ vvs e2 e3 e4=>have T:AO X.K F2 kvs vvs:=⟨e3,e4.mono x2.ff⟩;have T':=T.put k (r1.mono x2.ff);obtain⟨bb,rfl,uV⟩:=D8 hk' r2;have hH:H2 l=Z (.dT vvs):=x2.hh _ _ e2;refine⟨l,_,rfl,Ft.t hH (x2.sub _ _ uV) (by rw[<-T.len];exact HS hz),kk _ F2 _ (uE.chgOne hb e1 (λv fp q=>by cases q;exact⟨_,rfl,rfl⟩) _ _ (.ot Zz T'.1 T'.2))⟩
     .cases h
    .cases h
   .cases h
  .cases h
 .cases h
theorem QZ{K:Ae}{F H:Hp}(k:List sP):∀(kvs:List (List sP×List PyData)) (vvs:List (List sP×V)) (ls:List Addr),kvs.map (·.1)=vvs.map (·.1)->vvs.map (·.2)=ls.map V.ref ->(∀(i:Nat) (ds:List PyData) (l:Addr),(kvs.map (·.2))[i]?=Z ds->ls[i]?=Z l->∃vs,H l=Z (.lst vs)/\Zt K F ds vs) ->(∀ds,HM.Zm kvs k=Z ds->∃l' vs,AV vvs k=Z (.ref l')/\l'∈ls/\H l'=Z (.lst vs)/\Zt K F ds vs)/\(HM.Zm kvs k=J->AV vvs k=J)
 |[],[],_,_,_,_=>⟨(λds h=>by cases h),λ_=>rfl⟩
 |[],_::_,_,hk,_,_=>by simp at hk
 |_::_,[],_,hk,_,_=>by simp at hk
 |_::_,_::_,[],_,hv,_=>by simp at hv
 |(k1,ds1)::kvs,(k2,v2)::vvs,l1::ls,hk,hv,r=>by
  rw[Ak,Ak]at hk hv;injection hk with e1 e2
  injection hv with e3 e4
  have e1:k1=k2:=e1;have e3:v2=.ref l1:=e3;subst e1 e3;obtain⟨i1,i2⟩:=QZ k kvs vvs ls e2 e4 λi ds l h1 h2=>r (i+1) ds l (by simpa using h1) (by simpa using h2)
  by_cases hkk:k1=k
  .have e5:HM.Zm ((k1,ds1)::kvs) k=Z ds1:=by simp[HM.Zm,Df,hkk]
   rw[e5,Ib (p:=(k1,V.ref l1)) hkk];obtain⟨vs,q1,q2⟩:=r 0 ds1 l1 rfl rfl;exact⟨(λds h=>by cases h;exact⟨l1,vs,rfl,by simp,q1,q2⟩),(λh=>by cases h)⟩
  .have e5:HM.Zm ((k1,ds1)::kvs) k=HM.Zm kvs k:=by simp[HM.Zm,Df,hkk]
   rw[e5,HZ (p:=(k1,V.ref l1)) hkk];exact⟨λds h=>let ⟨l',vs,a1,a2,a3⟩:=i1 ds h;⟨l',vs,a1,Ap _ a2,a3⟩,i2⟩
theorem Xe{kvs:List (List sP×List PyData)}{v:V}(q:Ay K F H (.otl kvs) v fp):∃l vvs ls,v=.ref l/\fp=l::ls/\H l=Z (.dT vvs)/\kvs.map (·.1)=vvs.map (·.1)/\vvs.map (·.2)=ls.map V.ref /\ ∀k,(∀ds,HM.Zm kvs k=Z ds->∃l' vs,AV vvs k=Z (.ref l')/\l'∈ls/\H l'=Z (.lst vs)/\Zt K F ds vs)/\(HM.Zm kvs k=J->AV vvs k=J):=by
 cases q with
 | @otl l _ vvs ls h hk hv r=>exact⟨l,vvs,ls,rfl,rfl,h,hk,hv,λk=>QZ k kvs vvs ls hk hv r⟩
theorem iN{v w:V}{x:PyData}{c:Bool}(sub:Zp F H)(rq:Ay K F H q v fp)(rx:Rep K F x w)(h:HM.hasB q x=Z c):∃l o,v=.ref l/\BK H l w o/\o.isSome=c:=by
 cases rq with
 |pl _=>cases h
 |hd _ _ _ _=>cases h
 |hf _=>cases h
 |ol _ _=>cases h
 | @ok l kvs vvs h1 h2 h3=>obtain⟨k,e1,e2⟩:=Ai.mp h;rw[K6 e1 rx];exact⟨l,_,rfl,BK.k h1,by rw[AO.some_iff (K:=K) (F:=F) ⟨h2,h3⟩,<-e2]⟩
 | @ot l kvs vvs h1 h2 h3=>obtain⟨k,e1,e2⟩:=Ai.mp h;obtain⟨bb,rfl,uV⟩:=D8 e1 rx;exact⟨l,_,rfl,BK.t h1 (sub _ _ uV),by rw[AO.some_iff (K:=K) (F:=F) ⟨h2,h3⟩,<-e2]⟩
 | @otl l kvs vvs ls h1 h2 h3 h4 =>
  obtain⟨k,e1,e2⟩:=Ai.mp h;obtain⟨bb,rfl,uV⟩:=D8 e1 rx;refine⟨l,_,rfl,BK.t h1 (sub _ _ uV),?_⟩;obtain⟨l2,zW,ls2,e3,e4,e5,_,_,hl⟩:=Xe (Ay.otl h1 h2 h3 h4);cases e3;rw[h1]at e5;cases e5;obtain⟨i1,i2⟩:=hl k;rw[<-e2];cases hq:HM.Zm kvs k with
  |none=>rw[i2 hq];rfl
  |some ds=>obtain⟨_,_,h5,_⟩:=i1 ds hq;rw[h5];rfl
theorem lC{d:PyData}(h:HM.oN fa f r=Z d):∃x q c,fa r=Z x/\f r=Z q/\HM.hasB q x=Z c/\d=.bool (!c):=by
 unfold HM.oN at h;split at h
 .split at h
  .obtain⟨c,h1,h2⟩:=Ai.mp h
   exact⟨_,_,c,by assumption,by assumption,h1,h2.symm⟩
  .cases h
 .cases h
theorem jV(hu:X.A.units+1<cLine)(ha:XE X a fa)(hb:XB X b f)(hm:DA .NotIn b=Ab:=by rfl):XT X (.Compare a [.NotIn] [b] pos) (HM.tV (HM.oN fa f)):=by intro r d h;obtain⟨x,q,c,h1,h2,h3,e⟩:=lC (HI h);cases e;refine PT.imp (Qe (X7 hu (ha r x h1) (hb r q h2)) hm) λY H Q ⟨F0,H0,F,at_,k⟩=>?_;refine⟨F0,H0,F,at_,λv F1 H1 x1 r1=>⟨F0,H0,F1,at_.grow x1,λw F2 H2 x2 ⟨fp,r2⟩=>?_⟩⟩;obtain⟨l,o,e1,e2,e3⟩:=iN x2.sub r2 (r1.mono x2.ff) h3;exact⟨l,o,e1,e2,_,rfl,by rw[e3];exact k F2 H2 (x1.trans x2)⟩
theorem gy(h:HM.Xc i fa r=Z q):∃x bb,fa r=Z x/\r[i]?=Z (Z bb) /\ ((∃kvs k d,bb=.ok kvs/\HM.Jb x=Z k/\HM.Zm kvs k=Z d/\q=.pl d)\/(∃kvs k d,bb=.ot kvs/\HM.Be x=Z k/\HM.Zm kvs k=Z d/\q=.pl d)\/∃kvs k ds,bb=.otl kvs/\HM.Be x=Z k/\HM.Zm kvs k=Z ds/\q=.ol ds):=by
 unfold HM.Xc at h;split at h
 .rename_i x hx
  split at h
  .rename_i kvs hb
   split at h
   .rename_i k hk
    obtain⟨d,h1,h2⟩:=Ai.mp h;exact⟨x,_,hx,hb,.inl ⟨kvs,k,d,rfl,hk,h1,h2.symm⟩⟩
   .cases h
  .rename_i kvs hb
   split at h
   .rename_i k hk
    obtain⟨d,h1,h2⟩:=Ai.mp h;exact⟨x,_,hx,hb,.inr (.inl ⟨kvs,k,d,rfl,hk,h1,h2.symm⟩)⟩
   .cases h
  .rename_i kvs hb
   split at h
   .rename_i k hk
    obtain⟨d,h1,h2⟩:=Ai.mp h;exact⟨x,_,hx,hb,.inr (.inr ⟨kvs,k,d,rfl,hk,h1,h2.symm⟩)⟩
   .cases h
  .cases h
 .cases h
theorem VG(hu:X.A.units+1<cLine)(i:Nat)(hk:XE X b fb)(hN:X.N[i]?=Z x:=by rfl)(hv:vk X.env.scope x:=by first|exact AG rfl|exact An (AG rfl)|exact An (An rfl))(hd:(x==("__debug__":Str))=Ab:=by decide)(tF:(x==("__classdict__":Str))=Ab:=by decide)(hs:Kc b:=by intro _ _;rfl):XB X (.Subscript (.Name x p1) b pos) (HM.Xc i fb):=by
 intro r q h;obtain⟨y,bb,h1,h2,h3⟩:=gy h;refine PE.imp (QE hu (CI hN hv hd tF) (hk r y h1) hs) λY H Q ⟨F0,H0,F,at_,kk⟩=>?_;obtain⟨u,fp,e1,e2⟩:=at_.any h2;refine⟨u,e1,F0,H0,F,at_,λw F2 H2 x2 r2=>?_⟩;have e2':=e2.mono x2.ff λ_ _ _ z=>x2.hh _ _ z;rcases h3 with⟨kvs,k,d,rfl,hk',hl,rfl⟩|⟨kvs,k,d,rfl,hk',hl,rfl⟩|⟨kvs,k,ds,rfl,hk',hl,rfl⟩
 .cases e2' with
  | @ok l _ vvs g1 g2 g3=>obtain⟨v,q1,q2⟩:=(AO.look (k:=k) (K:=X.K) (F:=F2) ⟨g2,g3⟩).1 d hl;rw[K6 hk' r2];exact⟨l,v,rfl,by rw[<-q1];exact BK.k g1,kk v F2 H2 x2 ⟨[],.pl q2⟩⟩
 .cases e2' with
  | @ot l _ vvs g1 g2 g3=>obtain⟨v,q1,q2⟩:=(AO.look (k:=k) (K:=X.K) (F:=F2) ⟨g2,g3⟩).1 d hl;obtain⟨bb',rfl,uV⟩:=D8 hk' r2;exact⟨l,v,rfl,by rw[<-q1];exact BK.t g1 (x2.sub _ _ uV),kk v F2 H2 x2 ⟨[],.pl q2⟩⟩
 .obtain⟨l,vvs,ls,rfl,_,g1,_,_,ua⟩:=Xe e2'
  obtain⟨l',vs,q1,_,q2,q3⟩:=(ua k).1 ds hl;obtain⟨bb',rfl,uV⟩:=D8 hk' r2;exact⟨l,_,rfl,by rw[<-q1];exact BK.t g1 (x2.sub _ _ uV),kk _ F2 H2 x2 ⟨[l'],.ol q2 q3⟩⟩
end
end
section
variable{p:Addr}{env:Env}{r:HM.Env}{F F0 H H0:Hp}{Y:L2.St}{K:Ae}{scope:Scope}
abbrev No:Value->Shared->Prop:=λ_ _=>False
abbrev Wg(t9:List Expr)(env:Env):Sem Bool :=
 forIn t9 Aa λc r=>if r=Aa then do let ok <-isTrue c env (eval c env);pure (Pf ok)else pure (Pf r)
theorem jR{prog:Program}{w:World}{A:Around}{R:Result->Shared->Prop}{s:Shared}{ue uP iter:Expr}{t9:List Expr}{pos:Pos}{it acc:Value}(z0:Nat->Shared->Prop)
  (xf:∀n s,z0 n s->wpAny (model prog w) A (pyNext it) (λr s1=>match r with
   |none=>R (.ok .next) s1
   |some v=>wpAny (model prog w) A (Pg uP it v) (λ_ s2=>wpAny (model prog w) A (assign uP env v) (λ_ s3=>wpAny (model prog w) A (Wg t9 env) (λok s4=>if ok=Aa then wpAny (model prog w) A (eval ue env) (λx s5=>wpAny (model prog w) A (call (.builtin "list.append") [acc,x]) (λ_ s6=>∃m,m<n/\z0 m s6) No s5) No s4 else ∃m,m<n/\z0 m s4) No s3) No s2) No s1) No s)
  (n:Nat)(h:z0 n s):codeAny (model prog w) A (.compLoop (.ListComp ue [⟨uP,iter,t9,0⟩] scope pos) 0 it acc env) R s:=by
 refine codeAny_loop rfl z0 (λn s hI=>?_) n h;show wpAny _ A ((compTurn (.ListComp ue [⟨uP,iter,t9,0⟩] scope pos) 0 it acc env).onRaise (λx=>do noteFrame x env;theTreesLotGoes x)) _ _ s;refine wpAny_noted ?_;rw[compTurn_list];refine Ac (OU (Ac (Bw (xf n s hI) (λr s1 h1=>?_) λ_ _ z=>z.elim)));cases r with
 |none=>exact Ag h1
 |some v =>
  refine Ac (Bw h1 (λ_ s2 h2=>Ac (Bw h2 (λ_ s3 h3=>Ac (Bw h3 (λok s4 h4=>?_) λ_ _ z=>z.elim)) λ_ _ z=>z.elim)) λ_ _ z=>z.elim);cases ok with
  |false=>exact Ag ⟨rfl,h4⟩
  |true=>refine Ac (Ac (Bw h4 (λx s5 h5=>?_) λ_ _ z=>z.elim));exact Ac (Bw h5 (λ_ s6 h6=>Ag (Ag ⟨rfl,h6⟩)) λ_ _ z=>z.elim)
def ZL(X:Cx)(N:List Str)(scope:Scope)(cl:List (Str×Addr))(C:Addr)(s₀:Shared)(H₀:Hp)(ex:List Addr):Cx where
 prog:=X.prog
 w:=X.w
 K:=X.K
 mg:=X.mg
 base:=X.base
 A:=X.A
 N:=N
 s₀:=s₀
 H₀:=H₀
 env:=compEnvC scope cl C X.env
 outer:=X.stack
 stack:=X.stack
 ex:=ex
 fn:=λ_=>Ab
 calm:=Aa
 pn:=[]
 xe:=λ_ _=>False
theorem Rk{env:Env}:∀(names:List (Str×NameKind)) (cs:List (Str×Addr)),(∀y∈names,y.2=.free->∃c,env.cells.lookup y.1=Z c)->(∀x c,cs.lookup x=Z c->env.cells.lookup x=Z c) ->∃cl,(forIn names cs λ(x:Str×NameKind) r=>(match x with|(name,kind)=>if kind==.free then do let c <-cellOf env name;pure (Pf ((name,c)::r))else pure (Pf r):Sem (ForInStep (List (Str×Addr)))))=pure cl /\ (∀x c,cl.lookup x=Z c->env.cells.lookup x=Z c)/\(∀x,(cs.lookup x).isSome=Aa->(cl.lookup x).isSome=Aa)/\∀y∈names,y.2=.free->(cl.lookup y.1).isSome=Aa
 |[],cs,_,h2=>⟨cs,rfl,h2,λ_ h=>h,λy hy=>by simp at hy⟩
 |(n,k)::r,cs,h1,h2=>by
  rw[List.forIn_cons]
  by_cases hk:(k==Hf)=Aa
  .obtain⟨c,hc⟩:=h1 (n,k) (Am ..) (by simpa using hk)
   have ec:cellOf env n=pure c:=by unfold cellOf;rw[hc]
   obtain⟨cl,e1,e2,e3,e4⟩:=Rk r ((n,c)::cs) (λy hy=>h1 y (Ap _ hy)) (λx d hx=>by
    rw[Hl]at hx;split at hx
    .rename_i hb
     have:x=n:=by simpa using hb
     cases hx;rw[this];exact hc
    .exact h2 x d hx)
   refine⟨cl,?_,e2,λx hx=>e3 x ?_,λy hy hf=>?_⟩
   .simp only[hk,if_true,ec,pure_bind]
    exact e1
   .rw[Hl]
    split
    .rfl
    .exact hx
   .rcases AE.mp hy with e|hy
    .subst e
     exact e3 n (by rw[Hl];simp)
    .exact e4 y hy hf
  .obtain⟨cl,e1,e2,e3,e4⟩:=Rk r cs (λy hy=>h1 y (Ap _ hy)) h2
   refine⟨cl,?_,e2,e3,λy hy hf=>?_⟩
   .simp only[hk,if_false,pure_bind,DS]
    exact e1
   .rcases AE.mp hy with e|hy
    .subst e
     exact absurd (by simpa using hf) hk
    .exact e4 y hy hf
theorem Oe(h:∀y∈scope.names,y.2=.free->∃c,env.cells.lookup y.1=Z c):∃cl,closureFor scope env=pure cl/\(∀x c,cl.lookup x=Z c->env.cells.lookup x=Z c)/\∀y∈scope.names,y.2=.free->(cl.lookup y.1).isSome=Aa:=by
 obtain⟨cl,e1,e2,_,e4⟩:=Rk (env:=env) scope.names [] h (λx c hx=>by simp at hx);refine⟨cl,?_,e2,e4⟩;unfold closureFor;exact(congrArg (λm:Sem (List (Str×Addr))=>m >>= λcs=>pure cs) e1).trans (pure_bind cl λcs=>pure cs)
theorem sQ.chg{F' H':Hp}(x:sQ F H F' H')(o:HO)(h1:H p=J)(h2:F' p=J)(h3:∀u,H' p=Z u->IU u=Aa):sQ F H F' (upd H' p o) :=
 ⟨x.ff,λb q z=>by
  have hb:b≠p:=C6 z h1;have y:=x.hh b q z;unfold Dp at y ⊢;rw[ZB hb];exact y,λb q z=>by rw[ZB (C6 z h2)];exact x.sub b q z,x.new,λt=>(x.tab t).keep λa u z hu=>by
   have ha:a≠p:=λe=>by subst e;exact Vu (h3 u z) hu
   rw[ZB ha];exact z,x.nts⟩
theorem At.push{d:PyData}{v:V}(e:At K F0 H0 F H r Y)(q:Rep K F d v):At K F0 H0 F H (Z (.pl d)::r) (Z v::Y):=by
 obtain⟨fp,e⟩:=e;refine⟨λi=>match i with|0=>[]|i+1=>fp i,e.ext,by rw[AD,AD,e.len],λi b h=>?_,λi h=>?_,λi a h=>?_,λi=>?_,λi j a hij h=>?_,e.tb,e.nt⟩
 .cases i with
  |zero=>rw[Pt]at h;cases h;exact⟨v,rfl,.pl q⟩
  |succ i=>rw[Em]at h;obtain⟨u,h1,h2⟩:=e.at_ i b h;exact⟨u,by rw[Em];exact h1,h2⟩
 .cases i with
  |zero=>rfl
  |succ i=>exact e.emp i λb z=>h b (by rw[Em];exact z)
 .cases i with
  |zero=>simp at h
  |succ i=>exact e.own i a h
 .cases i with
  |zero=>exact Fo
  |succ i=>exact e.nd i
 .cases i with
  |zero=>simp at h
  |succ i =>
   cases j with
   |zero=>simp
   |succ j=>exact e.dis i j a (by omega) h
theorem At.chgNew(o:HO){Hs Fs:Hp}(e:At K F0 H0 F H r Y)(es:At K F0 H0 Fs Hs r Y)(hs:AU Hs H)(h1:Hs p=J)(h2:F p=J)(h3:∀u,H p=Z u->IU u=Aa):At K F0 H0 F (upd H p o) r Y:=by
 obtain⟨fp,e⟩:=e;obtain⟨fq,es⟩:=es;have hp:∀i,¬p∈fp i:=λi hm=>by
  obtain⟨b,hb⟩:=e.bound hm;obtain⟨v,q1,q2⟩:=e.at_ i b hb;obtain⟨v',q3,q4⟩:=es.at_ i b hb;rw[q1]at q3;cases q3;generalize fp i=f1 at q2 hm;generalize fq i=f2 at q4;cases q2 with
  |pl _=>simp at hm
  |hd _ _ _ _=>simp at hm
  |hf _=>simp at hm
  |ol k _=>cases q4 with|ol k' _=>simp at hm;subst hm;rw[h1]at k';cases k'
  |ok k _ _=>cases q4 with|ok k' _ _=>simp at hm;subst hm;rw[h1]at k';cases k'
  |ot k _ _=>cases q4 with|ot k' _ _=>simp at hm;subst hm;rw[h1]at k';cases k'
  |otl k _ v1 _ =>
   cases q4 with
   |otl k' hk' v2 r2' =>
    have eo:=hs.back k' k λ_ z=>by cases z
    cases eo;have v2':=v2;rw[v1]at v2;rcases AE.mp hm with z2|z2
    .subst z2;rw[h1]at k';cases k'
    .have:V.ref p∈Iv V.ref _:=Al.mpr ⟨p,z2,rfl⟩
     rw[v2]at this;obtain⟨a',m1,m2⟩:=Al.mp this;injection m2 with m2
     subst m2;obtain⟨o,ho⟩:=Ay.there (Ay.otl k' hk' v2' r2') (Ap _ m1);rw[h1]at ho;cases ho
 have hH0:H0 p=J:=es.ext.hh.free h1;refine⟨fp,e.ext.chg o hH0 h2 h3,e.len,λi b h=>?_,e.emp,e.own,e.nd,e.dis,e.tb,e.nt⟩;obtain⟨v,q1,q2⟩:=e.at_ i b h;refine⟨v,q1,q2.mono (Zp.refl F) λa ha o' z=>?_⟩;have tX:a≠p:=λe=>hp i (by rw[<-e];exact ha);exact .of (by rw[ZB tX];exact z)
end
section
variable{zZ:Cx}{H H1:Hp}{Y:L2.St}{sI:List (Addr×Obj)}{fp:List Addr}{s s2:Shared}
structure CS(X:Cx)(N:List Str)(scope:Scope)(fr:List Str):Prop where
 kind:scope.kind=.function
 cell:∀y∈scope.names,y.2≠.cell
 names:∀y∈scope.names,y.2=.local->scope.names.lookup y.1=Z .local
 loc:∀x∈fr,scope.names.lookup x=Z .local
 first:∀(i:Nat) (x:Str),fr[i]?=Z x->N[i]?=Z x
 nd:N.Nodup
 len:N.length=X.N.length+fr.length
 cap:∀y∈scope.names,y.2=.free->X.env.kindOf y.1=Z .cell\/X.env.kindOf y.1=Z .free
 same:∀(i:Nat) (y:Str),N[i+fr.length]?=Z y->scope.names.lookup y=Z .free->X.N[i]?=Z y
 vis:∀(i:Nat) (y:Str),N[i+fr.length]?=Z y->vk scope y->scope.names.lookup y=Z .free
def wR(vi:PyData->Option (List PyData))(c:HM.TF)(e:HM.EF)(r:HM.Env):List PyData->Option (List PyData)
 |[]=>Z []
 |x::xs=>match vi x with
  |some ys=>match c (ys.map (λd=>Z (HM.B.pl d))++r)with
   |some Aa=>match e (ys.map (λd=>Z (HM.B.pl d))++r)with
    |some y=>(wR vi c e r xs).map (y::·)
    |none=>J
   |some Ab=>wR vi c e r xs
   |none=>J
  |none=>J
def ET(vi:PyData->Option (List PyData))(i:HM.IF)(c:HM.TF)(e:HM.EF):HM.BF:=λr=>match i r with
 |some xs=>if xs.length<HM.big then(wR vi c e r xs).map λys=>HM.B.ol ys else J
 |none=>J
def Jd(zZ:Cx)(m:Nat)(tg:Expr)(vi:PyData->Option (List PyData)):Prop:=∀(sI:List (Addr×Obj)) (s:Shared) (Y:L2.St) (sv:List (Option V)) (H F:Hp) (d:PyData) (ys:List PyData) (xv:V) (u:Value),sv.length=m->Inv zZ sI (sv++Y) H s->RelV xv u->Zp F H->Rep zZ.K F d xv->vi d=Z ys ->
 wpAny (model zZ.prog zZ.w) zZ.A (assign tg zZ.env u) (λ_ s'=>∃vs:List V,vs.length=m/\Inv zZ sI (vs.map Z++Y) H s'/\Zt zZ.K F ys vs) zZ.xe s
theorem At.pushes{K:Ae}{F0 H0 F H:Hp}{r:HM.Env}{Y:L2.St}:∀{ds:List PyData} {vs:List V},At K F0 H0 F H r Y->Zt K F ds vs->At K F0 H0 F H (ds.map (λd=>Z (HM.B.pl d))++r) (vs.map Z++Y)
 |[],vs,e,q=>by rw[q.nil_inv];exact e
 |d::ds,vs,e,q=>by obtain⟨v,us,rfl,r1,r2⟩:=q.cons_inv;exact(At.pushes e r2).push r1
section
variable{X:Cx}{N:List Str}{scope:Scope}{fr:List Str}{cl:List (Str×Addr)}{C:Addr}
theorem JL{env:Env}{y:Str}{k:NameKind}:∀{names:List (Str×NameKind)},(names.map λ(n,k)=>if(k==Hf&&env.scope.kind==.function&&env.kindOf n==Z .cell)then(n,NameKind.cell)else(n,k)).lookup y=Z k ->names.lookup y=Z k\/(k=.cell/\names.lookup y=Z .free)
 |[],h=>by simp at h
 |(n,k')::r,h=>by
  have ih:=@JL env y k r;rw[Ak]at h;dsimp only at h
  by_cases hc:(k'==Hf&&env.scope.kind==.function&&env.kindOf n==Z .cell)=Aa
  .rw[if_pos hc,Hl]at h
   rw[Hl];split at h
   .cases h
    refine .inr ⟨rfl,?_⟩;have:(k'==Hf)=Aa:=by rw[AI,AI]at hc;exact hc.1.1
    rw[show k'=Hf by simpa using this]
   .exact ih h
  .rw[if_neg hc,Hl]at h
   rw[Hl];split at h
   .cases h
    exact .inl rfl
   .exact ih h
theorem tO{y:Str}{k:NameKind}:∀{names:List (Str×NameKind)},names.lookup y=Z k->(y,k)∈names
 |[],h=>by simp at h
 |(n,k')::r,h=>by
  rw[Hl]at h;split at h
  .cases h
   rename_i hb;rw[show y=n by simpa using hb];exact Am ..
  .exact Ap _ (tO h)
theorem eD(T:CS X N scope fr)(tZ:∀y c,cl.lookup y=Z c->X.env.cells.lookup y=Z c)(vh:∀y∈scope.names,y.2=.free->(cl.lookup y.1).isSome=Aa)(I:Inv X sI Y H s)(hc:X.calm=Aa)(hf:∀b∈fp,Eo X sI H b)(uD:∀b∈fp,b<s.heap.objs.size)(hC:s.heap.objs.size<=C):(ZL X N scope cl C s H fp).Ok:=by
 refine⟨I.ok.mod,T.kind,I.ok.glob,I.ok.blt,hC,λy z c h1 h2=>I.ok.inj y z c (tZ y c h1) (tZ z c h2),λy h=>?_,λy c h=>?_,λ_=>I.ok.hd hc,I.ok.frames,.inl rfl,λb hb=>⟨?_,λy c h=>?_⟩,λb o h=>I.bs b o h,
  Bf I.ok.bsz I.sz,λb o h hb=>?_,λb hb hs=>?_,I.stack,I.stkFree⟩
 .have h':(relabel scope X.env).names.lookup y=Z .cell\/(relabel scope X.env).names.lookup y=Z .free:=h
  have hm:(y,Hf)∈scope.names:=by
   rcases h' with h'|h'
   .rcases JL h' with q|⟨_,q⟩
    .exact absurd rfl (T.cell _ (tO q))
    .exact tO q
   .rcases JL h' with q|⟨e,_⟩
    .exact tO q
    .cases e
  exact EH.mp (vh _ hm rfl)
 .exact absurd h (by show ¬Ab=Aa;simp)
 .exact As (Bz (uD b hb) hC)
 .obtain⟨_,_,_,_,q,_⟩:=hf b hb
  exact q y c (tZ y c h)
 .obtain⟨_,_,_,q,_⟩:=hf b hb
  rcases q with q|q
  .exact I.ok.noex b o h q
  .exact absurd (Bz (Ao h) (Bf I.ok.bsz q)) (EC _)
 .obtain⟨_,q1,q2,_⟩:=hf b hb
  rcases AE.mp (I.stkSub b hs)with z|z
  .exact q1 z
  .exact q2 z
theorem QV{D:Addr}{h1:Heap}{tk:Nat}(T:CS X N scope fr)(tZ:∀y c,cl.lookup y=Z c->X.env.cells.lookup y=Z c)(vh:∀y∈scope.names,y.2=.free->(cl.lookup y.1).isSome=Aa)(I:Inv X sI Y H s)(hc:X.calm=Aa)(hf:∀b∈fp,Eo X sI H b)(uD:∀b∈fp,b<s.heap.objs.size)(hD:s.heap.objs.size=D)(hC:D<C)(ns:h1.Ns C (λ_=>J))(hl:h1.get? D=Z {cls:=.type "list",data:=.seq #[] 0})(k:∀b o,s.heap.get? b=Z o->h1.get? b=Z o):Inv (ZL X N scope cl C s H fp) [] (Bl fr.length J++Y) (upd H D (.lst [])) {s with heap:=h1,toks:=tk}:=by
 have hn:H D=J:=I.hok.fresh (IH hD);have uW:s.heap.objs.size<=C:=Bf (IH hD) (DQ hC);have xa:H C=J:=I.hok.fresh uW;refine⟨eD T tZ vh I hc hf uD uW,rfl,I.bare,Un.laid k (IH hD) hn,⟨_,ns,λi y v e1 e2 e3=>?_⟩,λy c h=>?_,?_,λy c h=>?_,λp hp=>absurd (show p∈([]:List (Addr×Obj)) from hp) (by simp),I.hok.laid k (IH hD) ⟨BY _,[],0,.nil,hl⟩,?_⟩
 .have zg:fr.length<=i:=by
   apply JV;intro tu;rw[DD (by rw[El];exact tu),Ms,if_pos tu]at e2;cases e2
  rw[EI (by rw[El];exact zg),El]at e2;obtain⟨j,rfl⟩:∃j,i=j+fr.length:=⟨i-fr.length,by omega⟩;rw[Nat.add_sub_cancel]at e2
  .have e3':vk scope y:=by
    have e3:vk (relabel scope X.env) y:=e3;rcases e3 with q|q|q
    .rcases JL q with q|⟨z,_⟩
     .exact .inl q
     .cases z
    .rcases JL q with q|⟨_,q⟩
     .exact .inr (.inl q)
     .exact .inr (.inr q)
    .rcases JL q with q|⟨z,_⟩
     .exact .inr (.inr q)
     .cases z
   have uw:=T.vis j y e1 e3';have hm:=tO uw;have hN:=T.same j y e1 uw;have wH:=T.cap _ hm rfl;obtain⟨m,_,hl⟩:=I.loc;obtain⟨u,ru,lu⟩:=hl j y v hN e2 (by
    rcases wH with q|q
    .exact .inr (.inl q)
    .exact .inr (.inr q))
   refine⟨u,ru,?_⟩;obtain⟨c,xD⟩:=EH.mp (vh _ hm rfl);rcases lu with⟨q,_⟩|⟨_,c',e,z⟩
   .rcases wH with q'|q'<;>(rw[q']at q;cases q)
   .refine .inr ⟨?_,c,xD,?_⟩
    .rcases e3 with q|q|q
     .have q:(relabel scope X.env).names.lookup y=Z .local:=q
      rcases JL q with q|⟨z,_⟩
      .rw[uw]at q;cases q
      .cases z
     .exact .inl q
     .exact .inr q
    .rw[tZ y c xD]at e
     cases e;obtain⟨o,ho,hd⟩:=z;exact⟨o,k _ _ ho,hd⟩
 .obtain⟨v,o,ho,hd⟩:=I.cell y c (tZ y c h)
  exact⟨v,o,k _ _ ho,hd⟩
 .show upd H D (.lst []) C=J
  rw[ZB (II hC)];exact xa
 .have hq:=I.freeC y c (tZ y c h)
  obtain⟨v,o,ho,_⟩:=I.cell y c (tZ y c h);have:c≠D:=As (by rw[<-hD];exact Ao ho);rw[ZB this];exact hq
 .show(Bl fr.length J++Y).length=N.length
  rw[AK,El,I.len,T.len,Nat.add_comm]
def xc(zZ:Cx)(t9:List Expr)(f:HM.TF):Prop:=∀r c,f r=Z c->∀(sI:List (Addr×Obj)) (s:Shared) (Y:L2.St) (H:Hp) (Q:Bool->Hp->Prop),Inv zZ sI Y H s->(vt zZ.K r Y H λF0 H0 F=>∀F' H',sQ F H F' H'->Q c H') ->
 wpAny (model zZ.prog zZ.w) zZ.A (Wg t9 zZ.env) (TP zZ sI Y Q) zZ.xe s
theorem By:xc zZ [] HM.ZK:=by intro r c h sI s Y H Q I ⟨F0,H0,F,at_,k⟩;cases h;exact wpAny_tests_nil ⟨H,I,k F H at_.refl⟩
theorem Et{e:Expr}{f:HM.TF}(h:XT zZ e f):xc zZ [e] f:=λr c hc sI s Y H Q I q=>wpAny_tests_one (h r c hc sI s Y H Q I q)
def zp(K:Ae)(z0:It)(ds:List PyData)(F:Hp):Prop:=∀F' H,Zp F F'->Zp F' H ->
 (∀(i:Nat) (d:PyData),ds[i]?=Z d->z0.go i H/\∀x H',z0.yld i H x H'->∃F2,sQ (BD F' H) H F2 H'/\Rep K F2 d x)/\z0.stop ds.length H
theorem yx.e{K:Ae}{z0:It}{ds:List PyData}{F:Hp}(h:yx K z0 ds F):zp K z0 ds F:=λF' H s1 s2=>by obtain⟨a,b⟩:=h F' H s1 s2;refine⟨λi d hd=>⟨(a i d hd).1,λx H' hy=>?_⟩,b⟩;obtain⟨e,r⟩:=(a i d hd).2 x H' hy;subst e;exact⟨_,.refl (sQ.refl s2).tups.sub,r⟩
def XIE(X:Cx)(tg e:Expr)(f:HM.IF):Prop:=∀r ds,f r=Z ds->PI X tg e λY H R=>vt X.K r Y H λF0 H0 F=>∀z0 F' H',sQ F H F' H'->zp X.K z0 ds F'->R z0 H'
theorem XI.e{X:Cx}{tg e:Expr}{f:HM.IF}(h:XI X tg e f):XIE X tg e f:=λr ds hr sI s Y H R I ⟨F0,H0,F,at_,k⟩=>h r ds hr sI s Y H R I ⟨F0,H0,F,at_,λz0 F' H' x q=>k z0 F' H' x q.e⟩
theorem Q0{it D:Addr}{tn:Nat->Heap->Prop}{z0:It}{ue iter:Expr}{t9:List Expr}{tg:Expr}{pos:Pos}{vi:PyData->Option (List PyData)}{fc:HM.TF}{fe:HM.EF}{s4:Shared}{r:HM.Env}{ds out:List PyData}{Fs Hs F0 H0 F1:Hp}{R:Result->Shared->Prop}(T:CS X N scope fr)(I2:Inv X sI Y H1 s2)(W:wI X.prog X.w X.K tg z0 fp it tn)(hf:∀b∈fp,Eo X sI H1 b)(I4:Inv (ZL X N scope cl C s2 H1 fp) [] (Bl fr.length J++Y) (upd H1 D (.lst [])) s4)(tn0:tn 0 s4.heap)(hD:s2.heap.objs.size<=D)(uD:∀b∈fp,b<s2.heap.objs.size)(zL:X.calm=Aa)(hc:xc (ZL X N scope cl C s2 H1 fp) t9 fc)(he:XE (ZL X N scope cl C s2 H1 fp) ue fe)(at_:At X.K F0 H0 Fs Hs r Y)(x1:sQ Fs Hs F1 H1)(yF:zp X.K z0 ds F1)(tN:Jd (ZL X N scope cl C s2 H1 fp) fr.length tg vi)(vj:ds.length<HM.big)(go:wR vi fc fe r ds=Z out)(hR:∀s',(∃F H vs,Inv (ZL X N scope cl C s2 H1 fp) [] (Bl fr.length J++Y) H s'/\sQ Fs Hs F H/\H D=Z (.lst vs)/\F D=J/\Zt X.K F out vs)->R (.ok .next) s'):codeAny (model X.prog X.w) X.A (.compLoop (.ListComp ue [⟨tg,iter,t9,0⟩] scope pos) 0 (.ref it) (.ref D) (compEnvC scope cl C X.env)) R s4:=by
 have x6:H1 D=J:=I2.hok.fresh hD;have vw:Hs D=J:=x1.hh.free x6;have hF1D:F1 D=J:=x1.sub.free x6;have hfpD:∀b∈fp,b≠D:=λb hb=>As (Bz (uD b hb) hD);have okY:=I4.ok;have vY:∀{H:Hp},(∀b∈fp,H b=J)->∀b∈fp,Eo (ZL X N scope cl C s2 H1 fp) [] H b:=λhn b hb=>⟨hn b hb,(okY.exf b hb).1,okY.exfs b hb,.inl hb,(okY.exf b hb).2,λp hp=>absurd (show p∈([]:List (Addr×Obj)) from hp) (by simp)⟩;refine jR (λn s'=>∃(j:Nat) (sv:List (Option V)) (F H:Hp) (ys:List PyData) (vs:List V) (rest:List PyData),sv.length=fr.length/\Inv (ZL X N scope cl C s2 H1 fp) [] (sv++Y) H s'/\tn j s'.heap/\(∀b∈fp,H b=J)/\sQ Fs Hs F H/\Zp F1 F/\At X.K F0 H0 F H r Y /\
  H D=Z (.lst vs)/\F D=J/\Zt X.K F ys vs/\j+n=ds.length/\ys.length<=j/\wR vi fc fe r (ds.drop j)=Z rest/\out=ys++rest) ?_ ds.length
  ⟨0,Bl fr.length J,F1,_,[],[],out,El,I4,tn0,λb hb=>by rw[ZB (hfpD b hb)];exact(hf b hb).1,x1.lay' x6,Zp.refl _,(at_.grow x1).grow ((at_.grow x1).refl.lay' x6),Zz,hF1D,.nil,by omega,Aj _,go,rfl⟩
 rintro n s5 ⟨j,sv,F,H,ys,vs,rest,xy,I5,tn5,hfp5,x5,sF,wX,yr,zl,yh,hjn,hyl,uy,wG⟩
 obtain⟨y9,y8⟩:=yF F H sF wX.sub;cases n with
 |zero =>
  have ej:j=ds.length:=by omega
  subst ej;rw[Ug]at uy;cases uy;rw[B6]at wG;subst wG;refine sS (W.done (ZL X N scope cl C s2 H1 fp) rfl rfl rfl rfl _ [] s5 _ H No I5 (vY hfp5) tn5 y8) λrv s6 ⟨e,I6⟩=>?_;subst e;refine hR s6 ⟨F,H,vs,I6.weak (by rw[AK,AK,El,xy]) λi v hv=>?_,x5,yr,zl,yh⟩
  by_cases hi:i<fr.length
  .rw[DD (by rw[El];exact hi),Ms,if_pos hi]at hv
   cases hv
  .rw[EI (by rw[El];omega),El]at hv
   rw[EI (by omega),xy];exact hv
 |succ n =>
  have tu:j<ds.length:=by omega
  obtain⟨jg,jy⟩:=y9 j ds[j] (A2 tu);obtain⟨F2,x5,sF,wX,zl,yh,jy⟩:∃F2,sQ Fs Hs F2 H/\Zp F1 F2/\At X.K F0 H0 F2 H r Y/\F2 D=J/\Zt X.K F2 ys vs/\∀x H',z0.yld j H x H'->∃F3,sQ F2 H F3 H'/\Rep X.K F3 ds[j] x :=
   ⟨BD F H,x5.tups,sF.trans (EW wX.sub),wX.grow wX.refl.tups,by unfold BD;rw[yr];exact zl,yh.mono (EW wX.sub),jy⟩
  clear y9 y8
  rw[UN tu]at uy;refine sS (W.item (ZL X N scope cl C s2 H1 fp) rfl rfl rfl rfl j [] s5 _ H No I5 (vY hfp5) tn5 jg) λrv s6 ⟨u,e,h6⟩=>?_;subst e;refine sS h6 λ_ s7 ⟨xv,H7,I7,r7,y7,tn7,fr7⟩=>?_;obtain⟨F7,x7,rx⟩:=jy xv H7 y7;obtain⟨F2,x5,sF,wX,yr,zl,yh,rx⟩:∃F2,sQ Fs Hs F2 H7/\Zp F1 F2/\At X.K F0 H0 F2 H7 r Y/\H7 D=Z (.lst vs)/\F2 D=J/\Zt X.K F2 ys vs/\Rep X.K F2 ds[j] xv:=by
   refine⟨F7,x5.trans x7,sF.trans x7.ff,wX.grow x7,x7.hh _ _ yr,?_,yh.mono x7.ff,rx⟩;cases q:F7 D with
   |none=>rfl
   |some o =>
    rcases x7.new D o q with z|z
    .rw[zl]at z;cases z
    .exact(z.no yr λ_ q=>by cases q).elim
  have I7':=I7.pinned (vY fr7) (W.obj _ _ tn7);unfold wR at uy;split at uy
  case h_2=>cases uy
  rename_i zs hzs;have dok:=tN _ s7 Y sv H7 F2 ds[j] zs xv u xy I7' r7 wX.sub rx hzs;refine sS dok λ_ s8 ⟨ws,hws,I8,rws⟩=>?_;have atp:=wX.pushes rws;have again:∀{s9:Shared} {F9 H9:Hp} {zs9:List PyData} {ws9:List V} {rest':List PyData},Inv (ZL X N scope cl C s2 H1 fp) ([]++Ks fp s7.heap) (ws.map Z++Y) H9 s9->sQ Fs Hs F9 H9->Zp F2 F9->At X.K F0 H0 F9 H9 r Y->H9 D=Z (.lst ws9)->F9 D=J->Zt X.K F9 zs9 ws9->zs9.length<=j+1->wR vi fc fe r (ds.drop (j+1))=Z rest'->out=zs9++rest' ->
    ∃m,m<n+1/\∃(j:Nat) (sv:List (Option V)) (F2 H:Hp) (ys:List PyData) (vs:List V) (rest:List PyData),sv.length=fr.length/\Inv (ZL X N scope cl C s2 H1 fp) [] (sv++Y) H s9/\tn j s9.heap/\(∀b∈fp,H b=J)/\sQ Fs Hs F2 H/\Zp F1 F2/\At X.K F0 H0 F2 H r Y /\
     H D=Z (.lst vs)/\F2 D=J/\Zt X.K F2 ys vs/\j+m=ds.length/\ys.length<=j/\wR vi fc fe r (ds.drop j)=Z rest/\out=ys++rest:=by
   intro s9 F9 H9 zs9 ws9 rest' I9 x9 s9F a9 h9 f9 r9 l9 g9 o9;refine⟨n,IQ n,j+1,ws.map Z,F9,H9,zs9,ws9,rest',by rw[Af];exact hws,I9.unpinned,W.keep _ _ _ tn7 λb hb o e=>(I9.pin (b,o) (Ci _ (Ci _ (NO hb e)))).1,λb hb=>?_,x9,sF.trans s9F,a9,h9,f9,r9,by omega,l9,g9,o9⟩;obtain⟨o,e,d⟩:=W.obj _ _ tn7 b hb;exact(I9.pin (b,o) (Ci _ (Ci _ (NO hb e)))).2.1
  have noD:∀{F' H':Hp},sQ F2 H7 F' H'->F' D=J:=λ{F' H'} y=>by
   cases q:F' D with
   |none=>rfl
   |some o =>
    rcases y.new D o q with z|z
    .rw[zl]at z;cases z
    .exact(z.no yr λ_ q=>by cases q).elim
  split at uy
  .rename_i hcv
   split at uy
   .rename_i y hy
    obtain⟨rest',g1,g2⟩:=Ai.mp uy;subst g2;refine sS (hc _ _ hcv _ s8 _ H7 (λc' H'=>c'=Aa/\∃F',sQ F2 H7 F' H') I8 ⟨F0,H0,F2,atp,λF' H' y=>⟨rfl,F',y⟩⟩) λok s9 ⟨H9,I9,eok,F9,x9⟩=>?_;subst eok;rw[if_pos rfl];refine sS (he _ _ hy _ s9 _ H9 (λv' H'=>∃F',sQ F9 H9 F' H'/\Rep X.K F' y v') I9 ⟨F0,H0,F9,atp.grow x9,λv' F' H' x q=>⟨F',x,q⟩⟩) λu' s10 ⟨v',H10,I10,r10,F10,x10,q10⟩=>?_;have vX:=x9.trans x10;have hHD':H10 D=Z (.lst vs):=vX.hh _ _ yr;have hFD':=noD vX;refine sS (ND (X:=ZL X N scope cl C s2 H1 fp) _ s10 _ H10 (.ref D) [v'] (.ref D) [u'] (λ_ H'=>H'=upd H10 D (.lst (vs++[v']))) I10 rfl (.cons r10 .nil) ⟨D,vs,v',rfl,rfl,hHD',?_,rfl⟩) λ_ s11 ⟨_,H11,I11,_,e11⟩=>?_
    .have:=yh.1
     exact HS (by omega)
    subst e11;refine again (zs9:=ys++[y]) I11 ((x5.trans vX).chg _ vw hFD' λu z=>by rw[hHD']at z;cases z;rfl) vX.ff ((wX.grow vX).chgNew _ at_ (x5.trans vX).hh vw hFD' λu z=>by rw[hHD']at z;cases z;rfl) Zz hFD' ((yh.mono vX.ff).append (.one q10)) (by rw[AK];show ys.length+1<=j+1;omega) g1 (by rw[wG,Ff];rfl)
   .cases uy
  .rename_i hcv
   refine sS (hc _ _ hcv _ s8 _ H7 (λc' H'=>c'=Ab/\∃F',sQ F2 H7 F' H') I8 ⟨F0,H0,F2,atp,λF' H' y=>⟨rfl,F',y⟩⟩) λok s9 ⟨H9,I9,eok,F9,x9⟩=>?_;subst eok;rw[if_neg (by simp)];exact again (zs9:=ys) I9 (x5.trans x9) x9.ff (wX.grow x9) (x9.hh _ _ yr) (noD x9) (yh.mono x9.ff) (by omega) uy wG
  .cases uy
theorem Q4{s':Shared}{sv:List (Option V)}{h':Heap}(I2:Inv X sI Y H1 s2)(hf:∀b∈fp,Eo X sI H1 b)(hC:s2.heap.objs.size<=C)(I:Inv (ZL X N scope cl C s2 H1 fp) [] (sv++Y) H s')(hs:EB C s'.heap h'):Inv X sI Y H {s' with heap:=h'}:=by
 have u:Un (t4 X.stack) fp H1 H s2.heap s'.heap:=I.base;have xa:H C=J:=I.free;have ne:∀b o,s2.heap.get? b=Z o->b≠C:=λb o e=>As (Bz (Ao e) hC);refine I2.call' (s':={s' with heap:=h'}) (ch:=fp) I.os ⟨λb o e n hb hx=>(hs.2 b (ne b o e)).trans (u.keep b o e n hb hx),λb o e n hb hx=>?_,u.free,λb o e hx=>?_,u.tups,u.frzs,u.tbls⟩ (λb o e=>?_) I.bare λb hb=>?_
 .obtain⟨sl,q⟩:=u.slot b o e n hb hx
  exact⟨sl,(hs.2 b (ne b o e)).trans q⟩
 .obtain⟨o',q⟩:=u.there b o e hx
  exact⟨o',(hs.2 b (ne b o e)).trans q⟩
 .refine(I.hok b o e).stay (λc w' hc q=>(hs.2 c ?_).trans q) (λ_ q=>q) λ_ _ q=>q
  rintro rfl
  rcases hc with rfl|hc
  .rw[xa]at e;cases e
  .rw[xa]at hc;cases hc
 .obtain⟨q0,q1,q2,q3,q4,q5⟩:=hf b hb
  exact⟨q3,q1,q4,q5⟩
variable{ue iter:Expr}{t9:List Expr}{tg:Expr}{pos:Pos}{fi:HM.IF}{vi:PyData->Option (List PyData)}{fc:HM.TF}{fe:HM.EF}
theorem QW(T:CS X N scope fr)(I:Inv X sI Y H s):∀y∈scope.names,y.2=.free->∃c,X.env.cells.lookup y.1=Z c:=λy hy e=>I.ok.has y.1 (T.cap y hy e)
theorem Xw(uU:X.xe=λ_ _=>False)(tG:X.calm=Aa)(T:CS X N scope fr)(tN:∀cl C s H ex,Jd (ZL X N scope cl C s H ex) fr.length tg vi)(hi:XIE X tg iter fi)(hc:∀cl C s H ex,xc (ZL X N scope cl C s H ex) t9 fc)(he:∀cl C s H ex,XE (ZL X N scope cl C s H ex) ue fe)(hs:∀x,EA iter X.env x=pure x:=by intro _;rfl):XF X (.ListComp ue [⟨tg,iter,t9,0⟩] scope pos) (ET vi fi fc fe):=by
 intro r b h;unfold ET at h;split at h
 .rename_i ds sW
  split at h
  .rename_i vj
   obtain⟨out,uy,e⟩:=Ai.mp h;subst e;intro sI s Y H Q I ⟨F0,H0,F,at_,k⟩;obtain⟨cl,vL,tZ,vh⟩:=Oe (QW T I);rw[eval_ListComp];refine Us (use:=J) rfl hs vL T.kind T.names (sS (hi r ds sW sI s Y H (λz0 H'=>∃F',sQ F H F' H'/\zp X.K z0 ds F') I ⟨F0,H0,F,at_,λz0 F' H' x q=>⟨F',x,q⟩⟩) λv s1 h1=>sS h1 λzA s2 h2=>?_);obtain⟨it,fp,tn,z0,H1,rfl,I2,W,ve,f2,F1,x1,yF⟩:=h2;have uD:∀b∈fp,b<s2.heap.objs.size:=λb hb=>let ⟨o,ho,_⟩:=W.obj 0 _ ve b hb;Ao ho
   refine DU (Pz T.cell (by intro y hy;simp at hy) (λh1 ug uk=>?_) T.kind);dsimp only at ug uk ⊢;generalize hP:s2.heap.push {cls:=.type "list",dict:=J,data:=.seq ([]:List Value).toArray}=h0 at ug uk ⊢;have hsz:h0.objs.size=s2.heap.objs.size+1:=by rw[<-hP,IB]
   have uW:s2.heap.objs.size<h0.objs.size:=by rw[hsz];exact IQ _
   have old:∀b o,s2.heap.get? b=Z o->h1.get? b=Z o:=λb o e=>uk.extBut b o (As (Dy (Ao e) uW)) (Ar _ (by rw[<-hP];exact Ar _ e));have hl:h1.get? s2.heap.objs.size=Z {cls:=.type "list",data:=.seq #[] 0}:=uk.extBut _ _ (As uW) (Ar _ (by rw[<-hP];exact AZ _ rfl));have I4:Inv (ZL X N scope cl h0.objs.size s2 H1 fp) [] (Bl fr.length J++Y) (upd H1 s2.heap.objs.size (.lst [])) {s2 with heap:=h1,toks:=s2.toks+([]:List (Str×Value)).length}:=QV T tZ vh I2 tG f2 uD rfl uW ug hl old;have ye:tn 0 h1:=W.keep _ _ _ ve λb _ o e=>old b o e;have vw:H s2.heap.objs.size=J:=x1.hh.free (I2.hok.fresh (Aj _));have vG:codeAny (model X.prog X.w) X.A (.compLoop (.ListComp ue [⟨tg,iter,t9,0⟩] scope pos) 0 (.ref it) (.ref s2.heap.objs.size) (compEnvC scope cl h0.objs.size X.env)) (compPost (model X.prog X.w) X.A X.xe J (EP X sI Y Q) (.ref s2.heap.objs.size) h0.objs.size)
     {s2 with heap:=h1,toks:=s2.toks+([]:List (Str×Value)).length}:=by
    refine Q0 T I2 W f2 I4 ye (Aj _) uD tG (hc _ _ _ _ _) (he _ _ _ _ _) at_ x1 yF (tN _ _ _ _ _) vj uy λs' ⟨F',H',vs,I',x',hD',hFD',rs⟩=>?_;obtain⟨m,hn,_⟩:=id I'.loc;refine⟨m,hn,λh2 uo=>⟨.ref s2.heap.objs.size,H',Q4 I2 f2 (DQ uW) I' uo,rfl,k _ F' H' x' ⟨[s2.heap.objs.size],.ol hD' rs,by simp,λa ha=>?_⟩⟩⟩;obtain rfl:a=s2.heap.objs.size:=by simpa using ha
    exact⟨hFD',vw⟩
   exact Ul vG (W.self _ 0 _ _ _ ye vG)
  .cases h
 .cases h
theorem YZ(i:Nat){y:Str}{py uX:Pos}(hN:X.N.Nodup)(uU:X.xe=λ_ _=>False)(tG:X.calm=Aa)(T:CS X N scope fr)(tN:∀cl C s H ex,Jd (ZL X N scope cl C s H ex) fr.length tg vi)(hi:XIE X tg iter fi)(hc:∀cl C s H ex,xc (ZL X N scope cl C s H ex) t9 fc)(he:∀cl C s H ex,XE (ZL X N scope cl C s H ex) ue fe)(xQ:X.N[i]?=Z y:=by rfl)(hy:X.env.scope.names.lookup y=Z .local:=by rfl)(xM:DB (.ListComp ue [⟨tg,iter,t9,0⟩] scope pos) (Z (.Name y py)) uX.line X.env=pure Aa:=by rfl)(hs:∀x,EA iter X.env x=pure x:=by intro _;rfl):XS X (.Assign [.Name y py] (.ListComp ue [⟨tg,iter,t9,0⟩] scope pos) uX) (HM.ZJ i (ET vi fi fc fe)):=by
 intro r o h;obtain⟨b,hb,e⟩:=Ai.mp h;subst e;unfold ET at hb;split at hb
 .rename_i ds sW
  split at hb
  .rename_i vj
   obtain⟨out,uy,e⟩:=Ai.mp hb;subst e;intro sI s Y H E I ⟨F0,H0,F,at_,k⟩;obtain⟨cl,vL,tZ,vh⟩:=Oe (QW T I);rw[exec_Assign_Name_used _ _ _ _ xM];refine Ac (OU (Ac ?_));show wpAny _ X.A (do let _ <-comprehension (.ListComp ue [⟨tg,iter,t9,0⟩] scope pos) scope X.env _ (newList []) Ab (eval iter X.env) (Z (assign (.Name y py) X.env))) _ _ s;refine Ac (Bw (Us (use:=Z (assign (.Name y py) X.env)) (Q:=λ_ s'=>SP X sI E .next s') rfl hs vL T.kind T.names (sS (hi r ds sW sI s Y H (λz0 H'=>∃F',sQ F H F' H'/\zp X.K z0 ds F') I ⟨F0,H0,F,at_,λz0 F' H' x q=>⟨F',x,q⟩⟩) λv s1 h1=>sS h1 λzA s2 h2=>?_)) (λ_ s' hq=>Ag (Ag hq)) λ_ _ e=>e)
   obtain⟨it,fp,tn,z0,H1,rfl,I2,W,ve,f2,F1,x1,yF⟩:=h2;have uD:∀b∈fp,b<s2.heap.objs.size:=λb hb=>let ⟨o,ho,_⟩:=W.obj 0 _ ve b hb;Ao ho
   refine DU (Pz T.cell (by intro y hy;simp at hy) (λh1 ug uk=>?_) T.kind);dsimp only at ug uk ⊢;generalize hP:s2.heap.push {cls:=.type "list",dict:=J,data:=.seq ([]:List Value).toArray}=h0 at ug uk ⊢;have hsz:h0.objs.size=s2.heap.objs.size+1:=by rw[<-hP,IB]
   have uW:s2.heap.objs.size<h0.objs.size:=by rw[hsz];exact IQ _
   have old:∀b o,s2.heap.get? b=Z o->h1.get? b=Z o:=λb o e=>uk.extBut b o (As (Dy (Ao e) uW)) (Ar _ (by rw[<-hP];exact Ar _ e));have hl:h1.get? s2.heap.objs.size=Z {cls:=.type "list",data:=.seq #[] 0}:=uk.extBut _ _ (As uW) (Ar _ (by rw[<-hP];exact AZ _ rfl));have I4:Inv (ZL X N scope cl h0.objs.size s2 H1 fp) [] (Bl fr.length J++Y) (upd H1 s2.heap.objs.size (.lst [])) {s2 with heap:=h1,toks:=s2.toks+([]:List (Str×Value)).length}:=QV T tZ vh I2 tG f2 uD rfl uW ug hl old;have ye:tn 0 h1:=W.keep _ _ _ ve λb _ o e=>old b o e;have vw:H s2.heap.objs.size=J:=x1.hh.free (I2.hok.fresh (Aj _));have vG:codeAny (model X.prog X.w) X.A (.compLoop (.ListComp ue [⟨tg,iter,t9,0⟩] scope pos) 0 (.ref it) (.ref s2.heap.objs.size) (compEnvC scope cl h0.objs.size X.env)) (compPost (model X.prog X.w) X.A X.xe (Z (assign (.Name y py) X.env)) (λ_ s'=>SP X sI E .next s') (.ref s2.heap.objs.size) h0.objs.size)
     {s2 with heap:=h1,toks:=s2.toks+([]:List (Str×Value)).length}:=by
    refine Q0 T I2 W f2 I4 ye (Aj _) uD tG (hc _ _ _ _ _) (he _ _ _ _ _) at_ x1 yF (tN _ _ _ _ _) vj uy λs' ⟨F',H',vs,I',x',hD',hFD',rs⟩=>?_;obtain⟨m,hn,_⟩:=id I'.loc;have IX:Inv X sI Y H' s':=Q4 (h':=s'.heap) I2 f2 (DQ uW) I' (TY _ _);have xa:H' h0.objs.size=J:=I'.free;have wL:h0.objs.size≠X.env.locals:=II (Dy I2.lt uW);have xx:∀z c,X.env.cells.lookup z=Z c->c≠h0.objs.size:=λz c hz=>by obtain⟨v,o,ho,_⟩:=I2.cell z c hz;exact As (Dy (Ao ho) uW)
    have neP:∀p∈X.pn++sI,p.1≠h0.objs.size:=λp hp=>As (Dy (Ao (I2.pin p hp).1) uW);show wpAny _ X.A (assign (.Name y py) X.env (.ref s2.heap.objs.size)) _ _ _;refine T4 (RB IX hN xQ (.inl hy) (v:=.ref s2.heap.objs.size) rfl (λs3 I3 hsa=>?_) (.inr hy));obtain⟨a,sa,ea⟩:=hsa;have neA:h0.objs.size≠a:=by
     rcases ea with e|e
     .rw[e];exact wL
     .exact A8 (xx _ _ e)
    refine⟨m,hn.sameBut sa neA,λh2 uo=>?_⟩;refine⟨_,H',I3.turned (t':=s3.toks) (it:=h0.objs.size) (λb o hb e=>(uo.2 b hb).trans e) xa wL (.inr (Bf I2.sz (DQ uW))) xx neP,k _ F' H' ((at_.grow x').storeNew at_ x'.hh (fp':=[s2.heap.objs.size]) (.ol hD' rs) (by simp) λa ha=>?_)⟩;obtain rfl:a=s2.heap.objs.size:=by simpa using ha
    exact⟨hFD',vw⟩
   exact Ul vG (W.self _ 0 _ _ _ ye vG)
  .cases hb
 .cases hb
end
end
section
variable{py uX:Pos}{y:Str}
def PJ(d:PyData):Option (List PyData):=Z [d]
def IW:PyData->Option (List PyData)
 | .tuple [x,y]=>Z [x,y]
 |_=>J
theorem UU(c:HM.TF)(e:HM.EF)(r:HM.Env):∀xs,HM.Bc c e r xs=wR PJ c e r xs
 |[]=>rfl
 |x::xs=>by unfold HM.Bc wR;rw[UU c e r xs];rfl
theorem UW(c:HM.TF)(e:HM.EF)(r:HM.Env):∀xs,HM.FO c e r xs=wR IW c e r xs
 |[]=>rfl
 |x::xs=>by
  have ih:=UW c e r xs;unfold HM.FO wR;split
  .rename_i h;cases h
  .rename_i a b q h
   cases h;rw[ih];rfl
  .rename_i h1
   have hn:IW x=J:=by
    unfold IW;split
    .exact(h1 _ _ _ rfl).elim
    .rfl
   rw[hn]
theorem Qv(i:HM.IF)(c:HM.TF)(e:HM.EF):HM.ZA i c e=ET PJ i c e:=by
 funext r
 unfold HM.ZA ET;cases i r with
 |none=>rfl
 |some xs=>dsimp only;rw[UU]
theorem Wr(i:HM.IF)(c:HM.TF)(e:HM.EF):HM.Od i c e=ET IW i c e:=by
 funext r
 unfold HM.Od ET;cases i r with
 |none=>rfl
 |some xs=>dsimp only;rw[UW]
theorem Nr{K:Ae}{F:Hp}{d1 d2:PyData}{v:V}(h:Rep K F (.tuple [d1,d2]) v):∃a v1 v2,v=.ref a/\F a=Z (.tup [v1,v2])/\Rep K F d1 v1/\Rep K F d2 v2:=by
 cases h with
 | @tup a ds vs h1 h2 h3 =>
  cases vs with
  |nil=>simp at h2
  |cons v1 vs=>cases vs with
   |nil=>simp at h2
   |cons v2 vs=>cases vs with
    |nil=>exact⟨a,v1,v2,rfl,h1,h3 0 _ _ rfl rfl,h3 1 _ _ rfl rfl⟩
    |cons _ _=>simp at h2
section
variable{X:Cx}{N:List Str}{scope:Scope}{x x2:Str}{px y6 pt:Pos}{kt:Nat}
theorem Qd(T:CS X N scope [x])(cl:List (Str×Addr))(C:Addr)(s₀:Shared)(H₀:Hp)(ex:List Addr):Jd (ZL X N scope cl C s₀ H₀ ex) 1 (.Name x px) PJ:=by
 intro sI s Y sv H F d ys xv u xy I r sub q hd;cases hd;have hx:=T.loc x (AW.mpr rfl);refine sS (Jh (X:=ZL X N scope cl C s₀ H₀ ex) (i:=0) T.nd (T.first 0 x rfl) (.inl (J6 hx)) (.inr (J6 hx)) _ s _ H xv u (λσ' H'=>σ'=(sv++Y).set 0 (Z xv)/\H'=H) I r ⟨rfl,rfl⟩) λ_ s' ⟨σ',H',I',e1,e2⟩=>?_
 subst e1 e2;refine⟨[xv],rfl,?_,.one q⟩;cases sv with
 |nil=>simp at xy
 |cons a sv=>cases sv with
  |nil=>exact I'
  |cons _ _=>simp at xy
theorem Vs(T:CS X N scope [x,x2])(cl:List (Str×Addr))(C:Addr)(s₀:Shared)(H₀:Hp)(ex:List Addr):Jd (ZL X N scope cl C s₀ H₀ ex) 2 (.Tuple [.Name x px,.Name x2 y6] kt pt) IW:=by
 intro sI s Y sv H F d ys xv u xy I r sub q hd;have hx:=T.loc x (Am ..);have hx2:=T.loc x2 (Ap _ (Am ..));unfold IW at hd;split at hd
 .rename_i d1 d2
  cases hd;obtain⟨pa,v1,v2,e7,ym,rx1,rx2⟩:=Nr q;subst e7;refine sS (Vj (X:=ZL X N scope cl C s₀ H₀ ex) (n:=2) rfl (Nq (Jh (X:=ZL X N scope cl C s₀ H₀ ex) (i:=0) T.nd (T.first 0 x rfl) (.inl (J6 hx)) (.inr (J6 hx))) (Nq (Jh (X:=ZL X N scope cl C s₀ H₀ ex) (i:=1) T.nd (T.first 1 x2 rfl) (.inl (J6 hx2)) (.inr (J6 hx2))) Wd)) rfl rfl _ s _ H (.ref pa) u (λσ' H'=>σ'=((sv++Y).set 0 (Z v1)).set 1 (Z v2)/\H'=H) I r ⟨pa,[v1,v2],rfl,.of (sub _ _ ym),rfl,v1,[v2],rfl,v2,[],rfl,rfl,rfl,rfl⟩) λ_ s' ⟨σ',H',I',e1,e2⟩=>?_
  subst e1 e2;refine⟨[v1,v2],rfl,?_,.cons rx1 (.one rx2)⟩;cases sv with
  |nil=>simp at xy
  |cons a sv=>cases sv with
   |nil=>simp at xy
   |cons b sv=>cases sv with
    |nil=>exact I'
    |cons _ _=>simp at xy
 .cases hd
def VQ(yB:Str->Option NameKind)(XN N:List Str)(names:List (Str×NameKind))(fr:List Str):Bool :=
 names.all (λy=>y.2 != .cell)&&names.all (λy=>y.2 != .local||names.lookup y.1==Z .local)&&fr.all (λx=>names.lookup x==Z .local)&&(Ah fr.length).all (λi=>N[i]?==fr[i]?)&&decide N.Nodup&&N.length==XN.length+fr.length &&
 names.all (λy=>y.2 != .free||yB y.1==Z .cell||yB y.1==Z .free) &&
 (Ah (N.length-fr.length)).all (λi=>match N[i+fr.length]? with
  |some y=>(names.lookup y != Z .free||XN[i]?==Z y)&&(names.lookup y==Z .free||(names.lookup y != Z .local&&names.lookup y != Z .cell))
  |none=>Aa)
theorem ZC{X:Cx}{N XN:List Str}{scope sc:Scope}{fr:List Str}(hs:X.env.scope=sc:=by rfl)(hN:X.N=XN:=by rfl)(hk:scope.kind=.function:=by rfl)(h:VQ (λy=>sc.names.lookup y) XN N scope.names fr=Aa:=by decide +kernel):CS X N scope fr:=by
 subst hN;unfold VQ at h;simp only[AI,Au,Gj,bne_iff_ne,beq_iff_eq,decide_eq_true_eq]at h;obtain⟨⟨⟨⟨⟨⟨⟨h1,h2⟩,h3⟩,h4⟩,h5⟩,h6⟩,h7⟩,h8⟩:=h;have at_:∀(i:Nat) (y:Str),N[i+fr.length]?=Z y->(scope.names.lookup y≠Z .free\/X.N[i]?=Z y)/\(scope.names.lookup y=Z .free\/(scope.names.lookup y≠Z .local/\scope.names.lookup y≠Z .cell)):=λi y e=>by have hi:i+fr.length<N.length:=(A0.mp e).1;have:=h8 i (AS.mpr (by omega));rw[e]at this;simpa only[AI,Gj,bne_iff_ne,beq_iff_eq]using this
 refine⟨hk,h1,λy hy e=>(h2 y hy).resolve_left (λz=>z e),h3,λi x e=>?_,h5,h6,λy hy e=>?_,λi y e q=>(at_ i y e).1.resolve_left (λz=>z q),λi y e v=>?_⟩
 .rw[h4 i (AS.mpr (A0.mp e).1)]
  exact e
 .have:=h7 y hy
  rw[show X.env.kindOf y.1=sc.names.lookup y.1 by rw[<-hs];rfl];rcases this with(z|z)|z
  .exact absurd e z
  .exact .inl z
  .exact .inr z
 .rcases(at_ i y e).2 with z|⟨z1,z2⟩
  .exact z
  .rcases v with v|v|v
   .exact absurd v z1
   .exact absurd v z2
   .exact v
variable{ue iter:Expr}{t9:List Expr}{pos:Pos}{fi:HM.IF}{fc:HM.TF}{fe:HM.EF}
theorem Bt(uU:X.xe=λ_ _=>False)(tG:X.calm=Aa)(T:CS X N scope [x])(hi:XI X (.Name x px) iter fi)(hc:∀cl C s H ex,xc (ZL X N scope cl C s H ex) t9 fc)(he:∀cl C s H ex,XE (ZL X N scope cl C s H ex) ue fe)(hs:∀x,EA iter X.env x=pure x:=by intro _;rfl):XF X (.ListComp ue [⟨.Name x px,iter,t9,0⟩] scope pos) (HM.ZA fi fc fe):=by
 rw[Qv];exact Xw uU tG T (Qd T) hi.e hc he hs
theorem Xv(uU:X.xe=λ_ _=>False)(tG:X.calm=Aa)(T:CS X N scope [x,x2])(hi:XI X (.Tuple [.Name x px,.Name x2 y6] kt pt) iter fi)(hc:∀cl C s H ex,xc (ZL X N scope cl C s H ex) t9 fc)(he:∀cl C s H ex,XE (ZL X N scope cl C s H ex) ue fe)(hs:∀x,EA iter X.env x=pure x:=by intro _;rfl):XF X (.ListComp ue [⟨.Tuple [.Name x px,.Name x2 y6] kt pt,iter,t9,0⟩] scope pos) (HM.Od fi fc fe):=by
 rw[Wr];exact Xw uU tG T (Vs T) hi.e hc he hs
theorem Lr(i:Nat)(hN:X.N.Nodup)(uU:X.xe=λ_ _=>False)(tG:X.calm=Aa)(T:CS X N scope [x])(hi:XI X (.Name x px) iter fi)(hc:∀cl C s H ex,xc (ZL X N scope cl C s H ex) t9 fc)(he:∀cl C s H ex,XE (ZL X N scope cl C s H ex) ue fe)(xQ:X.N[i]?=Z y:=by rfl)(hy:X.env.scope.names.lookup y=Z .local:=by rfl)(xM:DB (.ListComp ue [⟨.Name x px,iter,t9,0⟩] scope pos) (Z (.Name y py)) uX.line X.env=pure Aa:=by rfl)(hs:∀x,EA iter X.env x=pure x:=by intro _;rfl):XS X (.Assign [.Name y py] (.ListComp ue [⟨.Name x px,iter,t9,0⟩] scope pos) uX) (HM.ZJ i (HM.ZA fi fc fe)):=by
 rw[Qv];exact YZ i hN uU tG T (Qd T) hi.e hc he xQ hy xM hs
theorem YY(i:Nat)(hN:X.N.Nodup)(uU:X.xe=λ_ _=>False)(tG:X.calm=Aa)(T:CS X N scope [x,x2])(hi:XI X (.Tuple [.Name x px,.Name x2 y6] kt pt) iter fi)(hc:∀cl C s H ex,xc (ZL X N scope cl C s H ex) t9 fc)(he:∀cl C s H ex,XE (ZL X N scope cl C s H ex) ue fe)(xQ:X.N[i]?=Z y:=by rfl)(hy:X.env.scope.names.lookup y=Z .local:=by rfl)(xM:DB (.ListComp ue [⟨.Tuple [.Name x px,.Name x2 y6] kt pt,iter,t9,0⟩] scope pos) (Z (.Name y py)) uX.line X.env=pure Aa:=by rfl)(hs:∀x,EA iter X.env x=pure x:=by intro _;rfl):XS X (.Assign [.Name y py] (.ListComp ue [⟨.Tuple [.Name x px,.Name x2 y6] kt pt,iter,t9,0⟩] scope pos) uX) (HM.ZJ i (HM.Od fi fc fe)):=by
 rw[Wr];exact YZ i hN uU tG T (Vs T) hi.e hc he xQ hy xM hs
end
end
section
variable{p:Addr}{r:HM.Env}{F F0 H H0:Hp}{Y:L2.St}{kvs:List (List sP×List PyData)}{ds:List PyData}{i:Nat}{p1 p2 p3 p4:Pos}{K:Ae}{x:Str}{Q:Value->Shared->Prop}
section
variable{prog:Program}{w:World}{K:Type}[DecidableEq K]{knd:HeapKind prog w K}{A:Around}{E:Value->Shared->Prop}{s:Shared}
theorem nY{d a:Addr}{xs:List (K×Addr×Value)}{k:K}{v:Value}(hu:knd.room A)(v8:knd.is s.heap k a)(hm:s.heap.DictOfH knd d xs)(hsz:xs.length<=sizeLine)(h1:∀p,atKey xs k=Z p->Q p.2 {s with toks:=s.toks+knd.draws k})(h2:atKey xs k=J->∀h',h'.DictOfH knd d (storedH xs k a v)->EB d s.heap h'->Q v {s with heap:=h',toks:=s.toks+knd.draws k}):wpAny (model prog w) A (dictSetDefault d (.ref a) v) Q E s:=by
 obtain⟨o,es,ep,ho,hc,hd,he,his,hn⟩:=hm;unfold dictSetDefault
 try with_reducible refine Cu ?_
 refine Ac (knd.pyHash hu v8 ?_);refine Ac (wpAny_dictFind_heap (s:={s with toks:=s.toks+knd.draws k}) hu v8 ho hd he his hn ?_ ?_)
 .intro xO
  have hnot:k∉xs.map (·.1):=not_mem_keys_of_get xO;have hnk:=atKey_none_of_get xO;refine Ac (Hh (Ac (wpAny_updateDictKeys (hz:=by have e:=size_of_entries he;omega) (s:={s with toks:=s.toks+knd.draws k}) ho hd (Ag (h2 hnk _ ⟨_,_,ep+1,Gi _ ho (Obj.isFreed_of_dict (Obj.data_mapDictKeys hd _)),
   hc.mapDictKeys _,Obj.data_mapDictKeys hd _,?_,?_,?_⟩ (Fi ..))))))
  .rw[storedH_new hnk]
   simp[he,entryOfKey]
  .rw[storedH_new hnk]
   intro x hx;rcases Bg.mp hx with hx|hx
   .exact knd.keeps (his x hx) ho hd (Fi ..)
   .simp only[AW]at hx
    subst hx;exact knd.keeps v8 ho hd (Fi ..)
  .rw[storedH_new hnk]
   rw[BI,JX];refine⟨hn,by simp,?_⟩;intro x hx y hy;simp only[Ak,Fl,AW]at hy;subst hy;exact λe=>hnot (e▸hx)
 .intro j p hj
  refine Ac (O9 (s:={s with toks:=s.toks+knd.draws k}) ho hd ?_);rw[entry_at he j,hj];exact Ac (Hh (Ag (h1 p (atKey_of_get hn hj))))
theorem pw(d a:Addr)(hd:(d==Dc)=Ab)(dflt:Value):
  MeetsIn prog w (Builtin.«dict.setdefault» ⟨[.ref d,.ref a,dflt],[]⟩) (λA R s=>knd.room A.in1/\∃k xs,knd.is s.heap k a/\s.heap.DictOfH knd d xs/\xs.length<=sizeLine /\
   (∀p,atKey xs k=Z p->R (.ok (.ret p.2)) {s with toks:=s.toks+knd.draws k}) /\
   (atKey xs k=J->∀h',h'.DictOfH knd d (storedH xs k a dflt)->EB d s.heap h'->R (.ok (.ret dflt)) {s with heap:=h',toks:=s.toks+knd.draws k})) :=
 .of_wp λA R s ⟨hu,k,xs,v8,hm,hz,h1,h2⟩=>by unfold Builtin.«dict.setdefault»;refine Ac ?_;unfold Builtin.Dict.keyAndDefault;refine Ac (wpAny_notOrdered_dict hm.typeIs ?_);show wpAny _ _ (pure (d,Bb a,Z dflt)) _ _ s;refine Ag ?_;show wpAny _ _ (if(d==Dc)=Aa then _ else(dictSetDefault d (.ref a) dflt >>= _)) _ _ s;rw[if_neg (by rw[hd];exact Dh)];exact Ac (nY hu v8 hm hz (λp hp=>Ag ⟨p.2,rfl,h1 p hp⟩) λhn h' hm' hs'=>Ag ⟨dflt,rfl,h2 hn h' hm' hs'⟩)
end
section
variable{X:Cx}{sI:List (Addr×Obj)}{Y:L2.St}{H:Hp}{s:Shared}{a b:Addr}{z:V}{r:Value}{A:Around}{E:Value->Shared->Prop}{kvs:List (List sP×V)}{k:List sP}
theorem cj(hu:A.units+1<cLine)(I:Inv X sI Y H s)(e:H a=Z (.dT kvs))(eb:H b=Z (.tup (k.map kV)))(hl:kvs.length<sizeLine)(rz:RelV z r)(h1:∀v,AV kvs k=Z v->∀w' s',Inv X sI Y H s'->RelV v w'->Q w' s')(h2:AV kvs k=J->∀s',Inv X sI Y (upd H a (.dT (kvs++[(k,z)]))) s'->Q r s'):wpAny (model X.prog X.w) A (call (.builtin "dict.setdefault") [.ref a,.ref b,r]) Q E s:=by
 obtain⟨zz,hd,xs,tS,dd⟩:=U9 I.hok e;have hz:xs.length<=sizeLine:=by rw[<-Iz tS];exact zz
 have hv:=tS.val k;refine call_meetsIn bO dd.typeIs PySem.F.entry_dict_setdefault (PySem.F.args_dict_setdefault_3 _ _ _) (pw (knd:=Hj (BO X.prog X.w)) a b hd r) ⟨J8 hu,k,xs,HE I.hok eb,dd,hz,λp hp=>?_,λhn h' dd' hs=>?_⟩
 .rw[hp]at hv
  cases yj:AV kvs k with
  |none=>rw[yj]at hv;exact hv.elim
  |some v=>rw[yj]at hv;exact h1 v yj _ _ (I.tok _) hv
 .rw[hn]at hv
  have yj:AV kvs k=J:=by
   cases yj:AV kvs k with
   |none=>rfl
   |some v=>rw[yj]at hv;exact hv.elim
  refine h2 yj _ ?_;have hp:=tS.put k eb rz;have epk:tW kvs k z=kvs++[(k,z)]:=by unfold tW;rw[if_neg];rw[Nv,yj];simp
  rw[epk]at hp;obtain⟨q,es,ep,hq,g2,g3,g4,_,g5⟩:=dd';refine M5 I (by rw[e];exact Iu) hs ⟨q,hq⟩ ⟨by rw[AK];exact hl,hd,_,hp.keeps λc ys ec=>?_,q,es,ep,hq,g2,g3,g4,g5⟩;rw[ZB (Vc ec e (λz=>nomatch z))];exact ec
end
def pQ(td ty tx:TE):TE:=λY H Q=>td Y H λx H1=>∃a,x=.ref a/\IsD H1 a/\ty Y H1 λy H2=>tx Y H2 λz H3=>∃kvs k b,H3 a=Z (.dT kvs)/\y=.ref b/\H3 b=Z (.tup (k.map kV))/\kvs.length<sizeLine /\
 (∀v,AV kvs k=Z v->Q v H3)/\(AV kvs k=J->Q z (upd H3 a (.dT (kvs++[(k,z)]))))
section
variable{X:Cx}{o e f:Expr}{uu tE:Pos}{td ty tx:TE}
theorem dh(hu:X.A.units+1<cLine)(ho:PE X o td)(he:PE X e ty)(hf:PE X f tx)(m:M2 X o "setdefault" uu e f tE):PE X (.Call (.Attribute o "setdefault" uu) [e,f] [] tE) (pQ td ty tx):=by intro sI s Y H Q I h;refine wpAny_Call_method m.base m.few m.line bB bO PySem.F.type_dict_setdefault (sS (ho sI s Y H _ I h) λu s1 ⟨x,H1,I1,rx,a,ex,d,q1⟩=>?_);subst ex;obtain rfl:u=Bb a:=rx;obtain⟨t1,t2,_⟩:=VL I1 d;refine⟨t1,t2,?_⟩;rw[m.trees];refine PF rfl (PB (Ml (sS (he sI s1 Y H1 _ I1 q1) λiv s2 ⟨y,H2,I2,ry,q2⟩=>Ml (sS (hf sI s2 Y H2 _ I2 q2) λfv s3 ⟨z,H3,I3,rz,kvs,k,b,ea,ey,eb,hl,q3,q4⟩=>T3 ?_))));subst ey;obtain rfl:iv=Bb b:=ry;exact cj hu I3 ea eb hl rz (λv hv w' s4 I4 rw'=>⟨v,H3,I4,rw',q3 v hv⟩) λhn s4 I4=>⟨z,_,I4,rz,q4 hn⟩
end
def OT(K:Ae)(F H:Hp)(kvs:List (List sP×List PyData))(vvs:List (List sP×V))(ls:List Addr):Prop:=kvs.map (·.1)=vvs.map (·.1)/\vvs.map (·.2)=ls.map V.ref /\
 ∀(i:Nat) (ds:List PyData) (l:Addr),(kvs.map (·.2))[i]?=Z ds->ls[i]?=Z l->∃vs,H l=Z (.lst vs)/\Zt K F ds vs
section
variable{K:Ae}{F F' H H':Hp}{kvs:List (List sP×List PyData)}{vvs:List (List sP×V)}{ls:List Addr}
theorem OT.len(q:OT K F H kvs vvs ls):kvs.length=ls.length/\kvs.length=vvs.length:=by have e1:=congrArg BC q.1;have e2:=congrArg BC q.2.1;rw[Af,Af]at e1 e2;omega
theorem OT.mono(q:OT K F H kvs vvs ls)(s:Zp F F')(k:∀a∈ls,∀o,H a=Z o->H' a=Z o):OT K F' H' kvs vvs ls :=
 ⟨q.1,q.2.1,λi ds l h1 h2=>let ⟨vs,q1,q2⟩:=q.2.2 i ds l h1 h2;⟨vs,k l (Bm h2) _ q1,q2.mono s⟩⟩
theorem OT.snoc(q:OT K F H kvs vvs ls)(k:List sP)(hp:H p=Z (.lst [])):OT K F H (kvs++[(k,[])]) (vvs++[(k,.ref p)]) (ls++[p]):=by
 refine⟨by rw[BI,BI,q.1];rfl,by rw[BI,BI,q.2.1];rfl,λi ds l h1 h2=>?_⟩;have hl:=q.len;rw[BI]at h1
 by_cases hi:i<kvs.length
 .rw[DD (by rw[Af];exact hi)]at h1
  rw[DD (by omega)]at h2;exact q.2.2 i ds l h1 h2
 .rw[EI (by rw[Af];omega),Af]at h1
  rw[EI (by omega),<-hl.1]at h2;cases hj:i-kvs.length with
  |zero=>rw[hj]at h1 h2;cases h1;cases h2;exact⟨[],hp,.nil⟩
  |succ j=>rw[hj]at h1;cases h1
theorem OT.look(q:OT K F H kvs vvs ls)(k:List sP):(∀ds,HM.Zm kvs k=Z ds->∃l' vs,AV vvs k=Z (.ref l')/\l'∈ls/\H l'=Z (.lst vs)/\Zt K F ds vs)/\(HM.Zm kvs k=J->AV vvs k=J):=QZ k kvs vvs ls q.1 q.2.1 q.2.2
theorem OT.app(k:List sP){d:PyData}{v:V}:∀{kvs:List (List sP×List PyData)} {vvs:List (List sP×V)} {ls:List Addr},OT K F H kvs vvs ls->ls.Nodup->Rep K F d v->∀{l':Addr} {vs:List V},AV vvs k=Z (.ref l')->H l'=Z (.lst vs) ->OT K F (upd H l' (.lst (vs++[v]))) (HM.Dq kvs k d) vvs ls
 |[],[],_,q,_,_,l',vs,hv,_=>by cases hv
 |[],_::_,_,q,_,_,_,_,_,_=>by have:=q.len;simp at this
 |_::_,[],_,q,_,_,_,_,_,_=>by have:=q.len;simp at this
 |_::_,_::_,[],q,_,_,_,_,_,_=>by have:=q.len;simp at this
 |(k1,ds1)::kvs,(k2,v2)::vvs,l1::ls,q,nd,rd,l',vs,hv,hl=>by
  obtain⟨q1,q2,q3⟩:=q;rw[Ak,Ak]at q1 q2;injection q1 with e1 e2
  injection q2 with e3 e4
  have e1:k1=k2:=e1;have e3:v2=.ref l1:=e3;subst e1 e3;have rest:OT K F H kvs vvs ls:=⟨e2,e4,λi ds l h1 h2=>q3 (i+1) ds l (by simpa using h1) (by simpa using h2)⟩;obtain⟨n1,n2⟩:=Dg.mp nd;obtain⟨us,f1,f2⟩:=q3 0 ds1 l1 rfl rfl;unfold HM.Dq
  by_cases hk:k1=k
  .rw[if_pos hk]
   rw[Ib (p:=(k1,V.ref l1)) hk]at hv;cases hv;rw[hl]at f1;cases f1;refine⟨by rw[Ak,Ak,e2],by rw[Ak,Ak,e4],λi ds l h1 h2=>?_⟩;cases i with
   |zero=>cases h1;cases h2;exact⟨_,Zz,f2.append (.one rd)⟩
   |succ i=>rw[Ak,Em]at h1;rw[Em]at h2;obtain⟨us,g1,g2⟩:=rest.2.2 i ds l h1 h2;exact⟨us,by rw[ZB (λz=>n1 (by rw[<-z];exact Bm h2))];exact g1,g2⟩
  .rw[if_neg hk]
   rw[HZ (p:=(k1,V.ref l1)) hk]at hv;have ih:=OT.app k rest n2 rd hv hl;have tX:l1≠l':=by
    rintro rfl
    have:∀(vvs:List (List sP×V)) (ls:List Addr),vvs.map (·.2)=ls.map V.ref->∀l',AV vvs k=Z (.ref l')->l'∈ls:=by
     intro vvs
     induction vvs with
     |nil=>intro ls _ l' h;cases h
     |cons p vvs ih =>
      intro ls he l' h;cases ls with
      |nil=>simp at he
      |cons l ls =>
       rw[Ak,Ak]at he;injection he with he1 he2
       by_cases hp:p.1=k
       .rw[Ib hp]at h
        rw[he1]at h;cases h;exact Am
       .rw[HZ hp]at h
        exact Ap _ (ih ls he2 l' h)
    exact n1 (this vvs ls e4 _ hv)
   refine⟨by rw[Ak,Ak,ih.1],by rw[Ak,Ak,e4],λi ds l h1 h2=>?_⟩;cases i with
   |zero=>cases h1;cases h2;exact⟨us,by rw[ZB tX];exact f1,f2⟩
   |succ i=>rw[Ak,Em]at h1;rw[Em]at h2;exact ih.2.2 i ds l h1 h2
end
theorem A9.otl{K:Ae}{F0 H0 F H:Hp}{r:HM.Env}{Y:L2.St}{fp:Nat->List Addr}{i:Nat}{kvs:List (List sP×List PyData)}(e:A9 K F0 H0 F H r Y fp)(h:r[i]?=Z (Z (.otl kvs))):∃a vvs ls,Y[i]?=Z (Z (.ref a))/\H a=Z (.dT vvs)/\OT K F H kvs vvs ls/\fp i=a::ls:=by
 obtain⟨v,h1,h2⟩:=e.at_ i _ h;generalize hf:fp i=q at h2;cases h2 with
 |otl k1 k2 k3 k4=>exact⟨_,_,_,h1,k1,⟨k2,k3,k4⟩,rfl⟩
theorem A9.otlNew{Fb Hb:Hp}{fp:Nat->List Addr}(k:List sP)(eb:A9 K F0 H0 Fb Hb r Y fp)(x:sQ Fb Hb F H)(h:r[i]?=Z (Z (.otl kvs)))(hp:H p=Z (.lst []))(hF:F p=J)(hb:Hb p=J):∃a vvs,Y[i]?=Z (Z (.ref a))/\H a=Z (.dT vvs)/\vvs.length=kvs.length/\(HM.Zm kvs k=J->AV vvs k=J)/\At K F0 H0 F (upd H a (.dT (vvs++[(k,.ref p)]))) (r.set i (Z (.otl (kvs++[(k,[])])))) Y:=by
 have e:=eb.grow x;obtain⟨a,vvs,ls,h1,h2,h3,h4⟩:=e.otl h;have za:∀j,p∉fp j:=λj hj=>by obtain⟨o,ho⟩:=eb.there hj;rw[hb]at ho;cases ho
 have ym:p≠a:=λz=>za i (by rw[h4,z];exact Am);have vO:a∉ls:=(Dg.mp (h4▸e.nd i)).1;have nl:ls.Nodup:=(Dg.mp (h4▸e.nd i)).2;have hpl:p∉ls:=λz=>za i (by rw[h4];exact Ap _ z);refine⟨a,vvs,h1,h2,h3.len.2.symm,(h3.look k).2,?_⟩;have q:=h3.snoc k hp;have q':OT K F (upd H a (.dT (vvs++[(k,.ref p)]))) (kvs++[(k,[])]) (vvs++[(k,.ref p)]) (ls++[p]):=q.mono (Zp.refl F) λc hc o z=>by
  rw[ZB]
  .exact z
  .rintro rfl
   rcases Bg.mp hc with hc|hc
   .exact vO hc
   .exact ym (AW.mp hc).symm
 have nd':(a::(ls++[p])).Nodup:=by
  refine Dg.mpr ⟨?_,?_⟩
  .intro z
   rcases Bg.mp z with z|z
   .exact vO z
   .exact ym (AW.mp z).symm
  .rw[JX]
   refine⟨nl,by simp,λx hx y hy=>?_⟩;obtain rfl:y=p:=by simpa using hy
   rintro rfl
   exact hpl hx
 refine e.changeW h1 (fp':=a::(ls++[p])) (.otl Zz q'.1 q'.2.1 q'.2.2) nd' (λc hc=>?_) λc o z hn=>?_
 .rcases AE.mp hc with z|z
  .subst z;exact .inl (by rw[h4];exact Am)
  .rcases Bg.mp z with z|z
   .exact .inl (by rw[h4];exact Ap _ z)
   .obtain rfl:c=p:=AW.mp z
    exact .inr ⟨hF,eb.ext.hh.free hb,za⟩
 .rw[ZB (λy=>hn (by rw[h4,y];exact Am))]
  exact z
theorem At.otlApp(k:List sP)(e:At K F0 H0 F H r Y)(h:r[i]?=Z (Z (.otl kvs)))(hd:HM.Zm kvs k=Z ds):∃a vvs l vs,Y[i]?=Z (Z (.ref a))/\H a=Z (.dT vvs)/\AV vvs k=Z (.ref l)/\H l=Z (.lst vs)/\Zt K F ds vs/\∀d v,Rep K F d v->At K F0 H0 F (upd H l (.lst (vs++[v]))) (r.set i (Z (.otl (HM.Dq kvs k d)))) Y:=by
 obtain⟨fp,e⟩:=e;obtain⟨a,vvs,ls,h1,h2,h3,h4⟩:=e.otl h;obtain⟨l,vs,g1,g2,g3,g4⟩:=(h3.look k).1 ds hd;have vO:a∉ls:=(Dg.mp (h4▸e.nd i)).1;have nl:ls.Nodup:=(Dg.mp (h4▸e.nd i)).2;have tX:a≠l:=λz=>vO (by rw[z];exact g2);refine⟨a,vvs,l,vs,h1,h2,g1,g3,g4,λd v rd=>?_⟩;have q:=h3.app k nl rd g1 g3;refine e.change h1 (fp':=a::ls) (.otl (by rw[ZB tX];exact h2) q.1 q.2.1 q.2.2) (h4▸e.nd i) (λc hc=>.inl (by rw[h4];exact hc)) λc o z hn=>?_;rw[ZB (λy=>hn (by rw[h4,y];exact Ap _ g2))];exact z
section
variable{X:Cx}{a b c e:Expr}{fa fb fc:HM.EF}{pos p:Pos}{f:HM.BF}
theorem j3(hu:X.A.units+1<cLine)(i:Nat)(hk:XE X b fb)(hN:X.N[i]?=Z x:=by rfl)(hv:vk X.env.scope x:=by first|exact AG rfl|exact An (AG rfl)|exact An (An rfl))(hd:(x==("__debug__":Str))=Ab:=by decide)(tF:(x==("__classdict__":Str))=Ab:=by decide)(hs:DB (.List [] p3) (Z (.Subscript (.Name x p1) b p2)) pos.line X.env=pure Ab:=by rfl):XS X (.Assign [.Subscript (.Name x p1) b p2] (.List [] p3) pos) (HM.nZ i fb):=by
 intro r o h;unfold HM.nZ at h;split at h
 .rename_i y hy
  split at h
  .rename_i kvs hb
   split at h
   .rename_i k hk'
    split at h
    .rename_i hz
     split at h
     .rename_i hl
      cases h;refine PS.imp (Qr hu (CI hN hv hd tF) (hk r y hy) (BH (X:=X) Zg (by simp) r (.ol []) rfl) hs) λE Y H ⟨F0,H0,F,at_,kk⟩=>?_;refine⟨F0,H0,F,at_,λv F1 H1 x1 ⟨fp,r1,nd,hn⟩=>?_⟩;cases r1 with
      | @ol l _ vs w8 rs =>
       obtain rfl:vs=[]:=rs.nil_inv;have ud:=at_.grow x1;obtain⟨u,fp,e1,e2⟩:=ud.any hb;refine⟨u,e1,F0,H0,F1,ud,λw F2 H2 x2 r2=>?_⟩;obtain⟨fq,eb⟩:=at_;have hlF:F2 l=J:=by
        cases q:F2 l with
        |none=>rfl
        |some o =>
         rcases x2.new l o q with z|z
         .rw[(hn l (by simp)).1]at z;cases z
         .exact(z.no w8 λ_ q=>by cases q).elim
       obtain⟨aa,vvs,g1,g2,g3,g4,g5⟩:=eb.otlNew k (x1.trans x2) hb (x2.hh _ _ w8) hlF (hn l (by simp)).2;rw[e1]at g1;cases g1;obtain⟨bb,rfl,uV⟩:=D8 hk' r2;have hpk:tW vvs k (V.ref l)=vvs++[(k,.ref l)]:=by unfold tW;rw[if_neg];rw[Nv,g4 hl];simp
       refine⟨aa,_,rfl,Ft.t g2 (x2.sub _ _ uV) (by rw[g3];exact HS hz),?_⟩;rw[hpk];exact kk _ F2 _ g5
     .cases h
    .cases h
   .cases h
  .cases h
 .cases h
theorem jU(hu:X.A.units+1<cLine)(i:Nat)(hk:XE X b fb)(ha:XE X a fa)(hN:X.N[i]?=Z x:=by rfl)(hv:vk X.env.scope x:=by first|exact AG rfl|exact An (AG rfl)|exact An (An rfl))(hd:(x==("__debug__":Str))=Ab:=by decide)(tF:(x==("__classdict__":Str))=Ab:=by decide)(hsl:Kc b:=by intro _ _;rfl)(t7:Hg (.Subscript (.Name x p1) b p2) "append" X.env (eval (.Subscript (.Name x p1) b p2) X.env)=eval (.Subscript (.Name x p1) b p2) X.env:=by rfl)(uO:((backTo p4 (Ad [a] X.env)).all (λx=>!x.1)&&(JP p4 (JQ [] X.env)).all (λx=>x.1.isSome)&&decide (([a]:List Expr).length+([]:List Keyword).length+(if([]:List Keyword).isEmpty then 0 else 1)<30))=Aa:=by rfl)(t6:(p3.endLine==p4.line)=Aa:=by rfl)(hs:Ad [a] X.env=[(Ab,eval a X.env)]:=by rfl):XS X (.Expr (.Call (.Attribute (.Subscript (.Name x p1) b p2) "append" p3) [a] [] p4) pos) (HM.m5 i fb fa):=by
 intro r o h;unfold HM.m5 at h;split at h
 .rename_i y hy
  split at h
  .rename_i kvs hb
   split at h
   .rename_i k hk'
    split at h
    .rename_i d hd'
     split at h
     .rename_i ds sW
      split at h
      .rename_i hz
       cases h;refine PS.imp (KO (MQ Mr UI Ut ND (QE hu (CI hN hv hd tF) (hk r y hy) hsl) (Z3 (ha r d hd') BV hs) t7 uO t6 hs rfl)) λE Y H ⟨F0,H0,F,at_,kk⟩=>?_;obtain⟨aa,vvs,l,vs,e1,e2,e3,e4,e5,_⟩:=at_.otlApp k hb sW;refine⟨.ref aa,e1,F0,H0,F,at_,λw F1 H1 x1 r1=>?_⟩;obtain⟨bb,rfl,uV⟩:=D8 hk' r1;have ud:=at_.grow x1;refine⟨aa,.ref l,rfl,by rw[<-e3];exact BK.t (x1.hh _ _ e2) (x1.sub _ _ uV),.inl ⟨rfl,_,tU.of (x1.hh _ _ e4)⟩,F0,H0,F1,ud,λv F2 H2 x2 r2=>?_⟩;obtain⟨aa',vvs',l',vs',g1,g2,g3,g4,g5,g6⟩:=(ud.grow x2).otlApp k hb sW;rw[e1]at g1;cases g1;have:=(x1.trans x2).hh _ _ e2;rw[this]at g2;cases g2;rw[e3]at g3;cases g3;refine⟨_,vs',v,rfl,rfl,g4,?_,kk _ F2 _ (g6 d v r2)⟩;rw[<-g5.1];exact HS hz
      .cases h
     .cases h
    .cases h
   .cases h
  .cases h
 .cases h
theorem jP{k:List sP}(h:HM.Zm kvs k=Z ds):HM.Cf kvs k=kvs:=by unfold HM.Cf;rw[h]
theorem jO{k:List sP}(h:HM.Zm kvs k=J):HM.Cf kvs k=kvs++[(k,[])]:=by unfold HM.Cf;rw[h]
theorem jT(hu:X.A.units+1<cLine)(i:Nat){p0 p5:Pos}(hk:XE X b fb)(ha:XE X a fa)(m:M2 X (.Name x p0) "setdefault" p1 b (.List [] p2) p3)(hN:X.N[i]?=Z x:=by rfl)(hv:vk X.env.scope x:=by first|exact AG rfl|exact An (AG rfl)|exact An (An rfl))(hd:(x==("__debug__":Str))=Ab:=by decide)(tF:(x==("__classdict__":Str))=Ab:=by decide)(t7:Hg (.Call (.Attribute (.Name x p0) "setdefault" p1) [b,.List [] p2] [] p3) "append" X.env (eval (.Call (.Attribute (.Name x p0) "setdefault" p1) [b,.List [] p2] [] p3) X.env)=eval (.Call (.Attribute (.Name x p0) "setdefault" p1) [b,.List [] p2] [] p3) X.env:=by rfl)(uO:((backTo p5 (Ad [a] X.env)).all (λx=>!x.1)&&(JP p5 (JQ [] X.env)).all (λx=>x.1.isSome)&&decide (([a]:List Expr).length+([]:List Keyword).length+(if([]:List Keyword).isEmpty then 0 else 1)<30))=Aa:=by rfl)(t6:(p4.endLine==p5.line)=Aa:=by rfl)(hs:Ad [a] X.env=[(Ab,eval a X.env)]:=by rfl):XS X (.Expr (.Call (.Attribute (.Call (.Attribute (.Name x p0) "setdefault" p1) [b,.List [] p2] [] p3) "append" p4) [a] [] p5) pos) (HM.nc i fb fa):=by
 intro r o h;unfold HM.nc at h;split at h
 .rename_i y hy
  split at h
  .rename_i kvs hb
   split at h
   .rename_i k hk'
    split at h
    .rename_i hzz
     split at h
     .rename_i d hd'
      split at h
      .rename_i ds sW
       split at h
       .rename_i hz
        cases h;have hi:i<r.length:=(A0.mp hb).1;have hb':(r.set i (Z (.otl (HM.Cf kvs k))))[i]?=Z (Z (.otl (HM.Cf kvs k))):=EG hi;refine PS.imp (KO (MQ Mr UI Ut ND (dh hu (CI hN hv hd tF) (hk r y hy) (BH (X:=X) Zg (by simp) r (.ol []) rfl) m) (Z3 (ha _ d hd') BV hs) t7 uO t6 hs rfl)) λE Y H ⟨F0,H0,F,at_,kk⟩=>?_;have tL:∀{F3 H3:Hp} {l:Addr},At X.K F0 H0 F3 H3 (r.set i (Z (.otl (HM.Cf kvs k)))) Y->(∃vs,tU X.K H3 l vs)->(∀a' vvs',Y[i]?=Z (Z (.ref a'))->H3 a'=Z (.dT vvs')->AV vvs' k=Z (.ref l)) ->
          tyV X.K "list" (.ref l) H3/\vt X.K (r.set i (Z (.otl (HM.Cf kvs k)))) Y H3 λF0 H0 F=>∀v F' H',sQ F H3 F' H'->Rep X.K F' d v->Ws (.ref l) [v] H' λ_ H'=>E.nx Y H':=by
         intro F3 H3 l uz hl zj;refine⟨.inl ⟨rfl,hl⟩,F0,H0,F3,uz,λv F4 H4 x4 r4=>?_⟩;obtain⟨aa',vvs',l',vs',g1,g2,g3,g4,g5,g6⟩:=(uz.grow x4).otlApp k hb' sW;obtain⟨aa2,zW,l2,vs2,f1,f2,f3,_⟩:=uz.otlApp k hb' sW;rw[f1]at g1;cases g1;rw[x4.hh _ _ f2]at g2;cases g2;rw[zj _ _ f1 f2]at g3;cases g3;have g7:=g6 d v r4;rw[L8]at g7;refine⟨_,vs',v,rfl,rfl,g4,?_,kk _ F4 _ g7⟩;rw[<-g5.1];exact HS hz
        obtain⟨fq,eb⟩:=at_;obtain⟨aa,vvs,ls,e1,e2,e3,e4⟩:=eb.otl hb;refine⟨.ref aa,e1,aa,rfl,.inr ⟨vvs,.inl e2⟩,F0,H0,F,⟨fq,eb⟩,λw F1 H1 x1 r1=>⟨F0,H0,F1,At.grow ⟨fq,eb⟩ x1,λv F2 H2 x2 ⟨fp,r2,nd,hn⟩=>?_⟩⟩;obtain⟨bb,rfl,uV⟩:=D8 hk' r1;have vP:=x1.trans x2;have hz0:vvs.length<sizeLine:=by rw[<-e3.len.2];exact HS hzz
        refine⟨vvs,k,bb,vP.hh _ _ e2,rfl,x2.hh _ _ (x1.sub _ _ uV),hz0,λu hu'=>?_,λxO=>?_⟩
        .have zc:∃ds0,HM.Zm kvs k=Z ds0:=by
          cases hq:HM.Zm kvs k with
          |some ds0=>exact⟨ds0,rfl⟩
          |none=>rw[(e3.look k).2 hq]at hu';cases hu'
         obtain⟨ds0,zc⟩:=zc;have ead:=jP zc;obtain⟨l0,vs0,q1,q2,q3,q4⟩:=(e3.look k).1 ds0 zc;rw[q1]at hu';cases hu';refine tL (F3:=F2) ?_ ⟨vs0,tU.of (vP.hh _ _ q3)⟩ λa' vvs' z1 z2=>?_
         .rw[ead]
          have:r.set i (Z (.otl kvs))=r:=by obtain⟨h1,h2⟩:=A0.mp hb;rw[<-h2];exact PD h1
          rw[this];exact At.grow ⟨fq,eb⟩ vP
         .rw[e1]at z1
          cases z1;rw[vP.hh _ _ e2]at z2;cases z2;exact q1
        .have zc:HM.Zm kvs k=J:=by
          cases hq:HM.Zm kvs k with
          |none=>rfl
          |some ds0=>obtain⟨l0,vs0,q1,_⟩:=(e3.look k).1 ds0 hq;rw[xO]at q1;cases q1
         have ead:=jO zc;cases r2 with
         | @ol l _ vs w8 rs =>
          obtain rfl:vs=[]:=rs.nil_inv;have hHl:H l=J:=x1.hh.free (hn l (by simp)).2;obtain⟨aa2,zW,g1,g2,g3,g4,g5⟩:=eb.otlNew k vP hb w8 (hn l (by simp)).1 hHl;rw[e1]at g1;cases g1;rw[vP.hh _ _ e2]at g2;cases g2;have tX:l≠aa:=λz=>by rw[z,e2]at hHl;cases hHl
          refine tL (F3:=F2) (by rw[ead];exact g5) ⟨[],tU.of (by rw[ZB tX];exact w8)⟩ λa' vvs' z1 z2=>?_;rw[e1]at z1;cases z1;rw[Zz]at z2;cases z2;unfold AV at xO ⊢;rw[Option.map_eq_none_iff]at xO;rw[TX,xO];simp
       .cases h
      .cases h
     .cases h
    .cases h
   .cases h
  .cases h
 .cases h
end
end
end HP
namespace HP
open PySem PyProof.Rows
section
variable{xs:Array Nat}{b:Bool}{i j:Nat}
def D2(xs:Array Nat):Prop:=xs.toList.Pairwise (· < ·)
theorem D2.lt(h:D2 xs){k:Nat}(hk:k<xs.size)(hik:i<k):xs.getD i 0<xs.getD k 0:=by have:=UM.mp h i k (by simpa using Dy hik hk) (by simpa using hk) hik;simpa [DR,hk,Dy hik hk]using this
theorem QM{xs:Array Nat}(h:D2 xs)(j:Nat):∀(tM lo hi:Nat),lo<=hi->hi<=xs.size->hi-lo<=tM->(∀i,i<lo->xs.getD i 0<j)->(∀i,hi<=i->i<xs.size->j<=xs.getD i 0) ->O8 xs j tM lo hi<=xs.size/\(∀i,i<O8 xs j tM lo hi->xs.getD i 0<j)/\∀i,O8 xs j tM lo hi<=i->i<xs.size->j<=xs.getD i 0
 |0,lo,hi,h1,h2,h3,a,b=>by
  obtain rfl:lo=hi:=by omega
  exact⟨h2,a,b⟩
 |tM+1,lo,hi,h1,h2,h3,a,b=>by
  unfold O8;split
  .rename_i tu
   have hm:(lo+hi) / 2<xs.size:=by omega
   have e:xs.getD ((lo+hi) / 2) j=xs.getD ((lo+hi) / 2) 0:=by simp[DR,hm]
   dsimp only;rw[e]
   by_cases q:xs.getD ((lo+hi) / 2) 0<j
   .rw[if_pos q]
    refine QM h j tM ((lo+hi) / 2+1) hi (by omega) h2 (by omega) (λi hi'=>?_) b
    by_cases c:i=(lo+hi) / 2
    .rw[c];exact q
    .exact Dy (h.lt hm (by omega)) q
   .rw[if_neg q]
    refine QM h j tM lo ((lo+hi) / 2) (by omega) (by omega) (by omega) a (λi hi' hs=>?_)
    by_cases c:i=(lo+hi) / 2
    .rw[c];omega
    .have:=h.lt hs (show(lo+hi) / 2<i by omega);omega
  .obtain rfl:lo=hi:=by omega
   exact⟨h2,a,b⟩
theorem NS(h:D2 xs)(j:Nat):Aq xs j<=xs.size/\(∀i,i<Aq xs j->xs.getD i 0<j)/\∀i,Aq xs j<=i->i<xs.size->j<=xs.getD i 0 :=
 QM h j xs.size 0 xs.size (BY _) (Aj _) (by omega) (λi hi=>by omega) λi h1 h2=>by omega
theorem k6(h:D2 xs)(hi:i<xs.size):Aq xs (xs.getD i 0+1)=i+1:=by
 obtain⟨a,b,c⟩:=NS h (xs.getD i 0+1);apply Nat.le_antisymm
 .apply JV
  intro q;have h1:=b (i+1) q;have h2:=h.lt (show i+1<xs.size by omega) (IQ i);omega
 .apply JV
  intro q;have h1:=c (Aq xs (xs.getD i 0+1)) (Aj _) (by omega)
  by_cases e:Aq xs (xs.getD i 0+1)=i
  .rw[e]at h1;omega
  .have:=h.lt hi (show Aq xs (xs.getD i 0+1)<i by omega);omega
theorem lG(h:D2 xs):Aq xs 0=0:=by obtain⟨a,b,c⟩:=NS h 0;apply Nat.eq_zero_of_not_pos;intro q;have:=b 0 q;omega
theorem Yv(h:D2 xs)(hn:xs[Aq xs j]?≠Z j):D2 (Bu xs (Aq xs j) j):=by
 obtain⟨a,b,c⟩:=NS h j;unfold D2;rw[Ur];have gt:∀i,Aq xs j<=i->i<xs.size->j<xs.getD i 0:=by
  intro i h1 h2
  by_cases e:Aq xs j=i
  .subst e
   have h3:=c _ h1 h2;have:xs.getD (Aq xs j) 0≠j:=λq=>hn (by
    have z:xs[Aq xs j]?=Z (xs.getD (Aq xs j) 0):=by simp[DR,h2]
    rw[z,q])
   omega
  .have h3:=h.lt h2 (show Aq xs j<i by omega)
   have h4:=c _ (Aj _) (show Aq xs j<xs.size by omega);omega
 rw[Uz];refine⟨h.sublist (List.take_sublist ..),DE.mpr ⟨λx hx=>?_,h.sublist (List.drop_sublist ..)⟩,λx hx y hy=>?_⟩
 .obtain⟨i,hi,rfl⟩:=Mc hx
  rw[Mh,BB]at hi;rw[List.getElem_drop];have:=gt (Aq xs j+i) (by omega) (by omega);simpa [DR,show Aq xs j+i<xs.size by omega]using this
 .obtain⟨i,hi,rfl⟩:=Mc hx
  rw[Fd,BB]at hi;rw[List.getElem_take];have h1:=b i (by omega);have h1':xs.toList[i]'(by simp;omega)<j:=by simpa [DR,show i<xs.size by omega]using h1
  rcases AE.mp hy with e|e
  .rw[e];exact h1'
  .obtain⟨k,hk,rfl⟩:=Mc e
   rw[Mh,BB]at hk;rw[List.getElem_drop];have h2:=gt (Aq xs j+k) (by omega) (by omega);have h2':j<xs.toList[Aq xs j+k]'(by simp;omega):=by simpa [DR,show Aq xs j+k<xs.size by omega]using h2
   exact Dy h1' h2'
theorem has_none(j:Nat):SetTable.has #[] j=Ab:=by simp[SetTable.has]
structure Tab(b:Bool)(t:SetTable):Prop where
 dum:t.dummies=#[]
 rise:D2 t.place
 led:t.led=b
 plain:t.plain=Aa
 low:∀j∈t.place.toList,j<8
 mask:t.mask=if t.place.size<=4 then 7 else 31
theorem Tab.fresh(b:Bool):Tab b (SetTable.fresh 0 0 b):=⟨rfl,.nil,rfl,rfl,λj hj=>by simp[SetTable.fresh]at hj,rfl⟩
theorem Tab.few{t:SetTable}(h:Tab b t):t.place.size<=8:=by
 have key:∀(l:List Nat) (lo:Nat),l.Pairwise (· < ·)->(∀j∈l,lo<=j/\j<8)->l.length<=8-lo:=by
  intro l
  induction l with
  |nil=>intro lo _ _;simp
  |cons x l ih=>intro lo hp hb;have h1:=hb x (Am ..);have h2:=ih (x+1) (DE.mp hp).2 λy hy=>⟨(DE.mp hp).1 y hy,(hb y (Ap _ hy)).2⟩;rw[AD];omega
 have:=key t.place.toList 0 h.rise λj hj=>⟨BY _,h.low j hj⟩;simpa using this
theorem Rh{t:SetTable}(h:Tab b t)(hj:j∉t.place.toList):t.slot j=.empty/\t.place[Aq t.place j]?≠Z j:=by have q:t.place[Aq t.place j]?≠Z j:=λe=>hj (by rw[<-Ek]at e;exact Bm e);unfold SetTable.slot;dsimp only;rw[if_neg (by simpa using q),h.dum,has_none,if_neg (by simp)];exact⟨rfl,q⟩
theorem dX{t:SetTable}(h:Tab b t)(j:Nat):t.put j=({t with place:=Bu t.place (Aq t.place j) j},Aq t.place j):=by
 unfold SetTable.put;dsimp only;rw[h.dum,has_none];cases t;have:=h.dum
 simp_all
theorem tD{α:Type}(xs:Array α)(p:Nat)(x:α):(Bu xs p x).size=xs.size+1:=by rw[<-BB,(J7 xs p x).length_eq];simp
theorem d4{t:SetTable}(h:Tab b t){es:Array (Int×Value)}(he:es.size=t.place.size)(h8:j<8)(hj:j∉t.place.toList)(v:Value):layNew t es (j:Int) v=(Bu es (Aq t.place j) ((j:Int),v),{t with place:=Bu t.place (Aq t.place j) j},Ab,Ab):=by
 obtain⟨e1,e2⟩:=Rh h hj;have uO:=h.few;have hm:t.mask=7\/t.mask=31:=by rw[h.mask];split<;>simp
 have hbits:TK (j:Int)%(t.mask+1)=j:=by
  have hb:TK (j:Int)=j:=by unfold TK;omega
  rw[hb];rcases hm with e|e<;>rw[e]<;>omega
 have uw:t.freeSlot (j:Int)=Z (j,Ab):=by
  unfold SetTable.freeSlot SetTable.probe;have hf:10*TM t.mask=(10*TM t.mask-1)+1:=by unfold TM;omega
  rw[hf];unfold SetTable.probe.go;have hp:(t.probeStart (j:Int)).j=j:=hbits;rw[hp,e1];rfl
 have we:t.place.size<=7:=by
  apply JV;intro q;have h8':t.place.size=8:=by omega
  have:=Mq (l₁:=j::t.place.toList) (l₂:=Ah 8) (Dg.mpr ⟨hj,h.rise.imp λq=>As q⟩) (λx hx=>by
   rcases AE.mp hx with e|e
   .rw[e];exact AS.mpr h8
   .exact AS.mpr (h.low x e))
  simp at this;omega
 have yW:(L1 {t with place:=Bu t.place (Aq t.place j) j} (Bu es (Aq t.place j) ((j:Int),v)).size)=Aa:=by unfold L1 L0;simp only[tD,he,h.dum];simp;rw[h.mask];split<;>omega
 unfold layNew;rw[uw];dsimp only;rw[dX h];dsimp only;unfold SetTable.orStandIn;rw[yW];rfl
theorem Tab.ins{t:SetTable}(h:Tab b t)(h8:j<8)(hj:j∉t.place.toList)(hs:t.place.size≠4):Tab b {t with place:=Bu t.place (Aq t.place j) j}:=by
 obtain⟨_,e2⟩:=Rh h hj;refine⟨h.dum,Yv h.rise e2,h.led,h.plain,λx hx=>?_,?_⟩
 .have:=(J7 t.place (Aq t.place j) j).mem_iff.mp hx
  rw[JW]at this;rcases Bg.mp this with q|q
  .exact h.low x q
  .rw[AW.mp q];exact h8
 .dsimp only
  rw[tD,h.mask];split<;>split<;>omega
def Ql:List (List Nat):=(Ah 8).flatMap λa=>(Ah 8).flatMap λb=>(Ah 8).flatMap λc=>(Ah 8).flatMap λd=>(Ah 8).filterMap λe=>if a<b/\b<c/\c<d/\d<e then Z [a,b,c,d,e]else J
theorem lY{l:List Nat}(h:l.Pairwise (· < ·))(h8:∀j∈l,j<8)(h5:l.length=5):l∈Ql:=by
 match l,h5 with
 |[a,b,c,d,e],_=>simp at h h8;unfold Ql;simp only[JU,AS,Fg];refine⟨a,by omega,b,by omega,c,by omega,d,by omega,e,by omega,?_⟩;rw[if_pos (by omega)]
theorem dJ:∀l∈Ql,(SetTable.layClean 31 (l.map λ(n:Nat)=>(n:Int)).toArray).map (λowner=>(Ah 32).filterMap λj=>(owner.getD j J).map (j,·))=Z (l.zip (Ah 5)):=by decide +kernel
end
section
variable{es:Array (Int×Value)}{h:Heap}{ns:List Int}
def Dm(e:Int×Value):Int:=match e.2 with
 | .int n _=>n
 |_=>0
section
variable(prog:Program)(w:World)
def Kb(es:List (Int×Value)):Prop:=∀e∈es,∃n t,e=((intKind prog w).hash n,C9 n t)
def Cz(h:Heap)(a:Addr)(L:List Int):Prop:=∃o es ep t,h.get? a=Z o/\o.ExactSet/\o.data=.set es ep t/\Kb prog w es.toList/\(es.toList.map Dm).Perm L/\es.toList.map Dm=t.place.toList.map (λ(j:Nat)=>(j:Int))/\Tab (!w.params.followText "set-order") t
end
section
variable{prog:Program}{w:World}{A:Around}{E:Value->Shared->Prop}{s:Shared}{a:Addr}{L:List Int}
theorem Kb.elems{es:List (Int×Value)}(h:Kb prog w es):ElemsOf (intKind prog w) es:=λe he=>by obtain⟨n,t,rfl⟩:=h e he;exact⟨⟨n,JS _ _ _ _,rfl⟩,rfl⟩
theorem Cz.at'{h':Heap}(x:Cz prog w h a L)(k:∀o,h.get? a=Z o->h'.get? a=Z o):Cz prog w h' a L:=let ⟨o,es,ep,t,e,r⟩:=x;⟨o,es,ep,t,k o e,r⟩
def yf(L:List Int)(n:Int):List Int:=if L.contains n then L else L++[n]
theorem VP{k n:Int}{t:Tok}:(intKind prog w).is k (.int n t)=Aa↔n=k:=by
 constructor
 .intro h
  exact(intKind prog w).inj _ _ _ (JS _ _ _ _) h
 .rintro rfl;exact JS _ _ _ _
theorem Ri:∀(j:Nat),j<8->(intKind prog w).hash (j:Int)=(j:Int)
 |0,_=>rfl
 |1,_=>rfl
 |2,_=>rfl
 |3,_=>rfl
 |4,_=>rfl
 |5,_=>rfl
 |6,_=>rfl
 |7,_=>rfl
 |n+8,h=>by omega
theorem Tab.fits{b:Bool}{t:SetTable}(h:Tab b t):t.fits t.place.size=Aa:=by have hf:=h.few;unfold L1 L0;rw[h.dum,h.mask];simp;split<;>omega
theorem wo{t:SetTable}(h:es.toList.map Dm=t.place.toList.map (λ(j:Nat)=>(j:Int))):es.size=t.place.size:=by have:=congrArg BC h;simpa using this
theorem Ym{o:Obj}{es':Array (Int×Value)}{ep:Nat}{t t':SetTable}(ho:h.get? a=Z o)(wg:o.ExactSet)(hd:o.data=.set es ep t)(hel:Kb prog w es'.toList)(hp:(es'.toList.map Dm).Perm L)(hs:es'.toList.map Dm=t'.place.toList.map (λ(j:Nat)=>(j:Int)))(ht:Tab (!w.params.followText "set-order") t'):(h.update a (Ir es' t')).get? a=Z {o with data:=.set es' (ep+1) t'}/\Cz prog w (h.update a (Ir es' t')) a L:=by
 have hg:(h.update a (Ir es' t')).get? a=Z {o with data:=.set es' (ep+1) t'}:=by
  have:=Gi (Ir es' t') ho (by rw[putSet_of es' t' hd];rfl)
  rwa [putSet_of es' t' hd]at this
 exact⟨hg,_,es',ep+1,t',hg,wg,rfl,hel,hp,hs,ht⟩
theorem iD{b:Bool}{t:SetTable}(hr:D2 t.place)(h8:∀j∈t.place.toList,j<8)(h5:t.place.size=5)(he:es.map (·.1)=(t.place.toList.map (λ(j:Nat)=>(j:Int))).toArray)(hl:t.led=b)(hp:t.plain=Aa):∃t',relayAll t es 20=(es,t',Ab)/\t'.place=t.place/\Tab b t':=by
 have hc:=dJ _ (lY hr h8 (by simpa using h5));obtain⟨owner,o1,o2⟩:=Ai.mp hc;have hsz:es.size=5:=by have:=congrArg Array.size he;simp at this;omega
 have sJ:t.place.toList.length=5:=by simpa using h5
 have z1:(t.place.toList.zip (Ah 5)).map (·.1)=t.place.toList:=List.map_fst_zip (by rw[sJ];simp);have z2:(t.place.toList.zip (Ah 5)).map (·.2)=Ah 5:=List.map_snd_zip (by rw[sJ];simp);have hrl:t.relaid (es.map (·.1)) 20=Z ({mask:=31,place:=t.place,dummies:=#[],finger:=t.finger,led:=t.led,moves:=t.movedTo 31,plain:=t.plain},(Ah 5).toArray):=by
  unfold SetTable.relaid SetTable.laid;have e31:SetTable.sizeAbove 20-1=31:=by decide
  rw[e31,he,o1];show Z _=Z _;rw[o2,z1,z2]
 refine⟨{mask:=31,place:=t.place,dummies:=#[],finger:=t.finger,led:=t.led,moves:=t.movedTo 31,plain:=t.plain},?_,rfl,⟨rfl,hr,hl,hp,h8,?_⟩⟩
 .unfold relayAll
  rw[hrl];dsimp only;have ef:(Ah 5).toArray.filterMap (λx=>es[x]?)=es:=by apply Array.toList_inj.mp;rw[Array.toList_filterMap];have:=filterMap_getElem?_range es;rw[hsz]at this;simpa using this
  rw[ef];have ec:coversAll (Ah 5).toArray es.size=Aa:=by rw[hsz];decide
  have et:L1 {mask:=31,place:=t.place,dummies:=#[],finger:=t.finger,led:=t.led,moves:=t.movedTo 31,plain:=t.plain} es.size=Aa:=by unfold L1 L0;simp[h5,hsz]
  rw[ec,et];rfl
 .dsimp only
  rw[h5];rfl
theorem iP{j:Nat}{tk:Tok}{Q:Bool->Shared->Prop}(h8:j<8)(hX:Cz prog w s.heap a L)(h:∀b h',EB a s.heap h'->Cz prog w h' a (yf L j)->Q b {s with heap:=h'}):wpAny (model prog w) A (setAddHashed a (.int j tk) ((intKind prog w).hash j)) Q E s:=by
 obtain⟨o,es,ep,t,ho,wg,hd,wO,yl,hpl,ht⟩:=hX;have hel:=wO.elems;have xN:(C9 (j:Int) tk).scannable=Aa:=rfl;have v8:(intKind prog w).is (j:Int) (.int j tk)=Aa:=JS _ _ _ _;have hsz:=wo hpl;have uO:=ht.few;have hf:t.fits es.size=Aa:=by rw[hsz];exact ht.fits
 have uk:scanBound=4096:=rfl;have hb:es.size<scanBound:=by omega
 unfold setAddHashed setAddHashedIn;refine Cu (Ac (O7 ho hd hf ?_));dsimp only;rw[byScan_of xN hb hel];simp only[↓reduceIte];unfold setAddByScan;refine Ac (Ac (Hh (Ac (wpAny_setScan_of v8 ho hd hf hel ?_))));cases hr:List.findIdx? (λe=>(intKind prog w).is (j:Int) e.2) es.toList with
 |some i =>
  dsimp only;obtain⟨hi,hpi,_⟩:=List.findIdx?_eq_some_iff_getElem.mp hr;have uC:(j:Int)∈L:=by refine yl.mem_iff.mp (Al.mpr ⟨es.toList[i],Gk hi,?_⟩);obtain⟨m,u,e⟩:=wO _ (Gk hi);rw[e]at hpi ⊢;exact VP.mp hpi
  refine Ag (Ag ?_);have e:s={s with heap:=s.heap}:=by cases s;rfl
  have q:=h Ab s.heap (TY a s.heap) ⟨o,es,ep,t,ho,wg,hd,wO,by unfold yf;rw[if_pos (by simpa using uC)];exact yl,hpl,ht⟩;rw[e];exact q
 |none =>
  dsimp only;have tX:∀e∈es.toList,Dm e≠(j:Int):=λe he hv=>by obtain⟨m,u,e1⟩:=wO e he;have no:=List.findIdx?_eq_none_iff.mp hr e he;rw[e1]at no hv;have yes:(intKind prog w).is (j:Int) (.int m u)=Aa:=VP.mpr hv;exact absurd (yes.symm.trans no) (by simp)
  have hnm:(j:Int)∉L:=λhm=>by obtain⟨e,he,hv⟩:=Al.mp (yl.mem_iff.mpr hm);exact tX e he hv
  have hj:j∉t.place.toList:=λhm=>by
   have:(j:Int)∈es.toList.map Dm:=by rw[hpl];exact Al.mpr ⟨j,hm,rfl⟩
   obtain⟨e,he,hv⟩:=Al.mp this;exact tX e he hv
  obtain⟨mk,pl,dm,fg,ld,mv,pn⟩:=t;obtain rfl:pn=Aa:=ht.plain;obtain rfl:dm=#[]:=ht.dum;rw[Ri j h8,d4 ht hsz h8 hj];dsimp only;obtain⟨_,hnj⟩:=Rh ht hj;obtain⟨we,_,_⟩:=NS ht.rise j;have xY:Kb prog w (Bu es (Aq pl j) ((j:Int),C9 j tk)).toList:=λe he=>by
   have:=(J7 _ _ _).mem_iff.mp he;rw[JW]at this;rcases Bg.mp this with q|q
   .exact wO e q
   .exact⟨j,tk,by rw[Ri j h8];exact AW.mp q⟩
  have yR:((Bu es (Aq pl j) ((j:Int),C9 j tk)).toList.map Dm).Perm (yf L j):=by unfold yf;rw[if_neg (by simpa using hnm)];refine((J7 _ _ _).map Dm).trans ?_;rw[JW,BI];exact yl.append_right _
  have xj:(Bu es (Aq pl j) ((j:Int),C9 j tk)).toList.map Dm=(Bu pl (Aq pl j) j).toList.map (λ(j:Nat)=>(j:Int)):=by rw[Ur,Ur,BI,BI,Ak,Ak,List.map_take,List.map_take,List.map_drop,List.map_drop,hpl];rfl
  have vc:(Bu es (Aq pl j) ((j:Int),C9 j tk)).size=es.size+1:=tD _ _ _;generalize hE:Bu es (Aq pl j) ((j:Int),C9 j tk)=wV at xY yR xj vc ⊢;have hz1:wV.size<=sizeLine:=by rw[Bo];omega
  refine Ac (Ag ?_);simp only[↓reduceIte];refine Ac ?_;rw[hashByValue_scannable 8 xN];refine Ag ?_;rw[show plainKind (C9 (j:Int) tk)=Aa from rfl];simp only[↓reduceIte];show wpAny (model prog w) A (do
    storeSet a wV (⟨mk,Bu pl (Aq pl j) j,#[],fg,ld,mv,Aa⟩:SetTable)
    if(!Ab&&Mg (⟨mk,Bu pl (Aq pl j) j,#[],fg,ld,mv,Aa⟩:SetTable))=Aa then _ else _) _ E s
  refine Ac (wpAny_storeSet_of ho hd ?_ hz1);have hsb1:=Fi s.heap a (Ir wV (⟨mk,Bu pl (Aq pl j) j,#[],fg,ld,mv,Aa⟩:SetTable))
  by_cases h4:pl.size=4
  .have hm:mk=7:=by have q:=ht.mask;dsimp only at q;rw[h4]at q;exact q
   have htf:Mg (⟨mk,Bu pl (Aq pl j) j,#[],fg,ld,mv,Aa⟩:SetTable)=Aa:=by unfold Mg L0;simp[tD,h4,ht.dum,hm]
   have hg:(s.heap.update a (Ir wV (⟨mk,Bu pl (Aq pl j) j,#[],fg,ld,mv,Aa⟩:SetTable))).get? a=Z {o with data:=.set wV (ep+1) (⟨mk,Bu pl (Aq pl j) j,#[],fg,ld,mv,Aa⟩:SetTable)}:=by
    have:=Gi (Ir wV (⟨mk,Bu pl (Aq pl j) j,#[],fg,ld,mv,Aa⟩:SetTable)) ho (by rw[putSet_of _ _ hd];rfl)
    rwa [putSet_of _ _ hd]at this
   have hh:wV.map (·.1)=((Bu pl (Aq pl j) j).toList.map (λ(j:Nat)=>(j:Int))).toArray:=by
    apply Array.toList_inj.mp;rw[Array.toList_map,<-xj];refine Fh λe he=>?_;obtain⟨m,u,e1⟩:=xY e he;have hm:m∈wV.toList.map Dm:=Al.mpr ⟨e,he,by rw[e1];rfl⟩;rw[xj]at hm;obtain⟨k,hk,rfl⟩:=Al.mp hm;have hk8:k<8:=by
     have:=(J7 _ _ _).mem_iff.mp hk;rw[JW]at this;rcases Bg.mp this with q|q
     .exact ht.low k q
     .rw[AW.mp q];exact h8
    rw[e1];exact Ri (prog:=prog) (w:=w) k hk8
   obtain⟨t',r1,r2,r3⟩:=iD (b:=!w.params.followText "set-order") (t:=(⟨mk,Bu pl (Aq pl j) j,#[],fg,ld,mv,Aa⟩:SetTable)) (es:=wV) (Yv ht.rise hnj)
    (λk hk=>by
     have:=(J7 _ _ _).mem_iff.mp hk;rw[JW]at this;rcases Bg.mp this with q|q
     .exact ht.low k q
     .rw[AW.mp q];exact h8) (by dsimp only;rw[tD,h4]) hh ht.led ht.plain
   have hgr:SetTable.grown wV.size=20:=by rw[vc,hsz,h4];rfl
   rw[htf];simp only[Bool.not_false,Bool.and_self,↓reduceIte];rw[hgr,r1];dsimp only;refine Ac (Ag (Ac (wpAny_storeSet_of hg rfl ?_ hz1)));obtain⟨_,hS2⟩:=Ym (prog:=prog) (t':=t') hg wg rfl xY yR (by rw[r2];exact xj) r3;exact Ag (Ag (h Aa _ (hsb1.trans (Fi _ a _)) hS2))
  .have htf:Mg (⟨mk,Bu pl (Aq pl j) j,#[],fg,ld,mv,Aa⟩:SetTable)=Ab:=by
    unfold Mg L0;have q:=ht.mask;dsimp only at q;simp only[tD];rw[q];simp;have:=uO;dsimp only at this;split<;>omega
   rw[htf];simp only[TN,DS,↓reduceIte];obtain⟨_,hS1⟩:=Ym (prog:=prog) (t':=(⟨mk,Bu pl (Aq pl j) j,#[],fg,ld,mv,Aa⟩:SetTable)) ho wg hd xY yR xj (ht.ins h8 hj h4);exact Ag (Ag (h Aa _ hsb1 hS1))
end
section
variable{prog:Program}{w:World}{A:Around}{E:Value->Shared->Prop}{s:Shared}
abbrev EV(w:World):Obj:={cls:=.type "set",dict:=J,data:=.set #[] 0 (.fresh 0 0 (!w.params.followText "set-order"))}
theorem nA(v:Value){Q₁:Value->Shared->Prop}(h:Q₁ (.ref s.heap.objs.size) {s with heap:=s.heap.push (EV w)}):codeAny (model prog w) A (.call (.builtin "set.__new__") ⟨[.type "set",v],[]⟩) (wants Q₁ E) s:=by
 refine codeAny_of_tree ?_;show wpAny _ A.in1 (do checkBuiltinCall "set.__new__" ⟨[.type "set",v],[]⟩;again (.builtin "set.__new__" ⟨[.type "set",v],[]⟩)) _ _ s;refine Ac (O1 (PySem.F.newCall_set_1 v) (Ag ⟨He bj _,Ey PySem.F.entry_set_new ?_⟩));rw[Fq bj _];unfold Builtin.«set.__new__» Builtin.Frozenset.newClass;have uZ:=sub_set_self;obtain⟨hp,g,d,tk,os⟩:=s;dsimp only
 wp_walk
 refine Mf (Ag ?_);dsimp only;simp only[newObj];exact Ac (wpAny_alloc (Ag (Ag h)))
theorem gx(h:Heap):Cz prog w (h.push (EV w)) h.objs.size [] :=
 ⟨_,#[],0,_,AZ _ rfl,⟨rfl,rfl,rfl⟩,rfl,λe he=>by simp at he,.nil,rfl,Tab.fresh _⟩
theorem RI:∀(l acc:List Int) (x:Int),HM.tY acc (l++[x])=yf (HM.tY acc l) x
 |[],acc,x=>by show HM.tY acc [x]=yf acc x;unfold HM.tY yf;split<;>rfl
 |y::l,acc,x=>by
  show HM.tY acc (y::(l++[x]))=_;unfold HM.tY;split
  .exact RI l acc x
  .exact RI l _ x
variable{R:Result->Shared->Prop}{I:Addr}{fp wr:List Addr}{G:Array GenState->Array GenState->Prop}{P:Nat->Value->Prop}{St:Nat->Shared->Prop}
theorem jv(W:WalksS prog w A.in1 I fp wr G ns.length P St)(S:Addr)(zk:S∉fp)(hval:∀i v,P i v->∃t,v=.int (ns.getD i 0) t)(hb:∀n∈ns,0<=n/\n<8):∀(k i:Nat) (s:Shared),ns.length-i=k->i<=ns.length->St i s->Cz prog w s.heap S (HM.tY [] (ns.take i)) ->(∀s',Moved (S::wr) G s s'->Cz prog w s'.heap S (HM.tY [] ns)->R (.ok (.ret .none)) s') ->codeAny (model prog w) A (.builtin "set.update.loop" ⟨[.ref S,.ref I],[]⟩) R s:=by
 have hSw:S∉wr:=λh=>zk (W.sub _ h);have uZ:∀b∈wr,b∈S::wr:=λb hb=>Ap _ hb;intro k
 induction k with
 |zero =>
  intro i s hk hi vf hS hR;obtain rfl:i=ns.length:=by omega
  rw[List.take_length]at hS;refine Ey F.entry_set_update_loop ?_;rw[Fq F.plain_set_update_loop _];show wpAny _ A.in1 (pyNext (.ref I) >>= _) _ _ s;refine Ac (W.done s _ _ vf λs' hm=>?_);show wpAny _ A.in1 (ret AM) _ _ s';exact Ag (hR s' (hm.mono uZ) (hS.at' λo e=>hm.heap S o hSw e))
 |succ k ih =>
  intro i s hk hi vf hS hR;have tu:i<ns.length:=by omega
  refine Ey F.entry_set_update_loop ?_;rw[Fq F.plain_set_update_loop _];show wpAny _ A.in1 (pyNext (.ref I) >>= _) _ _ s;refine Ac (W.item i s _ _ tu vf λv s' hP hst' hm=>?_);obtain⟨t,rfl⟩:=hval i v hP;have hS':=hS.at' (h':=s'.heap) λo e=>hm.heap S o hSw e;show wpAny _ A.in1 (holding [C9 (ns.getD i 0) t] (setAdd S (.int (ns.getD i 0) t)) >>= _) _ _ s';refine Ac (Cu ?_);unfold setAdd;refine Cu (Ac ((intKind prog w).pyHash (k:=ns.getD i 0) (JS _ _ _ _) ?_));have hbi:=hb (ns.getD i 0) (by rw[Bn,A2 tu];exact Gk tu);obtain⟨j,ej⟩:∃j:Nat,ns.getD i 0=(j:Int):=⟨(ns.getD i 0).toNat,by omega⟩;have e:yf (HM.tY [] (ns.take i)) (ns.getD i 0)=HM.tY [] (ns.take (i+1)):=by rw[<-RI,List.take_succ,Bn];simp[tu]
  rw[ej]at e hbi ⊢;refine iP (s:={s' with toks:=s'.toks+1}) (by omega) hS' λb h' uk hS2=>?_;rw[e]at hS2;refine Ag ⟨He F.plain_set_update_loop _,ih (i+1) _ (by omega) tu (W.frame _ s' _ _ hst' (Nat.le_succ _) λb hb o e=>?_) hS2 λs'' hm'' hS''=>?_⟩
  .rw[uk.2 b (λh:b=S=>zk (by rw[<-h];exact hb))];exact e
  .refine hR s'' (Moved.trans W.gtrans ((hm.mono uZ).then_heap (Nat.le_succ _) λb o hb e=>?_) hm'') hS''
   rw[uk.2 b (λh:b=S=>hb (by rw[h];exact Am))];exact e
set_option maxHeartbeats 3200000 in
theorem kg{l:Addr}{items:Array Value}{Q:Value->Shared->Prop}(hh:A.handled=J)(hl:s.heap.IsList l items)(hi:IntsAre items.toList ns)(hb:∀n∈ns,0<=n/\n<8)(h:∀(h':Heap) (tk:Nat),Cz prog w h' s.heap.objs.size (HM.tY [] ns)->(∀b o,b<s.heap.objs.size->s.heap.get? b=Z o->h'.get? b=Z o)->Q (.ref s.heap.objs.size) {s with heap:=h',toks:=tk}):wpAny (model prog w) A (call (.type "set") [.ref l]) Q E s:=by
 have hsz:items.size=ns.length:=by rw[<-hi.length,BB]
 obtain⟨c,tl,hmro⟩:=Hn.mro;have hmade:=Hn.made;have uZ:=Hn.sub;refine LV (codeAny_of_tree ?_);show wpAny _ _ (callAny (.type "set") _) _ _ _;refine Ag ⟨Code.quiet_builtin _ (by decide +kernel),Ey PySem.F.entry_type_call ?_⟩;rw[Around.under_plain (weight_type_call_type "set" [.ref l] []) rfl];have h1:=Hn.notType;have h2:=Hn.canCreate;have hct:=PySem.F.typeCall_set_1 (.ref l)
 repeat (any_goals (first|assumption|wp_step))
 refine Fm (nA (.ref l) (E:=E) (Q₁:=λobj s₁=>obj=.ref s.heap.objs.size/\s₁={s with heap:=s.heap.push (EV w)}) ⟨rfl,rfl⟩) λr s₁ hr=>?_;cases r with
 |error e=>exact hr
 |ok fl =>
  cases fl with
  |ret obj =>
   obtain⟨rfl,rfl⟩:=hr;have hX:=gx (prog:=prog) (w:=w) s.heap;have hS:(s.heap.push (EV w)).get? s.heap.objs.size=Z (EV w):=AZ _ rfl;have hT:Shared.TypeIs {s with heap:=s.heap.push (EV w)} (.ref s.heap.objs.size) "set":=⟨_,hS,rfl⟩;have hli:=Hn.init.lookup;have hbi:=Hn.init.bind (.ref s.heap.objs.size)
   repeat (any_goals (first|assumption|wp_step))
   refine Fm (codeAny_call_builtin (R:=wants (λr s₂=>r=.none/\∃h' tk,s₂={s with heap:=h',toks:=tk}/\Cz prog w h' s.heap.objs.size (HM.tY [] ns) /\
     (∀b o,b<s.heap.objs.size->s.heap.get? b=Z o->h'.get? b=Z o)) E) Hn.init.plain PySem.F.entry_set_init (check_set_init_1 hT ?_)) λr₂ s₂ hr₂=>?_
   .obtain⟨⟨ocls,odict,odata,yY⟩,zb,tZ,nl,zH⟩:=hl
    simp only at tZ zH;subst tZ;subst zH;have hol':(s.heap.push (EV w)).get? l=Z {cls:=.type "list",dict:=odict,data:=.seq items nl,slots:=yY}:=Ar _ zb;have hsls:=PySem.F.sub_list_set;have hslf:=PySem.F.sub_list_frozenset;have tX:(Gf "list" == Gf "dict")=Ab:=by decide
    have w8:(s.heap.push (EV w)).IsList l items:=⟨_,hol',rfl,nl,rfl⟩;unfold Builtin.«set.__init__» noKeywords Builtin.Frozenset.updateFrom;generalize hPI:pyIter=PI
    wp_walk
    subst hPI;refine TZ w8 (Ac (wpAny_runValue ?_));have hlS:l<s.heap.objs.size:=Ao zb;have hh3:A.in1.in1.in1.handled=J:=by simp[hh]
    have hneI:l≠(s.heap.push (EV w)).objs.size:=by rw[IB];exact As (Mj hlS)
    have zk:s.heap.objs.size∉[(s.heap.push (EV w)).objs.size,l]:=by rw[IB];simp only[AE,AW,Ue,or_false,not_or];exact⟨As (IQ _),II hlS⟩
    have Wl:=(Walks.list (prog:=prog) (w:=w) hh3 _ l hneI items).toS;rw[hsz]at Wl;refine jv Wl s.heap.objs.size zk (λi v hv=>IntsAre.int_at hi i v (by rw[Ek];exact hv)) hb (ns.length-0) 0 _ (by omega) (BY _)
     ⟨⟨_,AZ _ rfl,rfl,rfl⟩,w8.push _⟩ (hX.at' λo e=>Ar _ e) λs' hm hS'=>?_
    obtain⟨h',g',d',tk',os'⟩:=s';have eg:g'=s.gens:=hm.gens;have ed:d'=s.drawn:=hm.drawn;have eo:os'=s.os:=hm.os;subst eg;subst ed;subst eo
    show wpAny _ _ _ _ _ _;refine Ag ?_;show wpAny _ _ (ret AM) _ _ _;refine Ag ⟨rfl,h',tk',rfl,hS',λb o hb e=>?_⟩;refine hm.heap b o ?_ (Ar _ (Ar _ e));simp only[AE,AW,Ue,or_false,not_or];exact⟨As hb,by rw[IB];exact As (Mj hb)⟩
   .cases r₂ with
    |error e=>exact hr₂
    |ok fl₂ =>
     cases fl₂ with
     |ret r =>
      obtain⟨rfl,h',tk,rfl,hS',hk'⟩:=hr₂
      repeat (any_goals (first|assumption|wp_step))
      exact h _ _ hS' hk'
     |_=>exact hr₂.elim
  |_=>exact hr.elim
end
end
theorem JG:Slot "set_iterator" "__next__" "set_iterator.__next__" :=
 .of (owner:="set_iterator") (n:="__next__") (by rw[typeLookup_type,builtinLookup_eq_fast];kernel_rfl) (by decide +kernel) (by decide +kernel) (by decide +kernel)
  (by first|exact .inl (by decide +kernel)|exact .inr (by decide +kernel)) (by rw[isSubtype_type];kernel_rfl)
theorem Y1:entryFor table "set_iterator.__next__"=Z Builtin.«set_iterator.__next__»:=entryFor_of_tree (by kernel_rfl)
theorem YN:Slot "set_iterator" "__iter__" "set_iterator.__iter__" :=
 .of (owner:="set_iterator") (n:="__iter__") (by rw[typeLookup_type,builtinLookup_eq_fast];kernel_rfl) (by decide +kernel) (by decide +kernel) (by decide +kernel)
  (by first|exact .inl (by decide +kernel)|exact .inr (by decide +kernel)) (by rw[isSubtype_type];kernel_rfl)
theorem ny:entryFor table "set_iterator.__iter__"=Z Builtin.«dict_keyiterator.__iter__» :=
 entryFor_alias (id':="dict_keyiterator.__iter__") (by kernel_rfl) rfl (by decide +kernel) (by kernel_rfl)
theorem oJ:entryFor table "set.__iter__"=Z Builtin.«frozenset.__iter__» :=
 entryFor_alias (id':="frozenset.__iter__") (by kernel_rfl) rfl (by decide +kernel) (by kernel_rfl)
theorem Xj:Manifest.owners.lookup (String.ofList ['r','o','t','a','r','e','t','i','_','t','e','s'].reverse)=Z Manifest.sig_set_iterator:=by kernel_rfl
theorem YL(a:Value):argsOk "set_iterator.__next__" ⟨[a],[]⟩:=by unfold argsOk;rw[signature?_of (id:="set_iterator.__next__") (n:=['_','_','t','x','e','n','_','_']) (o:=['r','o','t','a','r','e','t','i','_','t','e','s']) (by kernel_rfl) Xj];kernel_rfl
theorem mi(a:Value):argsOk "set_iterator.__iter__" ⟨[a],[]⟩:=by unfold argsOk;rw[signature?_of (id:="set_iterator.__iter__") (n:=['_','_','r','e','t','i','_','_']) (o:=['r','o','t','a','r','e','t','i','_','t','e','s']) (by kernel_rfl) Xj];kernel_rfl
theorem Yd{α:Type}:∀(l:List α) (i:Nat) (h:i<l.length),(l[i]::l.eraseIdx i).Perm l
 |x::l,0,_=>.refl _
 |x::l,i+1,h=>by
  have h':i<l.length:=by simpa using h
  show(l[i]::x::l.eraseIdx i).Perm (x::l);exact(List.Perm.swap x l[i] _).trans ((Yd l i h').cons x)
theorem XH{α:Type}(next:Nat->Nat):∀(n k:Nat) (left:List α) (out:Array α),left.length=n->(LY.go next n k left out).toList.Perm (out.toList++left)
 |0,k,left,out,h=>by rw[Mp h,B6];exact .refl _
 |n+1,k,left,out,h=>by
  have hl:next k%left.length<left.length:=Nat.mod_lt _ (by omega)
  unfold LY.go;rw[A2 hl];dsimp only;refine(XH next n (k+1) _ _ (by rw[List.length_eraseIdx_of_lt hl];omega)).trans ?_
  rw[JW,Ff];refine List.Perm.append_left _ ?_;exact Yd left _ hl
theorem oP{α:Type}(next:Nat->Nat)(xs:Array α):(LY next xs).toList.Perm xs.toList:=by
 have:=XH next xs.size 0 xs.toList #[] (by simp)
 simpa [LY]using this
section
variable{a it:Addr}{h h':Heap}{ep i n slot:Nat}{Q:Value->Shared->Prop}
structure UT(b:Bool)(t:SetTable):Prop where
 rise:D2 t.place
 led:t.led=b
 plain:t.plain=Aa
theorem Tab.w{b:Bool}{t:SetTable}(h:Tab b t):UT b t:=⟨h.rise,h.led,h.plain⟩
structure Dl(w:World)(h:Heap)(a:Addr)(es:Array (Int×Value))(ep:Nat)(t:SetTable):Prop where
 obj:∃o,h.get? a=Z o/\o.ExactSet/\o.data=.set es ep t
 fit:t.fits es.size=Aa
 siz:es.size=t.place.size
 tab:UT (!w.params.followText "set-order") t
theorem Dl.at'{w:World}{es:Array (Int×Value)}{t:SetTable}(x:Dl w h a es ep t)(k:∀o,h.get? a=Z o->h'.get? a=Z o):Dl w h' a es ep t :=
 ⟨let ⟨o,e,r⟩:=x.obj;⟨o,k o e,r⟩,x.fit,x.siz,x.tab⟩
def CP(w:World)(a:Addr)(es:Array (Int×Value))(ep:Nat):Array (Int×Value):=if w.params.followText "set-order" then LY (w.params.setOrder a ep) es else es
theorem Ry(w:World)(a:Addr)(es:Array (Int×Value))(ep:Nat):(CP w a es ep).toList.Perm es.toList:=by
 unfold CP;split
 .exact oP _ _
 .exact .refl _
theorem Rm(w:World)(a:Addr)(es:Array (Int×Value))(ep:Nat):(CP w a es ep).size=es.size:=by have:=(Ry w a es ep).length_eq;simpa using this
def EM(h:Heap)(it a:Addr)(slot i n ep:Nat):Prop:=∃o,h.get? it=Z o/\o.cls=.type "set_iterator"/\o.data=.fields #[.int slot 0,.int i 0,.ref a,.int n 0,.int ep 0]
theorem EM.typeIs{s:Shared}(x:EM s.heap it a slot i n ep):s.TypeIs (.ref it) "set_iterator":=let ⟨o,ho,hc,_⟩:=x;⟨o,ho,hc⟩
theorem EM.at'(x:EM h it a slot i n ep)(k:∀o,h.get? it=Z o->h'.get? it=Z o):EM h' it a slot i n ep:=let ⟨o,e,r⟩:=x;⟨o,k o e,r⟩
section
variable{prog:Program}{w:World}{A:Around}{E:Value->Shared->Prop}{s:Shared}{it a:Addr}{es:Array (Int×Value)}{ep:Nat}{t:SetTable}
theorem iH(x:Dl w s.heap a es ep t)(hQ:Q (.ref s.heap.objs.size) {s with heap:=s.heap.push {cls:=.type "set_iterator",data:=.fields #[.int 0 0,.int 0 0,.ref a,.int es.size 0,.int ep 0]}}):wpAny (model prog w) A (pyIter (.ref a)) Q E s:=by
 obtain⟨o,ho,wg,hd⟩:=x.obj;have hT:s.TypeIs (.ref a) "set":=⟨o,ho,wg.1⟩;refine TV hT bh (En bh hT oJ ?_ (PySem.F.args_set_iter_1 _));unfold Builtin.«frozenset.__iter__» Builtin.Frozenset.slot0 slotArgs Builtin.Frozenset.addrOf Builtin.Frozenset.sizeOf;refine Ac (Ac (Ag (Ag ?_)));dsimp only;refine Ac (Ac (Uy ho hd x.fit (Ag ?_)));have hdr:∀{R:Bool->Shared->Prop} {A':Around} {E':Value->Shared->Prop},R Ab s->wpAny (model prog w) A' (setDrawn a) R E' s:=λ{R A' E'} hR=>by unfold setDrawn setsByText;refine Ac (O7 ho hd x.fit (Ac (Ac (Mf (Ag (Ag ?_))))));obtain⟨mk,pl,dm,fg,ld,mv,pn⟩:=t;obtain rfl:pn=Aa:=x.tab.plain;show R (!_&&(!Aa&&_)) s;simpa using hR
 refine Ac (hdr ?_);rw[if_neg (by simp)];refine Ac (Ag (Ac (wpAny_setEpoch_of ho hd x.fit ?_)));show wpAny (model prog w) A.in1 (newFields "set_iterator" [rawInt 0,rawInt 0,Bb a,rawInt (es.size:Int),rawInt (ep:Int)] >>= _) _ E s;refine Ac (DU (Ag ⟨_,rfl,"set_iterator",_,⟨_,AZ _ rfl,rfl⟩,JG.lookup,?_⟩));simpa [rawInt]using hQ
theorem Yz{R:Option (Value×Nat)->Shared->Prop}(x:Dl w s.heap a es ep t)(hs:w.params.followText "set-order"=Ab->Aq t.place slot=i)(hR:R ((CP w a es ep)[i]?.map λe=>(e.2,if w.params.followText "set-order" then slot else t.place.getD i 0+1)) s):wpAny (model prog w) A (setNext a slot i ep) R E s:=by
 obtain⟨o,ho,wg,hd⟩:=x.obj;unfold setNext setsByText;refine Ac (O7 ho hd x.fit ?_);dsimp only;refine Ac (Ac (Mf (Ag ?_)));dsimp only;cases hb:w.params.followText "set-order" with
 |true=>have hb':(model prog w).w.params.followText "set-order"=Aa:=hb;rw[hb',if_pos rfl];unfold CP at hR;rw[hb,if_pos rfl]at hR;simp only[if_pos]at hR;refine IC (λq=>absurd q (by simp)) λ_=>?_;unfold setWalk setsByText;refine Ac (Ac (O7 ho hd x.fit ?_));dsimp only;refine Ac (Ac (Mf (Ag ?_)));dsimp only;rw[hb',if_pos rfl];exact Ac (Mf (Ag (Ag hR)))
 |false =>
  have hb':(model prog w).w.params.followText "set-order"=Ab:=hb;rw[hb',if_neg (by simp)];unfold CP at hR;rw[hb]at hR;simp only[DS,if_false]at hR;have hi:=hs hb;have uH:t.led=Aa:=by rw[x.tab.led,hb];rfl
  have hsz:=x.siz;obtain⟨mk,pl,dm,fg,ld,mv,pn⟩:=t;obtain rfl:pn=Aa:=x.tab.plain;obtain rfl:ld=Aa:=uH;refine IC (λq=>absurd (show(!Aa&&_)=Aa from q) (by simp)) λ_=>?_;refine Ac ?_;refine IC (λq=>absurd (show(!Aa&&_)=Aa from q) (by simp)) λ_=>?_;refine Ag ?_;dsimp only at hi hsz ⊢;rw[hi];refine Ag ?_
  by_cases tu:i<es.size
  .have h1:es[i]?=Z es[i]:=Px tu
   have h2:pl[i]?=Z (pl.getD i 0):=by simp[DR,show i<pl.size by omega]
   rw[h1]at hR ⊢;rw[h2];exact hR
  .have h1:es[i]?=J:=Uk (by omega)
   rw[h1]at hR ⊢;exact hR
theorem jh{e:Int×Value}{Q:Option Value->Shared->Prop}(uK:EM s.heap it a slot i es.size ep)(x:Dl w s.heap a es ep t)(hs:w.params.followText "set-order"=Ab->Aq t.place slot=i)(he:(CP w a es ep)[i]?=Z e)(hQ:∀h',EM h' it a (if w.params.followText "set-order" then slot else t.place.getD i 0+1) (i+1) es.size ep->EB it s.heap h'->Q (Z e.2) {s with heap:=h'}):wpAny (model prog w) A (pyNext (.ref it)) Q E s:=by
 obtain⟨o,ho,hc,hd⟩:=id uK;obtain⟨os,hos,wg,sW⟩:=x.obj;unfold pyNext;refine Ac (LZ (wpAny_callSpecial?_slot (name:=C8 "__next__") uK.typeIs JG
  (En JG uK.typeIs Y1 ?_ (YL _))))
 unfold Builtin.«set_iterator.__next__» slotArgs;refine Ac (Ag ?_);dsimp only;refine Ac (Pp ho hd ?_);dsimp only;refine Ac (Uy hos sW x.fit ?_);refine IC (λq=>absurd q (by simp)) λ_=>?_;simp only[Mi];refine Ac (Yz x hs ?_);rw[he];dsimp only[Option.map_some];refine Ac (L5 ho hd (by simp) ?_);have g1:(s.heap.update it (TJ (·.setIfInBounds 0 (rawInt ((if w.params.followText "set-order"=Aa then slot else t.place.getD i 0+1:Nat):Int))))).get? it=Z _:=Gi _ ho (UD (Hm hd _));refine Ac (L5 g1 (Hm hd _) (by simp) ?_);refine Ag ⟨_,rfl,Ag (hQ _ ⟨_,Gi _ g1 (UD (Hm (Hm hd _) _)),?_,?_⟩ ((Fi ..).trans (Fi ..)))⟩
 .rw[TU,TU];exact hc
 .rw[Hm (Hm hd _)];simp[rawInt]
theorem ia{Q:Option Value->Shared->Prop}(hh:A.handled=J)(uK:EM s.heap it a slot i es.size ep)(x:Dl w s.heap a es ep t)(hs:w.params.followText "set-order"=Ab->Aq t.place slot=i)(he:es.size<=i)(hQ:∀h',Heap.ExtBut it s.heap h'->Q J {s with heap:=h'}):wpAny (model prog w) A (pyNext (.ref it)) Q E s:=by
 obtain⟨o,ho,hc,hd⟩:=id uK;obtain⟨os,hos,wg,sW⟩:=x.obj;have hn:(CP w a es ep)[i]?=J:=Uk (by rw[Rm];exact he);unfold pyNext;refine Ac (LZ (wpAny_callSpecial?_slot (name:=C8 "__next__") uK.typeIs JG
  (En JG uK.typeIs Y1 ?_ (YL _))))
 unfold Builtin.«set_iterator.__next__» slotArgs;refine Ac (Ag ?_);dsimp only;refine Ac (Pp ho hd ?_);dsimp only;refine Ac (Uy hos sW x.fit ?_);refine IC (λq=>absurd q (by simp)) λ_=>?_;simp only[Mi];refine Ac (Yz x hs ?_);rw[hn];dsimp only[Option.map_none];refine Ac (L5 ho hd (by simp) ?_);refine Ac ?_;simp only[newExc,newTuple];refine Ac (DU ?_ (by size_fits));refine Ac (m:=Po _ _) (O1 (a:=AM) (by first|rfl|(simp only[Po];rfl)) ?_)
 refine DU ?_ (by size_fits);simp only[raiseNew];refine Ac (wpAny_handled ?_);rw[show A.in1.handled=J from hh];refine Ac (Ag (wpAny_throw ?_));refine Ac (Pj (T:="StopIteration") (b:=Aa) ⟨_,AZ _ rfl,rfl⟩ isSubtype_stop ?_);exact Ag (hQ _ (((Fi ..).extBut.push _).push _))
theorem gz(uK:EM s.heap it a slot i n ep)(h:Q (.ref it) s):wpAny (model prog w) A (pyIter (.ref it)) Q E s:=by refine TV uK.typeIs YN (En YN uK.typeIs ny ?_ (mi _));show wpAny _ _ (ret (.ref it)) _ _ s;exact Ag ⟨_,rfl,"set_iterator",_,uK.typeIs,JG.lookup,h⟩
theorem jr(hh:A.handled=J)(I a:Addr)(tX:a≠I)(es:Array (Int×Value))(ep:Nat)(t:SetTable):Walks prog w A I [I,a] [I] es.size (λi v=>∃e,(CP w a es ep)[i]?=Z e/\v=e.2) (λi h=>∃slot,EM h I a slot i es.size ep/\Dl w h a es ep t/\(w.params.followText "set-order"=Ab->Aq t.place slot=i)) where
 sub:=λb hb=>by simp at hb;simp[hb]
 frame:=λ_ _ _ ⟨slot,h1,h2,h3⟩ hk=>⟨slot,h1.at' λo e=>hk I (by simp) o e,h2.at' λo e=>hk a (by simp) o e,h3⟩
 item:=λi s Q E hi ⟨slot,h1,h2,h3⟩ hQ=>by
  have tu:i<(CP w a es ep).size:=by rw[Rm];exact hi
  have hx:(CP w a es ep)[i]?=Z (CP w a es ep)[i]:=Px tu;refine jh h1 h2 h3 hx λh' hit' hs'=>?_;refine hQ _ h' s.toks ⟨_,hx,rfl⟩ ⟨_,hit',h2.at' λo e=>hs'.extBut a o tX e,λhb=>?_⟩ λb o hb e=>hs'.extBut b o (λh=>hb (by simp[h])) e;rw[hb];exact k6 h2.tab.rise (by rw[<-h2.siz];exact hi)
 done:=λs Q E ⟨slot,h1,h2,h3⟩ hQ=>ia hh h1 h2 h3 (Aj _) λh' he'=>hQ h' s.toks λb o hb e=>he' b o (λh=>hb (by simp[h])) e
 self:=λ_ _ _ _ ⟨slot,h1,_⟩ hQ=>gz h1 hQ
end
end
end HP
namespace HP
open PySem PySem.W PyProof.Rows
variable{p:Array Nat}{h:Heap}{ep i j m n:Nat}{Q:Nat×Array Nat->Prop}
section
variable{α β:Type}
def B0(o:Nat->Nat->Bool)(n:Nat):KasT α->(α->Prop)->Prop
 | .ret a,Q=>Q a
 | .ask i j k,Q=>i<n/\j<n/\B0 o n (k (o i j)) Q
theorem B0.bnd{o:Nat->Nat->Bool}{n:Nat}{f:α->KasT β}{Q:β->Prop}:∀(t:KasT α),B0 o n t (λa=>B0 o n (f a) Q)->B0 o n (t.bind f) Q
 | .ret a,h=>h
 | .ask i j k,h=>⟨h.1,h.2.1,B0.bnd (k (o i j)) h.2.2⟩
end
structure Pm(n:Nat)(p:Array Nat):Prop where
 pos:0<n
 perm:p.Perm (List.toArray (Ah n))
theorem Pm.size{n:Nat}{p:Array Nat}(h:Pm n p):p.size=n:=by have:=h.perm.size_eq;simpa using this
theorem Pm.lt(h:Pm n p)(i:Nat):p.getD i 0<n:=by
 by_cases hi:i<p.size
 .have e:p.getD i 0=p[i]:=by simp[DR,hi]
  rw[e];have:=(UG.mp h.perm).mem_iff (a:=p[i]);have h2:=this.mp (by simp);simpa using h2
 .have e:p.getD i 0=0:=by simp[DR,hi]
  rw[e];exact h.pos
theorem Pm.rev(h:Pm n p)(i j:Nat):Pm n (kas_rev p i j):=⟨h.pos,(mirror_perm _ _ _ _).trans h.perm⟩
theorem Pm.bub(h:Pm n p)(i j:Nat):Pm n (bubble p i j):=⟨h.pos,(bubble_perm _ _ _).trans h.perm⟩
theorem t8(p:Array Nat)(i:Nat):p.getD i 0=(p[i]?).getD 0:=by simp[Array.getD_eq_getD_getElem?]
section
variable(O:KeyOrd)(key:Nat->O.α)
def Ka(p:Array Nat)(i:Nat):O.α:=key (p.getD i 0)
def Up(p:Array Nat)(k:Nat):Prop:=∀i j,i<=j->j<k->O.kle (Ka O key p i) (Ka O key p j)
def Dn(p:Array Nat)(k:Nat):Prop:=∀i j,i<=j->j<k->O.kle (Ka O key p j) (Ka O key p i)
def Ev(p:Array Nat)(m q:Nat):Prop:=∀i,m-(q+1)<=i->i<m->Ka O key p i=Ka O key p (m-1)
abbrev xw:Nat->Nat->Bool:=λi j=>O.blt (key i) (key j)
variable{O key}{p:Array Nat}{n:Nat}
theorem P9(hj:j<=p.size)(k:Nat):Ka O key (kas_rev p i j) k=if i<=k/\k<j then Ka O key p (i+j-1-k)else Ka O key p k:=by unfold Ka kas_rev;rw[t8,getElem?_mirror_all hj];split<;>rw[<-t8]
theorem Q8(hj:j<=p.size)(h:∀k,i<=k->k<j->Ka O key p k=Ka O key p (j-1))(k:Nat):Ka O key (kas_rev p i j) k=Ka O key p k:=by
 rw[P9 hj];split
 .rename_i hk
  rw[h _ (by omega) (by omega),h k hk.1 hk.2]
 .rfl
theorem Vz{s d:Nat}(hs:s<p.size)(hd:d<=s)(k:Nat):Ka O key (bubble p s d) k=if k=s-d then Ka O key p s else if s-d<k/\k<=s then Ka O key p (k-1)else Ka O key p k:=by
 unfold Ka;rw[t8,getElem?_bubble hs d hd]
 by_cases h1:k=s-d
 .rw[if_pos h1,if_pos h1,<-t8]
 .rw[if_neg h1,if_neg h1]
  by_cases h2:s-d<k/\k<=s
  .rw[if_pos h2,if_pos h2,<-t8]
  .rw[if_neg h2,if_neg h2,<-t8]
theorem Up.one:Up O key p 1:=λi j h1 h2=>by
 obtain rfl:i=j:=by omega
 exact J4 _
theorem Up.more{k:Nat}(h:Up O key p k)(hl:O.kle (Ka O key p (k-1)) (Ka O key p k)):Up O key p (k+1):=λi j h1 h2=>by
 by_cases hj:j<k
 .exact h i j h1 hj
 obtain rfl:j=k:=by omega
 by_cases hi:i=j
 .subst hi;exact J4 _
 .exact Ph (h i (j-1) (by omega) (by omega)) hl
theorem Dn.more{k:Nat}(h:Dn O key p k)(hl:O.kle (Ka O key p k) (Ka O key p (k-1))):Dn O key p (k+1):=λi j h1 h2=>by
 by_cases hj:j<k
 .exact h i j h1 hj
 obtain rfl:j=k:=by omega
 by_cases hi:i=j
 .subst hi;exact J4 _
 .exact Ph hl (h i (j-1) (by omega) (by omega))
theorem Dn.same{p':Array Nat}{k:Nat}(h:Dn O key p k)(e:∀i,Ka O key p' i=Ka O key p i):Dn O key p' k:=λi j h1 h2=>by rw[e,e];exact h i j h1 h2
theorem QH(hp:Pm n p){Q:Nat->Prop}:∀(f m:Nat),Up O key p m->(∀m',m<=m'->m'<=m+f->Up O key p m'->(m'=m+f\/O.klt (Ka O key p m') (Ka O key p (m'-1)))->Q m')->B0 (xw O key) n (kas_asc p f m) Q
 |0,m,hu,hq=>hq m (Aj _) (by omega) hu (.inl rfl)
 |f+1,m,hu,hq=>by
  refine⟨hp.lt _,hp.lt _,?_⟩;dsimp only;split
  .rename_i h
   exact hq m (Aj _) (by omega) hu (.inr h)
  .rename_i h
   refine QH hp f (m+1) (hu.more (Md h)) λm' h1 h2 h3 h4=>hq m' (by omega) (by omega) h3 (h4.imp (λe=>by omega) id)
theorem NG{Q:Array Nat×Nat×Nat->Prop}:∀(f:Nat) (p:Array Nat) (m q:Nat),Pm n p->Dn O key p m->q+1<=m->Ev O key p m q->m+f<=n ->(∀p' m' q',Pm n p'->m<=m'->m'<=m+f->Dn O key p' m'->q'+1<=m'->Ev O key p' m' q'->Q (p',m',q'))->B0 (xw O key) n (kas_desc f p m q) Q
 |0,p,m,q,hp,hd,h1,he,hn,hq=>hq p m q hp (Aj _) (by omega) hd h1 he
 |f+1,p,m,q,hp,hd,h1,he,hn,hq=>by
  have hz:m<=p.size:=by rw[hp.size];omega
  have e0:∀p',Ev O key p' (m+1) 0:=λp' i h1 h2=>by congr 1;omega
  refine⟨hp.lt _,hp.lt _,?_⟩;dsimp only;split
  .rename_i h
   have hd':=hd.more (O6 h);split
   .exact NG f _ (m+1) 0 (hp.rev _ _) (hd'.same (Q8 hz he)) (by omega) (e0 _) (by omega) λp' m' q' a b c d e g=>hq p' m' q' a (by omega) (by omega) d e g
   .exact NG f _ (m+1) 0 hp hd' (by omega) (e0 _) (by omega) λp' m' q' a b c d e g=>hq p' m' q' a (by omega) (by omega) d e g
  .rename_i h
   refine⟨hp.lt _,hp.lt _,?_⟩;dsimp only;split
   .exact hq p m q hp (Aj _) (by omega) hd h1 he
   .rename_i h'
    have l1:=Md h;have l2:=Md h';have ee:Ka O key p m=Ka O key p (m-1):=aW l2 l1;refine NG f p (m+1) (q+1) hp (hd.more l2) (by omega) (λi a b=>?_) (by omega) λp' m' q' a b c d e g=>hq p' m' q' a (by omega) (by omega) d e g;rw[show m+1-1=m by omega]
    by_cases hi:i=m
    .rw[hi]
    .rw[ee];exact he i (by omega) (by omega)
theorem X6(hp:Pm n p)(hd:Dn O key p m)(h1:1<=m)(hm:m<=n)(hq:∀m' p',1<=m'->m'<=n->Pm n p'->Up O key p' m'->Q (m',p')):B0 (xw O key) n (kas_tail3 m n p) Q:=by
 have hz:m<=p.size:=by rw[hp.size];omega
 refine B0.bnd _ (QH (hp.rev 0 m) (n-m) m (λi j a b=>?_) λm' a b c _=>hq m' _ (by omega) (by omega) (hp.rev 0 m) c);rw[P9 hz,P9 hz,if_pos (by omega),if_pos (by omega)];exact hd _ _ (by omega) (by omega)
theorem X5(hp:Pm n p)(hd:Dn O key p (m+1))(hm:m+1<=n)(hq:∀m' p',1<=m'->m'<=n->Pm n p'->Up O key p' m'->Q (m',p')):B0 (xw O key) n (kas_descPart m n p) Q:=by
 refine B0.bnd _ (NG (n-(m+1)) p (m+1) 0 hp hd (by omega) (λi a b=>by congr 1;omega) (by omega) λp' m' q' h1 h2 h3 h4 h5 h6=>?_);have hz:m'<=p'.size:=by rw[h1.size];omega
 dsimp only;split
 .exact X6 (h1.rev _ _) (h4.same (Q8 hz h6)) (by omega) (by omega) hq
 .exact X6 h1 h4 (by omega) (by omega) hq
theorem kI(hp:Pm n p)(hq:∀m' p',1<=m'->m'<=n->Pm n p'->Up O key p' m'->Q (m',p')):B0 (xw O key) n (kas_count n p) Q:=by
 have h0:=hp.pos;refine B0.bnd _ (QH hp (n-1) 1 Up.one λm h1 h2 h3 h4=>?_);have hz:m<=p.size:=by rw[hp.size];omega
 split
 .exact hq m p (by omega) (by omega) hp h3
 .rename_i tX
  have hne':m≠n:=by simpa using tX
  have tu:O.klt (Ka O key p m) (Ka O key p (m-1)):=h4.resolve_left (by omega);split
  .rename_i hm
   refine⟨hp.lt _,hp.lt _,?_⟩;dsimp only;split
   .exact hq m p (by omega) (by omega) hp h3
   .rename_i hr
    have hr':O.kle (Ka O key p (m-1)) (Ka O key p 0):=Md hr;have all:∀k,0<=k->k<m->Ka O key p k=Ka O key p (m-1):=λk _ hk=>aW (h3 k (m-1) (by omega) (by omega)) (Ph hr' (h3 0 k (by omega) hk));refine X5 (hp.rev _ _) (Dn.same ?_ (Q8 hz all)) (by omega) hq;refine Dn.more (λi j a b=>?_) (O6 tu);rw[all i (by omega) (by omega),all j (by omega) b];exact J4 _
  .obtain rfl:m=1:=by omega
   refine X5 hp (Dn.more (λi j a b=>?_) (O6 tu)) (by omega) hq;obtain rfl:i=j:=by omega
   exact J4 _
theorem Rj{Q:Nat->Prop}{k:Nat}(hp:Pm n p)(hu:Up O key p k):∀(f l r:Nat),l<=r->r<=k->r-l<=f->(∀i,i<l->O.kle (Ka O key p i) (Ka O key p k))->(∀i,r<=i->i<k->O.klt (Ka O key p k) (Ka O key p i)) ->(∀l,l<=k->(∀i,i<l->O.kle (Ka O key p i) (Ka O key p k))->(∀i,l<=i->i<k->O.klt (Ka O key p k) (Ka O key p i))->Q l)->B0 (xw O key) n (kas_place p k f l r) Q
 |0,l,r,h1,h2,h3,lo,hi,hq=>by
  obtain rfl:l=r:=by omega
  exact hq l h2 lo hi
 |f+1,l,r,h1,h2,h3,lo,hi,hq=>by
  unfold kas_place;split
  .obtain rfl:l=r:=by omega
   exact hq l h2 lo hi
  .refine⟨hp.lt _,hp.lt _,?_⟩
   dsimp only;split
   .rename_i h
    exact Rj hp hu f l ((l+r) / 2) (by omega) (by omega) (by omega) lo (λi a b=>KeyOrd.klt_of_klt_of_kle h (hu _ _ a b)) hq
   .rename_i h
    refine Rj hp hu f ((l+r) / 2+1) r (by omega) (by omega) (by omega) (λi a=>Ph (hu i ((l+r) / 2) (by omega) (by omega)) (Md h)) hi hq
theorem WI{Q:Array Nat->Prop}:∀(f:Nat) (p:Array Nat) (k:Nat),Pm n p->Up O key p k->k+f=n->(∀p',Pm n p'->Up O key p' n->Q p')->B0 (xw O key) n (kas_bin f p k) Q
 |0,p,k,hp,hu,hn,hq=>by
  obtain rfl:k=n:=by omega
  exact hq p hp hu
 |f+1,p,k,hp,hu,hn,hq=>by
  refine B0.bnd _ (Rj hp hu k 0 k (by omega) (Aj _) (by omega) (λi a=>by omega) (λi a b=>by omega) λl hl lo hi=>?_);refine WI f _ (k+1) (hp.bub _ _) (λi j a b=>?_) (by omega) hq;have hk:k<p.size:=by rw[hp.size];omega
  rw[Vz hk (by omega),Vz hk (by omega),show k-(k-l)=l by omega]
  repeat' split
  all_goals first
   |(exfalso;omega)
   |exact J4 _
   |exact lo _ (by omega)
   |exact O6 (hi _ (by omega) (by omega))
   |exact hu _ _ (by omega) (by omega)
theorem Yc(hn:0<n){Q:Array Nat->Prop}(hq:∀p,Pm n p->Up O key p n->Q p):B0 (xw O key) n (kas_sort n) Q:=by
 refine B0.bnd _ (kI ⟨hn,.refl _⟩ λm p h1 h2 h3 h4=>?_);dsimp only;rw[show max m 1=m by omega];split
 .exact WI _ p m h3 h4 (by omega) hq
 .exact hq p h3 (by rwa [show n=m by omega])
end
theorem tP:∀a:List Int,HM.lexLt a a=Ab
 |[]=>rfl
 |x::a=>by show(if x=x then HM.lexLt a a else decide (x<x))=Ab;rw[if_pos rfl];exact tP a
theorem Ia(x y:Int)(a b:List Int):HM.lexLt (x::a) (y::b)=if x=y then HM.lexLt a b else decide (x<y):=rfl
theorem um:∀a b c:List Int,HM.lexLt a b=Aa->HM.lexLt b c=Aa->HM.lexLt a c=Aa
 |[],[],_,h,_=>by cases h
 |[],_::_,[],_,h=>by cases h
 |[],_::_,_::_,_,_=>rfl
 |_::_,[],_,h,_=>by cases h
 |_::_,_::_,[],_,h=>by cases h
 |x::a,y::b,z::c,h1,h2=>by
  rw[Ia]at *;split at h1
  .rename_i e
   subst e;split at h2
   .rename_i e;subst e;rw[if_pos rfl];exact um a b c h1 h2
   .rename_i e;rw[if_neg e];exact h2
  .split at h2
   .rename_i e1 e2;subst e2;rw[if_neg e1];exact h1
   .rename_i e1 e2
    have h1:=of_decide_eq_true h1;have h2:=of_decide_eq_true h2;rw[if_neg (by omega)];exact decide_eq_true (by omega)
theorem Nh:∀a b c:List Int,HM.lexLt a c=Aa->HM.lexLt a b=Aa\/HM.lexLt b c=Aa
 |[],[],_,h=>.inr h
 |[],_::_,_,_=>.inl rfl
 |_::_,_,[],h=>by cases h
 |_::_,[],_::_,_=>.inr rfl
 |x::a,y::b,z::c,h=>by
  rw[Ia]at *;rw[Ia];split at h
  .rename_i e
   subst e
   by_cases e:x=y
   .subst e;rw[if_pos rfl,if_pos rfl];exact Nh a b c h
   .rw[if_neg e,if_neg (A8 e)]
    by_cases q:x<y
    .exact .inl (decide_eq_true q)
    .exact .inr (decide_eq_true (by omega))
  .rename_i e
   have h:=of_decide_eq_true h
   by_cases e1:x=y
   .subst e1;rw[if_neg e];exact .inr (decide_eq_true h)
   .rw[if_neg e1]
    by_cases q:x<y
    .exact .inl (decide_eq_true q)
    .rw[if_neg (by omega)];exact .inr (decide_eq_true (by omega))
theorem NN:∀a b:List Int,HM.lexLt a b=Ab->HM.lexLt b a=Ab->a=b
 |[],[],_,_=>rfl
 |[],_::_,h,_=>by cases h
 |_::_,[],_,h=>by cases h
 |x::a,y::b,h1,h2=>by
  rw[Ia]at h1 h2
  by_cases e:x=y
  .subst e
   rw[if_pos rfl]at h1 h2;rw[NN a b h1 h2]
  .rw[if_neg e]at h1
   rw[if_neg (A8 e)]at h2;have h1:=of_decide_eq_false h1;have h2:=of_decide_eq_false h2;omega
@[reducible] def Je:KeyOrd where
 α:=List Int
 blt:=HM.lexLt
 irrefl:=tP
 trans:=um
 negTrans:=Nh
 total:=NN
theorem NP{α:Type}{R:α->α->Prop}(anti:∀a b,R a b->R b a->a=b):∀{l m:List α},l.Perm m->l.Pairwise R->m.Pairwise R->l=m
 |[],m,hp,_,_=>(List.nil_perm.mp hp).symm
 |x::l,[],hp,_,_=>absurd hp.symm (by intro q;exact List.cons_ne_nil _ _ (List.nil_perm.mp q))
 |x::l,y::m,hp,hl,hm=>by
  obtain⟨l1,l2⟩:=DE.mp hl;obtain⟨m1,m2⟩:=DE.mp hm;have e:x=y:=by
   rcases AE.mp (hp.mem_iff.mp (Am ..))with e|e
   .exact e
   .rcases AE.mp (hp.mem_iff.mpr (Am ..))with e'|e'
    .exact e'.symm
    .exact anti x y (l1 y e') (m1 x e)
  subst e;rw[NP anti ((List.perm_cons x).mp hp) l2 m2]
def TI(h:Heap)(b:Addr)(t:List Int):Prop:=∃o its n,h.get? b=Z o/\o.cls=.type "tuple"/\o.data=.seq its n/\IntsAre its.toList t
section
variable{prog:Program}{w:World}{A:Around}{E:Value->Shared->Prop}{s:Shared}
theorem Vo{tL:Bool}{Q:Bool->Shared->Prop}:∀{vs ws:List Value} {a b:List Int} (i:Nat),IntsAre vs a->IntsAre ws b->tL=decide (vs.length<ws.length)->Q (HM.lexLt a b) s->KatLex prog w A Aa tL Q (vs.zip ws) i s
 |_,_,_,_,i,.nil,.nil,e,q=>by subst e;exact kat_nil q
 |_,_,_,_,i,.nil,.cons _ _ _,e,q=>by subst e;exact kat_nil q
 |_,_,_,_,i,.cons _ _ _,.nil,e,q=>by subst e;exact kat_nil q
 |_,_,_,_,i,.cons x t hv,.cons y u hw,e,q=>by
  rw[List.zip_cons_cons];refine kat_cons (Pk ?_);rw[Ia]at q
  by_cases h:x=y
  .rw[if_pos h]at q
   rw[show(x==y)=Aa by simpa using h];refine kat_yes (Vo (i+1) hv hw ?_ q);rw[e,AD,AD];exact decide_eq_decide.mpr (by omega)
  .rw[if_neg h]at q
   rw[show(x==y)=Ab by simpa using h];refine kat_no ?_
   by_cases hi:i=0
   .rw[show(Aa&&i==0)=Aa by simpa using hi]
    exact oneLt_int q
   .rw[show(Aa&&i==0)=Ab by simpa using hi]
    exact kat_one _ _ (aV q)
theorem dn{x y:Addr}{a b:List Int}{Q:Bool->Shared->Prop}(hx:TI s.heap x a)(hy:TI s.heap y b)(h:Q (HM.lexLt a b) s):wpAny (model prog w) A (keyLt' (tuples' Aa) (.ref x) (.ref y)) Q E s:=by obtain⟨ox,ix,n,e1,_,d1,r1⟩:=hx;obtain⟨oy,iy,k,e2,_,d2,r2⟩:=hy;refine kat_lt e1 d1 e2 d2 (Vo 0 r1 r2 ?_ h);rw[BB,BB]
theorem QB{α:Type}{cmp:Nat->Nat->(Bool->Shared->Prop)->Shared->Prop}{o:Nat->Nat->Bool}{n:Nat}(hc:∀i j C,i<n->j<n->C (o i j) s->cmp i j C s){G:α->Shared->Prop}:∀(t:KasT α),B0 o n t (λa=>G a s)->t.kasWp cmp G s
 | .ret a,h=>h
 | .ask i j k,h=>hc i j _ h.1 h.2.1 (QB hc (k (o i j)) h.2.2)
theorem W4{R:Heap->Addr->List Int->Prop}{F:List Int->Prop}(hkp:∀{h h':Heap} {b:Addr} {t:List Int},R h b t->(∀c o,h.get? c=Z o->o.cls=.type "tuple"->h'.get? c=Z o)->R h' b t)(hfs:∀{h:Heap} {b:Addr} {t:List Int},F t->R h b t->∃o its n x u,h.get? b=Z o/\o.cls=.type "tuple"/\o.data=.seq its n/\its[0]?=Z (.int x u))(tu:∀{s:Shared} {x y:Addr} {a b:List Int} {C:Bool->Shared->Prop} {E:Value->Shared->Prop},R s.heap x a->R s.heap y b->C (HM.lexLt a b) s->wpAny (model prog w) A (keyLt' (tuples' Aa) (.ref x) (.ref y)) C E s){a:Addr}{vs:List Value}{ts:List (List Int)}{n:Nat}{P:LX->Shared->Prop}(ho:s.heap.get? a=Z (seqObj "list" vs.toArray n))(hl:ts.length=vs.length)(hT:∀(i:Nat) t,ts[i]?=Z t->∃b,vs[i]?=Z (.ref b)/\R s.heap b t)(tX:vs.length<2\/∀t∈ts,F t)(wQ:vs.length<64)(h:∀p:List Nat,p.Perm (Ah vs.length)->(p.map λi=>ts.getD i []).Pairwise (λx y=>HM.lexLt y x=Ab)->P (.done (.ret .none)) {s with heap:=JR s.heap a vs (p.map λi=>vs.getD i AM).toArray}):wpAny (model prog w) A (Builtin.«list.sort» ⟨[.ref a],[]⟩) P E s:=by
 rw[list_sort_plain];have ha:a<s.heap.objs.size:=Ao ho;refine Ac (listItems_at ho rfl (Ac (J2 ho rfl ?_ (by rw[Ax,Bo];omega) (BY _))));obtain⟨e1,zE⟩:∃e1,(s.heap.update a (Ej λ_=>#[])).get? a=Z (seqObj "list" #[] e1):=⟨_,get?_update_seq ho (λ_=>#[])⟩;refine Ac (O0 zE rfl ?_);refine Ac (wpAny_newTuple ?_ (by show vs.length<=_;rw[Bo];omega));refine Ac (J1 ?_ (BY _));refine Cu ?_;generalize hG:((s.heap.update a (Ej λ_=>#[])).push (seqObj "tuple" vs.toArray 0)).push (seqObj "list" #[] 0)=g;have ho6:g.get? a=Z (seqObj "list" #[] e1):=by rw[<-hG,O5 _ _ _ (by rw[size_push',Me];exact As (Mj ha)),O5 _ _ _ (by rw[Me];exact As ha)];exact zE
 have hold:∀b o,b≠a->s.heap.get? b=Z o->g.get? b=Z o:=λb o hb e=>by have tu:=Ao e;rw[<-hG,O5 _ _ _ (by rw[size_push',Me];exact As (Mj tu)),O5 _ _ _ (by rw[Me];exact As tu),Ux _ _ _ _ hb];exact e
 have hT6:∀(i:Nat) t,ts[i]?=Z t->∃b,vs[i]?=Z (.ref b)/\R g b t:=λi t e=>by
  obtain⟨b,e1,x⟩:=hT i t e;refine⟨b,e1,hkp x λc o q hc=>hold c o ?_ q⟩
  rintro rfl
  rw[ho]at q;cases q;exact absurd (Value.type.inj hc) (by decide)
 show wpAny (model prog w) A _ P E {s with heap:=g};dsimp only;have tL:∀(st':SortSt) (p:List Nat),p.Perm (Ah vs.length)->(p.map λi=>ts.getD i []).Pairwise (λx y=>HM.lexLt y x=Ab)->(arrOf st').map (·.2)=(p.map λi=>vs.getD i AM).toArray->failedOf st'=J ->
   wpAny (model prog w) A (do
    let touched:=(<-seqEpoch a) != e1
    Builtin.List.listUpdate (.ref a) λ_=>(arrOf st').map (·.2)
    if let Z e:=failedOf st' then rule "list.sort.comparison-raised";throw e
    if touched then rule "list.sort.modified";raiseError "ValueError" "list modified during sort"
    ret .none) P E {s with heap:=g}:=by
  intro st' p hp hs yI hf;refine Ac (O0 ho6 rfl ?_);rw[yI];refine Ac (J2 ho6 rfl ?_ (BY _) (by show(p.map λi=>vs.getD i AM).toArray.size<=_;rw[Ax,Af,hp.length_eq,Fe,Bo];omega));rw[hf];simp only[bne_self_eq_false,DS,if_false];refine Ag ?_;have:=h p hp hs;unfold JR at this;rw[hG]at this;exact this
 by_cases h2:vs.toArray.size<2
 .rw[if_pos h2,if_pos h2]
  refine Ac (Ag ?_);rw[StateT.run_pure];refine Ac (Ag ?_);refine tL (SortSt.mk' general' (vs.toArray.zip vs.toArray) #[] 7 J) (Ah vs.length) (.refl _) ?_ ?_ rfl
  .rw[Ax]at h2
   have:vs.length=0\/vs.length=1:=by omega
   rcases this with e|e<;>rw[e]<;>simp
  .rw[Ax]at h2
   show Array.map (·.2) (vs.toArray.zip vs.toArray)=_
   match vs,h2 with
   |[],_=>simp
   |[v],_=>simp
 .rw[if_neg h2,if_neg h2]
  rw[Ax]at h2;have hne':∀t∈ts,F t:=tX.resolve_left h2;have tups:∀(vs:List Value) (ts:List (List Int)),ts.length=vs.length->(∀(i:Nat) t,ts[i]?=Z t->∃b,vs[i]?=Z (.ref b)/\R g b t)->(∀t∈ts,F t)->∃fs,KatTups g vs fs/\fs.length=vs.length/\∀v∈fs,∃x t,v=C9 x t:=by
   intro vs
   induction vs with
   |nil=>intro ts hl _ _;exact⟨[],KatTups.nil,rfl,by simp⟩
   |cons v vs ih =>
    intro ts hl hT hn;cases ts with
    |nil=>simp at hl
    |cons t ts =>
     obtain⟨fs,f1,f2,f3⟩:=ih ts (by simpa using hl) (λi t e=>hT (i+1) t (by simpa using e)) λx hx=>hn x (Ap _ hx);obtain⟨b,eb,hr⟩:=hT 0 t rfl;obtain⟨o,its,m,x,u,g1,g2,g3,g4⟩:=hfs (hn t (Am ..)) hr;simp at eb;subst eb;refine⟨.int x u::fs,KatTups.cons g1 g2 g3 g4 f1,by simp[f2],λv hv=>?_⟩;rcases AE.mp hv with e|e
     .exact⟨x,u,e⟩
     .exact f3 v e
  obtain⟨fs,f1,f2,f3⟩:=tups vs ts hl hT6 hne';refine Ac (kat_kind (s:={s with heap:=g}) (T:=.type "int") f1 (by omega) (λv hv=>?_) (by rfl) ?_)
  .obtain⟨x,t,rfl⟩:=f3 v hv
   exact Looks.of_pure rfl
  rw[show(Gf "int" != Gf "tuple")=Aa by decide];refine Ac (Bw (kat_run (ks:=vs) (Q:=λst' s'=>s'={s with heap:=g}/\∃p:Array Nat,Pm vs.length p/\Up Je (λi=>ts.getD i []) p vs.length/\arrOf st'=p.map (kas_item (vs.toArray.zip vs.toArray))/\failedOf st'=J)
   (G:=λp s'=>s'={s with heap:=g}/\Pm vs.length p/\Up Je (λi=>ts.getD i []) p vs.length) rfl (by omega) wQ (λp' st' s' a1 a2 a3 a4=>⟨a4.1,p',a4.2.1,a4.2.2,a2,a3⟩) ?_) ?_ λ_ _ e=>e)
  .refine QB (o:=xw Je λi=>ts.getD i []) (n:=vs.length) (λi j C hi hj hC=>?_) _ (Yc (by omega) λp h1 h2=>⟨rfl,h1,h2⟩)
   have gi:ts[i]?=Z (ts.getD i []):=by simp[show i<ts.length by omega]
   have gj:ts[j]?=Z (ts.getD j []):=by simp[show j<ts.length by omega]
   obtain⟨b1,v1,x1⟩:=hT6 i _ gi;obtain⟨b2,v2,x2⟩:=hT6 j _ gj;show wpAny (model prog w) A (keyLt' _ (vs.getD i AM) (vs.getD j AM)) C _ _;rw[show vs.getD i AM=.ref b1 by simp[Bn,v1],show vs.getD j AM=.ref b2 by simp[Bn,v2]];exact tu x1 x2 hC
  .rintro ⟨⟨⟩,st'⟩ s' ⟨rfl,p,hp,hu,yI,hf⟩
   refine tL st' p.toList ?_ ?_ (kat_snds rfl yI) hf
   .have:=UG.mp hp.perm
    simpa using this
   .rw[O4,UM]
    intro i j hi hj hij;have hsz:=hp.size;have q:=hu i j (DQ hij) (by rw[BB]at hj;omega);unfold Ka at q;rw[show p.getD i 0=p.toList[i] by simp[DR,show i<p.size by simpa using hi],show p.getD j 0=p.toList[j] by simp[DR,show j<p.size by simpa using hj]]at q;exact q
theorem ip{a:Addr}{vs:List Value}{ts:List (List Int)}{P:LX->Shared->Prop}(ho:s.heap.get? a=Z (seqObj "list" vs.toArray n))(hl:ts.length=vs.length)(hT:∀(i:Nat) t,ts[i]?=Z t->∃b,vs[i]?=Z (.ref b)/\TI s.heap b t)(tX:vs.length<2\/∀t∈ts,t≠[])(wQ:vs.length<64)(h:∀p:List Nat,p.Perm (Ah vs.length)->(p.map λi=>ts.getD i []).Pairwise (λx y=>HM.lexLt y x=Ab)->P (.done (.ret .none)) {s with heap:=JR s.heap a vs (p.map λi=>vs.getD i AM).toArray}):wpAny (model prog w) A (Builtin.«list.sort» ⟨[.ref a],[]⟩) P E s:=by
 refine W4 (R:=TI) (F:=λt=>t≠[]) (λ⟨o,its,n,e,c,r⟩ k=>⟨o,its,n,k _ _ e c,c,r⟩) (λ{h b t} hn x=>?_) dn ho hl hT tX wQ h;obtain⟨o,its,m,g1,g2,g3,g4⟩:=x;cases t with
 |nil=>exact absurd rfl hn
 |cons x t =>
  cases hi:its.toList with
  |nil=>rw[hi]at g4;cases g4
  |cons y ys =>
   rw[hi]at g4;cases g4 with
   |cons _ u _=>exact⟨o,its,m,x,u,g1,g2,g3,by rw[<-Ek,hi];rfl⟩
end
def DF(h:Heap)(d:Addr)(es:Array DictEntry)(ep:Nat):Prop:=∃o,h.get? d=Z o/\o.ExactDict/\o.data=.dict es ep
theorem DF.at'{h':Heap}{d:Addr}{es:Array DictEntry}(x:DF h d es ep)(e:∀o,h.get? d=Z o->h'.get? d=Z o):DF h' d es ep:=let ⟨o,ho,r⟩:=x;⟨o,e _ ho,r⟩
theorem DF.typeIs{s:Shared}{d:Addr}{es:Array DictEntry}(x:DF s.heap d es ep):s.TypeIs (.ref d) "dict":=let ⟨o,ho,hc,_⟩:=x;⟨o,ho,hc.1⟩
theorem DF.lt{d:Addr}{es:Array DictEntry}(x:DF h d es ep):d<h.objs.size:=let ⟨o,ho,_⟩:=x;Ao ho
section
variable{prog:Program}{w:World}{A:Around}{E:Value->Shared->Prop}{s:Shared}{it d:Addr}{es:Array DictEntry}{ep i:Nat}
theorem Xk{Q:Value->Shared->Prop}(hd:(d==Dc)=Ab)(hm:DF s.heap d es ep)(hQ:Q (.ref s.heap.objs.size) {s with heap:=s.heap.push {cls:=.type "dict_keyiterator",data:=.fields #[.ref d,.int 0 0,.int es.size 0,.int ep 0]}}):wpAny (model prog w) A (pyIter (.ref d)) Q E s:=by
 obtain⟨o,ho,hc,hdat⟩:=id hm;have hT:=hm.typeIs;refine TV hT F.slot_dict_iter (En F.slot_dict_iter hT F.entry_dict_iter ?_ (F.args_dict_iter_1 _));unfold Builtin.«dict.__iter__»;refine Ac ?_;unfold Builtin.Dict.dictSlotNone;refine Ac (wpAny_notOrdered_dict hT ?_);show wpAny _ _ (pure (Bb d)) _ _ s;refine Ag ?_;show wpAny _ _ (bf d >>= _) _ _ s;unfold bf;rw[if_neg (by rw[hd];exact Dh)];refine Ac (Ag (Ac (O9 ho hdat (Ac (T9 ho hdat ?_)))));refine Ac (DU (Ag ⟨_,rfl,"dict_keyiterator",_,⟨_,AZ _ rfl,rfl⟩,F.slot_dict_keyiterator_next.lookup,?_⟩));simpa [rawInt]using hQ
theorem W6{e:DictEntry}{Q:Option Value->Shared->Prop}(uK:s.heap.IsKeyIter it d i es.size ep)(hm:DF s.heap d es ep)(hx:es[i]?=Z e)(hQ:∀h',h'.IsKeyIter it d (i+1) es.size ep->EB it s.heap h'->Q (Z e.key) {s with heap:=h'}):wpAny (model prog w) A (pyNext (.ref it)) Q E s:=by
 obtain⟨o,ho,hc,hd⟩:=id uK;obtain⟨od,zD,tF,zJ⟩:=id hm;unfold pyNext;refine Ac (LZ (wpAny_callSpecial?_slot (name:=C8 "__next__") uK.typeIs F.slot_dict_keyiterator_next
  (En F.slot_dict_keyiterator_next uK.typeIs F.entry_dict_keyiterator_next ?_ (F.args_dict_keyiterator_next_1 _))))
 refine Ac (Ag (Ac (Ac ?_)))
 first|refine Ac (PH uK.typeIs (Ag ?_))|refine Ac (Pu uK.typeIs (Ag ?_))
 refine Ac (Pp ho hd ?_);have yS:bN "dict_keyiterator"=Ab:=by decide
 simp only[yS,DS,if_false];show wpAny _ _ (if(Bb d==AM)=Aa then _ else _) _ _ s;rw[if_neg (show ¬((Bb d==AM)=Aa) from Dh)];refine Ac (Ag (Ac (O9 zD zJ ?_)));rw[if_neg (by simp)];refine Ac (Ag (Ac (T9 zD zJ ?_)));rw[if_neg (by simp)];refine Ag ?_;obtain⟨tu,he⟩:=Array.getElem?_eq_some_iff.mp hx;simp only[show ¬((i:Int)<0) from by omega,if_false,Mi,Px tu];refine Ac ?_
 first|refine Ac (PH uK.typeIs (Ag ?_))|refine Ac (Pu uK.typeIs (Ag ?_))
 refine Ac (wpAny_isOneOf_keyiter uK.typeIs ?_);show wpAny _ _ (setField (.ref it) 1 (rawInt ((i:Int)+1)) >>= _) _ _ s;refine Ac (L5 ho hd (by simp) ?_);have hit':(s.heap.update it (TJ (·.setIfInBounds 1 (rawInt ((i:Int)+1))))).IsKeyIter it d (i+1) es.size ep :=
  ⟨_,Gi _ ho (UD (Hm hd _)),(TU ..).trans hc,by rw[Hm hd];simp[rawInt]⟩
 refine Ac (Cu ?_);refine Ac (wpAny_isOneOf_keyiter (s:={s with heap:=s.heap.update it (TJ (·.setIfInBounds 1 (rawInt ((i:Int)+1))))}) hit'.typeIs ?_);show wpAny _ _ (pure es[i].key) _ _ _;refine Ag (Ag ⟨_,rfl,Ag ?_⟩);rw[he];exact hQ _ hit' (Fi ..)
theorem Wo{Q:Option Value->Shared->Prop}(hh:A.handled=J)(uK:s.heap.IsKeyIter it d i es.size ep)(hm:DF s.heap d es ep)(hx:es.size<=i)(hQ:∀h',Heap.ExtBut it s.heap h'->Q J {s with heap:=h'}):wpAny (model prog w) A (pyNext (.ref it)) Q E s:=by
 obtain⟨o,ho,hc,hd⟩:=id uK;obtain⟨od,zD,tF,zJ⟩:=id hm;unfold pyNext;refine Ac (LZ (wpAny_callSpecial?_slot (name:=C8 "__next__") uK.typeIs F.slot_dict_keyiterator_next
  (En F.slot_dict_keyiterator_next uK.typeIs F.entry_dict_keyiterator_next ?_ (F.args_dict_keyiterator_next_1 _))))
 refine Ac (Ag (Ac (Ac ?_)))
 first|refine Ac (PH uK.typeIs (Ag ?_))|refine Ac (Pu uK.typeIs (Ag ?_))
 refine Ac (Pp ho hd ?_);have yS:bN "dict_keyiterator"=Ab:=by decide
 simp only[yS,DS,if_false];show wpAny _ _ (if(Bb d==AM)=Aa then _ else _) _ _ s;rw[if_neg (show ¬((Bb d==AM)=Aa) from Dh)];refine Ac (Ag (Ac (O9 zD zJ ?_)));rw[if_neg (by simp)];refine Ac (Ag (Ac (T9 zD zJ ?_)));rw[if_neg (by simp)];refine Ag ?_;simp only[show ¬((i:Int)<0) from by omega,if_false,Mi,Uk hx];refine Ac ?_
 first|refine Ac (PH uK.typeIs (Ag ?_))|refine Ac (Pu uK.typeIs (Ag ?_))
 show wpAny _ _ (setField (.ref it) 0 .none >>= _) _ _ s;refine Ac (L5 ho hd (by simp) ?_);show wpAny _ _ (newExc (.type "StopIteration") [] >>= _) _ _ _;refine Ac ?_;simp only[newExc,newTuple];refine Ac (DU ?_ (by size_fits));refine Ac (m:=Po _ _) (O1 (a:=AM) (by first|rfl|(simp only[Po];rfl)) ?_)
 refine DU ?_ (by size_fits);simp only[raiseNew];refine Ac (wpAny_handled ?_);rw[show A.in1.handled=J from hh];refine Ac (Ag (wpAny_throw ?_));refine Ac (Pj (T:="StopIteration") (b:=Aa) ⟨_,AZ _ rfl,rfl⟩ isSubtype_stop ?_);exact Ag (hQ _ (((Fi ..).extBut.push _).push _))
theorem jq(hh:A.handled=J)(I d:Addr)(tX:d≠I)(es:Array DictEntry)(ep:Nat):Walks prog w A I [I,d] [I] es.size (λi v=>∃e,es[i]?=Z e/\v=e.key) (λi h=>h.IsKeyIter I d i es.size ep/\DF h d es ep) where
 sub:=λb hb=>by simp at hb;simp[hb]
 frame:=λ_ _ _ st hk=>⟨st.1.at λo e=>hk I (by simp) o e,st.2.at' λo e=>hk d (by simp) o e⟩
 item:=λi s Q E hi st hQ=>by have hx:es[i]?=Z es[i]:=Px hi;refine W6 st.1 st.2 hx λh' hit' hs'=>?_;exact hQ _ h' s.toks ⟨_,hx,rfl⟩ ⟨hit',st.2.at' λo e=>hs'.extBut d o tX e⟩ λb o hb e=>hs'.extBut b o (λh=>hb (by simp[h])) e
 done:=λs Q E st hQ=>Wo hh st.1 st.2 (Aj _) λh' he'=>hQ h' s.toks λb o hb e=>he' b o (λh=>hb (by simp[h])) e
 self:=λ_ _ _ _ st hQ=>wpAny_pyIter_keyiter st.1 hQ
end
end HP
namespace HP
open PySem PySem.Spec PySem.W PySem.Calls PyProof.Rows L2
variable[FX]
section
variable{a r:Addr}{es:Array (Int×Value)}{h:Heap}{ep:Nat}
section
variable{prog:Program}{w:World}{A:Around}{E:Value->Shared->Prop}{s:Shared}
theorem iL{Q:Bool->Shared->Prop}(hT:s.TypeIs (.ref r) "set")(h:Q Ab s):wpAny (model prog w) A (bx (.ref r)) Q E s:=by
 unfold bx;refine Ac (wpAny_specialOf hT PySem.F.slot_set_len.lookup ?_);generalize hid:("set.__len__":String)=id0
 wp_delta
 rw[show splitId id0=Z ("set","__len__") from by subst hid;decide +kernel];subst hid;refine Ac (Pj (T:="set") (b:=Aa) hT (by rw[isSubtype_type];kernel_rfl) ?_);refine IC (λq=>absurd q (by decide)) λ_=>?_;refine IC (λ_=>?_) (λq=>absurd (by decide +kernel) q);exact Ac (wpAny_typeOf hT (Ag h))
theorem fL{d:Addr}{es:Array DictEntry}(lo:(d==Dc)=Ab):KdlSrc prog w "dict" d d es.size (λi v=>∃e,es[i]?=Z e/\v=e.key) (λh=>DF h d es ep) where
 type:=λ_ hm=>hm.typeIs
 there:=λ_ hm=>⟨hm.lt,hm.lt⟩
 keep:=λ_ _ hm hk=>hm.at' λo e=>hk d (.inl rfl) o e
 notList:=by decide
 notTuple:=by decide
 hint:=λ_ _ _ _ hm hq=>kdl_hint_dict hm.typeIs hq
 iter:=λ_ _ hh hm=>⟨_,_,(λ_ _ hq=>Xk lo hm hq),jq hh _ d (As hm.lt) es ep,⟨⟨_,AZ _ rfl,rfl,rfl⟩,hm.at' λo e=>Ar _ e⟩⟩
theorem Dl.typeIs{t:SetTable}(x:Dl w s.heap a es ep t):s.TypeIs (.ref a) "set":=let ⟨o,ho,hc,_⟩:=x.obj;⟨o,ho,hc.1⟩
theorem Dl.lt{t:SetTable}(x:Dl w h a es ep t):a<h.objs.size:=let ⟨o,ho,_⟩:=x.obj;Ao ho
theorem eX{t:SetTable}:KdlSrc prog w "set" a a es.size (λi v=>∃e,(CP w a es ep)[i]?=Z e/\v=e.2) (λh=>Dl w h a es ep t) where
 type:=λ_ hm=>hm.typeIs
 there:=λ_ hm=>⟨hm.lt,hm.lt⟩
 keep:=λ_ _ hm hk=>hm.at' λo e=>hk a (.inl rfl) o e
 notList:=by decide
 notTuple:=by decide
 hint:=λ_ _ _ _ hm hq=>iL hm.typeIs hq
 iter:=λ_ _ hh hm=>⟨_,_,(λ_ _ hq=>iH hm hq),jr hh _ a (As hm.lt) es ep t,⟨0,⟨_,AZ _ rfl,rfl,rfl⟩,hm.at' λo e=>Ar _ e,λ_=>lG hm.tab.rise⟩⟩
theorem RG{T:String}{d:Addr}{n:Nat}{P:Nat->Value->Prop}{OK:Heap->Prop}{R:List Value->Shared->Prop}(K:KdlSrc prog w T r d n P OK)(hh:A.handled=J)(hok:OK s.heap)(hn:n<=sizeLine)(h:∀(h':Heap) (tk:Nat) (acc:Array Value),(∀b o,s.heap.get? b=Z o->h'.get? b=Z o)->s.heap.objs.size<h'.objs.size->ItemsOf P acc n->R acc.toList {s with heap:=h',toks:=tk}):wpAny (model prog w) A (collect (.ref r)) R E s:=by
 have tu:=K.there _ hok;unfold collect;refine Ac (wpAny_runValue (Ey entry_proto_collect' ?_));rw[Fq bw _];show wpAny _ A.in1 (newList [] >>= λl=>again (.builtin "list.__iadd__" ⟨[l,.ref r],[]⟩)) _ _ s;refine Ac (DU (Ag ⟨He Pr _,Ey entry_list_iadd' ?_⟩));rw[Fq Pr _];have hS₁:(s.heap.push {cls:=.type "list",data:=.seq ([]:List Value).toArray}).get? s.heap.objs.size=Z {cls:=.type "list",data:=.seq #[]}:=AZ _ rfl;show wpAny _ A.in1 (bu (.ref s.heap.objs.size) (.ref r) (.ref s.heap.objs.size)) _ _ _;refine Bw (kdl_extend (A:=A) (s:={s with heap:=s.heap.push {cls:=.type "list",data:=.seq ([]:List Value).toArray}})
  (R:=λ(q:Result) (s':Shared)=>∃(h':Heap) (tk:Nat) (acc':Array Value) (c':Nat),q=.ok (.ret (.ref s.heap.objs.size))/\s'={s with heap:=h',toks:=tk} /\
   (∀b o,s.heap.get? b=Z o->h'.get? b=Z o)/\h'.get? s.heap.objs.size=Z {cls:=.type "list",dict:=J,data:=.seq acc' c',slots:=#[]}/\ItemsOf P acc' n)
  K hh (K.keep _ _ hok λb _ o e=>Ar _ e) s.heap.objs.size (II tu.1) (II tu.2) (.ref s.heap.objs.size) 0 hS₁
  (λh' tk acc' c' hk hS' tj=>⟨h',tk,acc',c',rfl,rfl,λb o e=>hk b o (As (Ao e)) (Ar _ e),hS',tj⟩) hn) (λtL s' x=>?_) λe s' x=>?_
 .have go:∀(h':Heap) (tk:Nat) (acc':Array Value) (c':Nat),(∀b o,s.heap.get? b=Z o->h'.get? b=Z o)->h'.get? s.heap.objs.size=Z {cls:=.type "list",dict:=J,data:=.seq acc' c',slots:=#[]}->ItemsOf P acc' n ->
    wpAny (model prog w) A (load s.heap.objs.size >>= λo=>match o.data with | .seq xs _=>pure xs.toList|_=>unsupported "internal:collect") R E {s with heap:=h',toks:=tk}:=λh' tk acc' c' hk hS' tj =>
   Ac (wpAny_load hS' (Ag (h h' tk acc' hk (Ao hS') tj)))
  cases tL with
  |done f=>obtain⟨h',tk,acc',c',e,rfl,hk,hS',tj⟩:=x;cases e;exact go h' tk acc' c' hk hS' tj
  |again c₁=>refine⟨x.1,Fm x.2 λq s₂ y=>?_⟩;obtain⟨h',tk,acc',c',rfl,rfl,hk,hS',tj⟩:=y;exact go h' tk acc' c' hk hS' tj
 .obtain⟨_,_,_,_,e',_⟩:=x
  cases e'
end
inductive Gp(K:Ae)(F H:Hp)(p:Addr):List PyData->Prop where
 |lst {ds:List PyData} {vs:List V} (h:tU K H p vs) (r:Zt K F ds vs):Gp K F H p ds
 |tup {ds:List PyData} {vs:List V} (h:uL K H p vs) (r:Zt K F ds vs):Gp K F H p ds
 |dk {kvs:List (sP×V)} (h:H p=Z (.dK kvs)):Gp K F H p (kvs.map λq=>HM.BS q.1)
 |dt {kvs:List (List sP×V)} (h:H p=Z (.dT kvs)):Gp K F H p (kvs.map λq=>.tuple (q.1.map HM.BS))
theorem gJ{K:Ae}{F:Hp}(k:sP):Rep K F (HM.BS k) (kV k):=by
 cases k with
 |inl i=>exact .int i
 |inr x=>exact .str x
theorem NJ{K:Ae}{F:Hp}:∀(ks:List sP),Zt K F (ks.map HM.BS) (ks.map kV)
 |[]=>.nil
 |k::ks=>.cons (gJ k) (NJ ks)
theorem fR{P:Program}{w:World}{k:sP}{u:Value}(h:(BO P w).is k u=Aa):RelV (kV k) u:=by
 rw[kL]at h;rcases E4 h with⟨i,t,rfl,rfl⟩|⟨x,t,rfl,rfl⟩
 .exact⟨t,rfl⟩
 .exact⟨t,rfl⟩
section
variable{X:Cx}{sI:List (Addr×Obj)}{Y:L2.St}{H F:Hp}{s:Shared}{p:Addr}{ds:List PyData}
theorem GF:∀{vs:List V} {us:List Value},vs.length=us.length->(∀(i:Nat) v u,vs[i]?=Z v->us[i]?=Z u->RelV v u)->sL vs us
 |[],[],_,_=>.nil
 |[],_::_,h,_=>by simp at h
 |_::_,[],h,_=>by simp at h
 |v::vs,u::us,h,k=>.cons (k 0 v u rfl rfl) (GF (by simpa using h) λi a b e1 e2=>k (i+1) a b (by simpa using e1) (by simpa using e2))
theorem Gp.gath(I:Inv X sI Y H s)(sub:Zp F H)(h:Gp X.K F H p ds):∃vs,Zt X.K (BD F H) ds vs/\∀(A:Around) (E:Value->Shared->Prop) (R:List Value->Shared->Prop),A.handled=J ->(∀us h' tk,sL vs us->(∀b o,s.heap.get? b=Z o->h'.get? b=Z o)->R us {s with heap:=h',toks:=tk})->wpAny (model X.prog X.w) A (collect (.ref p)) R E s:=by
 cases h with
 | @lst _ vs h r=>obtain⟨its,rv,pl,hz⟩:=I.list h;obtain⟨o,ho,tZ,n,hd⟩:=pl.isList;refine⟨vs,r.mono (EW sub),λA E R _ k=>O3 p (.inl rfl) ho tZ hd (λh' kp=>?_) (by rw[Ax,<-rv.length];exact hz)⟩;exact k its h' s.toks rv kp
 | @tup _ vs h r=>obtain⟨its,rv,pl,hz⟩:=I.tuple h;obtain⟨o,ho,tZ,n,hd⟩:=pl;refine⟨vs,r.mono (EW sub),λA E R _ k=>O3 p (.inr rfl) ho tZ hd (λh' kp=>?_) (by rw[Ax,<-rv.length];exact hz)⟩;exact k its h' s.toks rv kp
 | @dk kvs h =>
  obtain⟨z,lo,vs,tS,dd⟩:=P1 I.hok h;obtain⟨ep,zj⟩:=dd.dictAt;have hl:kvs.length=vs.length:=Iz tS;refine⟨kvs.map λq=>kV q.1,?_,λA E R hh k=>RG (kdl_dict (knd:=BO X.prog X.w) (kvs:=vs) (ep:=ep) lo) hh zj (by omega) λh' tk acc kp hsz tj=>k _ h' tk ?_ kp⟩
  .have:=NJ (K:=X.K) (F:=BD F H) (kvs.map (·.1))
   rw[Aw,Aw]at this;exact this
  .refine GF (by have q:acc.toList.length=acc.size:=BB;rw[Af,q,tj.1,hl]) λi v u e1 e2=>?_
   obtain⟨kk,x,q1,q2⟩:=tj.2 i u (by rw[<-Ek];exact e2);rw[A1]at e1;obtain⟨q,e3,e4⟩:=Ai.mp e1;subst e4;have key:∀{l:List (sP×V)} {m:List (sP×Value)},KV l m->∀(i:Nat) a b,l[i]?=Z a->m[i]?=Z b->a.1=b.1:=by
    intro l m r
    induction r with
    |nil=>intro i a b e;simp at e
    |cons hq _ ih =>
     intro i a b e1 e2;cases i with
     |zero=>simp at e1 e2;subst e1;subst e2;exact hq.1
     |succ i=>exact ih i a b (by simpa using e1) (by simpa using e2)
   have ek:=key tS i q (kk,x) e3 q1;rw[ek];exact fR q2
 | @dt kvs h =>
  obtain⟨z,lo,xs,tS,o,es,ep,h1,h2,h3,h4,h5⟩:=(show ZZ X.prog X.w H s.heap p (.dT kvs) from I.hok p _ h);have hl:kvs.length=xs.length:=Iz tS;have zG:es.size=xs.length:=by rw[<-BB,h4,Af]
  have hm:DF s.heap p es ep:=⟨o,h1,h2,h3⟩;refine⟨xs.map λq=>V.ref q.2.1,?_,λA E R hh k=>RG (fL (es:=es) (ep:=ep) lo) hh hm (by omega) λh' tk acc kp hsz tj=>k _ h' tk ?_ kp⟩
  .clear h4 zG hl z h h5
   induction tS with
   |nil=>exact .nil
   | @cons p0 _ _ _ hq _ ih=>obtain⟨q1,q2,_⟩:=hq;rw[Ak,Ak];refine .cons ?_ ih;have rk:=NJ (K:=X.K) (F:=BD F H) p0.1;exact .tup (QU q2) rk.1 rk.2
  .refine GF (by have q:acc.toList.length=acc.size:=BB;rw[Af,q,tj.1,zG]) λi v u e1 e2=>?_
   obtain⟨e,q1,q2⟩:=tj.2 i u (by rw[<-Ek];exact e2);subst q2;rw[A1]at e1;obtain⟨q,e3,e4⟩:=Ai.mp e1;subst e4;rw[<-Ek,h4,A1,e3]at q1;cases q1;rfl
theorem FK{K:Ae}{F:Hp}:∀{ds:List PyData} {vs:List V} {ns:List Int},HM.BP ds=Z ns->Zt K F ds vs->vs=ns.map V.int
 |[],vs,ns,h,r=>by cases h;exact r.nil_inv
 |d::ds,vs,ns,h,r=>by
  obtain⟨v,us,rfl,r1,r2⟩:=r.cons_inv;cases d with
  |int b=>obtain⟨bs',h1,h2⟩:=Ai.mp h;subst h2;rw[r1.int_inv,FK h1 r2];rfl
  |none=>cases h
  |bool _=>cases h
  |str _=>cases h
  |list _=>cases h
  |tuple _=>cases h
  |dict _=>cases h
theorem Qu:∀(t:List Int),HM.BP (HM.uQ t)=Z t
 |[]=>rfl
 |x::t=>by show(HM.BP (HM.uQ t)).map (x::·)=_;rw[Qu t];rfl
theorem QN:∀{ds:List PyData} {ns:List Int},HM.BP ds=Z ns->ds=HM.uQ ns
 |[],ns,h=>by cases h;rfl
 |d::ds,ns,h=>by
  cases d with
  |int b=>obtain⟨bs',h1,h2⟩:=Ai.mp h;subst h2;rw[QN h1];rfl
  |none=>cases h
  |bool _=>cases h
  |str _=>cases h
  |list _=>cases h
  |tuple _=>cases h
  |dict _=>cases h
theorem Lc{K:Ae}{F:Hp}:∀(ns:List Int),Zt K F (HM.uQ ns) (ns.map V.int)
 |[]=>.nil
 |n::ns=>.cons (.int n) (Lc ns)
theorem GS:∀{ns:List Int} {us:List Value},sL (ns.map V.int) us->IntsAre us ns
 |[],_,r=>by rw[Fl]at r;cases r;exact .nil
 |n::ns,_,r=>by
  rw[Ak]at r;cases r with
  |cons h t=>obtain⟨u,rfl⟩:=h;exact .cons n u (GS t)
theorem R1:∀{us:List Value} {ns:List Int},IntsAre us ns->sL (ns.map V.int) us
 |_,_,.nil=>.nil
 |_,_,.cons n t h=>.cons ⟨t,rfl⟩ (R1 h)
theorem Q2:∀{ds:List PyData} {ts:List (List Int)},HM.Jf ds=Z ts->ds=HM.OP ts
 |[],ts,h=>by cases h;rfl
 |d::ds,ts,h=>by
  cases d with
  |tuple es =>
   unfold HM.Jf at h;split at h
   .rename_i ns hn
    obtain⟨r',h1,h2⟩:=Ai.mp h;subst h2;rw[QN hn,Q2 h1];rfl
   .cases h
  |none=>cases h
  |bool _=>cases h
  |int _=>cases h
  |str _=>cases h
  |list _=>cases h
  |dict _=>cases h
theorem WY{ns ms:List Int}(h:ms.Perm ns)(hs:ms.Pairwise (·<=·)):ms=HM.sortI ns:=by refine NP (R:=(·<=·)) (λa b h1 h2=>by omega) (h.trans (J9 ns _).symm) hs ?_;have:=Pq (le:=λa b:Int=>decide (a<=b)) (λa b c h1 h2=>by simp at *;omega) (λa b=>by simp;omega) ns;exact this.imp λh=>by simpa using h
theorem WX{ts us:List (List Int)}(h:us.Perm ts)(hs:us.Pairwise (λx y=>HM.lexLt y x=Ab)):us=HM.CY ts:=by
 refine NP (R:=λx y=>HM.lexLt y x=Ab) (λa b h1 h2=>NN a b h2 h1) (h.trans (J9 ts _).symm) hs ?_;have:=Pq (le:=λa b:List Int=>!HM.lexLt b a) (λa b c h1 h2=>by
  simp only[TR]at *;cases q:HM.lexLt c a with
  |false=>rfl
  |true =>
   rcases Nh c b a q with z|z
   .rw[h2]at z;cases z
   .rw[h1]at z;cases z) (λa b=>by
  cases q:HM.lexLt b a with
  |false=>simp
  |true =>
   cases q2:HM.lexLt a b with
   |false=>simp
   |true=>have:=um _ _ _ q q2;rw[tP]at this;cases this) ts
 exact this.imp λh=>by simpa using h
theorem Sq{vs:List Value}{out:Array Value}{b:Addr}{o:Obj}(hb:b≠a)(e:h.get? b=Z o):(JR h a vs out).get? b=Z o:=by rw[sortedHeap_old hb (Ao e)];exact e
theorem mO(hc:X.calm=Aa):A6 X (.builtin "sorted") (λxs H Q=>∃p F ds ds',xs=[.ref p]/\Zp F H/\Gp X.K F H p ds/\HM.GC ds=Z ds'/\∀l ws,H l=J->Zt X.K (BD F H) ds' ws->Q (.ref l) (upd H l (.lst ws))):=by
 intro sI s Y H xs us Q I r h;obtain⟨p,F,ds,ds',rfl,sub,hsrc,uv,q⟩:=h;obtain⟨u,rfl,rx⟩:=vals1 r;cases rx;obtain⟨vs,rv,go⟩:=hsrc.gath I sub;unfold HM.GC at uv;split at uv
 .rename_i wQ
  have hvl:=rv.1;refine UL OZ OX OW (args_sorted1 _) ?_;unfold Builtin.«sorted»;refine Ac (m:=checkCount "sorted" 1 1 _) (Ag ?_);refine Ac (go _ _ _ (I.ok.hd hc) λus h' tk ru kp=>?_);have hul:=ru.length;refine Ac (J1 ?_ (by rw[Bo];omega));have vg:(h'.push (seqObj "list" us.toArray 0)).get? h'.objs.size=Z (seqObj "list" us.toArray 0):=AZ _ rfl;have tL:∀(out:Array Value) (ws:List V),sL ws out.toList->Zt X.K (BD F H) ds' ws->ws.length<64->EP X sI Y Q (.ref h'.objs.size) {s with heap:=JR (h'.push (seqObj "list" us.toArray 0)) h'.objs.size us out,toks:=tk}:=λout ws rw' rd hw=>by obtain⟨e,he⟩:=sortedHeap_at (out:=out) vg;have I1:Inv X sI Y H {s with heap:=h',toks:=tk}:=I.kept kp;refine⟨.ref h'.objs.size,_,I1.laid (a:=h'.objs.size) (o:=.lst ws) (t':=tk) (λb o e1=>?_) (Aj _) ⟨by rw[Bo];omega,out.toList,e,rw',by simpa using he⟩,rfl,q _ ws (I1.hok.fresh (Aj _)) rd⟩;exact Sq (As (Ao e1)) (Ar _ e1)
  show wpAny _ _ _ _ _ {s with heap:=h'.push (seqObj "list" us.toArray 0),toks:=tk};split at uv
  .rename_i ns ug
   cases uv;have evs:=FK ug rv;rw[evs]at ru;have hI:=GS ru;refine Ac (Cu (En L4 ⟨_,vg,rfl⟩ Mm (list_sort_tree vg hI (by omega) λout ns' a1 a2 a3=>⟨_,rfl,?_⟩) (Pn _)));refine Ag ⟨_,rfl,?_⟩;have e:=WY a2 a3;have hl:ns'.length<64:=by rw[a2.length_eq,<-hI.length,<-hul];omega
   refine tL out (ns'.map V.int) (R1 a1) ?_ (by rw[Af];exact hl);rw[<-e];exact Lc ns'
  .split at uv
   .rename_i ts hts
    split at uv
    .rename_i tX
     cases uv;have eds:=Q2 hts;have hT:∀(i:Nat) t,ts[i]?=Z t->∃b,us[i]?=Z (.ref b)/\TI (h'.push (seqObj "list" us.toArray 0)) b t:=λi t e=>by
      have ed:ds[i]?=Z (.tuple (HM.uQ t)):=by rw[eds];unfold HM.OP;rw[A1,e];rfl
      obtain⟨v,hv,rp⟩:=rv.get ed;generalize hq:HM.uQ t=q at rp;cases rp with
      | @tupk b x h1 =>
       exfalso;cases t with
       |nil=>cases hq
       |cons a t =>
        injection hq with e1 _
        cases e1
      | @tup b _ xs hb hl hr=>subst hq;obtain⟨u,hu,ru'⟩:=ru.get hv;cases ru';have ev:=FK (F:=BD F H) (Qu t) ⟨hl,hr⟩;subst ev;have hH:H b=Z (.tup (t.map V.int)):=(sQ.refl sub).tups.sub _ _ hb;obtain⟨z,its,rt,o,h1,h2,n,h3⟩:=(show ZZ X.prog X.w H s.heap b (.tup (t.map V.int)) from I.hok b _ hH);exact⟨b,hu,o,its.toArray,n,Ar _ (kp b o h1),h2,h3,by simpa using GS rt⟩
     have tu:ts.length=us.length:=by have:=congrArg BC eds;unfold HM.OP at this;rw[Af]at this;omega
     refine Ac (Cu (En L4 ⟨_,vg,rfl⟩ Mm (ip vg tu hT ?_ (by omega) λpm hp hs=>⟨_,rfl,?_⟩) (Pn _)))
     .rw[Gj]at tX
      rcases tX with z|z
      .left
       have:=of_decide_eq_true z;omega
      .right
       intro t ht e;have:=Au.mp z t ht;rw[e]at this;cases this
     .refine Ag ⟨_,rfl,?_⟩
      have hpl:pm.length=us.length:=by rw[hp.length_eq,Fe]
      have uC:∀i∈pm,i<us.length:=λi hi=>AS.mp (hp.mem_iff.mp hi);have e:(pm.map λi=>ts.getD i [])=HM.CY ts:=by
       refine WX ?_ hs;refine(hp.map _).trans ?_;have:(Ah us.length).map (λi=>ts.getD i [])=ts:=by refine Ud (by simp[tu]) λi h1 h2=>?_;simp at h1;simp[Bn,show i<ts.length by omega]
       rw[this]
      refine tL _ (pm.map λi=>vs.getD i V.non) ?_ ?_ (by rw[Af];omega)
      .refine GF (by simp) λk v u e1 e2=>?_
       rw[A1]at e1;rw[Uw,A1]at e2;obtain⟨i,hi,rfl⟩:=Ai.mp e1;rw[hi]at e2;cases e2;have hlt':=uC i (Bm hi);have hv:vs[i]?=Z (vs.getD i V.non):=by simp[Bn,show i<vs.length by omega]
       obtain⟨u,hu,ru'⟩:=ru.get hv;have:us.getD i AM=u:=by simp[Bn,hu]
       show RelV _ (us.getD i AM);rw[this];exact ru'
      .rw[<-e]
       refine⟨by unfold HM.OP;simp,λk d v e1 e2=>?_⟩;unfold HM.OP at e1;rw[A1,A1]at e1;rw[A1]at e2;obtain⟨i,hi,rfl⟩:=Ai.mp e2;rw[hi]at e1;have hlt':=uC i (Bm hi);have hd:ds[i]?=Z d:=by
        rw[eds];unfold HM.OP;rw[A1];have:ts[i]?=Z (ts.getD i []):=by simp[Bn,show i<ts.length by omega]
        rw[this];exact e1
       have hv:vs[i]?=Z (vs.getD i V.non):=by simp[Bn,show i<vs.length by omega]
       exact rv.2 i d _ hd hv
    .cases uv
   .cases uv
 .cases uv
end
end
section
variable{F:Hp}{p' pos':Pos}{K:Ae}
section
variable{prog:Program}{w:World}{A:Around}{E:Value->Shared->Prop}{s:Shared}
theorem nq{r:Addr}{a b c:Int}{t u v:Tok}{n:Nat}{R:List Value->Shared->Prop}(hh:A.handled=J)(hr:IsRange s.heap r a b c t u v)(wa:aU a b c=Aa)(hn:Mt a b c=n)(sJ:n<=2 ^ 24)(h:∀(h':Heap) (tk:Nat) (acc:Array Value),(∀b o,s.heap.get? b=Z o->h'.get? b=Z o)->ItemsOf (λi v=>∃t,v=.int (a+i*c) t) acc n->R acc.toList {s with heap:=h',toks:=tk}):wpAny (model prog w) A (collect (.ref r)) R E s:=by
 unfold collect;refine Ac (wpAny_runValue (Ey entry_proto_collect' ?_));rw[Fq bw _];show wpAny _ A.in1 (newList [] >>= λl=>again (.builtin "list.__iadd__" ⟨[l,.ref r],[]⟩)) _ _ s;refine Ac (DU (Ag ⟨He Pr _,Ey entry_list_iadd' ?_⟩));rw[Fq Pr _];have hS₁:(s.heap.push {cls:=.type "list",data:=.seq ([]:List Value).toArray}).get? s.heap.objs.size=Z {cls:=.type "list",data:=.seq #[]}:=AZ _ rfl;show wpAny _ A.in1 (bu (.ref s.heap.objs.size) (.ref r) (.ref s.heap.objs.size)) _ _ _;have hr1:IsRange (s.heap.push {cls:=.type "list",data:=.seq ([]:List Value).toArray}) r a b c t u v:=Ar _ hr;refine Bw (wpAny_extend_range (A:=A) (s:={s with heap:=s.heap.push {cls:=.type "list",data:=.seq ([]:List Value).toArray}})
  (R:=λ(q:Result) (s':Shared)=>∃(h':Heap) (tk:Nat) (acc':Array Value) (c':Nat),q=.ok (.ret (.ref s.heap.objs.size))/\s'={s with heap:=h',toks:=tk} /\
   (∀b o,s.heap.get? b=Z o->h'.get? b=Z o)/\h'.get? s.heap.objs.size=Z {cls:=.type "list",dict:=J,data:=.seq acc' c',slots:=#[]}/\ItemsOf (λi v=>∃t,v=.int (a+i*c) t) acc' n)
  hh hr1 wa hn sJ s.heap.objs.size (.ref s.heap.objs.size) 0 hS₁
  (λh' tk acc' c' hk hS' tj=>⟨h',tk,acc',c',rfl,rfl,λb o e=>hk b o (As (Ao e)) (Ar _ e),hS',tj⟩)) (λtL s' x=>?_) λe s' x=>?_
 .have go:∀(h':Heap) (tk:Nat) (acc':Array Value) (c':Nat),(∀b o,s.heap.get? b=Z o->h'.get? b=Z o)->h'.get? s.heap.objs.size=Z {cls:=.type "list",dict:=J,data:=.seq acc' c',slots:=#[]}->ItemsOf (λi v=>∃t,v=.int (a+i*c) t) acc' n ->
    wpAny (model prog w) A (load s.heap.objs.size >>= λo=>match o.data with | .seq xs _=>pure xs.toList|_=>unsupported "internal:collect") R E {s with heap:=h',toks:=tk}:=λh' tk acc' c' hk hS' tj =>
   Ac (wpAny_load hS' (Ag (h h' tk acc' hk tj)))
  cases tL with
  |done f=>obtain⟨h',tk,acc',c',e,rfl,hk,hS',tj⟩:=x;cases e;exact go h' tk acc' c' hk hS' tj
  |again c₁=>refine⟨x.1,Fm x.2 λq s₂ y=>?_⟩;obtain⟨h',tk,acc',c',rfl,rfl,hk,hS',tj⟩:=y;exact go h' tk acc' c' hk hS' tj
 .obtain⟨_,_,_,_,e',_⟩:=x
  cases e'
end
theorem pq(r:Addr)(a b c:Int)(t u v:Tok)(n:Nat)(wa:aU a b c=Aa)(hn:Mt a b c=n)(sJ:n<=2 ^ 24):Meets (Builtin.«tuple.__new__» ⟨[.type "tuple",.ref r],[]⟩)
   (λA R s=>A.handled=J/\IsRange s.heap r a b c t u v/\∀(h':Heap) (tk:Nat) (acc:Array Value),(∀b o',s.heap.get? b=Z o'->h'.get? b=Z o')->ItemsOf (λi v=>∃t,v=.int (a+i*c) t) acc n ->
    R (.ok (.ret (.ref h'.objs.size))) {s with heap:=h'.push {cls:=.type "tuple",data:=.seq acc},toks:=tk}) :=
 .of_wp λprog w A R s h=>by
  obtain⟨hp,g,d,tk,os⟩:=s;obtain⟨hh,ht,h⟩:=h;have uZ:=PySem.sub_tuple_self;have hinit:=PySem.init_tuple_lookup;have hmh:=PySem.madeHere_tuple;have hT:Shared.TypeIs ⟨hp,g,d,tk,os⟩ (.ref r) "range":=⟨_,ht,rfl⟩;have hh1:A.in1.handled=J:=hh
  wp_walk using wpAny_typeOf hT,nq hh1 ht wa hn sJ
  intro h' tk' acc hk tj;show wpAny _ _ (bE acc.toList.toArray >>= λv=>ret v) _ _ _;unfold bE;have e:acc.toList.toArray=acc:=by simp
  rw[e];refine Ac (DU ?_ (by show acc.size<=sizeLine;rw[tj.1,Bo];omega));exact Ag ⟨_,rfl,h h' tk' acc hk tj⟩
section
variable{X:Cx}{a b c e:Expr}{fa fb fc:HM.EF}{pos p:Pos}{f:HM.BF}
theorem ay:A6 X (.type "range") (λxs H Q=>∃j,xs=[.int j]/\∀l,H l=J->Q (.ref l) (upd H l (.rng 0 j))):=by intro sI s Y H xs us Q I r h;obtain⟨j,rfl,q⟩:=h;obtain⟨u,rfl,rx⟩:=vals1 r;obtain⟨t,rfl⟩:=rx;refine call_range_1 ⟨.ref s.heap.objs.size,_,I.laid (a:=s.heap.objs.size) (o:=.rng 0 j) (λb o e=>Ar _ e) (Aj _) ?_,rfl,q _ (I.hok.fresh (Aj _))⟩;exact⟨_,_,_,AZ _ rfl⟩
theorem lX(hc:X.calm=Aa):A6 X (.type "tuple") (λxs H Q=>∃p lo hi,xs=[.ref p]/\H p=Z (.rng lo hi)/\-1000000<lo/\lo<1000000/\-1000000<hi/\hi<1000000 /\
  ∀l,H l=J->Q (.ref l) (upd H l (.tup ((Ah (hi-lo).toNat).map λ(k:Nat)=>V.int (lo+k))))):=by
 intro sI s Y H xs us Q I r h;obtain⟨p,lo,hi,rfl,hp,h1,h2,h3,h4,q⟩:=h;obtain⟨u,rfl,rx⟩:=vals1 r;cases rx;obtain⟨t,u,v,ho⟩:=(show ZZ X.prog X.w H s.heap p (.rng lo hi) from I.hok p _ hp);have hn:Mt lo hi 1=((hi-lo).toNat:Nat):=by rw[rangeSize_one];split<;>omega
 refine callType_new PySem.F.called_tuple (by decide) (PySem.F.typeCall_tuple_1 _) (PySem.F.newCall_tuple_1 _) (λobj=>PySem.F.args_object_init_2 obj _) PySem.F.entry_tuple_new
  (pq p lo hi 1 t u v (hi-lo).toNat (small_one (by omega) (by omega) (by omega) (by omega)) hn (by omega)) ⟨I.ok.hd hc,ho,λh' tk' acc kp tj=>⟨⟨_,AZ _ rfl,rfl⟩,?_⟩⟩
 have I1:Inv X sI Y H {s with heap:=h',toks:=tk'}:=I.kept kp;have rv:sL ((Ah (hi-lo).toNat).map λ(k:Nat)=>V.int (lo+k)) acc.toList:=by
  refine GF (by have z:acc.toList.length=acc.size:=BB;rw[Af,Fe,z,tj.1]) λi v u e1 e2=>?_;rw[A1]at e1;obtain⟨k,hk,rfl⟩:=Ai.mp e1;obtain⟨t,rfl⟩:=tj.2 i u (by rw[<-Ek];exact e2);have:k=i:=by have:=A0.mp hk;obtain⟨_,e⟩:=this;simpa using e.symm
  subst this;exact⟨t,by simp⟩
 have I2:=I1.laid (a:=h'.objs.size) (o:=.tup ((Ah (hi-lo).toNat).map λ(k:Nat)=>V.int (lo+k))) (h':=h'.push {cls:=.type "tuple",data:=.seq acc}) (t':=tk') (λb o e=>Ar _ e) (Aj _)
  ⟨by rw[Af,Fe,Bo];omega,acc.toList,rv,by simpa using IsTup.new _ _⟩
 exact⟨.ref h'.objs.size,_,I2,rfl,q _ (I1.hok.fresh (Aj _))⟩
theorem YB(lo:Int)(n:Nat):Zt K F (HM.D9 lo n) ((Ah n).map λ(k:Nat)=>V.int (lo+k)):=by unfold HM.D9;refine⟨by simp,λi d v e1 e2=>?_⟩;rw[A1]at e1 e2;obtain⟨k,hk,rfl⟩:=Ai.mp e1;rw[hk]at e2;cases e2;exact .int _
theorem YX(hmt:X.mg "tuple"=J)(hm:X.mg "range"=J)(hc:X.calm=Aa)(ha:XE X a fa)(hgt:Gl X "tuple":=by rfl)(hg:Gl X "range":=by rfl)(hs:Ad [a] X.env=[(Ab,eval a X.env)]:=by rfl)(uo:Ad [JO (.Name "range" p') [a] [] pos'] X.env=[(Ab,eval (JO (.Name "range" p') [a] [] pos') X.env)]:=by rfl):XE X (.Call (.Name "tuple" p) [.Call (.Name "range" p') [a] [] pos'] [] pos) (HM.aE (HM.Ce fa)):=by
 intro r d hd;unfold HM.aE at hd;split at hd
 .rename_i ds sW
  split at hd
  .cases hd
   unfold HM.Ce at sW;split at sW
   .rename_i j hj
    split at sW
    .rename_i hok
     cases sW;obtain⟨k1,k2⟩:=KN hok;refine PE.imp (FF (lX hc) hgt hmt QT (Z3 (FF ay hg hm boot_range (Z3 (ha r _ hj) BV hs) (he:=hs)) BV uo) (he:=uo)) λY H Q ⟨F0,H0,F,at_,k⟩=>?_;refine⟨F0,H0,F,at_,λv F1 H1 x1 r1=>⟨j,by rw[r1.int_inv],λl hl=>?_⟩⟩;refine⟨l,0,j,rfl,Zz,by omega,by omega,by omega,by omega,λl2 vD=>?_⟩;have x2:=x1.lay' (o:=.rng 0 j) hl;have x3:=x2.lay (o:=.tup ((Ah (j-0).toNat).map λ(k:Nat)=>V.int (0+k))) vD;have rp:=YB (K:=X.K) (F:=upd F1 l2 (.tup ((Ah (j-0).toNat).map λ(k:Nat)=>V.int (0+k)))) 0 j.toNat;have ej:(j-0).toNat=j.toNat:=by omega
     refine k _ _ _ x3 (.tup Zz ?_ ?_)
     .rw[ej];exact rp.1
     .rw[ej]at rp ⊢;exact rp.2
    .cases sW
   .cases sW
  .cases hd
 .cases hd
theorem jK{H:Hp}{q:HM.B}{v:V}{fp:List Addr}{ds:List PyData}(sub:Zp F H)(r:Ay K F H q v fp)(h:HM.gT q=Z ds):∃a,v=.ref a/\Gp K F H a ds:=by
 cases r with
 |pl r =>
  cases r with
  |tup h1 h2 h3=>cases h;exact⟨_,rfl,.tup (.of (sub _ _ h1)) ⟨h2,h3⟩⟩
  | @tupk a x h1=>cases h;exact⟨_,rfl,.tup (.inr h1) (.one (.str x))⟩
  |lst h1 h2 h3=>cases h;exact⟨_,rfl,.lst (sub.seq h1) ⟨h2,h3⟩⟩
  |dct _ _ _ _=>cases h
  |fn _=>cases h
  |non=>cases h
  |bl _=>cases h
  |int _=>cases h
  |str _=>cases h
 |ol h1 r=>cases h;exact⟨_,rfl,.lst (.of h1) r⟩
 |hd _ _ _ _=>cases h
 |hf _=>cases h
 | @ok a kvs vvs h1 h2 h3 =>
  cases h;refine⟨_,rfl,?_⟩;have e:(kvs.map λp=>HM.BS p.1)=vvs.map λp=>HM.BS p.1:=by
   have:=congrArg (Iv HM.BS) h2
   rwa [Aw,Aw]at this
  rw[e];exact .dk h1
 | @ot a kvs vvs h1 h2 h3 =>
  cases h;refine⟨_,rfl,?_⟩;have e:(kvs.map λp=>BZ (p.1.map HM.BS))=vvs.map λp=>BZ (p.1.map HM.BS):=by
   have:=congrArg (Iv λk:List sP=>BZ (k.map HM.BS)) h2
   rwa [Aw,Aw]at this
  rw[e];exact .dt h1
 | @otl a kvs vvs ls h1 h2 h3 h4 =>
  cases h;refine⟨_,rfl,?_⟩;have e:(kvs.map λp=>BZ (p.1.map HM.BS))=vvs.map λp=>BZ (p.1.map HM.BS):=by
   have:=congrArg (Iv λk:List sP=>BZ (k.map HM.BS)) h2
   rwa [Aw,Aw]at this
  rw[e];exact .dt h1
theorem NC(hm:X.mg "sorted"=J)(hc:X.calm=Aa)(ha:XB X a f)(hg:Gl X "sorted":=by rfl)(hs:Ad [a] X.env=[(Ab,eval a X.env)]:=by rfl):XF X (.Call (.Name "sorted" p) [a] [] pos) (HM.N3 f):=by
 intro r d h;unfold HM.N3 at h;split at h
 .rename_i x hx
  split at h
  .rename_i ds sW
   obtain⟨ds',h1,h2⟩:=Ai.mp h;subst h2;refine PE.imp (Er (mO hc) hg hm NH (Ep ha hx hs) (he:=hs)) λY H Q ⟨F0,H0,F,at_,k⟩=>?_;refine⟨F0,H0,F,at_,λv fp F1 H1 x1 r1=>?_⟩;obtain⟨l,e1,src⟩:=jK x1.sub r1 sW;subst e1;exact⟨l,F1,ds,ds',rfl,x1.sub,src,h1,λl' ws hl' rs=>EY (P:=λv _ H'=>Q v H') x1.tups rs hl' k⟩
  .cases h
 .cases h
theorem jL(hc:X.calm=Aa):A6 X (.type "set") (λxs H Q=>∃p ns,xs=[.ref p]/\tU X.K H p (ns.map V.int)/\(∀n∈ns,0<=n/\n<8)/\∀l,H l=J->Q (.ref l) (upd H l (.ext λh=>Cz X.prog X.w h l (HM.tY [] ns)))):=by intro sI s Y H xs us Q I r h;obtain⟨p,ns,rfl,hq,hb,q⟩:=h;obtain⟨u,rfl,rx⟩:=vals1 r;cases rx;obtain⟨its,rv,pl,hz⟩:=I.list hq;refine kg (I.ok.hd hc) pl.isList (by simpa using GS rv) hb λh' tk hS kp=>?_;have hS':=hS;obtain⟨o,es,ep,t,ho,_⟩:=hS';refine⟨.ref s.heap.objs.size,_,I.laid (a:=s.heap.objs.size) (o:=.ext λh=>Cz X.prog X.w h s.heap.objs.size (HM.tY [] ns)) (λb o e=>kp b o (Ao e) e) (Aj _) ?_,rfl,q _ (I.hok.fresh (Aj _))⟩;exact⟨hS,⟨o,ho⟩,λh1 h2 x kk=>x.at' kk⟩
theorem mZ(hc:X.calm=Aa):A6 X (.builtin "sorted") (λxs H Q=>∃p L,xs=[.ref p]/\H p=Z (.ext λh=>Cz X.prog X.w h p L)/\∀l,H l=J->Q (.ref l) (upd H l (.lst ((HM.sortI L).map V.int)))):=by
 intro sI s Y H xs us Q I r h;obtain⟨p,L,rfl,hp,q⟩:=h;obtain⟨u,rfl,rx⟩:=vals1 r;cases rx;obtain⟨hX,_,_⟩:=(show ZZ X.prog X.w H s.heap p (.ext λh=>Cz X.prog X.w h p L) from I.hok p _ hp);obtain⟨o,es,ep,t,ho,wg,hd,wO,yl,hpl,ht⟩:=hX;have hsz:=wo hpl;have uO:=ht.few;have raw:Dl X.w s.heap p es ep t:=⟨⟨o,ho,wg,hd⟩,by rw[hsz];exact ht.fits,hsz,ht.w⟩;refine UL OZ OX OW (args_sorted1 _) ?_;unfold Builtin.«sorted»;refine Ac (m:=checkCount "sorted" 1 1 _) (Ag ?_);refine Ac (RG (eX (es:=es) (ep:=ep) (t:=t)) (I.ok.hd hc) raw (by rw[Bo];omega) λh' tk acc kp _ tj=>?_);have vO:acc.toList.length=es.size:=by rw[BB];exact tj.1
 have hI:IntsAre acc.toList ((CP X.w p es ep).toList.map Dm):=by
  have key:∀(us:List Value) (xs:List (Int×Value)),us.length=xs.length->(∀(i:Nat) u,us[i]?=Z u->∃e,xs[i]?=Z e/\u=e.2)->(∀e∈xs,∃n t,e=((intKind X.prog X.w).hash n,C9 n t))->IntsAre us (xs.map Dm):=by
   intro us
   induction us with
   |nil=>intro xs hl _ _;cases xs with|nil=>exact .nil|cons _ _=>simp at hl
   |cons u us ih =>
    intro xs hl hk he;cases xs with
    |nil=>simp at hl
    |cons x xs=>obtain⟨e,e1,e2⟩:=hk 0 u rfl;simp at e1;subst e1;obtain⟨n,t,e3⟩:=he x (Am ..);rw[e2,e3];exact .cons n t (ih xs (by simpa using hl) (λi u e=>hk (i+1) u (by simpa using e)) λe h=>he e (Ap _ h))
  refine key acc.toList (CP X.w p es ep).toList (by rw[vO,BB,Rm]) (λi u e=>?_) λe h=>wO e ((Ry X.w p es ep).mem_iff.mp h);obtain⟨e',e1,e2⟩:=tj.2 i u (by rw[<-Ek];exact e);exact⟨e',by rw[Ek];exact e1,e2⟩
 refine Ac (J1 ?_ (by rw[vO,Bo];omega));have vg:(h'.push (seqObj "list" acc.toList.toArray 0)).get? h'.objs.size=Z (seqObj "list" acc.toList.toArray 0):=AZ _ rfl;show wpAny _ _ _ _ _ {s with heap:=h'.push (seqObj "list" acc.toList.toArray 0),toks:=tk};refine Ac (Cu (En L4 ⟨_,vg,rfl⟩ Mm (list_sort_tree vg hI (by omega) λout ns' a1 a2 a3=>⟨_,rfl,?_⟩) (Pn _)));refine Ag ⟨_,rfl,?_⟩;have e:ns'=HM.sortI L:=WY (a2.trans (((Ry X.w p es ep).map Dm).trans yl)) a3;have hl:ns'.length<64:=by rw[a2.length_eq,<-hI.length,vO];omega
 obtain⟨ee,he⟩:=sortedHeap_at (out:=out) vg;have I1:Inv X sI Y H {s with heap:=h',toks:=tk}:=I.kept kp;refine⟨.ref h'.objs.size,_,I1.laid (a:=h'.objs.size) (o:=.lst (ns'.map V.int)) (t':=tk) (λb o e1=>?_) (Aj _) ⟨by rw[Af,Bo];omega,out.toList,ee,R1 a1,by simpa using he⟩,rfl,?_⟩
 .exact Sq (As (Ao e1)) (Ar _ e1)
 .rw[e];exact q _ (I1.hok.fresh (Aj _))
theorem av(hm:X.mg "sorted"=J)(wz:X.mg "set"=J)(hc:X.calm=Aa)(ha:XB X a f)(hg:Gl X "sorted":=by rfl)(wA:Gl X "set":=by rfl)(hs:Ad [a] X.env=[(Ab,eval a X.env)]:=by rfl)(uo:Ad [JO (.Name "set" p') [a] [] pos'] X.env=[(Ab,eval (JO (.Name "set" p') [a] [] pos') X.env)]:=by rfl):XF X (.Call (.Name "sorted" p) [.Call (.Name "set" p') [a] [] pos'] [] pos) (HM.aJ f):=by
 intro r d h;unfold HM.aJ at h;split at h
 .rename_i x hx
  split at h
  .rename_i ds sW
   split at h
   .rename_i ns ug
    split at h
    .rename_i hlow
     cases h;refine PE.imp (Er (mZ hc) hg hm NH (Z3 (FF (jL hc) wA wz d9 (Ep ha hx hs) (he:=hs)) BV uo) (he:=uo)) λY H Q ⟨F0,H0,F,at_,k⟩=>?_;refine⟨F0,H0,F,at_,λv fp F1 H1 x1 r1=>?_⟩;obtain⟨l,vs,e1,hq,rs⟩:=EZ x1.sub r1 sW;subst e1;rw[FK ug rs]at hq;refine⟨l,ns,rfl,hq,λn hn=>?_,λl2 vD=>⟨l2,_,rfl,Zz,λl3 hl3=>?_⟩⟩
     .have:=Au.mp hlow n hn
      rw[AI,decide_eq_true_eq,decide_eq_true_eq]at this;exact this
     .have x2:=x1.lay' (o:=.ext λh=>Cz X.prog X.w h l2 (HM.tY [] ns)) vD
      exact EY (P:=λv _ H'=>Q v H') x2 (Lc _) hl3 k
    .cases h
   .cases h
  .cases h
 .cases h
end
end
end HP
namespace HP
open PySem PySem.Spec PyProof.Rows L2
variable[FX]
section
variable{vQ:Bool}{q:HM.B}{r:HM.Env}{i:Int}{ns:List Int}{ds:List PyData}
section
variable{X:Cx}{a b:Expr}{fa:HM.EF}{f:HM.BF}{pos:Pos}
theorem QR(i:Int):∀ns:List Int,inV (.int i) (ns.map V.int)=ns.contains i
 |[]=>rfl
 |n::ns=>by have ih:=QR i ns;unfold inV at ih ⊢;rw[Ak,Ee,ih,List.contains_cons];show(n==i||_)=(i==n||_);rw[show(n==i)=(i==n) from Pe.mpr ⟨λh=>beq_iff_eq.mpr (beq_iff_eq.mp h).symm,λh=>beq_iff_eq.mpr (beq_iff_eq.mp h).symm⟩]
theorem Q6:∀ns:List Int,(ns.map V.int).all Bp=Aa
 |[]=>rfl
 |n::ns=>by rw[Ak,Di,Q6 ns];rfl
theorem iu{d:PyData}(h:HM.M4 fa f r=Z d):∃i q ds ns,fa r=Z (.int i)/\f r=Z q/\HM.B8 q=Z ds/\HM.BP ds=Z ns/\d=.bool (ns.contains i):=by
 unfold HM.M4 at h;split at h
 .split at h
  .split at h
   .obtain⟨c,h1,h2⟩:=Ai.mp h
    obtain⟨ns,h3,h4⟩:=Ai.mp h1;exact⟨_,_,_,ns,by assumption,by assumption,by assumption,h3,by rw[<-h2,<-h4]⟩
   .cases h
  .cases h
 .cases h
theorem lR{d:PyData}(h:HM.Jz fa f r=Z d):∃i q ds ns,fa r=Z (.int i)/\f r=Z q/\HM.B8 q=Z ds/\HM.BP ds=Z ns/\d=.bool (!ns.contains i):=by
 unfold HM.Jz at h;split at h
 .split at h
  .split at h
   .obtain⟨c,h1,h2⟩:=Ai.mp h
    obtain⟨ns,h3,h4⟩:=Ai.mp h1;exact⟨_,_,_,ns,by assumption,by assumption,by assumption,h3,by rw[<-h2,<-h4]⟩
   .cases h
  .cases h
 .cases h
theorem il(ha:XE X a fa)(hb:XB X b f)(h1:fa r=Z (.int i))(h2:f r=Z q)(h3:HM.B8 q=Z ds)(h4:HM.BP ds=Z ns){op:CmpOp}(ho:uq X (BQ op) (rIn X.K vQ))(hm:DA op b=Ab):PE X (.Compare a [op] [b] pos) (yE X.K r λ_ F' _ v=>v=.bl (if vQ then !ns.contains i else ns.contains i)):=by
 refine PE.imp (V6 ho (ha r _ h1) (hb r q h2) hm) λY H Q ⟨F0,H0,F,at_,k⟩=>?_;refine⟨F0,H0,F,at_,λv F1 H1 x1 r1=>⟨F0,H0,F1,at_.grow x1,λw F2 H2 x2 ⟨fp,r2⟩=>?_⟩⟩;obtain⟨p,vs,e1,hq,rs⟩:=K5 x2.sub r2 h3;cases r1;rw[FK h4 rs]at hq;refine⟨p,_,e1,hq,rfl,Q6 ns,k _ F2 H2 (x1.trans x2) ?_⟩;rw[QR]
theorem iY(ha:XE X a fa)(hb:XB X b f)(h1:fa r=Z (.int i))(h2:f r=Z q)(h3:HM.B8 q=Z ds)(h4:HM.BP ds=Z ns){op:CmpOp}(ho:uq X (BQ op) (rIn X.K vQ))(hm:DA op b=Ab):PT X (.Compare a [op] [b] pos) λY H Q=>vt X.K r Y H λF0 H0 F=>∀F' H',sQ F H F' H'->Q (if vQ then !ns.contains i else ns.contains i) H':=by
 refine PT.imp (QF ho (ha r _ h1) (hb r q h2) hm) λY H Q ⟨F0,H0,F,at_,k⟩=>?_;refine⟨F0,H0,F,at_,λv F1 H1 x1 r1=>⟨F0,H0,F1,at_.grow x1,λw F2 H2 x2 ⟨fp,r2⟩=>?_⟩⟩;obtain⟨p,vs,e1,hq,rs⟩:=K5 x2.sub r2 h3;cases r1;rw[FK h4 rs]at hq;refine⟨p,_,e1,hq,rfl,Q6 ns,_,rfl,?_⟩;rw[QR];exact k F2 H2 (x1.trans x2)
theorem VF(ha:XE X a fa)(hb:XB X b f)(hm:DA .In b=Ab:=by rfl):XE X (.Compare a [.In] [b] pos) (HM.M4 fa f):=by intro r d h;obtain⟨i,q,ds,ns,h1,h2,h3,h4,rfl⟩:=iu h;refine PE.imp (il ha hb h1 h2 h3 h4 kC hm) λY H Q ⟨F0,H0,F,at_,k⟩=>⟨F0,H0,F,at_,λv F' H' x e=>k v F' H' x ?_⟩;subst e;exact .bl _
theorem XZ(ha:XE X a fa)(hb:XB X b f)(hm:DA .NotIn b=Ab:=by rfl):XT X (.Compare a [.NotIn] [b] pos) (HM.tV (HM.Jz fa f)):=by intro r d h;obtain⟨i,q,ds,ns,h1,h2,h3,h4,e⟩:=lR (HI h);cases e;exact iY ha hb h1 h2 h3 h4 mf hm
end
end
section
variable{kt:Nat}{px py:Pos}{x y:Str}
section
variable{X:Cx}{c e:Expr}{fa:HM.EF}{t:HM.TF}{g:HM.SF}{pos:Pos}{body:List Stmt}
theorem QO(n:Nat)(uU:X.xe=λ_ _=>False)(hc:XT X c t)(hb:vV X body g):XS X (.While c body [] pos) (HM.Qt n t g):=by
 intro r o ho;have ho:HM.Dx t g n r=Z o:=ho;have pb:uA X body (λE Y H=>∃r o,g r=Z o/\zu X.K r o E Y H):=λsI s Y H E I ⟨r,o,h1,h2⟩=>hb r o h1 sI s Y H E I h2;have pc:PT X c (λY H Q=>∃r b,t r=Z b/\vt X.K r Y H λF0 H0 F=>∀F' H',sQ F H F' H'->Q b H'):=λsI s Y H Q I ⟨r,b,h1,h2⟩=>hc r b h1 sI s Y H Q I h2;refine PS.imp (jd (Q5 uU) pc pb) λE Y H ⟨F0,H0,F,at_,k⟩=>?_;refine⟨λm Y H=>∃F r,At X.K F0 H0 F H r Y/\HM.Dx t g m r=Z o,⟨n,F,r,at_,ho⟩,?_⟩
 rintro m Y H ⟨F2,r2,uE,go⟩
 cases m with
 |zero=>cases go
 |succ m =>
  unfold HM.Dx at go;split at go
  .rename_i ht
   refine⟨r2,Aa,ht,F0,H0,F2,uE,λF' H' x=>?_⟩;dsimp only;rw[if_pos rfl];have uz:=uE.grow x;have a4:=uz.rebase;refine⟨λσ' H'=>∃F r,At X.K F0 H0 F H' r σ'/\HM.Dx t g m r=Z o,λσ' H' q=>⟨m,IQ m,q⟩,?_⟩;split at go
   .rename_i r' hr
    exact⟨_,_,hr,F',H0,F',a4,λσ' F' H' a'=>⟨F',r',a'.unbase uz.ext uz.nt0,go⟩⟩
   .rename_i r' hr
    exact⟨_,_,hr,F',H0,F',a4,λσ' F' H' a'=>⟨F',r',a'.unbase uz.ext uz.nt0,go⟩⟩
   .rename_i r' hr
    cases go;exact⟨_,_,hr,F',H0,F',a4,λσ' F' H' a'=>k σ' F' H' (a'.unbase uz.ext uz.nt0)⟩
   .rename_i d hr
    cases go;exact⟨_,_,hr,F',H0,F',a4,λv F' H' x q=>k v F' H' (uz.ext.unbase x) q⟩
   .cases go
  .rename_i ht
   cases go;refine⟨r2,Ab,ht,F0,H0,F2,uE,λF' H' x=>?_⟩;dsimp only;rw[if_neg (by simp)];exact k Y F' H' (uE.grow x)
  .cases go
theorem fM{i j:Nat}{pt:Pos}(hc:X.calm=Aa)(hN:X.N.Nodup)(hi:X.N[i]?=Z x)(hj:X.N[j]?=Z y)(hx:Loc X.env.scope x)(hy:Loc X.env.scope y)(hf:X.fn x=Aa\/X.env.scope.names.lookup x=Z .local)(hg:X.fn y=Aa\/X.env.scope.names.lookup y=Z .local)(h1:(ED [.Name x px,.Name y py] X.env).length=2:=by rfl)(h2:(ED [.Name x px,.Name y py] X.env).findIdx? (·.1)=J:=by rfl):PG X (.Tuple [.Name x px,.Name y py] kt pt) (UQ X.K 2 (PX (MK i) (PX (MK j) UR))) :=
 Vj hc (Nq (Jh hN hi hx hf) (Nq (Jh hN hj hy hg) Wd)) h1 h2
theorem gQ(i j:Nat){pt:Pos}{iter:Expr}{fi:HM.IF}(hN:X.N.Nodup)(uU:X.xe=λ_ _=>False)(hc:X.calm=Aa)(hi:XI X (.Tuple [.Name x px,.Name y py] kt pt) iter fi)(hb:vV X body g)(zF:X.N[i]?=Z x:=by rfl)(hjy:X.N[j]?=Z y:=by rfl)(hx:Loc X.env.scope x:=by first|exact AG rfl|exact An rfl)(hy:Loc X.env.scope y:=by first|exact AG rfl|exact An rfl)(hf:X.fn x=Aa\/X.env.scope.names.lookup x=Z .local:=by first|exact .inl rfl|exact .inr rfl)(hf2:X.fn y=Aa\/X.env.scope.names.lookup y=Z .local:=by first|exact .inl rfl|exact .inr rfl)(h1:(ED [.Name x px,.Name y py] X.env).length=2:=by rfl)(h2:(ED [.Name x px,.Name y py] X.env).findIdx? (·.1)=J:=by rfl)(hs:∀x,EA iter X.env x=pure x:=by intro _;rfl):XS X (.For (.Tuple [.Name x px,.Name y py] kt pt) iter body [] pos) (HM.Xr i j fi g):=by
 intro r o ho;unfold HM.Xr at ho;split at ho
 .rename_i ds sW
  split at ho
  .rename_i vj
   have pb:uA X body (λE Y H=>∃r o,g r=Z o/\zu X.K r o E Y H):=λsI s Y H E I ⟨r,o,h1,h2⟩=>hb r o h1 sI s Y H E I h2;refine PS.imp (Vi (Q5 uU) hc (hi r ds sW) (fM hc hN zF hjy hx hy hf hf2 h1 h2) pb hs) λE Y H ⟨F0,H0,F,at_,k⟩=>?_;refine⟨F0,H0,F,at_,λz0 F1 H1 x1 it=>?_⟩;refine⟨λn m Y H=>∃F r,At X.K F0 H0 F H r Y/\Zp F1 F/\n+m=ds.length/\HM.Jr i j g (ds.drop n) r=Z o,⟨ds.length,F1,r,at_.grow x1,Zp.refl _,by omega,ho⟩,?_⟩
   rintro n m Y H ⟨F2,r2,uE,s2,hn,go⟩
   obtain⟨y9,y8⟩:=it F2 H s2 uE.sub;cases m with
   |zero =>
    have e:n=ds.length:=by omega
    subst e;rw[Ug]at go;cases go;exact .inl ⟨y8,k Y F2 H uE⟩
   |succ m =>
    have tu:n<ds.length:=by omega
    rw[UN tu]at go;obtain⟨j1,j2⟩:=y9 n ds[n] (A2 tu);refine .inr ⟨j1,λσ' H'=>∃F r,At X.K F0 H0 F H' r σ'/\Zp F1 F/\HM.Jr i j g (ds.drop (n+1)) r=Z o,λσ' H' ⟨F,r,a1,a2,a3⟩=>⟨m,by omega,F,r,a1,a2,by omega,a3⟩,λy H' hy=>?_⟩;obtain⟨e1,ry⟩:=j2 y H' hy;subst e1;obtain⟨F3,uz,s3,ry⟩:∃F3,At X.K F0 H0 F3 H' r2 Y/\Zp F1 F3/\Rep X.K F3 ds[n] y:=⟨_,uE.grow uE.refl.tups,s2.trans (EW uE.sub),ry⟩;have zB:∃d1 d2,ds[n]=.tuple [d1,d2]:=by
     unfold HM.Jr at go;split at go
     .cases ‹_=[]›
     .rename_i d1 d2 q hq
      injection hq with hq _
      exact⟨d1,d2,hq⟩
     .cases go
    obtain⟨d1,d2,zB⟩:=zB;rw[zB]at ry go;obtain⟨pa,v1,v2,e7,ym,rx1,rx2⟩:=Nr ry;subst e7;have a3:=(uz.set (i:=i) rx1).set (i:=j) rx2;have a4:=a3.rebase;refine⟨pa,[v1,v2],rfl,.of (uz.sub _ _ ym),rfl,v1,[v2],rfl,v2,[],rfl,rfl,?_⟩;dsimp only[HM.Jr]at go;split at go
    .rename_i r' hr
     exact⟨_,_,hr,F3,H0,F3,a4,λσ' F' H' a'=>⟨F',r',a'.unbase uz.ext uz.nt0,s3.trans a'.ext.ff,go⟩⟩
    .rename_i r' hr
     exact⟨_,_,hr,F3,H0,F3,a4,λσ' F' H' a'=>⟨F',r',a'.unbase uz.ext uz.nt0,s3.trans a'.ext.ff,go⟩⟩
    .rename_i r' hr
     cases go;exact⟨_,_,hr,F3,H0,F3,a4,λσ' F' H' a'=>k σ' F' H' (a'.unbase uz.ext uz.nt0)⟩
    .rename_i d hr
     cases go;exact⟨_,_,hr,F3,H0,F3,a4,λv F' H' x q=>k v F' H' (uz.ext.unbase x) q⟩
    .cases go
  .cases ho
 .cases ho
end
end
section
variable{r:HM.Env}{ds:List PyData}{x:PyData}{u:Value}
section
variable{X:Cx}{a b:Expr}{fa:HM.EF}{f:HM.BF}{pos:Pos}
theorem VR{e:Value->Bool}{f:PyData->Bool}:∀{ds:List PyData} {us:List Value},ds.length=us.length->(∀(i:Nat) d u,ds[i]?=Z d->us[i]?=Z u->e u=f d)->us.any e=ds.any f
 |[],[],_,_=>rfl
 |[],_::_,hl,_=>by simp at hl
 |_::_,[],hl,_=>by simp at hl
 |d::ds,u::us,hl,k=>by rw[Ee,Ee,k 0 d u rfl rfl,VR (ds:=ds) (us:=us) (by simpa using hl) λi d u e1 e2=>k (i+1) d u (by simpa using e1) (by simpa using e2)]
def U2(K:Ae)(vQ:Bool):R2:=λvx vy H Q=>∃F p xs x ds,Zp F H/\vy=.ref p/\(tU K H p xs\/uL K H p xs)/\Rep K F x vx/\Zt K F ds xs/\HM.C2 x=Aa/\ds.all HM.C2=Aa /\
 Q (.bl (if vQ then !ds.any λd=>BR d x else ds.any λd=>BR d x)) H
open Classical in
noncomputable def EK (h:Heap) (x:PyData) (u:Value):Bool:=decide (∃d as,Reads h u d as/\d.canLay0=Aa/\BR d x=Aa)
theorem Vk{h:Heap}{d:PyData}{as:List Addr}(r:Reads h u d as)(hl:d.canLay0=Aa):EK h x u=BR d x:=by
 classical
 unfold EK;cases q:BR d x with
 |true=>exact decide_eq_true ⟨d,as,r,hl,q⟩
 |false=>refine decide_eq_false λ⟨d',as',r',hl',q'⟩=>?_;rw[SeqAt.Reads.unique d d' u as as' hl r r']at q;rw[q]at q';cases q'
theorem WT{k:Nat}(hr:ZP k X.A){sI:List (Addr×Obj)}{s:Shared}{Y:L2.St}{H F:Hp}{vx:V}{xs:List V}{its:List Value}(I:Inv X sI Y H s)(sub:Zp F H)(rx:Rep X.K F x vx)(ru:RelV vx u)(rs:Zt X.K F ds xs)(rv:sL xs its)(px:HM.C2 x=Aa)(pd:ds.all HM.C2=Aa):(∀y∈its,SeqAt.EqAt X.A.in1 s y u (EK s.heap x y))/\its.any (EK s.heap x)=ds.any λd=>BR d x:=by
 obtain⟨x1,x2⟩:=Ic px;obtain⟨as,hx⟩:=rx.reads I sub x1 u ru;have hun:=hr.un;have each:∀(i:Nat) d y,ds[i]?=Z d->its[i]?=Z y->(∃bs,Reads s.heap y d bs)/\d.canLay0=Aa/\d.depth<=60:=λi d y e1 e2=>by
  have hi:i<xs.length:=by rw[<-rs.1];exact(A0.mp e1).1
  obtain⟨y',q1,q2⟩:=rv.get (A2 hi);rw[e2]at q1;cases q1;have hp:=Ic (Au.mp pd d (Bm e1));exact⟨(rs.2 i d _ e1 (A2 hi)).reads I sub hp.1 y q2,hp⟩
 have hl:ds.length=its.length:=rs.1.trans rv.length;refine⟨λy hy=>?_,VR hl λi d y e1 e2=>?_⟩
 .obtain⟨i,hi,e⟩:=Mc hy
  have hi':i<ds.length:=by omega
  obtain⟨⟨bs,q⟩,h1,h2⟩:=each i ds[i] y (A2 hi') (by rw[A2 hi,e]);rw[Vk q h1];refine SeqAt.eqAt_reads _ _ _ _ _ _ _ _ q hx h1 x1 ?_;have:min (ds[i]).depth x.depth<=60:=Bf (Ua _ _) h2;show X.A.units+1+_<_;omega
 .obtain⟨⟨bs,q⟩,h1,_⟩:=each i d y e1 e2
  exact Vk q h1
theorem jJ{k:Nat}(hr:ZP k X.A):uq X (BQ .NotIn) (U2 X.K Aa):=by
 intro sI s Y H vx vy v u Q I r1 r2 ⟨F,p,xs,x,ds,sub,e,hq,rx,rs,px,pd,q⟩;subst e;cases r2;rcases hq with hq|hq
 .obtain⟨its,r,pl,hz⟩:=I.list hq
  obtain⟨h1,h2⟩:=WT hr I sub rx r1 rs r px pd;refine SeqAt.notIn_listAt (EK s.heap x) pl.isList (λw hw=>h1 w (by simpa using hw)) ⟨.bl _,H,I,rfl,?_⟩;rw[show its.toArray.any (EK s.heap x)=its.any (EK s.heap x) by simp,h2];exact q
 .obtain⟨its,r,pl,hz⟩:=I.tuple hq
  obtain⟨h1,h2⟩:=WT hr I sub rx r1 rs r px pd;refine SeqAt.notIn_tupleAt (EK s.heap x) pl (λw hw=>h1 w (by simpa using hw)) ⟨.bl _,H,I,rfl,?_⟩;rw[show its.toArray.any (EK s.heap x)=its.any (EK s.heap x) by simp,h2];exact q
theorem ij{c:Bool}(h:HM.P8 ds x=Z c):HM.C2 x=Aa/\ds.all HM.C2=Aa/\c=ds.any λd=>BR d x:=by
 unfold HM.P8 at h;split at h
 .rename_i hp
  rw[AI]at hp;cases h;exact⟨hp.1,hp.2,rfl⟩
 .cases h
theorem lV{d:PyData}(h:HM.aA fa f r=Z d):∃x q ds,fa r=Z x/\f r=Z q/\HM.B8 q=Z ds/\HM.C2 x=Aa/\ds.all HM.C2=Aa/\d=.bool (!ds.any λd=>BR d x):=by
 unfold HM.aA at h;split at h
 .split at h
  .split at h
   .obtain⟨c,h1,h2⟩:=Ai.mp h
    obtain⟨h3,h4,h5⟩:=ij h1;exact⟨_,_,_,by assumption,by assumption,by assumption,h3,h4,by rw[<-h2,<-h5]⟩
   .cases h
  .cases h
 .cases h
theorem f6{vQ:Bool}{q:HM.B}(ha:XE X a fa)(hb:XB X b f)(h1:fa r=Z x)(h2:f r=Z q)(h3:HM.B8 q=Z ds)(p1:HM.C2 x=Aa)(p2:ds.all HM.C2=Aa){op:CmpOp}(ho:uq X (BQ op) (U2 X.K vQ))(hm:DA op b=Ab):PT X (.Compare a [op] [b] pos) λY H Q=>vt X.K r Y H λF0 H0 F=>∀F' H',sQ F H F' H'->Q (if vQ then !ds.any λd=>BR d x else ds.any λd=>BR d x) H':=by
 refine PT.imp (QF ho (ha r _ h1) (hb r q h2) hm) λY H Q ⟨F0,H0,F,at_,k⟩=>?_;refine⟨F0,H0,F,at_,λv F1 H1 x1 r1=>⟨F0,H0,F1,at_.grow x1,λw F2 H2 x2 ⟨fp,r2⟩=>?_⟩⟩;obtain⟨p,vs,e1,hq,rs⟩:=K5 x2.sub r2 h3;exact⟨F2,p,vs,x,ds,x2.sub,e1,hq,r1.mono x2.ff,rs,p1,p2,_,rfl,k F2 H2 (x1.trans x2)⟩
theorem j0{k:Nat}(hr:ZP k X.A)(ha:XE X a fa)(hb:XB X b f)(hm:DA .NotIn b=Ab:=by rfl):XT X (.Compare a [.NotIn] [b] pos) (HM.tV (HM.aA fa f)):=by intro r d h;obtain⟨x,q,ds,h1,h2,h3,h4,h5,e⟩:=lV (HI h);cases e;exact f6 ha hb h1 h2 h3 h4 h5 (jJ hr) hm
end
end
section
variable{q:HM.B}{r:HM.Env}{F H:Hp}{fp:List Addr}{K:Ae}
section
variable{X:Cx}{a b c e:Expr}{fa fb fc:HM.EF}{f:HM.BF}{pos p:Pos}{es:List Expr}
theorem rdT{F':Hp}{a:Addr}{vvs:List (List sP×V)}(r:Rd F a (.dT vvs))(s:AU F F'):Rd F' a (.dT vvs):=r.imp (λh=>s _ _ h) λ⟨o,h⟩=>⟨o,s _ _ h⟩
theorem MN{a b:Addr}{kvs:List (List sP×V)}{k:List sP}(e:Rd H a (.dT kvs))(eb:H b=Z (.tup (k.map kV))):BK H a (.ref b) (AV kvs k):=.inr ⟨kvs,k,b,e,rfl,eb,rfl⟩
theorem Nu{v:V}{kvs:List (List sP×PyData)}(sub:Zp F H)(r:Ay K F H q v fp)(h:HM.MY q=Z kvs):∃l vvs,v=.ref l/\Rd H l (.dT vvs)/\AO K F kvs vvs:=by
 cases r with
 |pl r =>
  cases r with
  | @dct l es kvs' vvs h1 h2 h3 h4=>subst h2;have h:HM.ER (HM.Zn kvs')=Z kvs:=h;rw[HM.sY]at h;cases h;refine⟨l,vvs,rfl,Na h1 sub,h3,?_,h4⟩;have:=congrArg BC h3;rw[Af,Af]at this;rw[Af,Af,this]
  |fn _=>cases h
  |tupk _=>cases h
  |tup _ _ _=>cases h
  |lst _ _ _=>cases h
  |non=>cases h
  |bl _=>cases h
  |int _=>cases h
  |str _=>cases h
 |ol _ _=>cases h
 |ok _ _ _=>cases h
 | @ot l kvs vvs h1 h2 h3=>cases h;exact⟨l,vvs,rfl,.inl h1,h2,h3⟩
 | @hd l o es kvs' vvs h1 h2 h3 h4=>subst h2;have h:HM.ER (HM.Zn kvs')=Z kvs:=h;rw[HM.sY]at h;cases h;exact⟨l,vvs,rfl,.inr ⟨o,sub _ _ h1⟩,h3,h4⟩
 |hf _=>cases h
 |otl _ _ _ _=>cases h
theorem i5{d:PyData}(h:HM.Xb fa f r=Z d):∃x q kvs y,fa r=Z x/\f r=Z q/\HM.MY q=Z kvs/\HM.Be x=Z y/\d=.bool (HM.Zm kvs y).isSome:=by
 unfold HM.Xb at h;split at h
 .split at h
  .split at h
   .obtain⟨y,h1,h2⟩:=Ai.mp h
    exact⟨_,_,_,y,by assumption,by assumption,by assumption,h1,h2.symm⟩
   .cases h
  .cases h
 .cases h
theorem lM{d:PyData}(h:HM.FI fa f r=Z d):∃x q kvs y,fa r=Z x/\f r=Z q/\HM.MY q=Z kvs/\HM.Be x=Z y/\d=.bool (!(HM.Zm kvs y).isSome):=by
 unfold HM.FI at h;split at h
 .split at h
  .split at h
   .obtain⟨y,h1,h2⟩:=Ai.mp h
    exact⟨_,_,_,y,by assumption,by assumption,by assumption,h1,h2.symm⟩
   .cases h
  .cases h
 .cases h
theorem fz(hu:X.A.units+1<cLine)(ha:XE X a fa)(hb:XB X b f)(hm:DA .In b=Ab:=by rfl):XT X (.Compare a [.In] [b] pos) (HM.tV (HM.Xb fa f)):=by intro r d h;obtain⟨x,q,kvs,y,h1,h2,h3,h4,e⟩:=i5 (HI h);cases e;refine PT.imp (Qe (cn hu (ha r x h1) (hb r q h2)) hm) λY H Q ⟨F0,H0,F,at_,k⟩=>?_;refine⟨F0,H0,F,at_,λv F1 H1 x1 r1=>⟨F0,H0,F1,at_.grow x1,λw F2 H2 x2 ⟨fp,r2⟩=>?_⟩⟩;obtain⟨l,vvs,e1,e2,T⟩:=Nu x2.sub r2 h3;obtain⟨bb,rfl,uV⟩:=D8 h4 (r1.mono x2.ff);exact⟨l,_,e1,MN e2 (x2.sub _ _ uV),_,rfl,by rw[T.some_iff];exact k F2 H2 (x1.trans x2)⟩
theorem NB(hu:X.A.units+1<cLine)(ha:XE X a fa)(hb:XB X b f)(hm:DA .NotIn b=Ab:=by rfl):XT X (.Compare a [.NotIn] [b] pos) (HM.tV (HM.FI fa f)):=by intro r d h;obtain⟨x,q,kvs,y,h1,h2,h3,h4,e⟩:=lM (HI h);cases e;refine PT.imp (Qe (X7 hu (ha r x h1) (hb r q h2)) hm) λY H Q ⟨F0,H0,F,at_,k⟩=>?_;refine⟨F0,H0,F,at_,λv F1 H1 x1 r1=>⟨F0,H0,F1,at_.grow x1,λw F2 H2 x2 ⟨fp,r2⟩=>?_⟩⟩;obtain⟨l,vvs,e1,e2,T⟩:=Nu x2.sub r2 h3;obtain⟨bb,rfl,uV⟩:=D8 h4 (r1.mono x2.ff);exact⟨l,_,e1,MN e2 (x2.sub _ _ uV),_,rfl,by rw[T.some_iff];exact k F2 H2 (x1.trans x2)⟩
theorem KS(hu:X.A.units+1<cLine)(ha:XB X a f)(hk:XE X b fb)(hs:Kc b:=by intro _ _;rfl):XE X (.Subscript a b pos) (HM.B2 f fb):=by
 intro r d h;unfold HM.B2 at h;split at h
 .rename_i q hq
  split at h
  .rename_i kvs hd
   split at h
   .rename_i x hx
    split at h
    .rename_i y hy
     refine PE.imp (QE hu (ha r q hq) (hk r x hx) hs) λY H Q ⟨F0,H0,F,at_,kk⟩=>?_;refine⟨F0,H0,F,at_,λv F1 H1 x1 ⟨fp,r1⟩=>⟨F0,H0,F1,at_.grow x1,λw F2 H2 x2 r2=>?_⟩⟩;obtain⟨l,vvs,e1,e2,T⟩:=Nu x1.sub r1 hd;have e2':=rdT e2 x2.hh;have T':AO X.K F2 kvs vvs:=⟨T.1,T.2.mono x2.ff⟩;obtain⟨bb,rfl,uV⟩:=D8 hy r2;obtain⟨u,q1,q2⟩:=T'.look.1 d h;exact⟨l,u,e1,by rw[<-q1];exact MN e2' (x2.sub _ _ uV),kk u F2 H2 (x1.trans x2) q2⟩
    .cases h
   .cases h
  .cases h
 .cases h
theorem jS{uu:Pos}(hu:X.A.units+1<cLine)(ha:XB X a f)(hk:XE X b fb)(hz:XE X c fc)(m:M2 X a "get" uu b c pos):XE X (.Call (.Attribute a "get" uu) [b,c] [] pos) (HM.Rb f fb fc):=by
 intro r d h;unfold HM.Rb at h;split at h
 .rename_i q hq
  split at h
  .rename_i kvs hd
   split at h
   .rename_i x hx
    split at h
    .rename_i z hz'
     split at h
     .rename_i y hy
      cases h;refine PE.imp (iK hu (ha r q hq) (hk r x hx) (hz r z hz') m) λY H Q ⟨F0,H0,F,at_,kk⟩=>?_;refine⟨F0,H0,F,at_,λv F1 H1 x1 ⟨fp,r1⟩=>?_⟩;obtain⟨l,vvs,e1,e2,T⟩:=Nu x1.sub r1 hd;refine⟨l,e1,.inr ⟨vvs,e2⟩,F0,H0,F1,at_.grow x1,λw F2 H2 x2 r2=>⟨F0,H0,F2,(at_.grow x1).grow x2,λw' F3 H3 x3 r3=>?_⟩⟩;have e3:=rdT (rdT e2 x2.hh) x3.hh;have T':AO X.K F3 kvs vvs:=⟨T.1,(T.2.mono x2.ff).mono x3.ff⟩;obtain⟨bb,rfl,uV⟩:=D8 hy (r2.mono x3.ff);refine⟨_,MN e3 (x3.sub _ _ uV),kk _ F3 H3 ((x1.trans x2).trans x3) ?_⟩;obtain⟨t1,t2⟩:=T'.look (k:=y);cases hl:HM.Zm kvs y with
      |none=>rw[t2 hl];exact r3
      |some dd=>obtain⟨u,q1,q2⟩:=t1 dd hl;rw[q1];exact q2
     .cases h
    .cases h
   .cases h
  .cases h
 .cases h
structure yO(X:Cx)(es:List Expr)(f:HM.AF):Prop where
 len:∀r ds,f r=Z ds->ds.length=es.length
 pa:∀r ds,f r=Z ds->PA X es λY H Q=>vt X.K r Y H λF0 H0 F=>∀vs F' H',sQ F H F' H'->Zt X.K H' ds vs->Q vs H'
theorem Ay.lent{v:V}{d:PyData}(sub:Zp F H)(r:Ay K F H q v fp)(h:HM.frz q=Z d):Rep K H d v:=by
 cases r with
 |pl r=>cases h;exact r.mono sub
 |ol h1 r=>cases h;exact .lst (.of h1) r.1 (r.mono sub).2
 |ok _ _ _=>cases h
 |hd h1 he hk r=>cases h;exact(Rep.dct (.inr ⟨_,h1⟩) he hk r.2).mono sub
 |hf h1=>cases h;exact(Rep.fn h1).mono sub
 |ot h1 hk r=>cases h;exact .dct (.inl h1) rfl hk (r.mono sub).2
 |otl _ _ _ _=>cases h
end
end
section
variable{g:HM.AF}{F:Hp}
section
variable{X:Cx}{a b c e:Expr}{fa fb fc:HM.EF}{f:HM.BF}{pos p:Pos}{es:List Expr}
theorem VE(h:XA X es g):yO X es g :=
 ⟨h.len,λr ds hd=>PA.imp (h.pa r ds hd) λY H Q ⟨F0,H0,F,at_,k⟩=>⟨F0,H0,F,at_,λvs F' H' x q=>k vs F' H' x (q.mono x.sub)⟩⟩
theorem K8(ha:XE X e fa)(hr:yO X es g)(hs:Ad (e::es) X.env=(Ab,eval e X.env)::Ad es X.env:=by rfl):yO X (e::es) (HM.Zb fa g):=by
 refine⟨λr ds h=>?_,λr ds h=>?_⟩
 .unfold HM.Zb at h
  split at h
  .obtain⟨xs,h1,h2⟩:=Ai.mp h
   subst h2;rw[AD,AD,hr.len r xs h1]
  .cases h
 unfold HM.Zb at h;split at h
 .rename_i x hx
  obtain⟨xs,h1,h2⟩:=Ai.mp h;subst h2;refine PA.imp (Z3 (ha r x hx) (hr.pa r xs h1) hs) λY H Q ⟨F0,H0,F,at_,k⟩=>?_;exact⟨F0,H0,F,at_,λv F1 H1 x1 r1=>⟨F0,H0,F1,at_.grow x1,λvs F2 H2 x2 r2=>k (v::vs) F2 H2 (x1.trans x2) (.cons ((r1.mono x2.ff).mono x2.sub) r2)⟩⟩
 .cases h
theorem Xu(ha:XB X e f)(hr:yO X es g)(hs:Ad (e::es) X.env=(Ab,eval e X.env)::Ad es X.env:=by rfl):yO X (e::es) (HM.Zb (HM.Qi f) g):=by
 refine⟨λr ds h=>?_,λr ds h=>?_⟩
 .unfold HM.Zb at h
  split at h
  .obtain⟨xs,h1,h2⟩:=Ai.mp h
   subst h2;rw[AD,AD,hr.len r xs h1]
  .cases h
 unfold HM.Zb at h;split at h
 .rename_i x hx
  obtain⟨xs,h1,h2⟩:=Ai.mp h;subst h2;obtain⟨q,hq,hf⟩:=Uo.mp hx;refine PA.imp (Z3 (ha r q hq) (hr.pa r xs h1) hs) λY H Q ⟨F0,H0,F,at_,k⟩=>?_;exact⟨F0,H0,F,at_,λv F1 H1 x1 ⟨fp,r1⟩=>⟨F0,H0,F1,at_.grow x1,λvs F2 H2 x2 r2=>k (v::vs) F2 H2 (x1.trans x2) (.cons ((r1.lent x1.sub hf).monoT x2.hh) r2)⟩⟩
 .cases h
theorem Rep.flat{K:Ae}{F':Hp}{d:PyData}{v:V}(r:Rep K F d v)(h:HM.M8 d=Aa):Rep K F' d v:=by
 cases r with
 |non=>exact .non
 |bl b=>exact .bl b
 |int i=>exact .int i
 |str x=>exact .str x
 |tupk _=>cases h
 |tup _ _ _=>cases h
 |lst _ _ _=>cases h
 |dct _ _ _ _=>cases h
 |fn _=>cases h
theorem sQ.forget{H F'' H'':Hp}(s:Zp F H)(n:uN F)(x:sQ (CC H) H F'' H''):sQ F H F H'' :=
 ⟨Zp.refl F,x.hh,(n.sub s).trans (x.ff.trans x.sub),λ_ _ z=>.inl z,x.tab,id⟩
theorem iG{k:Nat}{x:Str}{M:List PyData->Option PyData}(C:Callee X.prog X.w X.K X.mg X.base k x M)(hr:ZP k X.A)(ha:yO X (e::es) g)(hg:Gl X x:=by rfl)(uh:(x==("__debug__":Str))=Ab:=by decide)(he:Ad (e::es) X.env=(Ab,eval e X.env)::Ad es X.env:=by rfl)(hpl:(backTo pos (Ad es X.env)).any (·.1)=Ab:=by rfl):XE X (.Call (.Name x p) (e::es) [] pos) (HM.md M g):=by
 intro r d hd;unfold HM.md at hd;split at hd
 .rename_i ds sW
  split at hd
  .rename_i d' hM
   split at hd
   .rename_i hflat
    cases hd;obtain⟨fa,fd,ps,hl,F,hm,hk,hb⟩:=C.ex;refine PE.imp (KJ (E:=E0) F hr hg hm hk hb .nil MD (ha.pa r ds sW) uh he hpl) λY H Q ⟨F0,H0,F1,at_,k⟩=>?_;refine⟨F0,H0,F1,at_,λvs F' H' x q=>?_⟩;show spD X.K ps.length M (vs++[]) H' Q E0;rw[B6];exact⟨CC H',ds,d,by rw[<-q.1];exact hl ds d hM,Rn,at_.tbx x,.drop,q.drop',hM,λv F2 H2 x2 q2=>k v F' H2 (x.trans (sQ.forget x.sub (at_.ntx x) x2)) (q2.flat hflat)⟩
   .cases hd
  .cases hd
 .cases hd
theorem kj(hc:X.calm=Aa):A6 X (.builtin "max") (λxs H Q=>∃(p:Addr) (ns:List Int),xs=[.ref p]/\tU X.K H p (ns.map V.int)/\0<ns.length/\∀M,M∈ns->(∀a,a∈ns->a<=M)->Q (.int M) H):=by
 intro sI s Y H xs us Q I r h;obtain⟨p,ns,rfl,hq,tX,q⟩:=h;obtain⟨u,rfl,rx⟩:=vals1 r;cases rx;obtain⟨its,rv,pl,hz⟩:=I.list hq;have hi:=GS rv;obtain⟨xs,e⟩:=hi.allInts.items;have ug:ns=xs.toList.map (·.1):=by rw[<-hi.numsOf,<-nums_intItems,<-e]
 have hsz:0<xs.size:=by have h3:=tX;rw[ug,Af,BB]at h3;exact h3
 have hl:=pl.isList;rw[e]at hl;refine max_intList (I.ok.hd hc) hl hsz λv h' tk hv hk=>?_;obtain⟨t,rfl⟩:=intItems_at hv;obtain⟨h1,h2⟩:=argBest_gt (numAt xs) (xs.size-1);refine⟨.int _,H,I.kept (t':=tk) hk,⟨t,rfl⟩,q _ ?_ λa ha=>?_⟩
 .rw[ug,numAt_eq];exact getD_mem (by rw[Af,BB];omega)
 .rw[ug]at ha
  obtain⟨j,hj,rfl⟩:=mem_getD ha;rw[Af,BB]at hj;rw[<-numAt_eq];exact h2 j (by omega)
theorem Qz(hm:X.mg "max"=J)(hc:X.calm=Aa)(ha:XB X a f)(hg:Gl X "max":=by rfl)(hs:Ad [a] X.env=[(Ab,eval a X.env)]:=by rfl):XE X (.Call (.Name "max" p) [a] [] pos) (HM.KW f):=by
 intro r d h;unfold HM.KW at h;split at h
 .rename_i x hx
  split at h
  .rename_i ds sW
   split at h
   .rename_i ns ug
    obtain⟨m,h1,h2⟩:=Ai.mp h;subst h2;refine PE.imp (Er (kj hc) hg hm VW (Ep ha hx hs) (he:=hs)) λY H Q ⟨F0,H0,F,at_,k⟩=>?_;refine⟨F0,H0,F,at_,λv fp F1 H1 x1 r1=>?_⟩;obtain⟨l,vs,e1,hq,rs⟩:=EZ x1.sub r1 sW;rw[FK ug rs]at hq;obtain⟨m1,m2⟩:=UC.mp h1;refine⟨l,ns,by rw[e1],hq,List.length_pos_of_mem m1,λM k1 k2=>?_⟩;have:M=m:=Int.le_antisymm (m2 M k1) (k2 m m1);subst this;exact k _ F1 H1 x1 (.int _)
   .cases h
  .cases h
 .cases h
end
end
section
variable{p1 p2 p3:Pos}{x:Str}
section
variable{X:Cx}{a b c e:Expr}{fa fb fc:HM.EF}{f:HM.BF}{pos p:Pos}{es:List Expr}
theorem jZ(i:Nat)(ha:XB X a f)(hN:X.N[i]?=Z x:=by rfl)(hv:vk X.env.scope x:=by first|exact AG rfl|exact An (AG rfl)|exact An (An rfl))(hd:(x==("__debug__":Str))=Ab:=by decide)(tF:(x==("__classdict__":Str))=Ab:=by decide)(t7:Hg (.Name x p1) "extend" X.env (eval (.Name x p1) X.env)=eval (.Name x p1) X.env:=by rfl)(uO:((backTo p3 (Ad [a] X.env)).all (λx=>!x.1)&&(JP p3 (JQ [] X.env)).all (λx=>x.1.isSome)&&decide (([a]:List Expr).length+([]:List Keyword).length+(if([]:List Keyword).isEmpty then 0 else 1)<30))=Aa:=by rfl)(t6:(p2.endLine==p3.line)=Aa:=by rfl)(hs:Ad [a] X.env=[(Ab,eval a X.env)]:=by rfl):XS X (.Expr (.Call (.Attribute (.Name x p1) "extend" p2) [a] [] p3) pos) (HM.YO i f):=by
 intro r o h;unfold HM.YO at h;split at h
 .rename_i ds sW
  split at h
  .rename_i es zG
   split at h
   .rename_i hz
    cases h;refine PS.imp (KO (MQ Mr PySem.F.slot_list_extend PySem.F.type_list_extend jj (CI hN hv hd tF) (Z3 (ha r _ zG) BV hs) t7 uO t6 hs rfl)) λE Y H ⟨F0,H0,F,at_,k⟩=>?_;obtain⟨l,vs,e1,e2,e3,_⟩:=at_.chgList (es:=ds) sW;refine⟨.ref l,e1,.inl ⟨rfl,_,tU.of e2⟩,F0,H0,F,at_,λv F1 H1 x1 ⟨fp,r1⟩=>?_⟩;have ud:=at_.grow x1;obtain⟨l',vs',f1,f2,f3,f4⟩:=ud.chgList (es:=ds++es) sW;rw[e1]at f1;cases f1;cases r1 with
    | @ol b _ us hb rs =>
     refine⟨_,b,vs',us,rfl,rfl,f2,hb,?_,k _ F1 _ (f4 _ (f3.append rs))⟩;have e4:=f3.1;have e6:=rs.1;have e5:(1000000:Nat)<=sizeLine:=by decide
     unfold HM.big at hz;omega
   .cases h
  .cases h
 .cases h
theorem fu(i j:Nat){y:Str}{p4:Pos}(hN:X.N.Nodup)(hNi:X.N[i]?=Z x:=by rfl)(hNj:X.N[j]?=Z y:=by rfl)(hx:Loc X.env.scope x:=by first|exact AG rfl|exact An rfl)(hv:vk X.env.scope y:=by first|exact AG rfl|exact An (AG rfl)|exact An (An rfl))(hd:(y==("__debug__":Str))=Ab:=by decide)(tF:(y==("__classdict__":Str))=Ab:=by decide)(t7:Hg (.Name y p1) "pop" X.env (eval (.Name y p1) X.env)=eval (.Name y p1) X.env:=by rfl)(t6:(p2.endLine==p3.line)=Aa:=by rfl)(hs:DB (.Call (.Attribute (.Name y p1) "pop" p2) [] [] p3) (Z (.Name x p4)) pos.line X.env=pure Ab:=by rfl)(hf:X.fn x=Aa\/X.env.scope.names.lookup x=Z .local:=by first|exact .inl rfl|exact .inr rfl):XS X (.Assign [.Name x p4] (.Call (.Attribute (.Name y p1) "pop" p2) [] [] p3) pos) (HM.iU i j):=by
 intro r o h;unfold HM.iU at h;split at h
 .rename_i ds sW
  split at h
  .rename_i d hd'
   cases h;refine PS.imp (P7 hN hNi hx (dE Mr PySem.F.slot_list_pop PySem.F.type_list_pop dS (CI hNj hv hd tF) t7 t6) hs hf) λE Y H ⟨F0,H0,F,at_,k⟩=>?_;obtain⟨l,vs,e1,e2,e3,e4⟩:=at_.chgList (es:=ds.dropLast) sW;obtain⟨v,q1,q2⟩:=e3.get hd';refine⟨.ref l,e1,.inl ⟨rfl,_,tU.of e2⟩,l,vs,v,rfl,rfl,e2,by rw[<-e3.1];exact q1,k _ F _ ((e4 _ ?_).set q2)⟩;rw[ba,ba,<-e3.1];exact e3.take _
  .cases h
 .cases h
def spF(K:Ae)(n:Nat)(M:List PyData->Option PyData):Sp:=λvs H Q _=>∃F ds ys,vs.length=n/\Zp F H/\Tb H/\uN F/\Zt K F ds vs/\M ds=Z (.list ys)/\∀l us F' H',sQ F H F' H'->H' l=Z (.lst us)->Zt K F' ys us->F' l=J->H l=J->Q (.ref l) H'
structure GH(P:Program)(w:World)(K:Ae)(mg:Str->Option Value)(base:Heap)(k:Nat)(x:Str)(M:List PyData->Option PyData):Prop where
 ex:∃f fd ps,(∀ds d,M ds=Z d->ds.length=ps.length)/\Cc P w K mg base vd k f fd ps (spF K ps.length M)/\mg x=Z (.ref f)/\Ef K (.ref f)=Aa/\Binds K fd ps []
theorem GH.mono{P:Program}{w:World}{K:Ae}{mg:Str->Option Value}{base:Heap}{j k:Nat}{x:Str}{M:List PyData->Option PyData}(C:GH P w K mg base j x M)(h:j<=k):GH P w K mg base k x M:=by obtain⟨f,fd,ps,l,F,r⟩:=C.ex;exact⟨f,fd,ps,l,F.mono h,r⟩
theorem iF{k:Nat}{g:HM.AF}{M:List PyData->Option PyData}(C:GH X.prog X.w X.K X.mg X.base k x M)(hr:ZP k X.A)(ha:XA X (e::es) g)(hg:Gl X x:=by rfl)(uh:(x==("__debug__":Str))=Ab:=by decide)(he:Ad (e::es) X.env=(Ab,eval e X.env)::Ad es X.env:=by rfl)(hpl:(backTo pos (Ad es X.env)).any (·.1)=Ab:=by rfl):XF X (.Call (.Name x p) (e::es) [] pos) (HM.Rc M g):=by
 intro r d hd;unfold HM.Rc at hd;split at hd
 .rename_i ds sW
  split at hd
  .rename_i ys hM
   cases hd;obtain⟨fa,fd,ps,hl,F,hm,hk,hb⟩:=C.ex;refine PE.imp (KJ (E:=E0) F hr hg hm hk hb .nil MD (ha.pa r ds sW) uh he hpl) λY H Q ⟨F0,H0,F1,at_,k⟩=>?_;refine⟨F0,H0,F1,at_,λvs F' H' x q=>?_⟩;show spF X.K ps.length M (vs++[]) H' Q E0;rw[B6];refine⟨F',ds,ys,by rw[<-q.1];exact hl ds _ hM,x.sub,at_.tbx x,at_.ntx x,q,hM,λl us F2 H2 x2 h1 h2 h3 h4=>k _ F2 H2 (x.trans x2) ⟨[l],.ol h1 h2,by simp,λa ha=>?_⟩⟩;obtain rfl:a=l:=by simpa using ha
   exact⟨h3,x.hh.free h4⟩
  .cases hd
 .cases hd
theorem j6{P:Program}{w:World}{K:Ae}{mg:Str->Option Value}{base:Heap}{k:Nat}{qual:Str}{st:Stmt}{f:Addr}{fd:FuncData}{N ps:List Str}{e:Expr}{g:HM.BF}(Fn:vF K x qual st f fd)(S:Zs N ps (Ze st))(hm:mg x=Z (.ref f))(hb:Binds K fd ps [])(vf:BU st=[.Return (Z e) p1])(zb:∀r b,g r=Z b->∃ys,b=.ol ys)(body:∀(sO:Value) (A:Around) (outer:List Env) (s:Shared) (H:Hp) (E:XK),ZP k (A.deeper (envOfC qual (Ze st) s.heap.objs.size f sO))->XF (CO vd P w K mg base N qual (Ze st) f sO A outer s H E).nox e g):GH P w K mg base (k+1) x (HM.fnOf ps.length N.length (HM.ZF (HM.uc g))):=by
 have hpl:ps.length<=N.length:=by have:=congrArg BC S.pre;rw[Fd]at this;omega
 refine⟨f,fd,ps,λds d h=>?_,Fn.ok S (λvs H Q E h=>?_) (λsO A outer s H vs Q E hr h=>?_),hm,Fn.kp,hb⟩
 .unfold HM.fnOf at h
  split at h
  .assumption
  .cases h
 .obtain⟨_,_,_,h,_⟩:=h
  exact h
 .obtain⟨F,ds,ys,hl,sub,tb,nt,q,hM,kk⟩:=h
  unfold HM.fnOf at hM;split at hM
  .rename_i sW
   have a0:=Jk (N:=N) sub tb nt q (by omega);have hg:g (HM.OL N.length ds)=Z (.ol ys):=by
    split at hM
    .rename_i r hr'
     cases hq:HM.uc g (HM.OL N.length ds)with
     |none=>unfold HM.ZF at hr';rw[hq]at hr';cases hr'
     |some d=>unfold HM.ZF at hr';rw[hq]at hr';cases hr'
    .rename_i d' hr'
     cases hM;obtain⟨d,h1,h2⟩:=Ai.mp hr';cases h2;obtain⟨b,h3,h4⟩:=Uo.mp h1;obtain⟨zs,rfl⟩:=zb _ _ h3;cases h4;exact h3
    .cases hM
   rw[vf];refine⟨_,Qq (Kq (body sO A outer s H E hr _ _ hg)),F,H,F,a0,λv F' H' x ⟨fp,r1,nd,hn⟩=>?_⟩;cases r1 with
   | @ol l _ us h1 h2=>exact kk l us F' H' x h1 h2 (hn l (by simp)).1 (hn l (by simp)).2
  .cases hM
theorem iW(i:HM.IF)(c:HM.TF)(e:HM.EF)(r:HM.Env)(b:HM.B)(h:HM.ZA i c e r=Z b):∃ys,b=.ol ys:=by
 unfold HM.ZA at h;split at h
 .split at h
  .obtain⟨ys,_,h2⟩:=Ai.mp h
   exact⟨ys,h2.symm⟩
  .cases h
 .cases h
end
end
section
variable{tg:Expr}{b':HM.B}{K:Ae}
section
variable{K:Ae}{F H F0 H0 G:Hp}{a b:Addr}{ob u:HO}{vvs:List (List sP×V)}{d:PyData}{v:V}{ds:List PyData}{vs:List V}{r:HM.Env}{Y:L2.St}{i:Nat}{es:List (PyData×PyData)}
theorem Bx(h:b≠a):sw a ob G b=G b:=by unfold sw;rw[if_neg h]
theorem Fv:sw a ob G a=(G a).map λ_=>ob:=by unfold sw;rw[if_pos rfl]
theorem Wj(s:Zp F H):Zp (sw a ob F) (sw a ob H):=λb o z=>by
 by_cases hb:b=a
 .subst hb
  rw[Fv]at z ⊢;obtain⟨x,h1,h2⟩:=Ai.mp z;rw[s _ _ h1,<-h2];rfl
 .rw[Bx hb]at z ⊢;exact s b o z
theorem Ve(hG:∀u,G a=Z u->u=.dT vvs):sw a (.dT vvs) (sw a ob G)=G:=by
 funext b
 by_cases hb:b=a
 .subst hb
  rw[Fv,Fv];cases h:G b with
  |none=>rfl
  |some u=>rw[hG u h];rfl
 .rw[Bx hb,Bx hb]
theorem Dk.nt(h:Dk vvs u):(∀xs,u≠.tup xs)/\(∀xs,u≠.lst xs)/\(∀o xs,u≠.frz o (.lst xs))/\(∀ps,u≠.tbl ps)/\(∀x,u≠.own x):=by rcases h with h|⟨o,h⟩<;>subst h<;>exact⟨λ_ z=>(by cases z),λ_ z=>(by cases z),λ_ _ z=>(by cases z),λ_ z=>(by cases z),λ_ z=>(by cases z)⟩
theorem Rep.sw(hF:∀u,F a=Z u->Dk vvs u)(ux:Dk vvs ob)(r:Rep K F d v):Rep K (HP.sw a ob F) d v:=by
 induction r with
 |non=>exact .non
 |bl b=>exact .bl b
 |int i=>exact .int i
 |str x=>exact .str x
 |fn h=>exact .fn (FX.sw hF ux h)
 |tupk h=>exact .tupk h
 | @tup b ds vs h hl _ ih=>exact .tup (by rw[Bx (λz=>(hF _ (z▸h)).nt.1 _ rfl)];exact h) hl ih
 | @lst b ds vs h hl _ ih =>
  refine .lst ?_ hl ih;rcases h with h|h
  .refine .inl ?_
   have hb:b≠a:=λz=>by
    rcases h with h|⟨o,h⟩
    .exact(hF _ (z▸h)).nt.2.1 _ rfl
    .exact(hF _ (z▸h)).nt.2.2.1 _ _ rfl
   unfold Rd;rw[Bx hb];exact h
  .exact .inr h
 | @dct b es kvs vvs' h he hk _ ih =>
  refine .dct ?_ he hk ih
  by_cases hb:b=a
  .subst hb
   have:vvs'=vvs/\∃u,F b=Z u:=by
    rcases h with h|⟨o,h⟩
    .rcases hF _ h with z|⟨o',z⟩
     .cases z;exact⟨rfl,_,h⟩
     .cases z
    .rcases hF _ h with z|⟨o',z⟩
     .cases z
     .cases z;exact⟨rfl,_,h⟩
   obtain⟨rfl,u,hu⟩:=this;unfold Rd;rw[Fv,hu];rcases ux with z|⟨o,z⟩
   .subst z;exact .inl rfl
   .subst z;exact .inr ⟨o,rfl⟩
  .unfold Rd
   rw[Bx hb];exact h
theorem Zt.sw(hF:∀u,F a=Z u->Dk vvs u)(ux:Dk vvs ob)(r:Zt K F ds vs):Zt K (HP.sw a ob F) ds vs:=⟨r.1,λi d v h1 h2=>(r.2 i d v h1 h2).sw hF ux⟩
theorem sQ.sw(x:sQ F0 H0 F H)(hH:∀u,H a=Z u->Dk vvs u)(ux:Dk vvs ob):sQ (HP.sw a ob F0) (HP.sw a ob H0) (HP.sw a ob F) (HP.sw a ob H) :=
 ⟨Wj x.ff,x.hh.sw,Wj x.sub,λb o z=>by
  by_cases hb:b=a
  .subst hb
   rw[Fv]at z;obtain⟨u,h1,h2⟩:=Ai.mp z;rcases x.new b u h1 with q|q|⟨xs,e,q⟩
   .exact .inl (by rw[Fv,q,<-h2];rfl)
   .exact .inr (.inl (by rw[Fv,q];rfl))
   .exact absurd e ((hH _ (x.sub _ _ h1)).nt.1 xs)
  .rw[Bx hb]at z
   rcases x.new b o z with q|q
   .exact .inl (by rw[Bx hb];exact q)
   .refine .inr ?_
    unfold yy;rw[Bx hb];exact q,λt=>(x.tab (t.unsw ux)).sw hH,λt b o z=>by
  unfold HP.sw at z;split at z
  .obtain⟨u,_,e⟩:=Ai.mp z
   subst e;exact ux.ntt
  .rename_i hb
   refine x.nts (λc u y=>?_) b o z
   by_cases hc:c=a
   .subst hc;exact(hH _ (x.sub _ _ (x.ff _ _ y))).ntt
   .exact t c u (by rw[Bx hc];exact y)⟩
theorem At.sw(e:At K F0 H0 F H r Y)(zN:F a=Z u)(hu:Dk vvs u)(ux:Dk vvs ob)(nh:∀(i:Nat) (es:List (PyData×PyData)),r[i]?≠Z (Z (HM.B.hd es))):At K (HP.sw a ob F0) (HP.sw a ob H0) (HP.sw a ob F) (HP.sw a ob H) r Y:=by
 obtain⟨fp,e⟩:=e;have hF:∀u,F a=Z u->Dk vvs u:=λu' h=>by rw[zN]at h;cases h;exact hu
 have hH:∀u,H a=Z u->Dk vvs u:=λu' h=>by rw[e.sub _ _ zN]at h;cases h;exact hu
 have own:∀i,∀c∈fp i,c≠a:=λi c hc z=>by rw[<-z,(e.own i c hc).1]at zN;cases zN
 refine⟨fp,e.ext.sw hH ux,e.len,λi b h=>?_,e.emp,λi b h=>?_,e.nd,e.dis,e.tb.sw (vvs:=vvs) (λu' z=>by have q:=e.ext.hh.back z (e.sub _ _ zN) hu.nt.2.2.2.1;rw[q];exact hu),λb o z=>?_⟩
 rotate_left 2
 .unfold HP.sw at z
  split at z
  .obtain⟨u,_,e⟩:=Ai.mp z
   subst e;exact ux.ntt
  .exact e.nt b o z
 .obtain⟨v,h1,h2⟩:=e.at_ i b h
  refine⟨v,h1,?_⟩;have own:=own i;generalize fp i=f at h2 own;cases h2 with
  |pl q=>exact .pl (q.sw hF ux)
  |ol k q=>exact .ol (by rw[Bx (own _ (by simp))];exact k) (q.sw hF ux)
  |ok k hk q=>exact .ok (by rw[Bx (own _ (by simp))];exact k) hk (q.sw hF ux)
  |ot k hk q=>exact .ot (by rw[Bx (own _ (by simp))];exact k) hk (q.sw hF ux)
  |otl k hk hv q=>refine .otl (by rw[Bx (own _ (by simp))];exact k) hk hv λi ds l h1 h2=>?_;obtain⟨vs,q1,q2⟩:=q i ds l h1 h2;exact⟨vs,by rw[Bx (own l (Ap _ (Bm h2)))];exact q1,q2.sw hF ux⟩
  |hd _ _ _ _=>exact absurd h (nh _ _)
  |hf _=>exact absurd h (nh _ _)
 .rw[Bx (own i b h),Bx (own i b h)]
  exact e.own i b h
theorem xt{x:Option V}(h:Y[i]?=Z x):Y.set i x=Y:=by obtain⟨h1,h2⟩:=A0.mp h;rw[<-h2];exact PD h1
theorem At.say(e:At K F0 H0 F H r Y)(h1:Y[i]?=Z (Z v))(q:Ay K F H b' v []):At K F0 H0 F H (r.set i (Z b')) Y:=by
 have:=e.store (i:=i) q Fo (λa h=>by simp at h) λ_ _ _ _ _ _ h=>by simp at h
 rwa [xt h1]at this
theorem At.loosen(e:At K F0 H0 F H r Y)(h:r[i]?=Z (Z (.hd es))):At K F0 H0 F H (r.set i (Z (.pl (.dict es)))) Y:=by
 obtain⟨v,fp,h1,h2⟩:=e.any h;cases h2 with
 |hd k1 k2 k3 k4=>exact e.say h1 (.pl (.dct (.inr ⟨_,k1⟩) k2 k3 k4.2))
 |hf k1=>exact e.say h1 (.pl (.fn k1))
theorem U7(h:r.all (λq=>!HM.Bj q)=Aa)(i:Nat)(es:List (PyData×PyData)):r[i]?≠Z (Z (.hd es)):=λz=>by have:=Au.mp h _ (Bm z);cases this
theorem jC(h:(r.set i J).all (λq=>!HM.Bj q)=Aa)(hb:∀es,b'≠.hd es)(j:Nat)(es:List (PyData×PyData)):(r.set i (Z b'))[j]?≠Z (Z (.hd es)):=λz=>by
 by_cases hj:i=j
 .subst hj
  by_cases hi:i<r.length
  .rw[EG hi]at z
   injection z with z
   injection z with z
   exact hb _ z
  .rw[bo (by rw[Eg];omega)]at z
   cases z
 .rw[Cq hj]at z
  exact U7 h j es (by rw[Cq hj];exact z)
end
section
variable{X:Cx}{sI:List (Addr×Obj)}{Y:L2.St}{H:Hp}{s:Shared}{a:Addr}{u ob:HO}{vvs:List (List sP×V)}
theorem ME{h:Heap}{o:HO}{b:Addr}(ha:H a=Z u)(hu:Dk vvs u)(x:ZZ X.prog X.w H h b o):ZZ X.prog X.w (sw a ob H) h b o :=
 x.stay (λ_ _ _ q=>q) (λc q=>by rw[Bx (λz=>by rw[z,ha]at q;cases q;exact hu.nt.2.2.2.2 _ rfl)];exact q) λc xs q=>by rw[Bx (λz=>by rw[z,ha]at q;cases q;exact hu.nt.1 _ rfl)];exact q
theorem Qc(I:Inv X sI Y H s)(ha:H a=Z u)(hu:Dk vvs u)(ok:ZZ X.prog X.w (sw a ob H) s.heap a ob)(hn:∀o w,X.H₀ a≠Z (.frz o w)):Inv X sI Y (HP.sw a ob H) s:=by
 have none':∀b,H b=J->HP.sw a ob H b=J:=λb h=>by rw[Bx (λz=>by rw[z,ha]at h;cases h)];exact h
 refine⟨I.ok,I.os,I.bare,⟨I.base.keep,I.base.slot,λb o h1 h2 h3=>none' b (I.base.free b o h1 h2 h3),I.base.there,λb xs h=>?_,λb o w h=>?_,λb ps h=>?_⟩,I.loc,I.cell,none' _ I.free,λx c h=>none' _ (I.freeC x c h),λp hp=>?_,λb o h=>?_,I.len⟩
 .have q:=I.base.tups b xs h
  rw[Bx (λz=>by rw[z,ha]at q;cases q;exact hu.nt.1 _ rfl)];exact q
 .have q:=I.base.frzs b o w h
  rw[Bx (λz=>hn o w (by rw[<-z];exact h))];exact q
 .obtain⟨m,q⟩:=I.base.tbls b ps h
  exact⟨m,by rw[Bx (λz=>by rw[z,ha]at q;cases q;exact hu.nt.2.2.2.1 _ rfl)];exact q⟩
 .have q:=I.pin p hp
  exact⟨q.1,none' _ q.2.1,q.2.2⟩
 .by_cases hb:b=a
  .subst hb
   rw[Fv,ha]at h;cases h;exact ok
  .rw[Bx hb]at h
   exact ME ha hu (I.hok b o h)
theorem Nm(i:Nat){st:Stmt}{g:HM.SF}(h:XS X st g):XS X st (HM.GD i g):=by
 intro r o ho;unfold HM.GD at ho;split at ho
 case h_2=>exact h r o ho
 rename_i es hr;split at ho
 case isFalse=>cases ho
 rename_i ur;have nh:=U7 ur;intro sI s Y H E I ⟨F0,H0,F,at_,k⟩;obtain⟨v,h1,h2⟩:=at_.plain hr;cases h2 with
 | @dct a _ kvs vvs hd he hk hrr =>
  have rs:∀{F':Hp},Zp F F'->Zt X.K F' (kvs.map (·.2)) (vvs.map (·.2)):=λs=>by refine Zt.mono ⟨?_,hrr⟩ s;have:=congrArg BC hk;rw[Af,Af]at this ⊢;exact this
  rcases hd with hd|⟨q,hd⟩
  .have xR:=at_.sub _ _ hd
   obtain⟨z,y,xs,rl,q,wV,ep,e1,c1⟩:=(show ZZ X.prog X.w H s.heap a (.dT vvs) from I.hok a _ xR);have hn:∀o w,X.H₀ a≠Z (.frz o w):=λo w z=>by have:=I.base.frzs _ _ _ z;rw[xR]at this;cases this
   have I1:=Qc (ob:=.frz q (.dT vvs)) I xR (.inl rfl) ⟨e1,ME xR (.inl rfl) ⟨z,y,xs,rl,q,wV,ep,e1,c1⟩⟩ hn;have ud:=at_.sw (ob:=.frz q (.dT vvs)) hd (.inl rfl) (.inr ⟨q,rfl⟩) nh;have Ra:HP.sw a (.frz q (.dT vvs)) F a=Z (.frz q (.dT vvs)):=by rw[Fv,hd];rfl
   have hFd:∀u,F a=Z u->Dk vvs u:=λu z=>by rw[hd]at z;cases z;exact .inl rfl
   have uE:=(ud.say (i:=i) h1 (.hd Ra he hk (Zt.sw hFd (.inr ⟨q,rfl⟩) (rs (Zp.refl F))))).rebase;have e0:HP.sw a (.dT vvs) (HP.sw a (.frz q (.dT vvs)) F0)=F0:=Ve λu z=>by have:=at_.ext.ff _ _ z;rw[hd]at this;cases this;rfl
   have e1:HP.sw a (.dT vvs) (HP.sw a (.frz q (.dT vvs)) H0)=H0:=Ve λu z=>by exact at_.ext.hh.back z xR λ_ w=>by cases w
   split at ho
   .rename_i r' hg
    split at ho
    case h_2=>cases ho
    rename_i es' hr';split at ho
    case isFalse=>cases ho
    rename_i hall';cases ho;refine sS (h _ _ hg sI s Y _ {nx:=λσ' H'=>∃F',At X.K (HP.sw a (.frz q (.dT vvs)) F) (HP.sw a (.frz q (.dT vvs)) H0) F' H' r' σ',rt:=λ_ _=>False,bk:=λ_ _=>False,ct:=λ_ _=>False} I1 ⟨_,_,_,uE,λσ' F' H' a'=>⟨F',a'⟩⟩) λfl s' z=>?_;cases fl with
    |next=>obtain⟨σ',H',I',F',a'⟩:=z;have Fa:=a'.ext.ff _ _ Ra;have Ha:=a'.sub _ _ Fa;have a3:=((At.unbase ud.ext (ud.nt0) a').loosen hr').sw (ob:=.dT vvs) Fa (.inr ⟨q,rfl⟩) (.inl rfl) (jC hall' λ_ z=>by cases z);rw[e0,e1]at a3;exact⟨σ',_,Qc I' Ha (.inr ⟨q,rfl⟩) (ME Ha (.inr ⟨q,rfl⟩) (Km I'.hok (.inr ⟨q,Ha⟩))) hn,k σ' _ _ a3⟩
    |brk=>obtain⟨_,_,_,z⟩:=z;exact z.elim
    |cont=>obtain⟨_,_,_,z⟩:=z;exact z.elim
    |ret u=>obtain⟨_,_,_,_,_,z⟩:=z;exact z.elim
   .rename_i d hg
    cases ho;refine sS (h _ _ hg sI s Y _ {nx:=λ_ _=>False,bk:=λ_ _=>False,ct:=λ_ _=>False,rt:=λv' H'=>∃F',sQ (HP.sw a (.frz q (.dT vvs)) F) (HP.sw a (.frz q (.dT vvs)) H0) F' H'/\Rep X.K F' d v'} I1 ⟨_,_,_,uE,λv' F' H' x q=>⟨F',x,q⟩⟩) λfl s' z=>?_;cases fl with
    |ret u=>obtain⟨v',σ',H',I',rv,F',x',r'⟩:=z;have Fa:=x'.ff _ _ Ra;have Ha:=x'.sub _ _ Fa;have x3:=(sQ.unbase ud.ext x').sw (a:=a) (vvs:=vvs) (ob:=.dT vvs) (λu z=>by rw[Ha]at z;cases z;exact .inr ⟨q,rfl⟩) (.inl rfl);rw[e0,e1]at x3;exact⟨v',σ',_,Qc I' Ha (.inr ⟨q,rfl⟩) (ME Ha (.inr ⟨q,rfl⟩) (Km I'.hok (.inr ⟨q,Ha⟩))) hn,rv,k v' _ _ x3 (r'.sw (λu z=>by rw[Fa]at z;cases z;exact .inr ⟨q,rfl⟩) (.inl rfl))⟩
    |next=>obtain⟨_,_,_,z⟩:=z;exact z.elim
    |brk=>obtain⟨_,_,_,z⟩:=z;exact z.elim
    |cont=>obtain⟨_,_,_,z⟩:=z;exact z.elim
   .cases ho
  .have uE:=at_.say (i:=i) h1 (.hd hd he hk (rs (Zp.refl F)))
   split at ho
   .rename_i r' hg
    split at ho
    case h_2=>cases ho
    rename_i es' hr';split at ho
    case isFalse=>cases ho
    cases ho;exact h _ _ hg sI s Y H E I ⟨F0,H0,F,uE,λσ' F' H' a'=>k σ' F' H' (a'.loosen hr')⟩
   .rename_i d hg
    cases ho;exact h _ _ hg sI s Y H E I ⟨F0,H0,F,uE,k⟩
   .cases ho
 |fn hv =>
  have uE:=at_.say (i:=i) h1 (.hf hv);split at ho
  .rename_i r' hg
   split at ho
   case h_2=>cases ho
   rename_i es' hr';split at ho
   case isFalse=>cases ho
   cases ho;exact h _ _ hg sI s Y H E I ⟨F0,H0,F,uE,λσ' F' H' a'=>k σ' F' H' (a'.loosen hr')⟩
  .rename_i d hg
   cases ho;exact h _ _ hg sI s Y H E I ⟨F0,H0,F,uE,k⟩
  .cases ho
def Itd(a:Addr)(o:Obj):It :=
 ⟨λi H=>∃vvs q,H a=Z (.frz o (.dT vvs))/\vvs[i]?=Z q,λi H x H'=>H'=H/\∀vvs,H a=Z (.frz o (.dT vvs))->∃q b,vvs[i]?=Z q/\x=.ref b/\H b=Z (.tup (q.1.map kV)),λi H=>∃vvs,H a=Z (.frz o (.dT vvs))/\vvs.length<=i⟩
theorem j9{α β:Type}{R:α->β->Prop}{l:List α}{m:List β}(r:Paired R l m):∀{i:Nat} {x:α},l[i]?=Z x->∃y,m[i]?=Z y/\R x y:=by
 induction r with
 |nil=>intro i x e;simp at e
 | @cons p q _ _ hq _ ih =>
  intro i x e;cases i with
  |zero=>rw[Pt]at e;cases e;exact⟨q,rfl,hq⟩
  |succ i=>rw[Em]at e ⊢;exact ih e
theorem kl{P:Program}{w:World}(a it:Addr)(o:Obj)(es:Array DictEntry)(ep:Nat)(hd:o.data=.dict es ep):wI P w K tg (Itd a o) [it] it (λi h=>h.IsKeyIter it a i es.size ep) where
 mem:=by simp
 obj:=λi h st b hb=>by
  have e:b=it:=by simpa using hb
  subst e;obtain⟨o,e,c,d⟩:=st;exact⟨o,e,λv z=>by rw[d]at z;cases z⟩
 keep:=λi h h' st k=>st.at λo e=>k it (by simp) o e
 item:=by
  intro X hP hw hK hc i sI s Y H E I hf st hg;subst hP hw hK;obtain⟨vvs,q,hH,hq⟩:=hg;obtain⟨h1,z,lo,xs,tS,o2,es2,ep2,h2,h3,h4,h5,h6⟩:=(show ZZ X.prog X.w H s.heap a (.frz o (.dT vvs)) from I.hok a _ hH);rw[h1]at h2;cases h2;rw[hd]at h4;cases h4;obtain⟨f0,f1,f2,f3,f4,f5⟩:=hf it (by simp);obtain⟨p,hp,hr1,hr2,_⟩:=j9 tS hq;have he:es[i]?=Z (entryOfKey (Hj (BO X.prog X.w)) p):=by rw[<-Ek,h5,A1,hp];rfl
  refine W6 st ⟨o,h1,h3,hd⟩ he λh' st' sb=>?_;have I1:Inv X sI Y H {s with heap:=h'}:=I.turned (t':=s.toks) (λb o hb e=>(sb.2 b hb).trans e) f0 f1 f3 f4 f5;obtain⟨oi,e,c,d⟩:=id st';refine⟨_,rfl,MG (s:={s with heap:=h'}) e c d (by decide) ⟨.ref p.2.1,H,I1,rfl,⟨rfl,λvv hv=>?_⟩,st',λb hb=>(hf b hb).1⟩⟩;rw[hH]at hv;cases hv;exact⟨q,p.2.1,hq,rfl,hr2⟩
 done:=by
  intro X hP hw hK hc i sI s Y H E I hf st hg;subst hP hw hK;obtain⟨vvs,hH,hq⟩:=hg;obtain⟨h1,z,lo,xs,tS,o2,es2,ep2,h2,h3,h4,h5,h6⟩:=(show ZZ X.prog X.w H s.heap a (.frz o (.dT vvs)) from I.hok a _ hH);rw[h1]at h2;cases h2;rw[hd]at h4;cases h4;obtain⟨f0,f1,f2,f3,f4,f5⟩:=hf it (by simp);have hl:vvs.length=xs.length:=Iz tS;have zG:es.size=xs.length:=by rw[<-BB,h5,Af]
  exact Wo (I.ok.hd hc) st ⟨o,h1,h3,hd⟩ (by omega) λh' eb=>⟨rfl,I.turned (t':=s.toks) (λb o hb e=>eb b o hb e) f0 f1 f3 f4 f5⟩
 self:=λ_ _ _ _ _ st h=>wpAny_pyIter_keyiter st h
theorem eF{l:Expr}{tl:TE}(hl:PE X l tl):PI X tg l (λY H R=>tl Y H λx H1=>∃a o vvs,x=.ref a/\H1 a=Z (.frz o (.dT vvs))/\R (Itd a o) H1):=by
 intro sI s Y H R I h;refine sS (hl sI s Y H _ I h) λv s1 ⟨x,H1,I1,r1,a,o,vvs,e,hH,q⟩=>?_;subst e;cases r1;obtain⟨h1,z,lo,xs,tS,o2,es,ep,h2,h3,h4,h5,h6⟩:=(show ZZ X.prog X.w H1 s1.heap a (.frz o (.dT vvs)) from I1.hok a _ hH);rw[h1]at h2;cases h2;refine Xk lo ⟨o,h1,h3,h4⟩ ⟨s1.heap.objs.size,[s1.heap.objs.size],_,_,H1,rfl,I1.kept (t':=s1.toks) λb o e=>Ar _ e,kl a _ o es ep h4,⟨_,AZ _ rfl,rfl,rfl⟩,λb hb=>?_,q⟩;obtain rfl:b=s1.heap.objs.size:=by simpa using hb
 exact I1.fpOk (Aj _) (I1.hok.fresh (Aj _))
theorem gA{F:Hp}{a:Addr}{o:Obj}{kvs:List (List sP×PyData)}{vvs:List (List sP×V)}(h:F a=Z (.frz o (.dT vvs)))(hk:kvs.map (·.1)=vvs.map (·.1)):yx K (Itd a o) (kvs.map λp=>.tuple (p.1.map HM.BS)) F:=by
 intro F' H s1 s2;have hH:=s2 _ _ (s1 _ _ h);have hl:kvs.length=vvs.length:=by
  have:=congrArg BC hk
  rwa [Af,Af]at this
 refine⟨λi d hd=>?_,vvs,hH,by rw[Af,hl];exact Aj _⟩;rw[A1]at hd;obtain⟨q,hq,hd⟩:=Ai.mp hd;subst hd;have hi:i<vvs.length:=by rw[<-hl];exact(A0.mp hq).1
 have hw:vvs[i]?=Z vvs[i]:=A2 hi;have hw1:vvs[i].1=q.1:=by
  have:(kvs.map (·.1))[i]?=(vvs.map (·.1))[i]?:=by rw[hk]
  rw[A1,A1,hq,hw]at this;exact(Ct this).symm
 refine⟨⟨vvs,_,hH,hw⟩,λx H' hy=>?_⟩;obtain⟨e,y⟩:=hy;refine⟨e,?_⟩;obtain⟨q',b,e1,e2,e3⟩:=y vvs hH;rw[hw]at e1;cases e1;subst e2;rw[hw1]at e3;have rk:=NJ (K:=K) (F:=BD F' H) q.1;exact .tup (QU e3) rk.1 rk.2
theorem Nl(i:Nat){x:Str}{pos:Pos}(hN:X.N[i]?=Z x:=by rfl)(hv:vk X.env.scope x:=by first|exact AG rfl|exact An (AG rfl)|exact An (An rfl))(hd:(x==("__debug__":Str))=Ab:=by decide)(tF:(x==("__classdict__":Str))=Ab:=by decide):XI X tg (.Name x pos) (HM.BM i):=by
 intro r ds h;have row:∀{d:PyData},r[i]?=Z (Z (.pl d))->HM.B8 (.pl d)=Z ds->HM.ZD (HM.sU (HM.Za i)) r=Z ds:=λ{d} h1 h2=>by
  have e:HM.Za i r=Z d:=by unfold HM.Za;rw[h1]
  unfold HM.ZD HM.sU;rw[e];exact h2
 unfold HM.BM at h;split at h
 .rename_i q;exact ZG (Zc i hN hv hd tF) r ds (row q h)
 .rename_i q;exact ZG (Zc i hN hv hd tF) r ds (row q h)
 .rename_i es q
  obtain⟨kvs,h1,h2⟩:=Ai.mp h;subst h2;refine PI.imp (eF (CI hN hv hd tF)) λY H R ⟨F0,H0,F,at_,k⟩=>?_;obtain⟨v,fp,g1,g2⟩:=at_.any q;cases g2 with
  | @hd a o _ kvs' vvs k1 k2 k3 k4=>subst k2;rw[HM.sY]at h1;cases h1;exact⟨.ref a,g1,a,o,vvs,rfl,at_.sub _ _ k1,k _ F H at_.refl (gA k1 k3)⟩
  |hf _=>cases h1
 .cases h
end
end
section
variable{X:Cx}{a b c e:Expr}{fa fb fc:HM.EF}{f:HM.BF}{pos p:Pos}
theorem WG{K:Ae}{F:Hp}{ds:List PyData}{v:V}(r:Rep K F (.tuple ds) v):∃l vs,v=.ref l/\uL K F l vs/\Zt K F ds vs:=by
 cases r with
 |tup h1 h2 h3=>exact⟨_,_,rfl,.of h1,h2,h3⟩
 | @tupk a x h1=>exact⟨_,_,rfl,.inr h1,.one (.str x)⟩
end
section
variable{X:Cx}{a b c e:Expr}{fa fb fc:HM.EF}{f:HM.BF}{pos p:Pos}{es:List Expr}
theorem jE{K:Ae}{F F2 H2:Hp}(s:Zp F2 H2):∀(n:Nat) {d:PyData} {v:V},HM.MV n d=Aa->Rep K F2 d v->Rep K (BD F H2) d v:=by
 intro n
 induction n with
 |zero =>
  intro d v h r;cases r with
  |non=>exact .non
  |bl b=>exact .bl b
  |int i=>exact .int i
  |str x=>exact .str x
  |tupk h1=>exact .tupk h1
  |tup _ _ _=>cases h
  |lst _ _ _=>cases h
  |dct _ _ _ _=>cases h
  |fn _=>cases h
 |succ n ih =>
  intro d v h r;cases r with
  |non=>exact .non
  |bl b=>exact .bl b
  |int i=>exact .int i
  |str x=>exact .str x
  |tupk h1=>exact .tupk h1
  |tup h1 h2 h3=>exact .tup (QU (s _ _ h1)) h2 λi d v e1 e2=>ih (Au.mp h d (Bm e1)) (h3 i d v e1 e2)
  |lst _ _ _=>cases h
  |dct _ _ _ _=>cases h
  |fn _=>cases h
def pU(K:Ae)(vQ:Bool):R2:=λv w H Q=>∃F x y,Zp F H/\Rep K F x v/\Rep K F y w/\x.canLay0=Aa/\HM.C2 y=Aa/\Q (.bl (if vQ then !PyData.eqv x y else BR x y)) H
theorem cJ{k:Nat}(hr:ZP k X.A):uq X (BQ .Eq) (pU X.K Ab):=by intro sI s Y H v w u u' Q I r1 r2 ⟨F,x,y,sub,q1,q2,a1,p2,q⟩;obtain⟨b1,b2⟩:=Ic p2;obtain⟨as,h1⟩:=q1.reads I sub a1 u r1;obtain⟨bs,h2⟩:=q2.reads I sub b1 u' r2;refine bK X.prog X.w X.A X.xe s u u' x y as bs _ h1 h2 a1 b1 ?_ ⟨.bl _,H,I,rfl,q⟩;have:=hr.un;have:min x.depth y.depth<=60:=Bf (Nat.min_le_right _ _) b2;omega
theorem pY{k:Nat}(hr:ZP k X.A):DV X .Eq HM.IZ:=by
 refine⟨⟨_,cJ hr,λF H x y z v w Q s e r1 r2 k=>?_⟩,by decide,by decide⟩;unfold HM.IZ at e;split at e
 .rename_i hp
  cases e;rw[AI]at hp;exact⟨F,x,y,s,r1,r2,hp.1,hp.2,k _ (.bl _)⟩
 .cases e
end
end HP
namespace HP
open PySem
variable{S:Addr}
abbrev mdA(I S:Addr)(dv:Value):Args:=⟨[.ref I,.none,.ref S],[(C8 "default",dv)]⟩
theorem M7:(toString "min" ++ toString ".loop":String) = "min.loop":=by decide
theorem gG(a dv:Value):argsOk "min" ⟨[a],[(C8 "default",dv)]⟩:=by unfold argsOk;kernel_rfl
section
variable{prog:Program}{w:World}{A:Around}{R:Result->Shared->Prop}{I:Addr}{fp wr:List Addr}{n:Nat}{P:Nat->Value->Prop}{St:Nat->Heap->Prop}
theorem er(W:Walks prog w A.in1 I fp wr n P St)(bt:Nat->Nat->Bool)(hc:CmpOf prog w A.in1 .Lt P bt)(hf:S∉fp)(dv:Value):∀(k j:Nat) (s:Shared) (b:Value) (ep:Nat),n=j+1+k->St (j+1) s.heap->P (argBest bt j) b ->s.heap.get? S=Z {cls:=.type "list",dict:=J,data:=.seq #[b,b] ep,slots:=#[]} ->(∀v h' tk,P (argBest bt (n-1)) v->(∀x o,x∉wr->x≠S->s.heap.get? x=Z o->h'.get? x=Z o)->R (.ok (.ret v)) {s with heap:=h',toks:=tk}) ->codeAny (model prog w) A (.builtin "min.loop" (mdA I S dv)) R s:=by
 have hw:S∉wr:=λh=>hf (W.sub _ h);intro k
 induction k with
 |zero =>
  intro j s b ep hn st pb gS out;have hn:n=j+1:=by omega
  subst hn;refine Ey Uj ?_;rw[Fq IJ _];show wpAny _ A.in1 (seqItems? (.ref S) >>= _) _ _ s;refine Ac (wpAny_seqItems gS rfl ?_);show wpAny _ A.in1 (tryCatch (pyNext (.ref I)) _ >>= _) _ _ s;refine Ac (L3 (W.done s _ _ st λh1 tk keep=>?_));have yt:=keep S _ hw gS;show wpAny _ A.in1 (updateSeq S (λ_=>#[]) >>= _) _ _ _;exact Ac (T8 yt rfl (Ac (Ma (Ag (out b _ tk pb λx o hx hS e=>(IK _ _ (A8 hS)).trans (keep x o hx e))))))
 |succ k ih =>
  intro j s b ep hn st pb gS out;refine Ey Uj ?_;rw[Fq IJ _];show wpAny _ A.in1 (seqItems? (.ref S) >>= _) _ _ s;refine Ac (wpAny_seqItems gS rfl ?_);show wpAny _ A.in1 (tryCatch (pyNext (.ref I)) _ >>= _) _ _ s;refine Ac (L3 (W.item (j+1) s _ _ (by omega) st λv h1 tk pv st1 keep=>?_));have yt:=keep S _ hw gS;show wpAny _ A.in1 (tryCatch (holding [v,v] (richCompare .Lt v b >>= _)) _ >>= _) _ _ _;refine Ac (L3 (Cu (Ac (hc (j+1) (argBest bt j) v b _ _ _ pv pb (Ac (Cu (IS (Ac (Ma (Ag ?_))))))))));have yb:argBest bt (j+1)=if bt (j+1) (argBest bt j)then j+1 else argBest bt j:=rfl
  cases hb:bt (j+1) (argBest bt j)with
  |true =>
   rw[hb,if_pos rfl]at yb;simp only[if_true];refine Ac (T8 yt rfl (Ac (Ma ?_)));rw[M7];refine Ag ⟨He IJ _,ih (j+1) _ v _ (by omega) (W.frame _ _ _ st1 λx hx o e=>?_) (by rw[yb];exact pv) (Gi _ yt rfl) λv' h2 zt p' vK=>?_⟩
   .exact(IK _ _ (λz:S=x=>hf (by rw[z];exact hx))).trans e
   .exact out v' h2 zt p' λx o hx hS e=>vK x o hx hS ((IK _ _ (A8 hS)).trans (keep x o hx e))
  |false=>rw[hb,if_neg (by simp)]at yb;simp only[DS,if_false];refine Ac (Ma ?_);rw[M7];exact Ag ⟨He IJ _,ih (j+1) _ b ep (by omega) st1 (by rw[yb];exact pb) yt λv' h2 zt p' vK=>out v' h2 zt p' λx o hx hS e=>vK x o hx hS (keep x o hx e)⟩
theorem i9(W:Walks prog w A.in1 I fp wr n P St)(bt:Nat->Nat->Bool)(hc:CmpOf prog w A.in1 .Lt P bt)(hf:S∉fp)(dv:Value){s:Shared}{ep:Nat}(st:St 0 s.heap)(gS:s.heap.get? S=Z {cls:=.type "list",dict:=J,data:=.seq #[] ep,slots:=#[]})(o0:n=0->∀h' tk,(∀x o,x∉wr->x≠S->s.heap.get? x=Z o->h'.get? x=Z o)->R (.ok (.ret dv)) {s with heap:=h',toks:=tk})(o1:0<n->∀v h' tk,P (argBest bt (n-1)) v->(∀x o,x∉wr->x≠S->s.heap.get? x=Z o->h'.get? x=Z o)->R (.ok (.ret v)) {s with heap:=h',toks:=tk}):codeAny (model prog w) A (.builtin "min.loop" (mdA I S dv)) R s:=by
 have hw:S∉wr:=λh=>hf (W.sub _ h);refine Ey Uj ?_;rw[Fq IJ _];show wpAny _ A.in1 (seqItems? (.ref S) >>= _) _ _ s;refine Ac (wpAny_seqItems gS rfl ?_);show wpAny _ A.in1 (tryCatch (pyNext (.ref I)) _ >>= _) _ _ s
 by_cases h0:n=0
 .subst h0
  refine Ac (L3 (W.done s _ _ st λh1 tk keep=>?_));show wpAny _ A.in1 (rule _ >>= _) _ _ _;exact Ac (Hh (Ag (o0 rfl h1 tk λx o hx _ e=>keep x o hx e)))
 .refine Ac (L3 (W.item 0 s _ _ (by omega) st λv h1 tk pv st1 keep=>?_))
  have yt:=keep S _ hw gS;show wpAny _ A.in1 (updateSeq S (λ_=>#[v,v]) >>= _) _ _ _;refine Ac (T8 yt rfl ?_);rw[M7];refine Ag ⟨He IJ _,er W bt hc hf dv (n-1) 0 _ v _ (by omega) (W.frame _ _ _ st1 λx hx o e=>?_) pv (Gi _ yt rfl) λv' h2 zt p' vK=>?_⟩
  .exact(IK _ _ (λz:S=x=>hf (by rw[z];exact hx))).trans e
  .exact o1 (by omega) v' h2 zt p' λx o hx hS e=>vK x o hx hS ((IK _ _ (A8 hS)).trans (keep x o hx e))
end
end HP
namespace HP
open PySem PySem.Spec PyProof.Rows L2
variable{cs:List PyData}{K:Ae}{x:Str}
variable[FX]
theorem Rep.fn_inv{F:Hp}{t:Nat}{v:V}(h:Rep K F (HM.sV t cs) v):∃a,v=.ref a/\FX.fv t cs F a:=by
 cases h with
 | @dct a es kvs vvs h he hk hr =>
  cases kvs with
  |nil=>cases he
  |cons p r =>
   injection he with h1 _
   injection h1 with h2 _
   cases h2
 |fn h=>exact⟨_,rfl,h⟩
theorem iq{d:PyData}{t:Nat}(h:HM.MX d=Z (t,cs)):d=HM.sV t cs:=by
 unfold HM.MX at h;split at h
 .cases h;rfl
 .cases h
structure GFn(mg:Str->Option Value)(x:Str)(t:Nat):Prop where
 ex:∃f,mg x=Z (.ref f)/\∀F,FX.fv t [] F f
section
variable{X:Cx}{pos p:Pos}{e a b:Expr}{es:List Expr}{f:HM.AF}
theorem ft{t:Nat}(h:GFn X.mg x t)(hg:Gl X x:=by rfl)(hd:(x==("__debug__":Str))=Ab:=by decide):XE X (.Name x pos) (HM.eC (HM.sV t [])):=by obtain⟨f,hm,hv⟩:=h.ex;exact Jl (QC hg hm (v:=.ref f) rfl hd) λF=>.fn (hv F)
structure GG(P:Program)(w:World)(K:Ae)(mg:Str->Option Value)(base:Heap)(k:Nat)(ap:HM.AP):Prop where
 fn:∀{t:Nat} {cs:List PyData} {F:Hp} {a:Addr},FX.fv t cs F a->∀{A:Around} {outer:List Env} {s:Shared} {H:Hp},CA P w K mg base A outer s H->Zp F H->Tz a s.heap
 run:∀{t:Nat} {cs:List PyData} {F:Hp} {a:Addr},FX.fv t cs F a->∀{A:Around} {outer:List Env} {s:Shared} {H:Hp},CA P w K mg base A outer s H->Zp F H ->
  ∀{us:List Value} {vs:List V} {ds:List PyData} {d:PyData} {Q:VK},ZP k A->Tb H->uN F->sL vs us->Zt K F ds vs->ap t cs ds=Z d->(∀v F' H',sQ F H F' H'->Rep K F' d v->Q v H') ->
   codeAny (model P w) A (.call (.ref a) ⟨us,[]⟩) (CR vd outer P w H s Q E0) s
theorem GG.mono{P:Program}{w:World}{K:Ae}{mg:Str->Option Value}{base:Heap}{j k:Nat}{ap:HM.AP}(C:GG P w K mg base j ap)(h:j<=k):GG P w K mg base k ap :=
 ⟨C.fn,by intro t cs F a q A outer s H e z us vs ds d Q hr;exact C.run q e z (hr.mono h)⟩
theorem Xt{k:Nat}{ap:HM.AP}(C:GG X.prog X.w X.K X.mg X.base k ap)(hr:ZP k X.A)(i:Nat)(ha:XA X (e::es) f)(hN:X.N[i]?=Z x:=by rfl)(hv:vk X.env.scope x:=by first|exact AG rfl|exact An (AG rfl)|exact An (An rfl))(hd:(x==("__debug__":Str))=Ab:=by decide)(tF:(x==("__classdict__":Str))=Ab:=by decide)(he:Ad (e::es) X.env=(Ab,eval e X.env)::Ad es X.env:=by rfl)(hpl:(backTo pos (Ad es X.env)).any (·.1)=Ab:=by rfl):XE X (.Call (.Name x p) (e::es) [] pos) (HM.K7 ap i f):=by
 intro r d h;unfold HM.K7 at h;split at h
 case h_2=>cases h
 rename_i d0 hs;split at h
 case h_2=>cases h
 rename_i t cs hu;split at h
 case h_2=>cases h
 rename_i ds sW;obtain rfl:=iq hu;intro sI s Y H Q I ⟨F0,H0,F1,at_,kk⟩;obtain⟨v,h1,h2⟩:=at_.plain hs;obtain⟨q,rfl,fv⟩:=h2.fn_inv;refine IL (sS (CI hN hv hd tF sI s Y H (λv' H'=>v'=.ref q/\H'=H) I ⟨_,h1,rfl,rfl⟩) λu s1 ⟨v',H1,I1,r1,e1,e2⟩=>?_);subst e1 e2;obtain rfl:u=Bb q:=r1;refine PySem.W.callWith_F (C.fn fv I1.env0 at_.sub) (sS (ha.pa r ds sW pos sI s1 Y H1 (λvs H2=>∃F2,sQ F1 H1 F2 H2/\Zt X.K F2 ds vs) I1 ⟨F0,H0,F1,at_,λvs F2 H2 x2 q2=>⟨F2,x2,q2⟩⟩) λus s2 ⟨vs,H2,I2,r2,F2,x2,q2⟩=>?_) he hpl;have fv2:=FX.mono fv x2.ff;refine⟨C.fn fv2 I2.env0 x2.sub,LV (Fm (C.run fv2 I2.env0 x2.sub hr (at_.tbx x2) (at_.ntx x2) r2 q2 h λv F' H' x3 q3=>kk v F' H' (x2.trans x3) q3) λrs s' hq=>?_)⟩;cases rs with
 |error e=>exact Bv hq
 |ok fl =>
  cases fl with
  |ret u=>exact I2.after hq
  |next=>exact Bv hq
  |brk=>exact Bv hq
  |cont=>exact Bv hq
def spN(K:Ae)(n:Nat)(M:List PyData->Option (List (List sP×PyData))):Sp:=λvs H Q _=>∃F ds kvs,vs.length=n/\Zp F H/\Tb H/\uN F/\Zt K F ds vs/\M ds=Z kvs /\
 ∀l vvs F' H',sQ F H F' H'->H' l=Z (.dT vvs)->kvs.map (·.1)=vvs.map (·.1)->Zt K F' (kvs.map (·.2)) (vvs.map (·.2))->F' l=J->H l=J->Q (.ref l) H'
structure GJ(P:Program)(w:World)(K:Ae)(mg:Str->Option Value)(base:Heap)(k:Nat)(x:Str)(M:List PyData->Option (List (List sP×PyData))):Prop where
 ex:∃f fd ps,(∀ds d,M ds=Z d->ds.length=ps.length)/\Cc P w K mg base vd k f fd ps (spN K ps.length M)/\mg x=Z (.ref f)/\Ef K (.ref f)=Aa/\Binds K fd ps []
theorem GJ.mono{P:Program}{w:World}{K:Ae}{mg:Str->Option Value}{base:Heap}{j k:Nat}{x:Str}{M:List PyData->Option (List (List sP×PyData))}(C:GJ P w K mg base j x M)(h:j<=k):GJ P w K mg base k x M:=by obtain⟨f,fd,ps,l,F,r⟩:=C.ex;exact⟨f,fd,ps,l,F.mono h,r⟩
theorem Zt.flat{K:Ae}{F F':Hp}{ds:List PyData}{vs:List V}(r:Zt K F ds vs)(h:∀d∈ds,HM.M8 d=Aa):Zt K F' ds vs :=
 ⟨r.1,λi d v h1 h2=>(r.2 i d v h1 h2).flat (h d (Bm h1))⟩
theorem iE{k:Nat}{g:HM.AF}{M:List PyData->Option (List (List sP×PyData))}(C:GJ X.prog X.w X.K X.mg X.base k x M)(hr:ZP k X.A)(ha:yO X (e::es) g)(hg:Gl X x:=by rfl)(uh:(x==("__debug__":Str))=Ab:=by decide)(he:Ad (e::es) X.env=(Ab,eval e X.env)::Ad es X.env:=by rfl)(hpl:(backTo pos (Ad es X.env)).any (·.1)=Ab:=by rfl):XF X (.Call (.Name x p) (e::es) [] pos) (HM.Ro M g):=by
 intro r d hd;unfold HM.Ro at hd;split at hd
 case h_2=>cases hd
 rename_i ds sW;split at hd
 case h_2=>cases hd
 rename_i kvs hM;split at hd
 case isFalse=>cases hd
 rename_i uD;cases hd;obtain⟨fa,fd,ps,hl,F,hm,hk,hb⟩:=C.ex;refine PE.imp (KJ (E:=E0) F hr hg hm hk hb .nil MD (ha.pa r ds sW) uh he hpl) λY H Q ⟨F0,H0,F1,at_,kk⟩=>?_;refine⟨F0,H0,F1,at_,λvs F' H' x q=>?_⟩;show spN X.K ps.length M (vs++[]) H' Q E0;rw[B6];refine⟨CC H',ds,kvs,by rw[<-q.1];exact hl ds _ hM,Rn,at_.tbx x,.drop,q.drop',hM,λl vvs F2 H2 x2 h1 h2 h3 h4 h5=>?_⟩;refine kk _ F' H2 (x.trans (sQ.forget x.sub (at_.ntx x) x2)) ⟨[l],.ot h1 h2 (h3.flat λd hd=>?_),by simp,λc hc=>?_⟩
 .obtain⟨q,h6,rfl⟩:=Al.mp hd
  exact Au.mp uD q h6
 .obtain rfl:c=l:=by simpa using hc
  exact⟨x.sub.free h5,x.hh.free h5⟩
def tSn(K:Ae)(r:HM.Env)(kvs:List (List sP×PyData)):TS:=λE Y H=>vt K r Y H λF0 H0 F=>∀l vvs F' H',sQ F0 H0 F' H'->H' l=Z (.dT vvs)->kvs.map (·.1)=vvs.map (·.1)->Zt K F' (kvs.map (·.2)) (vvs.map (·.2))->F' l=J->H0 l=J->E.rt (.ref l) H'
def XSn(X:Cx)(wt:List Stmt)(m:HM.NF):Prop:=∀r kvs,m r=Z kvs->uA X wt (tSn X.K r kvs)
theorem W0{st:Stmt}{rest:List Stmt}{g:HM.SF}{m:HM.NF}(h1:XS X st g)(h2:XSn X rest m):XSn X (st::rest) (HM.Kp g m):=by
 intro r kvs h;unfold HM.Kp at h;split at h
 .rename_i r' q
  refine uA.imp (HY (h1 r _ q) (h2 r' kvs h)) λE Y H ⟨F0,H0,F,at_,k⟩=>?_;exact⟨F0,H0,F,at_,λσ' F' H' at'=>⟨F0,H0,F',at',k⟩⟩
 .cases h
theorem fJ(j:Nat){p1:Pos}(hN:X.N[j]?=Z x:=by rfl)(hv:vk X.env.scope x:=by first|exact AG rfl|exact An (AG rfl)|exact An (An rfl))(hd:(x==("__debug__":Str))=Ab:=by decide)(tF:(x==("__classdict__":Str))=Ab:=by decide):XSn X [.Return (Z (.Name x p)) p1] (HM.P5 j):=by
 intro r kvs h;unfold HM.P5 at h;split at h
 .rename_i kvs' hs
  cases h;refine uA.imp (HY (Kq (CI hN hv hd tF)) GR) λE Y H ⟨F0,H0,F,⟨fp,at_⟩,k⟩=>?_;obtain⟨v,h1,h2⟩:=at_.at_ j _ hs;generalize wM:fp j=fj at h2;cases h2 with
  | @ot l _ vvs hl hk q=>have ho:=at_.own j l (by rw[wM];simp);exact⟨_,h1,k l vvs F H at_.ext hl hk q ho.1 ho.2⟩
 .cases h
theorem lH{P:Program}{w:World}{mg:Str->Option Value}{base:Heap}{k:Nat}{qual:Str}{st:Stmt}{f:Addr}{fd:FuncData}{N ps:List Str}{m:HM.NF}(Fn:vF K x qual st f fd)(S:Zs N ps (Ze st))(hm:mg x=Z (.ref f))(hb:Binds K fd ps [])(body:∀(sO:Value) (A:Around) (outer:List Env) (s:Shared) (H:Hp) (E:XK),ZP k (A.deeper (envOfC qual (Ze st) s.heap.objs.size f sO))->XSn (CO vd P w K mg base N qual (Ze st) f sO A outer s H E).nox (BU st) m):GJ P w K mg base (k+1) x (HM.yA ps.length N.length m):=by
 have hpl:ps.length<=N.length:=by have:=congrArg BC S.pre;rw[Fd]at this;omega
 refine⟨f,fd,ps,λds d h=>?_,Fn.ok S (λvs H Q E h=>?_) (λsO A outer s H vs Q E hr h=>?_),hm,Fn.kp,hb⟩
 .unfold HM.yA at h
  split at h
  .assumption
  .cases h
 .obtain⟨_,_,_,h,_⟩:=h
  exact h
 .obtain⟨F,ds,kvs,hl,sub,tb,nt,q,hM,kk⟩:=h
  unfold HM.yA at hM;split at hM
  .rename_i sW
   exact⟨_,body sO A outer s H E hr _ _ hM,F,H,F,Jk (N:=N) sub tb nt q (by omega),λl vvs F' H' x h1 h2 h3 h4 h5=>kk l vvs F' H' x h1 h2 h3 h4 h5⟩
  .cases hM
theorem jH(hc:X.calm=Aa){sI:List (Addr×Obj)}{s:Shared}{Y:L2.St}{H:Hp}{l:Addr}{ns:List Int}{Q:VK}(I:Inv X sI Y H s)(hq:tU X.K H l (ns.map V.int))(q:Q (match ns.min? with|some i=>.int i|none=>.non) H):wpAny (model X.prog X.w) X.A (call (.builtin "min") [.ref l] [(C8 "default",.none)]) (EP X sI Y Q) X.xe s:=by
 obtain⟨its,rv,pl,hz⟩:=I.list hq;have hi:=GS rv;obtain⟨xs,e⟩:=hi.allInts.items;have ug:ns=xs.toList.map (·.1):=by rw[<-hi.numsOf,<-nums_intItems,<-e]
 have hl:=pl.isList;rw[e]at hl;refine PyProof.Rows.kmk_tree PySem.F.kind_min PySem.F.plain_min PySem.F.entry_min (gG _ _) ?_;refine Ac (O1 (show Builtin.Builtins.bindParams "min" ["key","default"] 0 ⟨[],[(C8 "default",.none)]⟩=pure [J,Z .none] from rfl) ?_);refine Ac (Ag ?_);refine Ac (iter_intList hl λs2 e2 st wM hlI=>?_);subst e2;refine Ac (DU ?_);rw[M7];generalize hIT:s.heap.push {cls:=.type "list_iterator",data:=.fields #[.ref l,.int 0 0]}=h1 at st wM;have z1:h1.objs.size=s.heap.objs.size+1:=by rw[<-hIT];exact IB ..
 have k1:∀b o,s.heap.get? b=Z o->h1.get? b=Z o:=λb o e=>by rw[<-hIT];exact Ar _ e
 have W:=Walks.list (prog:=X.prog) (w:=X.w) (A:=X.A.in1) (I.ok.hd hc) s.heap.objs.size l hlI (intItems xs);have zk:h1.objs.size∉[s.heap.objs.size,l]:=λz=>EC _ (wM _ z);have old:∀{h':Heap} {oS:Obj},(∀x o,x∉[s.heap.objs.size]->x≠h1.objs.size->(h1.push oS).get? x=Z o->h'.get? x=Z o)->∀b o,s.heap.get? b=Z o->h'.get? b=Z o:=λhk b o e=>by have hb:=Ao e;exact hk b o (λz=>by rw[AW.mp z]at hb;exact EC _ hb) (As (by rw[z1];exact Mj hb)) (Ar _ (k1 b o e))
 refine Ag ⟨He IJ _,i9 W (λi j=>decide (numAt xs i<numAt xs j)) (CmpOf.ints_lt (numAt xs) λ_ _=>intItems_at) zk .none (W.frame _ _ _ st λb _ o e=>Ar _ e) (AZ _ rfl) (λh0 h' tk hk=>?_) λh0 v h' tk hP hk=>?_⟩
 .have e0:ns=[]:=by
   rw[ug];have:xs.size=0:=by simpa [intItems]using h0
   rw[Array.eq_empty_of_size_eq_zero this];rfl
  subst e0;exact⟨.non,H,I.kept (t':=tk) (old hk),rfl,q⟩
 .have h0':0<xs.size:=by simpa [intItems]using h0
  have hP':(intItems xs)[argBest (λi j=>decide (numAt xs i<numAt xs j)) (xs.size-1)]?=Z v:=by simpa [intItems]using hP
  obtain⟨t,rfl⟩:=intItems_at hP';obtain⟨g1,g2⟩:=argBest_lt (numAt xs) (xs.size-1);have hm:ns.min?=Z (numAt xs (argBest (λi j=>decide (numAt xs i<numAt xs j)) (xs.size-1))):=by
   refine UB.mpr ⟨?_,λa ha=>?_⟩
   .rw[ug,numAt_eq];exact getD_mem (by rw[Af,BB];omega)
   .rw[ug]at ha
    obtain⟨j,hj,rfl⟩:=mem_getD ha;rw[Af,BB]at hj;rw[<-numAt_eq];exact g2 j (by omega)
  rw[hm]at q;exact⟨.int _,H,I.kept (t':=tk) (old hk),⟨t,rfl⟩,q⟩
theorem V2{f:HM.BF}{kp p2:Pos}{j:Nat}(hm:X.mg "min"=J)(hc:X.calm=Aa)(ha:XB X a f)(hg:Gl X "min":=by rfl)(hs:Ad [a] X.env=[(Ab,eval a X.env)]:=by rfl)(he:backTo pos (Ad [a] X.env)=(Ab,eval a X.env)::backTo pos (Ad [] X.env):=by rfl)(hpl:(backTo pos (Ad [a] X.env)).any (·.1)=Ab:=by rfl):XE X (.Call (.Name "min" p) [a] [⟨Z "default",.Constant .none j p2,kp⟩] pos) (HM.HJ f):=by
 intro r d h;unfold HM.HJ at h;split at h
 case h_2=>cases h
 rename_i x hx;split at h
 case h_2=>cases h
 rename_i ds sW;split at h
 case h_2=>cases h
 rename_i ns ug;cases h;intro sI s Y H Q I ⟨F0,H0,F,at_,k⟩;refine IL (HH I hg hm Vw ?_);refine callWith_kw (sS (Ep ha hx hs pos sI s Y H (λvs H1=>∃v fp F1,vs=[v]/\sQ F H F1 H1/\Ay X.K F1 H1 x v fp) I ⟨F0,H0,F,at_,λv fp F' H' x1 r1=>⟨v,fp,F',rfl,x1,r1⟩⟩) λus s1 ⟨vs,H1,I1,rv,v,fp,F1,e1,x1,r1⟩=>?_) he hpl;subst e1;obtain⟨u,rfl,ru⟩:=vals1 rv;obtain⟨l,ws,rfl,hq,rs⟩:=EZ x1.sub r1 sW;obtain rfl:u=Bb l:=ru;rw[FK ug rs]at hq;refine kws_cons (sS (VA sI s1 Y H1 (λv' H'=>v'=.non/\H'=H1) I1 ⟨rfl,rfl⟩) λu2 s2 ⟨v',H2,I2,r2,e2,e3⟩=>?_);subst e2 e3;obtain rfl:u2=AM:=r2;refine kws_nil ?_;refine jH hc I2 hq ?_;refine k _ F1 H2 x1 ?_;cases ns.min? with
 |none=>exact .non
 |some i=>exact .int i
end
end HP
namespace HP
open PySem PySem.Spec PyProof.Rows L2
section
variable{F:Hp}{K:Ae}
abbrev uR:FX where
 tl:=[]
 fv:=λ_ _ _ _=>False
 sw:=λ_ _ h=>h
 drop:=λh=>h
 mono:=λh _=>h
structure vm(K:Ae)(F:Hp)(p:Addr)(params:Arguments)(body:Expr)(scope:Scope)(names:List Str)(cs:List PyData):Prop where
 ex:∃(qual:Str) (pm uM:Value) (c:Addr) (oc:Obj) (sN:List (Str×Addr)),
  F p=Z (AA p (Pd "<lambda>" qual params body scope sN pm c uM))/\F c=Z (AA c oc)/\Qm oc qual /\
  (∀x y a,sN.lookup x=Z a->sN.lookup y=Z a->x=y)/\(∀y∈scope.names,y.2=.free->(sN.lookup y.1).isSome=Aa) /\
  (∀x a,sN.lookup x=Z a->∃o v,F a=Z (AA a o)/\o.data=.cell v) /\
  names.length=cs.length/\∀(i:Nat) (x:Str) (d:PyData),names[i]?=Z x->cs[i]?=Z d->∃a o u v,sN.lookup x=Z a/\F a=Z (AA a o)/\o.data=.cell (Z u)/\RelV v u/\@Rep uR K F d v
section
variable{K:Ae}{F F':Hp}{p:Addr}{params:Arguments}{body:Expr}{scope:Scope}{names:List Str}{cs:List PyData}
theorem vm.mono(h:vm K F p params body scope names cs)(s:Zp F F'):vm K F' p params body scope names cs:=by
 obtain⟨qual,pm,uM,c,oc,sN,h1,h2,h3,h4,h5,h6,h7,h8⟩:=h.ex;refine⟨qual,pm,uM,c,oc,sN,s _ _ h1,s _ _ h2,h3,h4,h5,λx a e=>?_,h7,λi x d e1 e2=>?_⟩
 .obtain⟨o,u,q1,q2⟩:=h6 x a e
  exact⟨o,u,s _ _ q1,q2⟩
 .obtain⟨a,o,u,v,q1,q2,q3,q4,q5⟩:=h8 i x d e1 e2
  exact⟨a,o,u,v,q1,s _ _ q2,q3,q4,@Rep.mono uR _ _ _ _ _ q5 s⟩
theorem vm.drop(h:vm K F p params body scope names cs):vm K (CC F) p params body scope names cs:=by
 obtain⟨qual,pm,uM,c,oc,sN,h1,h2,h3,h4,h5,h6,h7,h8⟩:=h.ex;refine⟨qual,pm,uM,c,oc,sN,EX h1 rfl,EX h2 rfl,h3,h4,h5,λx a e=>?_,h7,λi x d e1 e2=>?_⟩
 .obtain⟨o,u,q1,q2⟩:=h6 x a e
  exact⟨o,u,EX q1 rfl,q2⟩
 .obtain⟨a,o,u,v,q1,q2,q3,q4,q5⟩:=h8 i x d e1 e2
  exact⟨a,o,u,v,q1,EX q2 rfl,q3,q4,@Rep.drop uR _ _ _ _ q5⟩
theorem vm.sw{a:Addr}{ob:HO}{vvs:List (List sP×V)}(hF:∀u,F a=Z u->Dk vvs u)(ux:Dk vvs ob)(h:vm K F p params body scope names cs):vm K (HP.sw a ob F) p params body scope names cs:=by
 have key:∀{b:Addr} {o:Obj},F b=Z (AA b o)->HP.sw a ob F b=Z (AA b o):=λ{b o} e=>by
  have hb:b≠a:=λz=>by subst z;have:=@Dk.te uR _ _ (hF _ e);cases this
  unfold HP.sw;rw[if_neg hb];exact e
 obtain⟨qual,pm,uM,c,oc,sN,h1,h2,h3,h4,h5,h6,h7,h8⟩:=h.ex;refine⟨qual,pm,uM,c,oc,sN,key h1,key h2,h3,h4,h5,λx a e=>?_,h7,λi x d e1 e2=>?_⟩
 .obtain⟨o,u,q1,q2⟩:=h6 x a e
  exact⟨o,u,key q1,q2⟩
 .obtain⟨a,o,u,v,q1,q2,q3,q4,q5⟩:=h8 i x d e1 e2
  exact⟨a,o,u,v,q1,key q2,q3,q4,@Rep.sw uR _ _ _ _ _ _ _ hF ux q5⟩
end
theorem Rep.up[FX]{d:PyData}{v:V}(r:@Rep uR K F d v):Rep K F d v:=by
 induction r with
 |non=>exact .non
 |bl b=>exact .bl b
 |int i=>exact .int i
 |str x=>exact .str x
 |tup h hl _ ih=>exact .tup h hl ih
 |tupk h=>exact .tupk h
 |lst h hl _ ih=>exact .lst h hl ih
 |dct h he hk _ ih=>exact .dct h he hk ih
 |fn h=>exact h.elim
theorem Rep.cutF[FX]{F':Hp}(hF:∀b o,F b=Z o->te o=Ab->F' b=Z o){d:PyData}{v:V}(r:Rep K F d v):∀n,HM.uT n d=Aa->@Rep uR K F' d v:=by
 induction r with
 |non=>intro _ _;exact @Rep.non uR _ _
 |bl b=>intro _ _;exact @Rep.bl uR _ _ b
 |int i=>intro _ _;exact @Rep.int uR _ _ i
 |str x=>intro _ _;exact @Rep.str uR _ _ x
 |tupk h=>intro _ _;exact @Rep.tupk uR _ _ _ _ h
 |tup h hl _ ih =>
  intro n hn;cases n with
  |zero=>cases hn
  |succ n=>exact @Rep.tup uR _ _ _ _ _ (hF _ _ h rfl) hl λi d v h1 h2=>ih i d v h1 h2 n (Au.mp hn d (Bm h1))
 |lst h hl _ ih =>
  intro n hn;cases n with
  |zero=>cases hn
  |succ n =>
   refine @Rep.lst uR _ _ _ _ _ ?_ hl λi d v h1 h2=>ih i d v h1 h2 n (Au.mp hn d (Bm h1));rcases h with(h|⟨o,h⟩)|h
   .exact .inl (.inl (hF _ _ h rfl))
   .exact .inl (.inr ⟨o,hF _ _ h rfl⟩)
   .exact .inr h
 | @dct a es kvs vvs h he hk _ ih =>
  intro n hn;cases n with
  |zero=>cases hn
  |succ n =>
   refine @Rep.dct uR _ _ _ _ kvs vvs ?_ he hk λi d v h1 h2=>ih i d v h1 h2 n ?_
   .rcases h with h|⟨o,h⟩
    .exact .inl (hF _ _ h rfl)
    .exact .inr ⟨o,hF _ _ h rfl⟩
   .subst he
    rw[A1]at h1;obtain⟨q,h3,h4⟩:=Ai.mp h1;subst h4;have hm:(BZ (q.1.map HM.BS),q.2)∈HM.Zn kvs:=Al.mpr ⟨q,Bm h3,rfl⟩;have:=Au.mp hn _ hm;rw[AI]at this;exact this.2
 |fn h =>
  intro n hn;cases n with
  |zero=>cases hn
  |succ n=>have:=Au.mp hn _ (Am ..);cases this
end
section
variable{a b:Addr}{G H:Hp}{C:List Addr}{o:Obj}
theorem Rep0.cut{K:Ae}{F F':Hp}(hF:∀b o,F b=Z o->te o=Ab->F' b=Z o){d:PyData}{v:V}(r:@Rep uR K F d v):@Rep uR K F' d v:=by
 induction r with
 |non=>exact @Rep.non uR _ _
 |bl b=>exact @Rep.bl uR _ _ b
 |int i=>exact @Rep.int uR _ _ i
 |str x=>exact @Rep.str uR _ _ x
 |tupk h=>exact @Rep.tupk uR _ _ _ _ h
 |tup h hl _ ih=>exact @Rep.tup uR _ _ _ _ _ (hF _ _ h rfl) hl ih
 |lst h hl _ ih =>
  refine @Rep.lst uR _ _ _ _ _ ?_ hl ih;rcases h with(h|⟨o,h⟩)|h
  .exact .inl (.inl (hF _ _ h rfl))
  .exact .inl (.inr ⟨o,hF _ _ h rfl⟩)
  .exact .inr h
 | @dct a es kvs vvs h he hk _ ih =>
  refine @Rep.dct uR _ _ _ _ kvs vvs ?_ he hk ih;rcases h with h|⟨o,h⟩
  .exact .inl (hF _ _ h rfl)
  .exact .inr ⟨o,hF _ _ h rfl⟩
 |fn h=>exact h.elim
def A3(C:List Addr)(H:Hp):Hp:=λb=>if b∈C then J else H b
theorem KD(h:b∈C):A3 C H b=J:=by unfold A3;rw[if_pos h]
theorem B3(h:b∉C):A3 C H b=H b:=by unfold A3;rw[if_neg h]
theorem Nx{o:HO}(h:A3 C H b=Z o):b∉C/\H b=Z o:=by
 unfold A3 at h;split at h
 .cases h
 .exact⟨by assumption,h⟩
def EL(C:List Addr)(G H:Hp):Hp:=λb=>if b∈C then G b else H b
theorem HW(h:b∈C):EL C G H b=G b:=by unfold EL;rw[if_pos h]
theorem Dt(h:b∉C):EL C G H b=H b:=by unfold EL;rw[if_neg h]
section
variable{P:Program}{w:World}{C:List Addr}{G H H':Hp}{h h':Heap}
theorem D5(x:ZZ P w H h a (AA a o)):h.get? a=Z o:=x.1
theorem Ji(e:h.get? a=Z o):ZZ P w H h a (AA a o):=⟨e,⟨o,e⟩,λh1 h2 q k=>k o q⟩
theorem tK.cut(x:tK P w H h)(hC:∀c∈C,∀o,H c=Z o->te o=Aa):tK P w (A3 C H) h:=λa o e=>by
 obtain⟨_,e⟩:=Nx e;have out:∀{b:Addr} {u:HO},H b=Z u->te u=Ab->A3 C H b=Z u:=λ{b u} q t=>by rw[B3 λz=>by rw[hC b z u q]at t;cases t];exact q
 exact(x a o e).stay (λ_ _ _ q=>q) (λb q=>out q rfl) λb xs q=>out q rfl
theorem tK.put(x:tK P w H h)(hn:∀c∈C,H c=J)(hC:∀c∈C,∀u,G c=Z u->∃o,u=AA c o/\h.get? c=Z o):tK P w (EL C G H) h:=λa o e=>by
 have out:∀{b:Addr} {u:HO},H b=Z u->EL C G H b=Z u:=λ{b u} q=>by rw[Dt λz=>by rw[hn b z]at q;cases q];exact q
 by_cases ha:a∈C
 .rw[HW ha]at e
  obtain⟨ob,rfl,hb⟩:=hC a ha o e;exact Ji hb
 .rw[Dt ha]at e
  exact(x a o e).stay (λ_ _ _ q=>q) (λb q=>out q) λb xs q=>out q
end
structure Jp(scope:Scope)(x:Str)(names:List Str):Prop where
 kind:scope.kind=.function
 co:scope.isCoroutine=Ab
 gen:scope.isGenerator=Ab
 nocell:∀y∈scope.names,y.2≠.cell
 par:scope.names.lookup x=Z .local
 free:∀n∈names,scope.names.lookup n=Z .free
 nd:(x::names).Nodup
def Hz(P:Program)(w:World)(K:Ae)(mg:Str->Option Value)(base:Heap)(N:List Str)(qual:Str)(scope:Scope)(f:Addr)(cd:Value)(sN:List (Str×Addr))(A:Around)(outer:List Env)(s:Shared)(H:Hp):Cx where
 prog:=P
 w:=w
 K:=K
 mg:=mg
 base:=base
 A:=A.deeper (Ge qual scope s.heap.objs.size f cd sN)
 N:=N
 s₀:=s
 H₀:=H
 env:=Ge qual scope s.heap.objs.size f cd sN
 outer:=outer
 stack:=Ge qual scope s.heap.objs.size f cd sN::outer
 ex:=[]
 calm:=Aa
 fn:=λ_=>Ab
 pn:=[]
 xe:=λ_ _=>False
section
variable{P:Program}{w:World}{K:Ae}{mg:Str->Option Value}{base:Heap}{A:Around}{outer:List Env}{s:Shared}{H:Hp}{k:Nat}
theorem jI{qual x:Str}{scope:Scope}{names:List Str}{f:Addr}{cd:Value}{sN:List (Str×Addr)}(S:Jp scope x names)(hd:A.handled=J)(e0:CA P w K mg base A outer s H)(inj:∀y z a,sN.lookup y=Z a->sN.lookup z=Z a->y=z)(has:∀y∈scope.names,y.2=.free->(sN.lookup y.1).isSome=Aa)(vM:∀y a,sN.lookup y=Z a->H a=J/\∃o v,s.heap.get? a=Z o/\o.data=.cell v){v:V}{u:Value}(rv:RelV v u){vs:List V}(sJ:names.length=vs.length)(wH:∀(i:Nat) (y:Str) (v':V),names[i]?=Z y->vs[i]?=Z v'->∃a o u',sN.lookup y=Z a/\s.heap.get? a=Z o/\o.data=.cell (Z u')/\RelV v' u'){h':Heap}{tk:Nat}(ug:h'.Ns s.heap.objs.size λy=>[(x,u)].reverse.lookup y)(uk:EB s.heap.objs.size (s.heap.push {cls:=.type "frame",data:=.dict #[]}) h'):Inv (Hz P w K mg base (x::names) qual scope f cd sN A outer s H) [] (Z v::vs.map Z) H {s with heap:=h',toks:=tk}:=by
 have hk:∀b o,s.heap.get? b=Z o->h'.get? b=Z o:=λb o e=>uk.extBut b o (As (Ao e)) (Ar _ e);have xK:∀b:Addr,b∉(Hz P w K mg base (x::names) qual scope f cd sN A outer s H).ex:=λb z=>absurd (show b∈([]:List Addr) from z) (by simp);refine⟨⟨e0.mod,S.kind,rfl,rfl,Aj _,inj,λy hy=>?_,λy c z=>absurd (show Ab=Aa from z) (by simp),λ_=>hd,aX e0.frames,.inr ⟨rfl,rfl⟩,λb z=>absurd z (xK b),e0.bs,e0.bsz,λb _ _=>xK b,λb z=>absurd z (xK b),e0.funs,e0.frf⟩,
  rfl,e0.bare,Un.kept hk,⟨_,ug,λi y v' h1 h2 h3=>?_⟩,λy c e=>?_,e0.hok.fresh (Aj _),λy c e=>(vM y c e).1,λp hp=>absurd (show p∈([]:List (Addr×Obj)) from hp) (by simp),e0.hok.kept hk,?_⟩
 .have hy:scope.names.lookup y=Z .cell\/scope.names.lookup y=Z .free:=hy
  rcases hy with hy|hy
  .exact absurd rfl (S.nocell _ (Hk hy))
  .exact EH.mp (has _ (Hk hy) rfl)
 .cases i with
  |zero=>have e1:x=y:=Ct h1;have e2:v=v':=Ct (Ct h2);subst e1 e2;exact⟨u,rv,.inl ⟨S.par,by simp⟩⟩
  |succ i=>have h1:names[i]?=Z y:=h1;have h2:(vs.map Z)[i]?=Z (Z v'):=h2;rw[A1]at h2;obtain⟨v2,h4,h5⟩:=Ai.mp h2;cases h5;obtain⟨a,o,u',q1,q2,q3,q4⟩:=wH i y v' h1 h4;exact⟨u',q4,.inr ⟨.inr (S.free y (Bm h1)),a,q1,o,hk _ _ q2,q3⟩⟩
 .obtain⟨_,o,v',q1,q2⟩:=vM y c e
  exact⟨v',o,hk _ _ q1,q2⟩
 .show(Z v::vs.map Z).length=(x::names).length
  rw[AD,AD,Af,sJ]
end
end
end HP
namespace HP
open PySem PySem.Spec PyProof.Rows L2
variable[FX]
def uY(sN:List (Str×Addr)):List Addr:=sN.filterMap λq=>sN.lookup q.1
theorem X1{sN:List (Str×Addr)}{a:Addr}:a∈uY sN↔∃y,sN.lookup y=Z a:=by unfold uY;rw[Fg];exact⟨λ⟨q,_,h⟩=>⟨q.1,h⟩,λ⟨y,h⟩=>⟨(y,a),Hk h,h⟩⟩
theorem Tb.cut{P:Program}{w:World}{C:List Addr}{H:Hp}{h:Heap}(t:Tb H)(x:tK P w H h)(hC:∀c∈C,∃o v,H c=Z (AA c o)/\o.data=.cell v):Tb (A3 C H):=λT q hT=>by
 obtain⟨ps,h1,h2,h3⟩:=t T q hT;refine⟨ps,?_,h2,λpos c hc=>?_⟩
 .rw[B3 λz=>by
   obtain⟨o,v,e,_⟩:=hC T z;rw[h1]at e;cases e]
  exact h1
 .obtain⟨a,o,e1,e2,e3⟩:=h3 pos c hc
  refine⟨a,o,e1,?_,e3⟩;rw[B3 λz=>by obtain⟨o',v,f1,f2⟩:=hC a z;have g1:=D5 (x a _ e2);have g2:=D5 (x a _ f1);rw[g1]at g2;cases g2;obtain⟨vs,tt,d1,_⟩:=e3;rw[d1]at f2;cases f2];exact e2
section
variable{P:Program}{w:World}{K:Ae}{mg:Str->Option Value}{base:Heap}{k:Nat}
theorem Wv{params:Arguments}{body:Expr}{scope:Scope}{x:Str}{names:List Str}{g:HM.EF}(S:Jp scope x names)(tN:∀(qual:Str) (sN:List (Str×Addr)) (pm cd uM u:Value),Iw (TL "<lambda>" qual params body scope sN pm cd uM) ⟨[u],[]⟩=pure [(x,u)])(uI:∀(qual:Str) (f:Addr) (cd:Value) (sN:List (Str×Addr)) (A:Around) (outer:List Env) (s:Shared) (H:Hp),ZP k (A.deeper (Ge qual scope s.heap.objs.size f cd sN))->XE (Hz P w K mg base (x::names) qual scope f cd sN A outer s H) body g){A:Around}{outer:List Env}{s:Shared}{F H:Hp}{p:Addr}{cs:List PyData}(C:vm K F p params body scope names cs)(e0:CA P w K mg base A outer s H)(sub:Zp F H)(hr:ZP (k+1) A)(tb:Tb H)(nt:uN F){us:List Value}{vs:List V}{ds:List PyData}{d:PyData}{Q:VK}(rv:sL vs us)(rs:Zt K F ds vs)(yq:HM.R5 1 names.length g cs ds=Z d)(kk:∀v F' H',sQ F H F' H'->Rep K F' d v->Q v H'):codeAny (model P w) A (.call (.ref p) ⟨us,[]⟩) (CR vd outer P w H s Q E0) s:=by
 unfold HM.R5 at yq;split at yq
 case isFalse=>cases yq
 rename_i hc;obtain⟨w8,vD,hnf⟩:=hc;obtain⟨d0,rfl⟩:=List.length_eq_one_iff.mp w8;obtain⟨v0,vs',rfl,r0,rs'⟩:=rs.cons_inv;obtain rfl:=rs'.nil_inv;obtain⟨u0,rfl,ru0⟩:=vals1 rv;have hnf0:HM.uT 20 d0=Aa:=by rw[Di,AI]at hnf;exact hnf.1
 obtain⟨qual,pm,uM,c,oc,sN,h1,h2,h3,h4,h5,h6,h7,h8⟩:=C.ex;generalize hCs:uY sN=Cs;have yK:∀a,a∈Cs↔∃y,sN.lookup y=Z a:=λa=>by rw[<-hCs];exact X1
 have yJ:∀a∈Cs,∃o v,F a=Z (AA a o)/\o.data=.cell v/\s.heap.get? a=Z o:=λa ha=>by obtain⟨y,e⟩:=(yK a).mp ha;obtain⟨o,v,q1,q2⟩:=h6 y a e;exact⟨o,v,q1,q2,D5 (e0.hok a _ (sub _ _ q1))⟩
 have hCt:∀a∈Cs,∀o,H a=Z o->te o=Aa:=λa ha o e=>by obtain⟨ob,v,q1,_,_⟩:=yJ a ha;rw[sub _ _ q1]at e;cases e;rfl
 have xa:∀a∈Cs,H a≠J:=λa ha z=>by obtain⟨ob,v,q1,_,_⟩:=yJ a ha;rw[sub _ _ q1]at z;cases z
 have vI:∀b,H b=J->A3 Cs H b=J:=λb e=>by
  by_cases hb:b∈Cs
  .exact KD hb
  .rw[B3 hb];exact e
 have e1:CA P w K mg base A outer s (A3 Cs H):=⟨e0.frames,e0.mod,λb o e=>⟨(e0.bs b o e).1,vI b (e0.bs b o e).2⟩,e0.bsz,e0.funs,λb hb=>vI b (e0.frf b hb),tK.cut e0.hok hCt,e0.bare⟩;have KX:K.In s.heap:=e0.mod.kin.keeps λb o e=>(e0.bs b o e).1;have lim:s.heap.NoLimit:=e0.mod.nolimit.keeps λb o e=>(e0.bs b o e).1;have tF:s.heap.CodeRec (.ref c) qual:=by obtain⟨vs,t,d1,d2⟩:=h3;exact⟨c,oc,vs,t,rfl,D5 (e0.hok c _ (sub _ _ h2)),d1,d2⟩
 refine PySem.W.kla_callFunE hr.depth (D5 (e0.hok p _ (sub _ _ h1))) rfl S.co S.gen rfl tF ?_;rw[tN];refine Ag (Pz S.nocell (λy hy=>by rw[AW.mp hy];exact S.par) (λh' ug uk=>⟨lim.fresh _ uk,?_⟩) S.kind);show codeAny _ _ (.expr body (Ge qual scope s.heap.objs.size p (.ref c) sN)) _ _;have hvs:∃wv:List V,names.length=wv.length/\(∀(i:Nat) (y:Str) (v':V),names[i]?=Z y->wv[i]?=Z v'->∃a o u',sN.lookup y=Z a/\s.heap.get? a=Z o/\o.data=.cell (Z u')/\RelV v' u')/\Zt K (A3 Cs F) cs wv:=by
  have step:∀n,n<=cs.length->∃wv:List V,wv.length=n/\∀(i:Nat) (y:Str) (d:PyData) (v':V),names[i]?=Z y->cs[i]?=Z d->wv[i]?=Z v'->(∃a o u',sN.lookup y=Z a/\s.heap.get? a=Z o/\o.data=.cell (Z u')/\RelV v' u')/\Rep K (A3 Cs F) d v':=by
   intro n
   induction n with
   |zero=>exact λ_=>⟨[],rfl,λi y d v' _ _ h=>by simp at h⟩
   |succ n ih =>
    intro hn;obtain⟨wv,l1,l2⟩:=ih (by omega);have hy:n<names.length:=by omega
    have hd:n<cs.length:=by omega
    obtain⟨a,o,u',v',q1,q2,q3,q4,q5⟩:=h8 n names[n] cs[n] (A2 hy) (A2 hd);refine⟨wv++[v'],by rw[AK,l1];rfl,λi y d v2 g1 g2 g3=>?_⟩
    by_cases hi:i<n
    .rw[DD (by omega)]at g3
     exact l2 i y d v2 g1 g2 g3
    .have zf:i=n:=by
      have:=(A0.mp g3).1;rw[AK,l1]at this;have:i<n+1:=this;omega
     subst zf;rw[EI (by omega),l1,Nat.sub_self]at g3;rw[A2 hy]at g1;rw[A2 hd]at g2;cases g1;cases g2;cases g3;refine⟨⟨a,o,u',q1,D5 (e0.hok a _ (sub _ _ q2)),q3,q4⟩,?_⟩;refine(Rep0.cut (λb ob z t=>?_) q5).up;rw[B3 λhb=>by obtain⟨ob',v,w1,_,_⟩:=yJ b hb;rw[w1]at z;cases z;cases t];exact z
  obtain⟨wv,l1,l2⟩:=step cs.length (Aj _);refine⟨wv,by omega,λi y v' g1 g3=>?_,by omega,λi d v' g2 g3=>?_⟩
  .have hi:=(A0.mp g3).1
   exact(l2 i y cs[i] v' g1 (A2 (by omega)) g3).1
  .have hi:=(A0.mp g3).1
   exact(l2 i names[i] d v' (A2 (by omega)) g2 g3).2
 obtain⟨wv,wl,wc,wr⟩:=hvs;have cutF:∀b o,F b=Z o->te o=Ab->A3 Cs F b=Z o:=λb ob z t=>by rw[B3 λhb=>by obtain⟨ob',v,w1,_,_⟩:=yJ b hb;rw[w1]at z;cases z;cases t];exact z
 have r0':Rep K (A3 Cs F) d0 v0:=(Rep.cutF cutF r0 20 hnf0).up;have sub1:Zp (A3 Cs F) (A3 Cs H):=λb o e=>by obtain⟨hb,e⟩:=Nx e;rw[B3 hb];exact sub _ _ e
 have wK:uN (A3 Cs F):=λb o e=>nt b o (Nx e).2;have tb1:Tb (A3 Cs H):=tb.cut e0.hok λa ha=>by obtain⟨o,v,q1,q2,_⟩:=yJ a ha;exact⟨o,v,sub _ _ q1,q2⟩
 have I:=jI (qual:=qual) (f:=p) (cd:=.ref c) (tk:=s.toks+1) S hr.hd e1 h4 h5 (λy a e=>by obtain⟨o,v,q1,q2,q3⟩:=yJ a ((yK a).mpr ⟨y,e⟩);exact⟨KD ((yK a).mpr ⟨y,e⟩),o,v,q3,q2⟩) ru0 wl wc ug uk;have a0:At K (A3 Cs F) (A3 Cs H) (A3 Cs F) (A3 Cs H) ((d0::cs).map λd=>Z (HM.B.pl d)) (Z v0::wv.map Z):=by
  have:=Jk (N:=x::names) sub1 tb1 wK (Zt.cons r0' wr) (by rw[AD,AD];omega);have e3:HM.OL (x::names).length (d0::cs)=(d0::cs).map λd=>Z (HM.B.pl d):=by unfold HM.OL;rw[AD,AD,show names.length+1-(cs.length+1)=0 by omega];exact B6 _
  have e4:L2.start (x::names) (v0::wv)=Z v0::wv.map Z:=by unfold L2.start;rw[AD,AD,show names.length+1-(wv.length+1)=0 by omega];exact B6 _
  rw[e3,e4]at this;exact this
 refine PySem.W.kla_codeExpr (Bw (uI qual p (.ref c) sN A outer s (A3 Cs H) (hr.deeper _) _ _ yq [] _ _ _ (λv' H'=>∃F',sQ (A3 Cs F) (A3 Cs H) F' H'/\Rep K F' d v') I ⟨_,_,_,a0,λv' F' H' x' q'=>⟨F',x',q'⟩⟩) (λu' s' hq=>?_) λe s' hq=>Bv hq);obtain⟨v',H',I',ru',F',x',q'⟩:=hq;have un:Un (t4 outer) [] (A3 Cs H) H' s.heap s'.heap:=I'.base;have nfs:∀a∈Cs,a∉t4 outer:=λa ha hb=>xa a ha (e0.frf a hb);have kc:∀a∈Cs,∃o,H a=Z (AA a o)/\F a=Z (AA a o)/\s'.heap.get? a=Z o/\H' a=J:=λa ha=>by obtain⟨o,v,q1,q2,q3⟩:=yJ a ha;exact⟨o,sub _ _ q1,q1,un.keep a o q3 (KD ha) (nfs a ha) (by simp),un.free a o q3 (KD ha) (by simp)⟩
 have out:∀{b:Addr} {o:HO},H b=Z o->te o=Ab->b∉Cs:=λ{b o} e t hb=>by rw[hCt b hb o e]at t;cases t
 have outN:∀{b:Addr},H b=J->b∉Cs:=λ{b} e hb=>xa b hb e;have outT:∀{b:Addr} {ps:Array Value},H b=Z (.tbl ps)->b∉Cs:=λ{b ps} e hb=>by obtain⟨o,q,_⟩:=kc b hb;rw[e]at q;cases q
 refine⟨v',EL Cs H H',I'.os,I'.bare,⟨λb o e n hb hx=>?_,λb o e n hb hx=>?_,λb o e n hx=>?_,un.there,λb xs e=>?_,λb o u e=>?_,λb ps e=>?_⟩,tK.put I'.hok (λa ha=>by obtain⟨_,_,_,_,q⟩:=kc a ha;exact q) (λa ha u e=>?_),ru',kk v' (EL Cs F F') (EL Cs H H') ⟨λb o e=>?_,λb o e=>?_,λb o e=>?_,λb o e=>?_,λt=>?_,λn b o e=>?_⟩ (q'.mono λb o e=>?_)⟩
 .exact un.keep b o e (vI b n) hb hx
 .exact un.slot b o e (vI b n) hb hx
 .rw[Dt (outN n)];exact un.free b o e (vI b n) hx
 .have hb:=out e rfl
  rw[Dt hb];exact un.tups b xs (by rw[B3 hb];exact e)
 .have hb:=out e rfl
  rw[Dt hb];exact un.frzs b o u (by rw[B3 hb];exact e)
 .have hb:=outT e
  rw[Dt hb];exact un.tbls b ps (by rw[B3 hb];exact e)
 .obtain⟨o,q1,_,q3,_⟩:=kc a ha
  rw[q1]at e;cases e;exact⟨o,rfl,q3⟩
 .by_cases hb:b∈Cs
  .rw[HW hb];exact e
  .rw[Dt hb];exact x'.ff b o (by rw[B3 hb];exact e)
 .by_cases hb:b∈Cs
  .exact .of (by rw[HW hb];exact e)
  .exact(x'.hh b o (by rw[B3 hb];exact e)).cong (Dt hb)
 .by_cases hb:b∈Cs
  .rw[HW hb]at e ⊢;exact sub _ _ e
  .rw[Dt hb]at e ⊢;exact x'.sub _ _ e
 .by_cases hb:b∈Cs
  .rw[HW hb]at e;exact .inl e
  .rw[Dt hb]at e
   rcases x'.new b o e with q|q
   .exact .inl (Nx q).2
   .refine .inr ?_
    unfold yy at q ⊢;rw[B3 hb]at q;exact q
 .exact(x'.tab tb1).keep λa o e _=>by rw[Dt λhb=>by obtain⟨_,_,_,_,q⟩:=kc a hb;rw[e]at q;cases q];exact e
 .by_cases hb:b∈Cs
  .rw[HW hb]at e;exact n b o e
  .rw[Dt hb]at e;exact x'.nts wK b o e
 .rw[Dt λhb=>by
   obtain⟨_,_,_,_,q⟩:=kc b hb;rw[x'.sub _ _ e]at q;cases q]
  exact e
end
section
variable{b:Addr}{o:HO}{F H:Hp}
theorem lz{a b:Int}{cv:Value}(l:List Value)(h:TriplesOk l):∀(pos:Pos) (c:Value),JT pos (l++[rawInt a,rawInt b,cv])=Z c->JT pos l=Z c\/c=cv:=by
 fun_induction TriplesOk l with
 |case1 =>
  intro pos c e;simp only[ID,JT,rawInt]at e;split at e
  .cases e;exact .inr rfl
  .cases e
 |case2 x t y u z rest ih =>
  intro pos c e;simp only[Uc,JT]at e ⊢;split at e
  .rename_i hq
   rw[if_pos hq];exact .inl e
  .rename_i hq
   rw[if_neg hq];exact ih h pos c e
 |case3=>exact h.elim
def BMod(base:Heap)(mg:Str->Option Value):Prop:=∃bm o,mg "__builtins__"=Z (.ref bm)/\bm≠LW/\bm≠Bh/\base.get? bm=Z o/\o.cls=.type "module"/\o.dict=Z LW/\o.data=.plain
structure MP(X:Cx)(t:Nat)(params:Arguments)(body:Expr)(scope:Scope)(names:List Str)(is:List Nat):Prop where
 code:∃c P,X.env.code=.ref c/\Fc X.K c P=Aa/\(P,X.env.qual ++ "<lambda>")∈FX.tl/\∀q,(P,q)∈FX.tl->q=X.env.qual ++ "<lambda>"
 bm:BMod X.base X.mg
 dflt:defaultsOf params X.env=([],[])
 len:is.length=names.length
 at_:∀(j i:Nat) (x:Str),is[j]?=Z i->names[j]?=Z x->X.N[i]?=Z x/\X.env.scope.names.lookup x=Z .cell
 cells:∀y∈scope.names,y.2=.free->X.env.scope.names.lookup y.1=Z .cell
 free:∀x∈names,(x,Hf)∈scope.names
 own:∀x,X.fn x=Aa
 good:∀F p cs,vm X.K F p params body scope names cs->FX.fv t cs F p
section
variable{X:Cx}{t:Nat}{params:Arguments}{body:Expr}{scope:Scope}{names:List Str}{is:List Nat}{pos uF p:Pos}
structure Made(X:Cx)(params:Arguments)(body:Expr)(scope:Scope)(H H':Hp)(q:Addr)(sN:List (Str×Addr)):Prop where
 ex:∃(pm uM:Value) (c:Addr) (oc:Obj),H' q=Z (AA q (Pd "<lambda>" (X.env.qual ++ "<lambda>") params body scope sN pm c uM))/\H' c=Z (AA c oc)/\Qm oc (X.env.qual ++ "<lambda>")
 hh:AU H H'
 tb:Tb H'
theorem Xm(L:MP X t params body scope names is){sI:List (Addr×Obj)}{s:Shared}{Y:L2.St}(I:Inv X sI Y H s)(tb:Tb H){sN:List (Str×Addr)}(tZ:closureFor scope X.env=pure sN):wpAny (model X.prog X.w) X.A (eval (.Lambda params body scope uF) X.env) (λu s'=>∃q H',u=.ref q/\Inv X sI Y H' s'/\Made X params body scope H H' q sN) X.xe s:=by
 obtain⟨c,P,hc,hh,hm,hu⟩:=L.code;obtain⟨ps,hP,ht,hg⟩:=tb P _ hm;have gP:s.heap.get? P=Z (J3 ps):=I.hok P _ hP;have Ns:=I.mod.glob.keeps I.bk;have CH:PySem.W.CodeHd s.heap c P:=aT I.kIn hh;obtain⟨bm,ob,b1,b2,b3,b4,b5,b6,b7⟩:=L.bm;have gb:=I.bk _ _ b4;have hbP:bm≠P:=λz=>by rw[z,gP]at gb;cases gb;cases b5
 have hgP:Bh≠P:=λz=>by obtain⟨o,es,ep,e,hd,_⟩:=Ns;rw[z,gP]at e;cases e;cases hd
 have BA:s.heap.BuiltinsAt X.mg P:=⟨bm,ob,b1,b2,b3,hbP,gb,b5,b6,b7⟩;refine PySem.W.kla_eval L.dflt ?_;cases hq:JT uF ps.toList with
 |some cv =>
  obtain⟨a,oc,rfl,h1,h2⟩:=hg uF cv hq;refine PySem.W.kla_makeFunctionHit tZ I.ok.glob Ns hc CH gP ht hq BA λuM h' tk hk hz=>?_;generalize ux:Pd "<lambda>" (X.env.qual ++ "<lambda>") params body scope sN ((X.mg "__name__").getD .none) a uM=fo;have hn:H h'.objs.size=J:=I.hok.fresh hz;have zd:∀b o,s.heap.get? b=Z o->(h'.push fo).get? b=Z o:=λb o e=>Ar _ (hk b o e);have gq:(h'.push fo).get? h'.objs.size=Z fo:=by rw[<-ux];exact AZ _ rfl
  refine⟨h'.objs.size,upd H h'.objs.size (AA h'.objs.size fo),rfl,?_,⟨_,uM,a,oc,by rw[Zz,<-ux],?_,h2⟩,.of (Hw hn),tb.same (Hw hn)⟩
  .subst ux
   exact I.laid (t':=tk) zd hz (Ji gq)
  .rw[ZB (C6 h1 hn)];exact h1
 |none =>
  refine PySem.W.kla_makeFunction tZ I.ok.glob Ns hc CH gP ht hq hgP BA λc' uM h' tk hx zg tu hrec htab=>?_;generalize ux:Pd "<lambda>" (X.env.qual ++ "<lambda>") params body scope sN ((X.mg "__name__").getD .none) c' uM=fo;generalize hps:ps++#[rawInt uF.line,rawInt uF.col,Bb c']=ps2 at htab;obtain⟨c2,oc,vs,tq,e2,goc,d1,d2⟩:=hrec;cases e2;have hcn:H c'=J:=I.hok.fresh zg;have hqn:H h'.objs.size=J:=I.hok.fresh (Bf zg (DQ tu));have hcq:c'≠h'.objs.size:=As tu;have hcP:c'≠P:=λz=>by rw[z,hP]at hcn;cases hcn
  have hqP:h'.objs.size≠P:=λz=>by rw[z,hP]at hqn;cases hqn
  have gq:(h'.push fo).get? h'.objs.size=Z fo:=by rw[<-ux];exact AZ _ rfl
  have gc:(h'.push fo).get? c'=Z oc:=Ar _ goc;have gP2:(h'.push fo).get? P=Z (J3 ps2):=Ar _ htab;have zd:∀b o,b≠P->s.heap.get? b=Z o->(h'.push fo).get? b=Z o:=λb o hb e=>Ar _ (hx b o hb e);generalize hH':upd (upd (upd H P (.tbl ps2)) c' (AA c' oc)) h'.objs.size (AA h'.objs.size fo)=H';have aq:H' h'.objs.size=Z (AA h'.objs.size fo):=by rw[<-hH',Zz]
  have ac:H' c'=Z (AA c' oc):=by rw[<-hH',ZB hcq,Zz]
  have aP:H' P=Z (.tbl ps2):=by rw[<-hH',ZB (A8 hqP),ZB (A8 hcP),Zz]
  have ao:∀b,b≠h'.objs.size->b≠c'->b≠P->H' b=H b:=λb n1 n2 n3=>by rw[<-hH',ZB n1,ZB n2,ZB n3]
  have ud:∀b o,H b=Z o->b≠P->H' b=Z o:=λb o e n=>by rw[ao b (C6 e hqn) (C6 e hcn) n];exact e
  have nP:∀b o,H b=Z o->(∀ps,o≠.tbl ps)->b≠P:=λb o e n z=>by rw[z,hP]at e;cases e;exact n _ rfl
  have old:∀b o,s.heap.get? b=Z o->b≠h'.objs.size/\b≠c':=λb o e=>by have hb:=Ao e;exact⟨As (Bz hb (Bf zg (DQ tu))),As (Bz hb zg)⟩
  have hokN:tK X.prog X.w H' (h'.push fo):=λb o e=>by
   by_cases n1:b=h'.objs.size
   .subst n1;rw[aq]at e;cases e;exact Ji gq
   .by_cases n2:b=c'
    .subst n2;rw[ac]at e;cases e;exact Ji gc
    .by_cases n3:b=P
     .subst n3;rw[aP]at e;cases e;exact gP2
     .rw[ao b n1 n2 n3]at e
      refine(I.hok b o e).stay (λd u hd z=>zd d u (λy=>?_) z) (λd z=>ud d _ z (nP d _ z λ_ y=>by cases y)) λd xs z=>ud d _ z (nP d _ z λ_ y=>by cases y);rcases hd with y2|y2
      .exact n3 (y2▸y)
      .exact nP d _ y2 (λ_ q=>by cases q) y
  have un:Un X.fs [] H H' s.heap (h'.push fo):=by
   refine⟨λb o e n hb hx=>?_,λb o e n hb hx=>?_,λb o e n hx=>?_,λb o e hx=>?_,λb xs e=>ud b _ e (nP b _ e λ_ y=>by cases y),λb o u e=>ud b _ e (nP b _ e λ_ y=>by cases y),λb pp e=>?_⟩
   .exact zd b o (λz=>by rw[z,hP]at n;cases n) e
   .exact⟨o.slots,zd b o (λz=>by rw[z,hP]at n;cases n) e⟩
   .obtain⟨n1,n2⟩:=old b o e
    rw[ao b n1 n2 (λz=>by rw[z,hP]at n;cases n)];exact n
   .by_cases n3:b=P
    .exact⟨_,by rw[n3];exact gP2⟩
    .exact⟨o,zd b o n3 e⟩
   .by_cases n3:b=P
    .subst n3
     rw[hP]at e;cases e;exact⟨_,by rw[aP,<-hps]⟩
    .exact⟨#[],by rw[ud b _ e n3];simp⟩
  refine⟨h'.objs.size,H',rfl,?_,⟨_,uM,c',oc,by rw[aq,<-ux],ac,vs,tq,d1,d2⟩,λb o e=>?_,λT q hT=>?_⟩
  .exact I.un (t':=tk) un hokN
  .by_cases n3:b=P
   .subst n3
    rw[hP]at e;cases e;exact⟨_,aP⟩
   .exact .of (ud b o e n3)
  .by_cases n3:T=P
   .subst n3
    obtain rfl:=hu q hT;refine⟨ps2,aP,?_,λpos' cc xD=>?_⟩
    .rw[<-hps,Array.toList_append]
     exact TriplesOk_snoc _ _ _ _ ht
    .rw[<-hps,Array.toList_append]at xD
     rcases lz _ ht _ _ xD with e|e
     .obtain⟨a,o,q1,q2,q3⟩:=hg pos' cc e
      exact⟨a,o,q1,ud a _ q2 (nP a _ q2 λ_ y=>by cases y),q3⟩
     .exact⟨c',oc,e,ac,vs,tq,d1,d2⟩
   .obtain⟨ps',w1,w2,w3⟩:=tb T q hT
    refine⟨ps',ud T _ w1 n3,w2,λpos' cc xD=>?_⟩;obtain⟨a,o,q1,q2,q3⟩:=w3 pos' cc xD;exact⟨a,o,q1,ud a _ q2 (nP a _ q2 λ_ y=>by cases y),q3⟩
theorem Xn{r:HM.Env}:∀{is:List Nat} {cs:List PyData},HM.Yn is r=Z cs->cs.length=is.length/\∀(j i:Nat),is[j]?=Z i->∃d,cs[j]?=Z d/\r[i]?=Z (Z (.pl d))
 |[],cs,h=>by cases h;exact⟨rfl,λj i e=>by simp at e⟩
 |i::is,cs,h=>by
  unfold HM.Yn at h;split at h
  .rename_i d hd
   obtain⟨cs',h1,h2⟩:=Ai.mp h;subst h2;obtain⟨l,k⟩:=Xn h1;refine⟨by rw[AD,AD,l],λj i' e=>?_⟩;cases j with
   |zero=>cases e;exact⟨d,rfl,hd⟩
   |succ j=>exact k j i' e
  .cases h
def Ca(F H:Hp):Hp:=λb=>match H b with
 |some (.ext φ)=>Z (.ext φ)
 |_=>F b
theorem Jn{a:Addr}{o:Obj}(h:H a=Z (AA a o)):Ca F H a=Z (AA a o):=by unfold Ca AA at *;rw[h]
theorem KY(h:Ca F H b=Z o):(H b=Z o/\te o=Aa)\/F b=Z o:=by
 unfold Ca at h;split at h
 .rename_i φ e
  cases h;exact .inl ⟨e,rfl⟩
 .exact .inr h
theorem Wq(s:Zp F H)(h:F b=Z o):Ca F H b=Z o:=by have h2:=s b o h;unfold Ca;rw[h2];cases o<;>first|rfl|exact h
theorem kW{k:Nat}{x:Str}{M:List PyData->Option PyData}{e:Expr}{fa:HM.EF}(C:Callee X.prog X.w X.K X.mg X.base k x M)(hr:ZP k X.A)(L:MP X t params body scope names is)(ha:XE X e fa)(hg:Gl X x:=by rfl)(uh:(x==("__debug__":Str))=Ab:=by decide)(he:Ad [e,.Lambda params body scope uF] X.env=(Ab,eval e X.env)::Ad [.Lambda params body scope uF] X.env:=by rfl)(he2:Ad [.Lambda params body scope uF] X.env=[(Ab,eval (.Lambda params body scope uF) X.env)]:=by rfl)(hpl:(backTo pos (Ad [.Lambda params body scope uF] X.env)).any (·.1)=Ab:=by rfl):XE X (.Call (.Name x p) [e,.Lambda params body scope uF] [] pos) (HM.aD M t is fa):=by
 intro r d hd;unfold HM.aD at hd;split at hd
 case h_2=>cases hd
 rename_i d1 hd1;split at hd
 case h_2=>cases hd
 rename_i cs xB;split at hd
 case isFalse=>cases hd
 rename_i hnc;split at hd
 case h_2=>cases hd
 rename_i d' hM;split at hd
 case isFalse=>cases hd
 rename_i vN;cases hd;obtain⟨fa',fd,ps,hl,FN,hm,hk,hb⟩:=C.ex;intro sI s Y H Q I ⟨F0,H0,F,at_,kk⟩;obtain⟨sN,tZ,yp,xE⟩:=Oe (scope:=scope) (env:=X.env) λy hy hf=>I.ok.has _ (.inl (L.cells y hy hf));refine IL (KQ I hg hm ?_ uh);have lamPE:PE X (.Lambda params body scope uF) λσ' H' Q'=>Tb H'/\∀q H2,Made X params body scope H' H2 q sN->Q' (.ref q) H2:=λpins' s' σ' H' Q' I' ⟨tb',k'⟩=>sS (Xm L I' tb' tZ) λu s2 ⟨q,H2,e1,I2,m⟩=>by subst e1;exact⟨.ref q,H2,I2,rfl,k' q H2 m⟩
 refine aO (h₀:=X.base) I.ok.mod.kin hk (sS (Z3 (ha r d1 hd1) (Z3 lamPE BV he2) he pos sI s Y H (λvs H2=>∃v1 F1 H1 q,vs=[v1,.ref q]/\sQ F H F1 H1/\Rep X.K F1 d1 v1/\Made X params body scope H1 H2 q sN) I
  ⟨F0,H0,F,at_,λv F1 H1 x1 r1=>⟨at_.tbx x1,λq H2 m=>⟨v,F1,H1,q,rfl,x1,r1,m⟩⟩⟩) λus s2 ⟨vs,H2,I2,rv,v1,F1,H1,q,ev,x1,r1,m⟩=>⟨I2.kIn,?_⟩) he hpl
 subst ev;have ud:=at_.grow x1;have tb1:=at_.tbx x1;have wK:=at_.ntx x1;generalize hCs:uY sN=Cs;have yK:∀a,a∈Cs↔∃y,sN.lookup y=Z a:=λa=>by rw[<-hCs];exact X1
 have yL:∀a∈Cs,∃y o v,X.env.cells.lookup y=Z a/\s2.heap.get? a=Z o/\o.data=.cell v/\H2 a=J:=λa ha=>by obtain⟨y,e⟩:=(yK a).mp ha;have e1:=yp y a e;obtain⟨v,o,h1,h2⟩:=I2.cell y a e1;exact⟨y,o,v,e1,h1,h2,I2.freeC y a e1⟩
 generalize hG:(λa:Addr=>(s2.heap.get? a).map (AA a))=G;have hGo:∀{a:Addr} {o:Obj},s2.heap.get? a=Z o->G a=Z (AA a o):=λ{a o} e=>by rw[<-hG];show DC _ _=_;rw[e];rfl
 generalize hH3:EL Cs G H2=H3;have ya:∀{a:Addr},a∈Cs->∃o v,H3 a=Z (AA a o)/\s2.heap.get? a=Z o/\o.data=.cell v:=λ{a} ha=>by obtain⟨y,o,v,_,g1,g2,_⟩:=yL a ha;exact⟨o,v,by rw[<-hH3,HW ha];exact hGo g1,g1,g2⟩
 have uS:∀{a:Addr},a∉Cs->H3 a=H2 a:=λ{a} ha=>by rw[<-hH3,Dt ha]
 have yg:Zp H2 H3:=λb o z=>by rw[uS λhb=>by obtain⟨_,_,_,_,_,_,g⟩:=yL b hb;rw[g]at z;cases z];exact z
 have cge:∀a∈Cs,X.s₀.heap.objs.size<=a:=λa ha=>by obtain⟨y,_,_,e1,_⟩:=yL a ha;exact I.ok.cab y a (L.own y) e1
 have hok3:tK X.prog X.w H3 s2.heap:=by rw[<-hH3];refine tK.put I2.hok (λa ha=>by obtain⟨_,_,_,_,_,_,g⟩:=yL a ha;exact g) λa ha u e=>?_;obtain⟨y,o,v,_,g1,g2,_⟩:=yL a ha;rw[hGo g1]at e;cases e;exact⟨o,rfl,g1⟩
 have E2:=I2.env0;have cfr:∀b∈t4 X.stack,b∉Cs:=λb hb hc=>by
  obtain⟨y,o,v,e1,g1,g2,_⟩:=yL b hc;rcases AE.mp (I2.stkSub b hb)with z|z
  .exact I2.cne y b e1 z
  .obtain⟨_,o',ho',_⟩:=I.ok.funs.mem z
   exact absurd (Bz (Ao ho') (cge b hc)) (EC _)
 have E3:CA X.prog X.w X.K X.mg X.base X.A X.stack s2 H3:=⟨E2.frames,E2.mod,λb o z=>⟨(E2.bs b o z).1,by rw[uS λhb=>absurd (Bz (Ao z) (Bf I.ok.bsz (cge b hb))) (EC _)];exact(E2.bs b o z).2⟩,E2.bsz,E2.funs,λb hb=>by rw[uS (cfr b hb)];exact E2.frf b hb,hok3,E2.bare⟩;have y3:Zp F1 H2:=λb o z=>m.hh.ntb (x1.sub b o z) (wK b o z);have s13:Zp F1 H3:=y3.trans yg;have ff:Zp F1 (Ca F1 H3):=λb o z=>Wq s13 z;have s33:Zp (Ca F1 H3) H3:=λb o z=>by
  rcases KY z with⟨w,_⟩|w
  .exact w
  .exact s13 b o w
 have nt3:uN (Ca F1 H3):=λb o z=>by
  rcases KY z with⟨w1,w2⟩|w
  .unfold Ca at z
   split at z
   .cases z;rfl
   .exact wK b o z
  .exact wK b o w
 have tb3:Tb H3:=m.tb.same yg;obtain⟨pm,uM,c,oc,m1,m2,m3⟩:=m.ex;obtain⟨cl1,cl2⟩:=Xn xB;have clo:vm X.K (Ca F1 H3) q params body scope names cs:=by
  refine⟨_,pm,uM,c,oc,sN,Jn (yg _ _ m1),Jn (yg _ _ m2),m3,λy z a g1 g2=>I.ok.inj y z a (yp y a g1) (yp z a g2),xE,λy a g=>?_,by rw[cl1,L.len],λj y dj g1 g2=>?_⟩
  .obtain⟨o,v,w1,w2,w3⟩:=ya ((yK a).mpr ⟨y,g⟩)
   exact⟨o,v,Jn w1,w3⟩
  .have hj:j<is.length:=by rw[L.len];exact(A0.mp g1).1
   obtain⟨dj',g3,g4⟩:=cl2 j is[j] (A2 hj);rw[g2]at g3;cases g3;obtain⟨hN,wm⟩:=L.at_ j is[j] y (A2 hj) g1;obtain⟨v,w1,w2⟩:=ud.plain g4;obtain⟨mm,_,u4⟩:=I2.loc;obtain⟨u,ru,lk⟩:=u4 is[j] y v hN w1 (.inr (.inl wm));have vh:=xE _ (L.free y (Bm g1)) rfl;obtain⟨a,vO⟩:=EH.mp vh;rcases lk with⟨k1,_⟩|⟨_,a',k1,o,k2,k3⟩
   .rw[show X.env.kindOf y=Z .cell from wm]at k1;cases k1
   .rw[yp y a vO]at k1
    cases k1;obtain⟨o',v',z1,z2,z3⟩:=ya ((yK a).mpr ⟨y,vO⟩);rw[k2]at z2;cases z2;refine⟨a,o,u,v,vO,Jn z1,k3,ru,Rep.cutF (λb ob z _=>ff b ob z) w2 20 ?_⟩;exact Au.mp hnc dj (Bm g2)
 have fv:=L.good _ _ _ clo;have sJ:=hl _ _ hM;refine LV (Fm (FN.run X.A X.stack s2 H3 ⟨us,[]⟩ us [v1,.ref q] (λv H4=>∃F4,sQ (Ca F1 H3) H3 F4 H4/\Rep X.K F4 d v) E0 hr E3 (by
  have:=hb s2 us I2.kIn (by rw[B6,<-rv.length];exact sJ)
  rwa [B6]at this) rv ⟨Ca F1 H3,_,d,sJ,s33,tb3,nt3,.cons (r1.mono ff) (.one (.fn fv)),hM,λv F4 H4 x4 q4=>⟨F4,x4,q4⟩⟩) λrs s4 hq=>?_)
 cases rs with
 |error e=>exact Bv hq
 |ok fl =>
  cases fl with
  |next=>exact Bv hq
  |brk=>exact Bv hq
  |cont=>exact Bv hq
  |ret u =>
   obtain⟨v,H4,os,bare,un,yT,ru,F4,x4,q4⟩:=hq;have c4:∀{a:Addr},a∈Cs->∃o v,H4 a=Z (AA a o)/\s2.heap.get? a=Z o/\s4.heap.get? a=Z o/\o.data=.cell v:=λ{a} ha=>by obtain⟨o,v,w1,w2,w3⟩:=ya ha;have w4:H4 a=Z (AA a o):=x4.hh.ntb w1 rfl;exact⟨o,v,w4,w2,D5 (yT a _ w4),w3⟩
   have xh:∀{b:Addr} {o:HO},H2 b=Z o->b∉Cs:=λ{b o} z hb=>by obtain⟨_,_,_,_,_,_,g⟩:=yL b hb;rw[g]at z;cases z
   generalize hF5:(λb:Addr=>match F4 b with|some o=>if te o=Aa then F1 b else Z o|none=>J)=F5;have f5:∀{b:Addr} {o:HO},F5 b=Z o->(F4 b=Z o/\te o=Ab)\/F1 b=Z o:=λ{b o} z=>by
    rw[<-hF5]at z;dsimp only at z;split at z
    .rename_i o' w
     split at z
     .exact .inr z
     .rename_i n
      cases z;exact .inl ⟨w,by simpa using n⟩
    .cases z
   have f5a:∀{b:Addr} {o:HO},F4 b=Z o->te o=Ab->F5 b=Z o:=λ{b o} z n=>by rw[<-hF5];dsimp only;rw[z];dsimp only;rw[if_neg (by rw[n];simp)]
   have f5b:∀{b:Addr} {o:HO},F1 b=Z o->F5 b=Z o:=λ{b o} z=>by
    have w:=x4.ff b o (ff b o z)
    by_cases n:te o=Aa
    .rw[<-hF5];dsimp only;rw[w];dsimp only;rw[if_pos n];exact z
    .exact f5a w (by simpa using n)
   have sub5:Zp F5 (A3 Cs H4):=λb o z=>by
    rcases f5 z with⟨w,n⟩|w
    .rw[B3 λhb=>by
      obtain⟨_,_,g,_⟩:=c4 hb;rw[x4.sub b o w]at g;cases g;cases n]
     exact x4.sub b o w
    .rw[B3 (xh (y3 b o w))]
     exact x4.sub b o (x4.ff b o (ff b o w))
   refine I2.after ⟨v,A3 Cs H4,os,bare,⟨λb o e n hb hx=>?_,λb o e n hb hx=>?_,λb o e n hx=>?_,un.there,λb xs e=>?_,λb o w e=>?_,λb pp e=>?_⟩,tK.cut yT (λa ha o e=>?_),ru,kk v F5 (A3 Cs H4) (x1.trans ⟨λb o z=>f5b z,λb o z=>?_,sub5,λb o z=>?_,λtb=>?_,λ_ b o z=>?_⟩) ((Rep.cutF (λb o z n=>f5a z n) q4 20 vN).up)⟩
   .by_cases hc:b∈Cs
    .obtain⟨o',_,_,w2,w3,_⟩:=c4 hc
     rw[e]at w2;cases w2;exact w3
    .exact un.keep b o e (by rw[uS hc];exact n) hb hx
   .exact un.slot b o e (by rw[uS (cfr b hb)];exact n) hb hx
   .by_cases hc:b∈Cs
    .exact KD hc
    .rw[B3 hc];exact un.free b o e (by rw[uS hc];exact n) hx
   .rw[B3 (xh e)];exact un.tups b xs (yg _ _ e)
   .rw[B3 (xh e)];exact un.frzs b o w (yg _ _ e)
   .rw[B3 (xh e)];exact un.tbls b pp (yg _ _ e)
   .obtain⟨o',_,g,_⟩:=c4 ha
    rw[g]at e;cases e;rfl
   ·-- vz things stay
    have z2:=m.hh b o z;have key:∀{u:HO},H2 b=Z u->Dp (A3 Cs H4) b u:=λ{u} w=>(x4.hh b u (yg b u w)).cong (B3 (xh w));cases o<;>first|exact key z2|(obtain⟨pp,w⟩:=z2;exact(show ∃ps',_ from key w))
   .rcases f5 z with⟨w,n⟩|w
    .rcases x4.new b o w with y|y
     .rcases KY y with⟨_,y2⟩|y2
      .rw[n]at y2;cases y2
      .exact .inl y2
     .refine .inr ?_
      have hcb:b∉Cs:=λhb=>by
       obtain⟨o',_,g,_⟩:=ya hb;rcases y with y|⟨xs,_,y⟩
       .rw[g]at y;cases y
       .rw[g]at y;cases y
      rcases y with y|⟨xs,y1,y2⟩
      .rw[uS hcb]at y
       exact .inl (m.hh.free y)
      .rw[uS hcb]at y2
       cases w1:H1 b with
       |none=>exact .inl w1
       |some u =>
        have:=m.hh.back w1 y2 λ_ q=>by cases q
        subst this;exact .inr ⟨xs,y1,w1⟩
    .exact .inl w
   .refine(x4.tab tb3).cut yT λa ha=>?_
    obtain⟨o,v',g1,_,_,g4⟩:=c4 ha;exact⟨o,v',g1,g4⟩
   .rcases f5 z with⟨w,_⟩|w
    .exact x4.nts nt3 b o w
    .exact wK b o w
end
end
end HP
namespace HP
open PySem
end HP
namespace HP
open PySem PySem.Spec PyProof.Rows L2
section
variable{a c f:Addr}{A:Around}{fd:FuncData}{base:Heap}{H:Hp}{tabs:List (Addr×Addr)}{outer:List Env}{N:List Str}{P:Program}{K:Ae}{s:Shared}{qual x:Str}{mg:Str->Option Value}
structure Ki(K:Ae)(x qual:Str)(st:Stmt)(f:Addr)(fd:FuncData)(c:Addr):Prop where
 ex:∃(oc:Value) (od:Option Addr) (kV ui pm:Value) (an:Option Addr) (ct:Value) (vo:Array (Option Value)),
  fd=Dz x qual (D4 st) (BU st) (Ze st) .none kV ui pm an (.ref c) ct/\K.lookup f=Z ⟨oc,od,.func fd,vo⟩/\Ho K (.ref c) qual=Aa
 kp:Ef K (.ref f)=Aa
theorem eW{st:Stmt}{oc:Value}{od an:Option Addr}{vo:Array (Option Value)}{kV ui pm ct:Value}(l:K.lookup f=Z ⟨oc,od,.func (Dz x qual (D4 st) (BU st) (Ze st) .none kV ui pm an (.ref c) ct),vo⟩)(h:Ho K (.ref c) qual=Aa)(k:Ef K (.ref f)=Aa):Ki K x qual st f (Dz x qual (D4 st) (BU st) (Ze st) .none kV ui pm an (.ref c) ct) c:=⟨⟨oc,od,kV,ui,pm,an,ct,vo,rfl,l,h⟩,k⟩
section
variable[FX]
theorem Yo{w:World}{k:Nat}{st:Stmt}{ps:List Str}{g:HM.SF}(Fn:Ki K x qual st f fd c)(S:Zs N ps (Ze st))(hm:mg x=Z (.ref f))(hb:Binds K fd ps [])(body:∀(A:Around) (outer:List Env) (s:Shared) (H:Hp) (E:XK),ZP k (A.deeper (envOfC qual (Ze st) s.heap.objs.size f (.ref c)))->vV (CO vd P w K mg base N qual (Ze st) f (.ref c) A outer s H E).nox (BU st) g):Callee P w K mg base (k+1) x (HM.fnOf ps.length N.length g):=by
 have hpl:ps.length<=N.length:=by have:=congrArg BC S.pre;rw[Fd]at this;omega
 refine⟨f,fd,ps,λds d h=>?_,?_,hm,Fn.kp,hb⟩
 .unfold HM.fnOf at h
  split at h
  .assumption
  .cases h
 .obtain⟨oc,od,kV,ui,pm,an,ct,vo,rfl,lk,tF⟩:=Fn.ex
  refine PY lk tF S (λvs H Q E h=>by obtain⟨_,_,_,h,_⟩:=h;exact h) λA outer s H vs Q E hr h=>?_;obtain⟨F,ds,d,hl,sub,tb,nt,q,hM,kk⟩:=h;unfold HM.fnOf at hM;split at hM
  .rename_i sW
   have a0:=Jk (N:=N) sub tb nt q (by omega);split at hM
   .rename_i r hr'
    cases hM;exact⟨_,(body A outer s H E hr _ _ hr').nox,F,H,F,a0,λY F' H' a'=>kk .non F' H' a'.ext .non⟩
   .rename_i d' hr'
    cases hM;exact⟨_,(body A outer s H E hr _ _ hr').nox,F,H,F,a0,λv F' H' x q=>kk v F' H' x q⟩
   .cases hM
  .cases hM
def MH(N:List Str)(sc scope:Scope)(names:List Str)(is:List Nat):Bool :=
 decide (is.length=names.length)&&(is.zip names).all (λq=>decide (N[q.1]?=Z q.2)&&decide (sc.names.lookup q.2=Z .cell))&&scope.names.all (λy=>decide (y.2≠.free)||decide (sc.names.lookup y.1=Z .cell))&&names.all λx=>decide ((x,Hf)∈scope.names)
theorem W8{X:Cx}{t:Nat}{params:Arguments}{body:Expr}{scope sc:Scope}{names:List Str}{is:List Nat}{T:Addr}{q:Str}(ck:MH N sc scope names is=Aa)(h1:Fc X.K c T=Aa)(h2:(T,q)∈FX.tl)(h3:∀q',(T,q')∈FX.tl->q'=q)(bm:BMod X.base X.mg)(good:∀F p cs,vm X.K F p params body scope names cs->FX.fv t cs F p)(hN:X.N=N:=by rfl)(hs:X.env.scope=sc:=by rfl)(hc:X.env.code=.ref c:=by rfl)(hq:X.env.qual ++ "<lambda>"=q:=by rfl)(hd:defaultsOf params X.env=([],[]):=by rfl)(ho:∀x,X.fn x=Aa:=by exact λ_=>rfl):MP X t params body scope names is:=by
 unfold MH at ck;rw[AI,AI,AI]at ck;obtain⟨⟨⟨k1,k2⟩,k3⟩,k4⟩:=ck;refine⟨⟨c,T,hc,h1,by rw[hq];exact h2,λq' z=>by rw[hq];exact h3 q' z⟩,bm,hd,of_decide_eq_true k1,λj i x e1 e2=>?_,λy hy hf=>?_,λx hx=>?_,ho,good⟩
 .have:(i,x)∈is.zip names:=Bm (i:=j) (by rw[List.getElem?_zip_eq_some];exact⟨e1,e2⟩)
  have:=Au.mp k2 _ this;rw[AI]at this;rw[hN,hs];exact⟨of_decide_eq_true this.1,of_decide_eq_true this.2⟩
 .have:=Au.mp k3 y hy
  rw[Gj]at this;rw[hs];rcases this with z|z
  .exact absurd hf (of_decide_eq_true z)
  .exact of_decide_eq_true z
 .exact of_decide_eq_true (Au.mp k4 x hx)
theorem fQ{w:World}{st:Stmt}(Fn:vF K x qual st f fd)(hm:mg x=Z (.ref f))(ha:mg x=Z (.ref a))(e0:CA P w K mg base A outer s H):Tz a s.heap:=by rw[hm]at ha;cases ha;obtain⟨oc,od,kV,ui,pm,an,sO,ct,vo,rfl,lk,tF⟩:=Fn.ex;have KX:K.In s.heap:=e0.mod.kin.keeps λb o e=>(e0.bs b o e).1;exact⟨_,_,_,_,KX _ _ lk⟩
theorem hZ{w:World}{k:Nat}{M:List PyData->Option PyData}(C:Callee P w K mg base k x M)(ha:mg x=Z (.ref a)){F:Hp}(e0:CA P w K mg base A outer s H)(sub:Zp F H){us:List Value}{vs:List V}{ds:List PyData}{d:PyData}{Q:VK}(hr:ZP k A)(tb:Tb H)(nt:uN F)(rv:sL vs us)(rs:Zt K F ds vs)(hM:M ds=Z d)(kk:∀v F' H',sQ F H F' H'->Rep K F' d v->Q v H'):codeAny (model P w) A (.call (.ref a) ⟨us,[]⟩) (CR vd outer P w H s Q E0) s:=by
 obtain⟨f,fd,ps,hl,FN,hm,hk,hb⟩:=C.ex;rw[hm]at ha;cases ha;have KX:K.In s.heap:=e0.mod.kin.keeps λb o e=>(e0.bs b o e).1;have sJ:vs.length=ps.length:=by rw[<-rs.1];exact hl _ _ hM
 refine FN.run A outer s H ⟨us,[]⟩ us vs Q E0 hr e0 ?_ rv ⟨F,ds,d,sJ,sub,tb,nt,rs,hM,kk⟩;have:=hb s us KX (by rw[B6,<-rv.length];exact sJ)
 rwa [B6]at this
end
def MF(tabs:List Addr)(H:Hp):Prop:=(∀b,H b=J\/(∃o xs,H b=Z (.frz o (.lst xs)))\/H b=Z (.tbl #[]))/\∀T∈tabs,H T=Z (.tbl #[])
theorem kA{w:World}{mb:Str->Option Value}{k:Nat}{fa:Addr}{sp:Sp}{s₁:Shared}{vs:List Value}{ns:List Int}(hT:∀q∈tabs,Fc K q.1 q.2=Aa/\K.lookup q.2=J/\s₁.heap.get? q.2=Z (J3 #[]))(KX:K.In s₁.heap)(ug:s₁.heap.Ns Bh mg)(hb:s₁.heap.Ns LW mb)(uV:∀x:Str,x ≠ "__name__"->mb x=B5 x)(hlim:s₁.heap.NoLimit)(hg:s₁.gens=#[])(ha:s₁.heap.get? a=Z {cls:=.type "list",data:=.seq vs.toArray})(hi:IntsAre vs ns)(hl:ns.length<=sizeLine)(hr:ZP k callerA)(hbm:PyProof.Rows.BMain s₁.heap mg)(F:∀base:Heap,K.In base->base.Ns Bh mg->BMod base mg->Cc P w K mg base vd k fa fd [x] sp)(tN:∀(s:Shared) (u:Value),BindsTo s fd ⟨[u],[]⟩ [(x,u)])(yk:∀H:Hp,MF (tabs.map (·.2)) H->tU K H a (ns.map V.int)->sp [.ref a] H (λv _=>v=.bl Aa) λ_ _ _=>False):codeAny (model P w) callerA (.call (.ref fa) ⟨[.ref a],[]⟩) (λr s'=>r=.ok (.ret (.bool Aa))/\OldK s₁.heap s'.heap/\s'.os=s₁.os/\AllBare s'.gens) s₁:=by
 have rv:=XD hi;have lenV:=hi.length;have tne:∀q∈tabs,q.2≠a:=λq hq z=>by have:=(hT q hq).2.2;rw[z,ha]at this;cases this
 have core:∀oS:Option HO,(oS=J\/∃o xs,oS=Z (.frz o (.lst xs)))->(∀H:Hp,H a=oS->tU K H a (ns.map V.int))->(∀H:Hp,∀u,oS=Z u->ZZ P w H s₁.heap a u)->(oS≠J->K.lookup a=J) ->
   codeAny (model P w) callerA (.call (.ref fa) ⟨[.ref a],[]⟩) (λr s'=>r=.ok (.ret (.bool Aa))/\OldK s₁.heap s'.heap/\s'.os=s₁.os/\AllBare s'.gens) s₁:=by
  intro oS hO hS hok0 hK;generalize hH:(λb:Addr=>if b=a then oS else if b∈tabs.map (·.2)then Z (HO.tbl #[])else J)=H;have Ha:H a=oS:=by rw[<-hH];exact if_pos rfl
  have Ht:∀T∈tabs.map (·.2),H T=Z (.tbl #[]):=λT hT'=>by obtain⟨q,hq,e⟩:=Al.mp hT';rw[<-hH];show(if T=a then oS else if T∈tabs.map (·.2)then Z (HO.tbl #[])else J)=_;rw[if_neg (by rw[<-e];exact tne q hq),if_pos hT']
  have Hc:∀b u,H b=Z u->(b=a/\oS=Z u)\/(b∈tabs.map (·.2)/\u=.tbl #[]):=λb u e=>by
   rw[<-hH]at e;dsimp only at e;split at e
   .rename_i h;exact .inl ⟨h,e⟩
   .split at e
    .rename_i h;cases e;exact .inr ⟨h,rfl⟩
    .cases e
  have xg:∀T∈tabs.map (·.2),s₁.heap.get? T=Z (J3 #[])/\K.lookup T=J/\∃c,Fc K c T=Aa:=λT hT'=>by obtain⟨q,hq,e⟩:=Al.mp hT';subst e;exact⟨(hT q hq).2.2,(hT q hq).2.1,q.1,(hT q hq).1⟩
  have hok:tK P w H s₁.heap:=λb u e=>by
   rcases Hc b u e with⟨rfl,e'⟩|⟨h,rfl⟩
   .exact hok0 H u e'
   .exact(xg b h).1
  have vA:∀{b:Addr} {o:Obj},s₁.heap.get? b=Z o->H b=J->(EO s₁.heap H).get? b=Z o:=λe n=>gd e n;have xK:∀{b:Addr} {o:Obj} {es:Array DictEntry} {ep:Nat},s₁.heap.get? b=Z o->o.data=.dict es ep->H b=J:=λ{b o es ep} e d=>by
   cases q:H b with
   |none=>rfl
   |some u =>
    rcases Hc b u q with⟨rfl,_⟩|⟨h,_⟩
    .rw[ha]at e;cases e
     have d':Data.seq vs.toArray _=Data.dict es ep:=d;cases d'
    .rw[(xg b h).1]at e;cases e;cases d
  have nsK:∀{b:Addr} {m:Str->Option Value},s₁.heap.Ns b m->(EO s₁.heap H).Ns b m:=λ{b m} ⟨o,es,ep,e,d,r⟩=>⟨o,es,ep,vA e (xK e d),d,r⟩;have hKb:K.In (EO s₁.heap H):=λb o e=>vA (KX b o e) (by
   cases q:H b with
   |none=>rfl
   |some u =>
    rcases Hc b u q with⟨rfl,e'⟩|⟨h,_⟩
    .rw[hK (by rw[e'];simp)]at e;cases e
    .rw[(xg b h).2.1]at e;cases e)
  have hM:Mod K mg (EO s₁.heap H):=⟨hKb,nsK ug,⟨mb,nsK hb,uV⟩,let ⟨mc,h1,h2⟩:=hlim;⟨mc,nsK h1,h2⟩⟩;have e0:CA P w K mg (EO s₁.heap H) callerA [] s₁ H:=⟨rfl,hM,λb o e=>fO e,IH (kd _ _),trivial,λb hb=>absurd (show b∈([]:List Addr) from hb) (by simp),hok,.of_eq hg⟩;have hOT:MF (tabs.map (·.2)) H:=⟨λb=>by
   cases q:H b with
   |none=>exact .inl rfl
   |some u =>
    rcases Hc b u q with⟨_,e'⟩|⟨_,rfl⟩
    .rcases hO with z|⟨o,xs,z⟩
     .rw[z]at e';cases e'
     .rw[z]at e';cases e';exact .inr (.inl ⟨o,xs,rfl⟩)
    .exact .inr (.inr rfl),Ht⟩
  have hBM:BMod (EO s₁.heap H) mg:=by
   obtain⟨bm,ob,b1,b2,b3,b4,b5,b6⟩:=hbm;refine⟨bm,ob,b1,b2,λz=>?_,vA b3 ?_,b4,b5,b6⟩
   .obtain⟨o,es,ep,e,d,_⟩:=ug
    rw[z,e]at b3;cases b3;rw[b6]at d;cases d
   .cases q:H bm with
    |none=>rfl
    |some u =>
     rcases Hc bm u q with⟨z,_⟩|⟨h,_⟩
     .rw[z,ha]at b3;cases b3;exact absurd (show(Gf "list":Value)=.type "module" from b4) (by decide)
     .rw[(xg bm h).1]at b3;cases b3;cases b4
  refine Fm ((F _ hKb (nsK ug) hBM).run callerA [] s₁ H ⟨[.ref a],[]⟩ [.ref a] [.ref a] _ _ hr e0 (tN s₁ (.ref a)) (.cons rfl .nil) (yk H hOT (hS H Ha))) λr s' h=>?_;cases r with
  |error e=>exact Bv h
  |ok fl =>
   cases fl with
   |next=>exact Bv h
   |brk=>exact Bv h
   |cont=>exact Bv h
   |ret u =>
    obtain⟨v,H',os,bare,un,hok',r',q⟩:=h;have q':v=.bl Aa:=q;subst q';obtain rfl:u=Value.bool Aa:=r';refine⟨rfl,⟨λb o e=>?_,λb o e=>un.there b o e (by simp)⟩,os,bare⟩;cases q:H b with
    |none=>exact .inl (un.keep b o e q (by intro z;exact absurd (show b∈([]:List Addr) from z) (by simp)) (by simp))
    |some u =>
     rcases Hc b u q with⟨rfl,e'⟩|⟨h,rfl⟩
     .rcases hO with z|⟨ob,xs,z⟩
      .rw[z]at e';cases e'
      .rw[z]at e';cases e'
       have z2:=un.frzs _ ob _ q;obtain⟨e1,_⟩:=hok _ _ q;obtain⟨e2,_⟩:=hok' _ _ z2;rw[e]at e1;cases e1;exact .inl e2
     .obtain⟨g1,_,c,g3⟩:=xg b h
      rw[g1]at e;cases e;obtain⟨more,z2⟩:=un.tbls b _ q;have z3:s'.heap.get? b=Z {cls:=.none,data:=.fields (#[]++more)}:=hok' b _ z2;refine .inr (.inl ⟨((aT KX g3).tab g1).isCodeTable,rfl,#[],more,rfl,z3⟩)
 cases hk:K.lookup a with
 |some o=>have e:=KX a o hk;rw[ha]at e;cases e;exact core J (.inl rfl) (λH _=>.inr ⟨_,vs.toArray,_,hk,rfl,rfl,rfl,by rw[Ax,lenV];exact hl,by simpa using rv⟩) (λH u z=>by cases z) λz=>absurd rfl z
 |none=>refine core (Z (.frz {cls:=.type "list",data:=.seq vs.toArray} (.lst (ns.map V.int)))) (.inr ⟨_,_,rfl⟩) (λH e=>.inl (.inr ⟨_,e⟩)) (λH u z=>?_) λ_=>hk;cases z;exact⟨ha,by rw[Af];exact hl,vs,_,rv,ha⟩
theorem iR{l:Ui}{n k:Nat}{q:Program}{vn:List Str}{XP:(Str->Option Value)->Heap->Prop}{YP:World->Heap->Prop}{d:DefRec}{K:Params->Ae}{sp:World->Sp}(hn:l.most=Z n)(hn2:n<=sizeLine)(zI:d.params.defaults=[])(hr:ZP k callerA)(hY:∀(w:World) (h:Heap),YP w h->(K w.params).In h)(hYT:∀(w:World) (h:Heap),YP w h->∀q∈tabs,h.get? q.2=Z (J3 #[]))(hT:∀(w:World),∀q∈tabs,Fc (K w.params) q.1 q.2=Aa/\(K w.params).lookup q.2=J)
  (F:∀(w:World) (mg:Str->Option Value) (fa:Addr) (h:Heap),(K w.params).In h->h.Ns Bh mg->mg d.name=Z (.ref fa) ->
   ∃fd:FuncData,(∀(s:Shared) (u:Value),BindsTo s fd ⟨[u],[]⟩ [(x,u)]) /\
    ∀base:Heap,(K w.params).In base->base.Ns Bh mg->BMod base mg->Cc l.prog w (K w.params) mg base vd k fa fd [x] (sp w))
  (yk:∀(w:World) (H:Hp) (a:Addr) (ns:List Int),ns.length<=n->MF (tabs.map (·.2)) H->tU (K w.params) H a (ns.map V.int)->sp w [.ref a] H (λv _=>v=.bl Aa) λ_ _ _=>False):
  PySem.W.WalkO q vn XP YP l.row.toRowW d [] (λf vs=>PySem.call f vs):=by
 refine Att.qT hn zI λw s₀ s₁ mg mb fa o pm cd ui a vs ns G zZ ho hd tF yo yU xp sJ hg=>?_;have KX:=hY w _ zZ;obtain⟨fd,hb,hF⟩:=F w mg fa _ KX G.T.g yo;exact kA (λq hq=>⟨(hT w q hq).1,(hT w q hq).2,hYT w _ zZ q hq⟩) KX G.T.g G.T.b G.T.builtins G.T.nolimit hg yU xp (Bf sJ hn2) hr G.T.bmain hF hb λH hO hS=>yk w H a ns sJ hO hS
end
def bP:Stmt->Option (Arguments×Expr×Scope)
 | .Return (Z (.Call _ [_,.Lambda a b s _] _ _)) _=>Z (a,b,s)
 | .Assign _ (.Call _ [_,.Lambda a b s _] _ _) _=>Z (a,b,s)
 | .Return (Z (.Call _ [_] [⟨_,.Lambda a b s _,_⟩] _)) _=>Z (a,b,s)
 |_=>J
def Qo(st:Stmt):Arguments×Expr×Scope:=((BU st).findSome? bP).getD default
abbrev MC(st:Stmt):Arguments:=(Qo st).1
abbrev IV(st:Stmt):Expr:=(Qo st).2.1
abbrev DW(st:Stmt):Scope:=(Qo st).2.2
theorem Vg{P:Program}{w:World}{K:Ae}{mg:Str->Option Value}{base:Heap}{A:Around}{outer:List Env}{s:Shared}{F H:Hp}{p:Addr}{params:Arguments}{body:Expr}{scope:Scope}{names:List Str}{cs:List PyData}(C:vm K F p params body scope names cs)(e0:CA P w K mg base A outer s H)(sub:Zp F H):Tz p s.heap:=by
 obtain⟨qual,pm,uM,c,oc,sN,h1,_⟩:=C.ex;exact⟨_,_,_,_,D5 (e0.hok p _ (sub _ _ h1))⟩
section
variable[FX]
theorem qB{K:Ae}{M:List PyData->Option PyData}{H:Hp}{a:Addr}{ns:List Int}{tabs:List Addr}(hO:MF tabs H)(ht:∀T q,(T,q)∈FX.tl->T∈tabs)(hS:tU K H a (ns.map V.int))(hM:M [.list (HM.uQ ns)]=Z (.bool Aa)):spD K 1 M [.ref a] H (λv _=>v=.bl Aa) λ_ _ _=>False:=by
 refine⟨CC H,[.list (HM.uQ ns)],.bool Aa,rfl,Rn,λT q hT=>⟨#[],hO.2 T (ht T q hT),trivial,λpos c hc=>by cases hc⟩,.drop,.one (Rep.drop (.lst hS (Lc (K:=K) (F:=H) ns).1 (Lc ns).2)),hM,λv F1 H1 _ r=>r.bool_inv⟩
end
end HP
namespace HP
open PySem PySem.Spec PyProof.Rows L2
variable[FX]
section
variable{X:Cx}{a b:Expr}{fa fb:HM.EF}{pos:Pos}
def cI(K:Ae):R2:=λv w H Q=>∃p q xs ys,v=.ref p/\w=.ref q/\uL K H p xs/\uL K H q ys/\xs.length+ys.length<=sizeLine/\(xs=[]->Q w H)/\(xs≠[]->ys=[]->Q v H)/\(xs≠[]->ys≠[]->∀z,H z=J->Q (.ref z) (upd H z (.tup (xs++ys))))
theorem gM:uq X (Ed .Add) (cI X.K):=by
 intro sI s Y H x y v u Q I rx ry ⟨p,q,xs,ys,e1,e2,hp,hq,hz,q0,q1,q2⟩
 by_cases hx:xs=[]
 .subst e1 e2
  obtain rfl:v=Bb p:=rx;obtain rfl:u=Bb q:=ry;obtain⟨its,r1,p1,_⟩:=I.tuple hp;obtain⟨uG,r2,p2,_⟩:=I.tuple hq;obtain⟨⟨cls,dd,data,sl⟩,ho,hc,n,hd⟩:=id p1;obtain⟨⟨cls2,dd2,data2,sl2⟩,yG,xE,n2,yH⟩:=id p2;simp only at hc hd xE yH;subst hc hd xE yH;have e0:its=[]:=by rw[hx]at r1;cases r1;rfl
  exact OY ⟨_,ho,rfl⟩ ⟨_,yG,rfl⟩ Uh seq_tuple_add Um Uq (UJ _ _)
   (tuple_addW0 p q its.toArray uG.toArray n n2 dd dd2 sl sl2 (by simp[e0])) ⟨ho,yG,⟨.ref q,H,I,rfl,q0 hx⟩⟩
 .exact fH sI s Y H x y v u Q I rx ry ⟨p,q,xs,ys,e1,e2,hp,hq,hx,hz,λz=>by rw[<-e1];exact q1 hx z,λz=>q2 hx z⟩
theorem Xs(ha:XE X a fa)(hb:XE X b fb):XE X (.BinOp a .Add b pos) (HM.Jm fa fb):=by
 intro r d h;unfold HM.Jm at h;split at h
 case h_2=>cases h
 rename_i xs hx;split at h
 case h_2=>cases h
 rename_i ys hy;split at h
 case isFalse=>cases h
 rename_i tu;cases h;refine PE.imp (Kl gM (ha r _ hx) (hb r _ hy)) λY H Q ⟨F0,H0,F,at_,k⟩=>?_;refine⟨F0,H0,F,at_,λv F1 H1 x1 r1=>⟨F0,H0,F1,at_.grow x1,λw F2 H2 x2 r2=>?_⟩⟩;have r1':=r1.mono x2.ff;obtain⟨l,vs,e1,h1,s1⟩:=WG r1';obtain⟨l',us,e2,h2,s2⟩:=WG r2;have e3:=s1.1;have e4:=s2.1;have hz:xs.length+ys.length<1000000:=tu;have e5:(1000000:Nat)<=sizeLine:=by decide
 refine⟨l,l',vs,us,e1,e2,QL h1 x2.sub,QL h2 x2.sub,by omega,λz=>?_,λ_ z=>?_,λ_ _ p hp=>?_⟩
 .rw[z]at e3
  exact k _ F2 H2 (x1.trans x2) (by rw[Mp e3,ID];exact r2)
 .rw[z]at e4
  exact k _ F2 H2 (x1.trans x2) (by rw[Mp e4,B6];exact r1')
 .have rc:=s1.append s2
  exact k _ (upd F2 p (.tup (vs++us))) _ ((x1.trans x2).lay hp) (.tup Zz rc.1 (rc.mono (Zp.upd' (x2.sub.free hp))).2)
end
end HP
namespace HP
open PySem PySem.W PyProof.Rows
end HP
namespace HP
open PySem PySem.Spec PyProof.Rows L2
variable[FX]
end HP
namespace HT
open PySem PySem.Spec PyProof.Rows L2
end HT
namespace HP
open PySem PySem.Spec PyProof.Rows L2
end HP
namespace HP
open PySem PySem.Spec PyProof.Rows L2
variable[FX]
section
variable{X:Cx}{a b:Expr}{ga gb:HM.BF}{pos:Pos}
def cV(K:Ae):R2:=λx y H Q=>∃l b xs zs,x=.ref l/\y=.ref b/\tU K H l xs/\tU K H b zs/\xs.length+zs.length<=sizeLine/\∀p,H p=J->Q (.ref p) (upd H p (.lst (xs++zs)))
omit [FX]in
theorem fN:uq X (Ed .Add) (cV X.K):=by intro sI s Y H x y v u Q I rx ry h;obtain⟨l,b,xs,zs,rfl,rfl,hH,hB,hz,q⟩:=h;cases rx;cases ry;obtain⟨its,r,⟨⟨c1,d1,t1,s1⟩,n1,e1,k1,k2,k3⟩,_⟩:=I.list hH;obtain⟨uG,r2,⟨⟨c2,d2,t2,s2⟩,n2,e2,m1,m2,m3⟩,_⟩:=I.list hB;simp only at k1 k2 k3 m1 m2 m3;subst k1 k3 m1 m3;have w8:=r.length;have vD:=r2.length;refine OY ⟨_,e1,rfl⟩ ⟨_,e2,rfl⟩ noFill_list_add seq_list_add PySem.F.slot_list_add PySem.F.entry_list_add (PySem.F.args_list_add_2 _ _) (list_addW l b its.toArray uG.toArray n1 n2 d1 d2 s1 s2 (by rw[Ax,Ax];omega)) ⟨e1,e2,?_⟩;rw[show its.toArray++uG.toArray=(its++uG).toArray by simp];exact⟨.ref _,_,I.lnew (t':=s.toks) (r.append r2) (by rw[AK];omega),rfl,q _ I.fresh⟩
theorem V1(ha:XB X a ga)(hb:XB X b gb):XF X (.BinOp a .Add b pos) (HM.Nk ga gb):=by
 intro r d h;unfold HM.Nk at h;split at h
 .rename_i x hx
  split at h
  .rename_i xs vR
   split at h
   .rename_i y hy
    split at h
    .rename_i ys wd
     split at h
     .rename_i hz
      cases h;refine PE.imp (Kl fN (ha r _ hx) (hb r _ hy)) λY H Q ⟨F0,H0,F,at_,k⟩=>?_;refine⟨F0,H0,F,at_,λv F1 H1 x1 ⟨fp,r1⟩=>⟨F0,H0,F1,at_.grow x1,λw F2 H2 x2 ⟨fq,r2⟩=>?_⟩⟩;obtain⟨l1,vs1,rfl,hq1,q1⟩:=EZ x2.sub (r1.mono x2.ff λ_ _ _ z=>x2.hh _ _ z) vR;obtain⟨l2,vs2,rfl,hq2,q2⟩:=EZ x2.sub r2 wd;refine⟨_,_,_,_,rfl,rfl,hq1,hq2,?_,λl hl=>EY (P:=λv _ H'=>Q v H') (x1.trans x2) (q1.append q2) hl k⟩;have e1:=q1.1;have e2:=q2.1;have e3:(1000000:Nat)<=sizeLine:=by decide
      unfold HM.big at hz;omega
     .cases h
    .cases h
   .cases h
  .cases h
 .cases h
end
end HP
namespace HP
open PySem PySem.Spec PyProof.Rows L2
section
variable[FX]{X:Cx}{e:Expr}{t:HM.TF}
theorem fm(i:Nat)(h:XT X e t):XT X e (HM.U5 i t):=by intro r c hc sI s Y H Q I ⟨F0,H0,F,at_,k⟩;obtain⟨F1,_,s1,a1⟩:=at_.freeze i;exact h (HM.NU i r) c hc sI s Y H Q I ⟨F0,H0,F1,a1,λF' H' x=>k F H' ⟨Zp.refl F,x.hh,(s1.trans x.ff).trans x.sub,λ_ _ h=>.inl h,x.tab,id⟩⟩
end
end HP
namespace HP
open PySem PySem.W PyProof.Rows
variable{b:Addr}{h:Heap}
section
variable{prog:Program}{w:World}{A:Around}{E:Value->Shared->Prop}{s:Shared}
theorem WS:∀{vs:List Value} {ns:List Int},IntsAre vs ns->ItemsAre (intKind prog w) ns vs
 |_,_,.nil=>.nil
 |_,_,.cons n t h=>.cons (JS _ _ _ _) (WS h)
theorem Vp{t:List Int}(x:TI h b t):IsTupleKey (intKind prog w) h t b:=by obtain⟨o,its,n,e1,e2,e3,e4⟩:=x;exact⟨o,its,n,e1,e2,e3,WS e4⟩
theorem lh{a:Addr}{x y:List Int}{P:LX->Shared->Prop}(hx:TI s.heap a x)(hy:TI s.heap b y)(h:P (.done (.ret (.bool (HM.lexLt x y)))) s):wpAny (model prog w) A (Builtin.«tuple.__lt__» ⟨[.ref a,.ref b],[]⟩) P E s:=by
 obtain⟨oa,xs,na,a1,a2,a3,a4⟩:=hx;obtain⟨ob,ys,nb,b1,b2,b3,b4⟩:=hy;show wpAny _ _ (isInstance (.ref b) (.type "tuple") >>= _) _ _ s;refine Ac (Pj (T:="tuple") ⟨ob,b1,b2⟩ isSubtype_tuple_tuple ?_);simp only[TH,DS,if_false];refine Ac (wpAny_tupleItemsOf a1 a3 (Ac (wpAny_tupleItemsOf b1 b3 ?_)));refine Ac (wpAny_forIn_list _
  (λrest r s'=>r.1=J/\s'=s/\∃x' y' xs' ys',rest=List.zip xs' ys'/\IntsAre xs' x'/\IntsAre ys' y'/\HM.lexLt x' y'=HM.lexLt x y/\decide (xs'.length<ys'.length)=decide (xs.size<ys.size))
  _ ?_ ?_ _ _ ⟨rfl,rfl,x,y,xs.toList,ys.toList,rfl,a4,b4,rfl,by simp⟩)
 .rintro ⟨u,v⟩ rest r s' ⟨hr,rfl,x',y',xs',ys',hz,hx',hy',tu,sJ⟩
  cases hx' with
  |nil=>simp at hz
  |cons n1 t1 hx'' =>
   cases hy' with
   |nil=>simp at hz
   |cons n2 t2 hy'' =>
    simp only[List.zip_cons_cons,List.cons.injEq,Prod.mk.injEq]at hz;obtain⟨⟨rfl,rfl⟩,rfl⟩:=hz;refine Ac (Pk ?_);rw[Ia]at tu
    by_cases hk:n1=n2
    .subst hk
     rw[if_pos rfl]at tu;rw[show(n1==n1)=Aa by simp];simp only[TH,DS,if_false];exact Ag ⟨rfl,rfl,_,_,_,_,rfl,hx'',hy'',tu,by simpa using sJ⟩
    .rw[if_neg hk]at tu
     rw[show(n1==n2)=Ab by simpa using hk];simp only[Bool.not_false,if_true];rw[<-tu]at h;exact Ac (Hh (Ac (aV (Ac (Ag (Ag (Ag h)))))))
 .rintro ⟨r1,r2⟩ s' ⟨hr,rfl,x',y',xs',ys',hz,hx',hy',tu,sJ⟩
  simp only at hr;subst hr;refine Ag ?_;have hfin:decide (xs.size<ys.size)=HM.lexLt x y:=by
   rw[<-tu,<-sJ];cases hx' with
   |nil=>cases hy'<;>rfl
   |cons _ _ _ =>
    cases hy' with
    |nil=>rfl
    |cons _ _ _=>simp at hz
  show P (.done (.ret (.bool (decide (xs.size<ys.size))))) s';rw[hfin];exact h
def KP(h:Heap)(b:Addr)(m:Int)(t:List Int):Prop:=∃o n tk c,h.get? b=Z o/\o.cls=.type "tuple"/\o.data=.seq #[.int m tk,.ref c] n/\TI h c t
abbrev KI(h:Heap)(b:Addr)(t:List Int):Prop:=KP h b (t.length:Int) t
theorem VC{x y:Addr}{u v:Int}{a b:List Int}{Q:Bool->Shared->Prop}(hu:A.units<cLine)(hx:KP s.heap x u a)(hy:KP s.heap y v b)(h:Q (HM.lexLt (u::a) (v::b)) s):wpAny (model prog w) A (keyLt' (tuples' Aa) (.ref x) (.ref y)) Q E s:=by
 obtain⟨ox,n,tk,c,e1,_,d1,r1⟩:=hx;obtain⟨oy,m,tl,d,e2,_,d2,r2⟩:=hy;refine kat_lt e1 d1 e2 d2 ?_;show KatLex prog w A Aa (decide (2<2)) Q [(.int u tk,.int v tl),(.ref c,.ref d)] 0 s;rw[Ia]at h;refine kat_cons (Pk ?_)
 by_cases hl:u=v
 .rw[if_pos hl]at h
  rw[show(u==v)=Aa by simpa using hl];refine kat_yes (kat_cons (wpAny_eqBool_tuple (knd:=intKind prog w) hu (Vp r1) (Vp r2) ?_))
  by_cases hab:a=b
  .rw[decide_eq_true hab]
   refine kat_yes (kat_nil ?_);rw[hab,tP]at h;exact h
  .rw[decide_eq_false hab]
   refine kat_no ?_;obtain⟨oc,i1,n1,c1,c2,c3⟩:=id r1;obtain⟨od,i2,n2,f1,f2,f3⟩:=id r2;have T1:s.TypeIs (.ref c) "tuple":=⟨oc,c1,c2⟩;have T2:s.TypeIs (.ref d) "tuple":=⟨od,f1,f2⟩;refine kat_one _ _ (show wpAny _ _ (richCompare .Lt (.ref c) (.ref d)) _ _ _ from wpAny_richCompare_same_room (op:=.Lt) T1 T2 F.slot_tuple_lt (En F.slot_tuple_lt T1 F.entry_tuple_lt (lh r1 r2 ⟨_,rfl,(λe=>nomatch e),?_⟩) (F.args_tuple_lt_2 _ _)) hu);exact h
 .rw[if_neg hl]at h
  rw[show(u==v)=Ab by simpa using hl];refine kat_no ?_;exact oneLt_int h
theorem KP.keep{h':Heap}{m:Int}{t:List Int}(x:KP h b m t)(k:∀c o,h.get? c=Z o->o.cls=.type "tuple"->h'.get? c=Z o):KP h' b m t:=by obtain⟨o,n,tk,c,e1,e2,e3,o',its,m',f1,f2,f3⟩:=x;exact⟨o,n,tk,c,k _ _ e1 e2,e2,e3,o',its,m',k _ _ f1 f2,f2,f3⟩
end
end HP
namespace HP
open PySem PySem.Spec PyProof.Rows L2
variable[FX]
section
variable{F:Hp}{ts:List (List Int)}{K:Ae}
def KH(H:Hp)(v:V)(t:List Int):Prop:=∃kb c,v=.ref kb/\H kb=Z (.tup [.int (t.length:Int),.ref c])/\H c=Z (.tup (t.map V.int))
theorem KH.st{H H':Hp}{v:V}{t:List Int}(h:KH H v t)(s:AU H H'):KH H' v t:=by obtain⟨kb,c,e,h1,h2⟩:=h;exact⟨kb,c,e,s.ntb h1 rfl,s.ntb h2 rfl⟩
theorem ka{us:List (List Int)}(h:us.Perm ts)(hs:us.Pairwise (λx y=>HM.lexLt (HM.E1 y) (HM.E1 x)=Ab)):us=HM.Bs ts:=by
 refine NP (R:=λx y=>HM.lexLt (HM.E1 y) (HM.E1 x)=Ab) (λa b h1 h2=>?_) (h.trans (J9 ts _).symm) hs ?_
 .have:=NN _ _ h2 h1
  unfold HM.E1 at this;injection this
 .have:=Pq (le:=λa b:List Int=>!HM.lexLt (HM.E1 b) (HM.E1 a)) (λa b c h1 h2=>by
   simp only[TR]at *;cases q:HM.lexLt (HM.E1 c) (HM.E1 a)with
   |false=>rfl
   |true =>
    rcases Nh _ (HM.E1 b) _ q with z|z
    .rw[h2]at z;cases z
    .rw[h1]at z;cases z) (λa b=>by
   cases q:HM.lexLt (HM.E1 b) (HM.E1 a)with
   |false=>simp
   |true =>
    cases q2:HM.lexLt (HM.E1 a) (HM.E1 b)with
    |false=>simp
    |true=>have:=um _ _ _ q q2;rw[tP]at this;cases this) ts
  exact this.imp λh=>by simpa using h
theorem kz{ws:List V}{p:List Nat}(hp:p.Perm (Ah ts.length))(r:Zt K F (HM.OP ts) ws):Zt K F (HM.OP (p.map λi=>ts.getD i [])) (p.map λi=>ws.getD i V.non):=by
 have hl:ws.length=ts.length:=by have:=r.1;unfold HM.OP at this;rw[Af]at this;omega
 refine⟨by unfold HM.OP;simp,λi d v h1 h2=>?_⟩;unfold HM.OP at h1;rw[Aw,A1]at h1;rw[A1]at h2;obtain⟨j,e1,e2⟩:=Ai.mp h1;rw[e1]at h2;have hj:j<ts.length:=AS.mp (hp.mem_iff.mp (Bm e1));refine r.2 j d v ?_ ?_
 .unfold HM.OP
  rw[A1,A2 hj,<-e2];simp[Bn,hj]
 .have:Z (ws.getD j V.non)=Z v:=h2
  rw[<-this];simp[Bn,show j<ws.length by omega]
section
variable{X:Cx}{sI:List (Addr×Obj)}{Y:L2.St}{H FS:Hp}{s:Shared}
theorem KH.ki(I:Inv X sI Y H s){v:V}{u:Value}{t:List Int}(h:KH H v t)(r:RelV v u):∃kb,u=.ref kb/\KI s.heap kb t:=by
 obtain⟨kb,c,rfl,h1,h2⟩:=h;obtain rfl:u=Bb kb:=r;obtain⟨_,its,rv,o,g1,g2,n,g3⟩:=(show ZZ X.prog X.w H s.heap kb (.tup [.int (t.length:Int),.ref c]) from I.hok kb _ h1);obtain⟨_,jts,rw',o',f1,f2,m,f3⟩:=(show ZZ X.prog X.w H s.heap c (.tup (t.map V.int)) from I.hok c _ h2);cases rv with
 |cons q1 rv =>
  cases rv with
  |cons q2 rv=>cases rv;obtain⟨tk,rfl⟩:=q1;cases q2;exact⟨kb,rfl,o,n,tk,c,g1,g2,g3,o',jts.toArray,m,f1,f2,f3,by simpa using GS rw'⟩
theorem YJ{t:List Int}{v:V}(rp:Rep K F (.tuple (HM.uQ t)) v):∃c,v=.ref c/\F c=Z (.tup (t.map V.int)):=by
 generalize hq:HM.uQ t=q at rp;cases rp with
 | @tupk b x h1 =>
  exfalso;cases t with
  |nil=>cases hq
  |cons a t =>
   injection hq with e1 _
   cases e1
 | @tup b _ xs hb hl hr=>subst hq;have ev:=FK (F:=F) (Qu t) ⟨hl,hr⟩;subst ev;exact⟨b,rfl,hb⟩
variable{k:Nat}{params:Arguments}{body:Expr}{scope:Scope}{x:Str}{q:Addr}{ts:List (List Int)}{ws:List V}{its:List Value}{P:LX->Shared->Prop}{E:Value->Shared->Prop}
abbrev My:HM.EF:=HM.Br (HM.Zb (HM.AJ (HM.Zo 0)) (HM.Zb (HM.Za 0) HM.Zh))
theorem gX(t:List Int):HM.R5 1 0 My [] [.tuple (HM.uQ t)]=Z (.tuple [.int (t.length:Int),.tuple (HM.uQ t)]):=by
 have hn:[BZ (HM.uQ t)].all (HM.uT 20)=Aa:=by rw[Di,OV,Bool.and_true];refine Au.mpr λd hd=>?_;obtain⟨i,_,rfl⟩:=Al.mp hd;rfl
 have hl:(HM.uQ t).length=t.length:=by unfold HM.uQ;rw[Af]
 unfold HM.R5;rw[if_pos ⟨rfl,rfl,hn⟩];simp[My,hl]
set_option maxHeartbeats 1600000 in
theorem gv(hr:ZP (k+3) X.A)(S:Jp scope x [])(tN:∀(qual:Str) (sN:List (Str×Addr)) (pm cd uM u:Value),Iw (TL "<lambda>" qual params body scope sN pm cd uM) ⟨[u],[]⟩=pure [(x,u)])(uI:∀(qual:Str) (f:Addr) (cd:Value) (sN:List (Str×Addr)) (A:Around) (outer:List Env) (s:Shared) (H:Hp),ZP k (A.deeper (Ge qual scope s.heap.objs.size f cd sN))->XE (Hz X.prog X.w X.K X.mg X.base [x] qual scope f cd sN A outer s H) body My)(I:Inv X sI Y H s)(C:vm X.K FS q params body scope [] [])(sub:Zp FS H)(nt:uN FS)(tb:Tb H)(y4:sL ws its)(rs:Zt X.K FS (HM.OP ts) ws)(wQ:ts.length<64)(tL:∀H' ws' s',AU H H'->Tb H'->H' s.heap.objs.size=J->Inv X sI Y (upd H' s.heap.objs.size (.lst ws')) s'->(∀F,Zt X.K F (HM.OP ts) ws->Zt X.K F (HM.OP (HM.Bs ts)) ws')->P (.done (.ret .none)) s'):wpAny (model X.prog X.w) X.A.in1.in1 (ksk_tree s.heap.objs.size (.ref q) Ab) P E {s with heap:=s.heap.push (seqObj "list" its.toArray 0)}:=by
 have hlw:ws.length=ts.length:=by have:=rs.1;unfold HM.OP at this;rw[Af]at this;omega
 have hli:its.length=ts.length:=by rw[<-y4.length,hlw]
 have hr2:ZP (k+1) X.A.in1.in1:=hr.in1.in1;generalize haA:s.heap.objs.size=a at *;have vg:(s.heap.push (seqObj "list" its.toArray 0)).get? a=Z (seqObj "list" its.toArray 0):=by rw[<-haA];exact AZ _ rfl
 unfold ksk_tree;refine Ac (listItems_at vg rfl ?_);refine Ac (J2 vg rfl ?_ (by rw[Ax,Bo];omega) (BY _));obtain⟨e1,zE⟩:∃e1,((s.heap.push (seqObj "list" its.toArray 0)).update a (Ej λ_=>#[])).get? a=Z (seqObj "list" #[] e1):=⟨_,get?_update_seq vg λ_=>#[]⟩;have kp1:∀b u,s.heap.get? b=Z u->((s.heap.push (seqObj "list" its.toArray 0)).update a (Ej λ_=>#[])).get? b=Z u:=λb u e=>by
  have hb:b≠a:=by rw[<-haA];exact As (Ao e)
  rw[Ux _ _ _ _ hb];exact Ar _ e
 generalize hg1:(s.heap.push (seqObj "list" its.toArray 0)).update a (Ej λ_=>#[])=g1 at *;have I4:Inv X sI Y (upd H a (AA a (seqObj "list" #[] e1))) {s with heap:=g1,toks:=s.toks}:=I.laid (a:=a) (t':=s.toks) kp1 (IH haA) (Ji zE);refine Ac (O0 zE rfl ?_);refine Ac (wpAny_newTuple ?_ (by show its.length<=_;rw[Bo];omega));refine Ac (J1 ?_ (BY _));refine Cu ?_;have I5:Inv X sI Y (upd H a (AA a (seqObj "list" #[] e1))) {s with heap:=g1.push (seqObj "tuple" its.toArray 0),toks:=s.toks}:=I4.kept (t':=s.toks) λb u e=>Ar _ e;have I6:=I5.lnew (ys:=[]) (its:=[]) (t':=s.toks) .nil (BY _);have hkA:(g1.push (seqObj "tuple" its.toArray 0)).objs.size=a+2:=by rw[size_push',<-hg1,Me,size_push',haA]
 have xR:H a=J:=I.hok.fresh (IH haA);have hHk:H (a+2)=J:=I.hok.fresh (by rw[haA];omega);have I6:Inv X sI Y (upd (upd H a (AA a (seqObj "list" #[] e1))) (a+2) (.lst [])) {s with heap:=(g1.push (seqObj "tuple" its.toArray 0)).push (seqObj "list" #[] 0),toks:=s.toks}:=by have:=I5.lnew (ys:=[]) (its:=[]) (t':=s.toks) .nil (BY _);rw[show({s with heap:=g1.push (seqObj "tuple" its.toArray 0),toks:=s.toks}:Shared).heap.objs.size=a+2 from hkA]at this;exact this
 show wpAny _ _ (ksk_rest a (.ref q) Ab its.toArray e1 (.ref (g1.push (seqObj "tuple" its.toArray 0)).objs.size)) P E {s with heap:=(g1.push (seqObj "tuple" its.toArray 0)).push (seqObj "list" #[] 0),toks:=s.toks};rw[hkA];have st6:AU H (upd (upd H a (AA a (seqObj "list" #[] e1))) (a+2) (.lst [])):=.of λb o e=>by
  have h1:b≠a:=λz=>by rw[z,xR]at e;cases e
  have h2:b≠a+2:=λz=>by rw[z,hHk]at e;cases e
  unfold upd;rw[if_neg h2,if_neg h1];exact e
 have hak:a≠a+2:=As (Nat.lt_add_of_pos_right (by decide));unfold ksk_rest;refine Ac (Hh ?_);rw[List.forIn_toArray];refine Ac (ksk_fold (λi s'=>∃H' ks,Inv X sI Y H' s'/\AU H H'/\Tb H'/\H' a=Z (AA a (seqObj "list" #[] e1))/\H' (a+2)=Z (.lst ks)/\ks.length=i/\∀(j:Nat) t v,ts[j]?=Z t->ks[j]?=Z v->KH H' v t) its 0 _
  ⟨_,[],I6,st6,tb.same ?tb0,?a0,Zz,rfl,λj t v _ e=>by simp at e⟩ ?step ?done)
 case tb0 =>
  intro b o e;have h1:b≠a:=λz=>by rw[z,xR]at e;cases e
  have h2:b≠a+2:=λz=>by rw[z,hHk]at e;cases e
  unfold upd;rw[if_neg h2,if_neg h1];exact e
 case a0=>unfold upd;rw[if_neg hak,if_pos rfl]
 case step =>
  rintro j u s' hx ⟨H',ks,I',st',tb',hA',hK',hkl,xP⟩
  rw[L7]at hkl ⊢;have hj:j<its.length:=(A0.mp hx).1;have ht:ts[j]?=Z (ts.getD j []):=by simp[show j<ts.length by omega]
  have hv:ws[j]?=Z (ws.getD j V.non):=by simp[show j<ws.length by omega]
  generalize ts.getD j []=t at ht;generalize ws.getD j V.non=v at hv;obtain⟨u',hu',ru⟩:=y4.get hv;rw[hx]at hu';cases hu';have rp:Rep X.K FS (.tuple (HM.uQ t)) v:=rs.2 j _ v (by unfold HM.OP;rw[A1,ht];rfl) hv;have sub':Zp FS H':=λb o e=>st'.ntb (sub b o e) (nt b o e);have call1:wpAny (model X.prog X.w) X.A.in1.in1 (call (.ref q) [u]) (EP X sI Y λv' H2=>∃F',sQ FS H' F' H2/\Rep X.K F' (.tuple [.int (t.length:Int),.tuple (HM.uQ t)]) v') (λ_ _=>False) s':=by
   refine LV (Fm (Wv S tN uI C I'.env0.in1.in1 sub' hr2 tb' nt (us:=[u]) (vs:=[v]) (.cons ru .nil) (Zt.one rp) (gX t) (Q:=λv' H2=>∃F',sQ FS H' F' H2/\Rep X.K F' (.tuple [.int (t.length:Int),.tuple (HM.uQ t)]) v') λv' F' H2 x' r'=>⟨F',x',r'⟩) λrs s2 hq=>?_);cases rs with
   |error e=>exact Bv hq
   |ok fl =>
    cases fl with
    |ret u=>exact I'.after hq
    |next=>exact Bv hq
    |brk=>exact Bv hq
    |cont=>exact Bv hq
  refine Ac (LZ (Bw call1 (λu2 s2 he=>?_) λ_ _ hF=>hF.elim));obtain⟨v2,H2,I2,rv2,F2,x2,r2⟩:=he;have kh:KH H2 v2 t:=by obtain⟨kb,v3,v4,rfl,h1,h2,h3⟩:=Nr r2;obtain⟨c,rfl,h4⟩:=YJ h3;rw[h2.int_inv]at h1;exact⟨kb,c,rfl,x2.sub _ _ h1,x2.sub _ _ h4⟩
  have hK2:=x2.hh.ntb hK' rfl;obtain⟨zz,uB,nk,rk,lk,ek⟩:=I2.lstM hK2;have hz:ks.length+1<=sizeLine:=by rw[Bo];omega
  refine Ac (J2 ek rfl ?_ (by rw[Ax,<-lk];exact Nat.le_of_succ_le hz) (by show(uB.toArray.push u2).size<=_;rw[Array.size_push,Ax,<-lk];first|exact hz|exact Nat.le_succ_of_le hz))
  have I3:=I2.lset (f:=(·.push u2)) (its':=uB++[u2]) (ys:=ks++[v2]) (t':=s2.toks) hK2 ek (by simp) (rk.append (.cons rv2 .nil)) (by rw[AK];exact hz);have st3:AU H2 H2:=.refl _;have up:∀{b:Addr} {o:HO},b≠a+2->H2 b=Z o->upd H2 (a+2) (.lst (ks++[v2])) b=Z o:=λ{b o} hb e=>by unfold upd;rw[if_neg hb];exact e
  have tX:∀{b:Addr} {xs:List V},H2 b=Z (.tup xs)->b≠a+2:=λ{b xs} e z=>by rw[z,hK2]at e;cases e
  have khs:∀{v:V} {t:List Int},KH H2 v t->KH (upd H2 (a+2) (.lst (ks++[v2]))) v t:=λ{v t} ⟨kb,c,e,h1,h2⟩=>⟨kb,c,e,up (tX h1) h1,up (tX h2) h2⟩;refine Ag ⟨rfl,_,ks++[v2],I3,λb o e=>?_,?_,up hak (x2.hh.ntb hA' rfl),Zz,by rw[AK,hkl];rfl,λi t' v' e1 e2=>?_⟩
  .have hb:b≠a+2:=λz=>by rw[z,hHk]at e;cases e
   exact((st'.trans x2.hh) b o e).cong (by unfold upd;rw[if_neg hb])
  .exact(x2.tab tb').keep λb o e n=>up (λz=>by rw[z,hK2]at e;cases e;cases n) e
  .by_cases hi:i<ks.length
   .rw[DD hi]at e2
    exact khs ((xP i t' v' e1 e2).st x2.hh)
   .have hil:i<ks.length+1:=by
     have:=(A0.mp e2).1
     rwa [AK]at this
    obtain rfl:i=ks.length:=by omega
    rw[EI (Aj _),Nat.sub_self]at e2;cases e2;rw[hkl,ht]at e1;cases e1;exact khs kh
 case done =>
  rintro s' ⟨H',ks,I',st',tb',hA',hK',hkl,xP⟩
  rw[L7]at hkl;obtain⟨zz,uB,nk,rk,lk,ek⟩:=I'.lstM hK';refine Ac (listItems_at ek rfl ?_);have xo:uB.length=its.length:=by rw[<-lk,hkl]
  have hT:∀(i:Nat) t,ts[i]?=Z t->∃b,uB[i]?=Z (.ref b)/\KI s'.heap b t:=λi t e=>by
   have hi:i<ts.length:=(A0.mp e).1;have hv:ks[i]?=Z (ks.getD i V.non):=by simp[show i<ks.length by omega]
   obtain⟨u,hu,ru⟩:=rk.get hv;obtain⟨kb,rfl,x⟩:=(xP i t _ e hv).ki I' ru;exact⟨kb,hu,x⟩
  have zX:∀(ve:SortSt) (p:List Nat),p.Perm (Ah ts.length)->(p.map λi=>ts.getD i []).Pairwise (λx y=>HM.lexLt (HM.E1 y) (HM.E1 x)=Ab)->(arrOf ve).map (·.2)=(p.map λi=>its.getD i AM).toArray->failedOf ve=J ->
    wpAny (model X.prog X.w) X.A.in1.in1 (ksk_tail a Ab e1 (.ref (a+2)) ve) P E s':=by
   intro ve p hp hs yI hf;unfold ksk_tail;dsimp only;refine Ac (J2 ek rfl ?_ (by rw[Ax,Bo];omega) (BY _));have I7:=I'.lset (f:=λ_=>#[]) (its':=[]) (ys:=[]) (t':=s'.toks) hK' ek rfl .nil (BY _);have hA7:upd H' (a+2) (.lst []) a=Z (AA a (seqObj "list" #[] e1)):=by unfold upd;rw[if_neg hak];exact hA'
   have hga:=D5 (I7.hok a _ hA7);refine Ac (Ma ?_);refine Ac (O0 hga rfl ?_);rw[yI];simp only[DS,if_false];have hpl:p.length=ts.length:=by rw[hp.length_eq,Fe]
   have wG:(p.map λi=>its.getD i AM).toArray.size<=sizeLine:=by rw[Ax,Af,Bo];omega
   refine Ac (J2 hga rfl ?_ (BY _) (Nat.le_succ_of_le wG));rw[hf];simp only[bne_self_eq_false,DS,if_false];obtain⟨e2,hq⟩:∃e2,((s'.heap.update (a+2) (Ej λ_=>#[])).update a (Ej λ_=>(p.map λi=>its.getD i AM).toArray)).get? a=Z (seqObj "list" (p.map λi=>its.getD i AM).toArray e2):=⟨_,get?_update_seq hga λ_=>(p.map λi=>its.getD i AM).toArray⟩;have xl:sL (p.map λi=>ws.getD i V.non) (p.map λi=>its.getD i AM):=GF (by simp) λi v u e1 e2=>by rw[A1]at e1 e2;obtain⟨j,f1,f2⟩:=Ai.mp e1;rw[f1]at e2;have f3:its.getD j AM=u:=Ct e2;have hj:j<ts.length:=AS.mp (hp.mem_iff.mp (Bm f1));obtain⟨u3,g1,g2⟩:=y4.get (show ws[j]?=Z v by rw[<-f2];simp[show j<ws.length by omega]);rw[<-f3,show its.getD j AM=u3 by simp[Bn,g1]];exact g2
   have I8:=I7.write (x:=a) (e:=a) (o:=.lst (p.map λi=>ws.getD i V.non)) (t':=s'.toks) (by rw[hA7];exact trivial) (.inl rfl) (λb u hb e=>by rw[Ux _ _ _ _ hb];exact e) ⟨_,hq⟩ ⟨by rw[Af,Bo];omega,_,e2,xl,hq⟩;have hcut:upd (λb=>if b=a then J else upd H' (a+2) (.lst []) b) a (.lst (p.map λi=>ws.getD i V.non))=upd (upd H' (a+2) (.lst [])) a (.lst (p.map λi=>ws.getD i V.non)):=by
    funext b
    by_cases hb:b=a
    .subst hb;rw[Zz,Zz]
    .unfold upd
     rw[if_neg hb,if_neg hb];show(if b=a then J else _)=_;rw[if_neg hb]
   refine Ag (tL (λb=>if b=a then J else upd H' (a+2) (.lst []) b) (p.map λi=>ws.getD i V.non) _ (λb o e=>?_) ?_ (if_pos rfl) (by rw[hcut];exact I8) λF r=>?_)
   .have h1:b≠a:=λz=>by rw[z,xR]at e;cases e
    have h2:b≠a+2:=λz=>by rw[z,hHk]at e;cases e
    refine(st' b o e).cong ?_;show(if b=a then J else upd H' (a+2) (.lst []) b)=H' b;rw[if_neg h1];unfold upd;rw[if_neg h2]
   .intro T n hT
    obtain⟨ps,h1,h2,h3⟩:=tb' T n hT;have key:∀{b:Addr} {o:HO},b≠a->H' b=Z o->te o=Aa->(if b=a then J else upd H' (a+2) (.lst []) b)=Z o:=λ{b o} hb e n=>by rw[if_neg hb];unfold upd;rw[if_neg λz=>by rw[z,hK']at e;cases e;cases n];exact e
    refine⟨ps,key (λz=>by rw[z,hA']at h1;cases h1) h1 rfl,h2,λpos c hc=>?_⟩;obtain⟨b,o,q1,q2,q3⟩:=h3 pos c hc;refine⟨b,o,q1,key (λz=>?_) q2 rfl,q3⟩;have g1:=D5 (I'.hok b _ q2);have g2:=D5 (I'.hok a _ hA');rw[z,g2]at g1;cases g1;obtain⟨vs,tt,d1,_⟩:=q3;cases d1
   .have e:=ka (ts:=ts) (us:=p.map λi=>ts.getD i []) ?_ hs
    .rw[<-e];exact kz hp r
    .refine(hp.map _).trans ?_
     have:(Ah ts.length).map (λi=>ts.getD i [])=ts:=by refine Ud (by simp) λi h1 h2=>?_;simp[Bn,show i<ts.length by simpa using h1]
     rw[this]
  unfold ksk_end;dsimp only;simp only[DS,if_false]
  by_cases h2:its.toArray.size<2
  .rw[if_pos h2,if_pos h2]
   refine Ac (Ag ?_);rw[StateT.run_pure];refine Ac (Ag ?_);refine zX (SortSt.mk' general' (uB.toArray.zip its.toArray) #[] 7 J) (Ah ts.length) (.refl _) ?_ ?_ rfl
   .rw[Ax]at h2
    have:ts.length=0\/ts.length=1:=by omega
    rcases this with e|e<;>rw[e]<;>simp
   .rw[Ax]at h2
    show Array.map (·.2) (uB.toArray.zip its.toArray)=_;rw[<-hli]
    match its,uB,xo,h2 with
    |[],_,_,_=>simp
    |[v],[w],_,_=>simp
  .rw[if_neg h2,if_neg h2]
   rw[Ax]at h2;have tups:∀(vs:List Value) (ts:List (List Int)),ts.length=vs.length->(∀(i:Nat) t,ts[i]?=Z t->∃b,vs[i]?=Z (.ref b)/\KI s'.heap b t)->∃fs,PySem.W.KatTups s'.heap vs fs/\fs.length=vs.length/\∀v∈fs,∃x t,v=C9 x t:=by
    intro vs
    induction vs with
    |nil=>intro ts hl _;exact⟨[],PySem.W.KatTups.nil,rfl,by simp⟩
    |cons v vs ih =>
     intro ts hl hT;cases ts with
     |nil=>simp at hl
     |cons t ts =>
      obtain⟨fs,f1,f2,f3⟩:=ih ts (by simpa using hl) λi t e=>hT (i+1) t (by simpa using e);obtain⟨b,eb,o,n,tk,c,g1,g2,g3,g4⟩:=hT 0 t rfl;simp at eb;subst eb;refine⟨.int (t.length:Int) tk::fs,PySem.W.KatTups.cons g1 g2 g3 rfl f1,by simp[f2],λv hv=>?_⟩;rcases AE.mp hv with e|e
      .exact⟨_,tk,e⟩
      .exact f3 v e
   obtain⟨fs,f1,f2,f3⟩:=tups uB ts (by omega) hT;refine Ac (PySem.W.kat_kind (T:=.type "int") f1 (by omega) (λv hv=>?_) (by rfl) ?_)
   .obtain⟨x,t,rfl⟩:=f3 v hv
    exact PySem.W.Looks.of_pure rfl
   rw[show(Gf "int" != Gf "tuple")=Aa by decide];refine Ac (Bw (PySem.W.kat_run (ks:=uB) (vs:=its) (Q:=λve s2=>s2=s'/\∃p:Array Nat,Pm its.length p/\Up Je (λi=>HM.E1 (ts.getD i [])) p its.length/\arrOf ve=p.map (PySem.W.kas_item (uB.toArray.zip its.toArray))/\failedOf ve=J)
    (G:=λp s2=>s2=s'/\Pm its.length p/\Up Je (λi=>HM.E1 (ts.getD i [])) p its.length) xo (by omega) (by omega) (λp' ve s2 a1 a2 a3 a4=>⟨a4.1,p',a4.2.1,a4.2.2,a2,a3⟩) ?_) ?_ λ_ _ e=>e)
   .refine QB (o:=xw Je λi=>HM.E1 (ts.getD i [])) (n:=its.length) (λi j C hi hj hC=>?_) _ (Yc (by omega) λp h1 h2=>⟨rfl,h1,h2⟩)
    have gi:ts[i]?=Z (ts.getD i []):=by simp[show i<ts.length by omega]
    have gj:ts[j]?=Z (ts.getD j []):=by simp[show j<ts.length by omega]
    obtain⟨b1,v1,x1⟩:=hT i _ gi;obtain⟨b2,v2,x2⟩:=hT j _ gj;show wpAny (model X.prog X.w) X.A.in1.in1 (keyLt' _ (uB.getD i AM) (uB.getD j AM)) C _ _;rw[show uB.getD i AM=.ref b1 by simp[Bn,v1],show uB.getD j AM=.ref b2 by simp[Bn,v2]];exact VC hr2.units0 x1 x2 hC
   .rintro ⟨⟨⟩,ve⟩ s2 ⟨rfl,p,hp,hu,yI,hf⟩
    refine zX ve p.toList ?_ ?_ (PySem.W.kat_snds xo yI) hf
    .have:=UG.mp hp.perm
     rw[<-hli];simpa using this
    .rw[O4,UM]
     intro i j hi hj hij;have hsz:=hp.size;have q:=hu i j (DQ hij) (by rw[BB]at hj;omega);unfold Ka at q;rw[show p.getD i 0=p.toList[i] by simp[DR,show i<p.size by simpa using hi],show p.getD j 0=p.toList[j] by simp[DR,show j<p.size by simpa using hj]]at q;exact q
end
end
section
variable{X:Cx}{a:Expr}{pos p:Pos}
set_option maxHeartbeats 1600000 in
theorem mJ{k t:Nat}{params:Arguments}{body:Expr}{scope:Scope}{x:Str}{uF kp:Pos}{f:HM.BF}(hm:X.mg "sorted"=J)(hc:X.calm=Aa)(hr:ZP (k+3) X.A)(L:MP X t params body scope [] [])(S:Jp scope x [])(tN:∀(qual:Str) (sN:List (Str×Addr)) (pm cd uM u:Value),Iw (TL "<lambda>" qual params body scope sN pm cd uM) ⟨[u],[]⟩=pure [(x,u)])(uI:∀(qual:Str) (f:Addr) (cd:Value) (sN:List (Str×Addr)) (A:Around) (outer:List Env) (s:Shared) (H:Hp),ZP k (A.deeper (Ge qual scope s.heap.objs.size f cd sN))->XE (Hz X.prog X.w X.K X.mg X.base [x] qual scope f cd sN A outer s H) body My)(uw:∀y∈scope.names,y.2≠.free)(tZ:closureFor scope X.env=pure [])(ha:XB X a f)(hg:Gl X "sorted":=by rfl)(hs:Ad [a] X.env=[(Ab,eval a X.env)]:=by rfl)(he:backTo pos (Ad [a] X.env)=(Ab,eval a X.env)::backTo pos (Ad [] X.env):=by rfl)(hpl:(backTo pos (Ad [a] X.env)).any (·.1)=Ab:=by rfl):XF X (.Call (.Name "sorted" p) [a] [⟨Z "key",.Lambda params body scope uF,kp⟩] pos) (HM.aI f):=by
 intro r d h;unfold HM.aI at h;split at h
 case h_2=>cases h
 rename_i y hx;split at h
 case h_2=>cases h
 rename_i ds sW;split at h
 case h_2=>cases h
 rename_i ts hts;split at h
 case isFalse=>cases h
 rename_i wQ;cases h;intro sI s Y H Q I ⟨F0,H0,F,at_,kk⟩;refine IL (HH I hg hm NH ?_);refine callWith_kw (sS (Ep ha hx hs pos sI s Y H (λvs H1=>∃v fp F1,vs=[v]/\sQ F H F1 H1/\Ay X.K F1 H1 y v fp) I ⟨F0,H0,F,at_,λv fp F' H' x1 r1=>⟨v,fp,F',rfl,x1,r1⟩⟩) λus s1 ⟨vs,H1,I1,rv,v,fp,F1,e1,x1,r1⟩=>?_) he hpl;subst e1;obtain⟨u,rfl,ru⟩:=vals1 rv;obtain⟨l,ws,rfl,hq,rs⟩:=EZ x1.sub r1 sW;obtain rfl:u=Bb l:=ru;rw[Q2 hts]at rs;refine kws_cons (sS (Xm L I1 (at_.tbx x1) tZ) λu2 s2 ⟨q,H2,e2,I2,m⟩=>?_);subst e2;refine kws_nil ?_;have wK:=at_.ntx x1;have y3:Zp F1 H2:=λb o z=>m.hh.ntb (x1.sub b o z) (wK b o z);have hq2:tU X.K H2 l ws:=hq.imp (λz=>z.imp (λz=>m.hh.ntb z rfl) λ⟨o,z⟩=>⟨o,m.hh.ntb z rfl⟩) id;obtain⟨its,y4,pl,hz⟩:=I2.list hq2;obtain⟨o,ho,hcl',n,hd⟩:=pl.isList;have hlw:ws.length=ts.length:=by have:=rs.1;unfold HM.OP at this;rw[Af]at this;omega
 have hli:its.length=ts.length:=by rw[<-y4.length,hlw]
 have ff:Zp F1 (Ca F1 H2):=λb o z=>Wq y3 z;have s33:Zp (Ca F1 H2) H2:=λb o z=>by
  rcases KY z with⟨w,_⟩|w
  .exact w
  .exact y3 b o w
 have nt3:uN (Ca F1 H2):=λb o z=>by
  rcases KY z with⟨w1,w2⟩|w
  .unfold Ca at z
   split at z
   .cases z;rfl
   .exact wK b o z
  .exact wK b o w
 obtain⟨pm,uM,c,oc,m1,m2,m3⟩:=m.ex;have clo:vm X.K (Ca F1 H2) q params body scope [] []:=⟨_,pm,uM,c,oc,[],Jn m1,Jn m2,m3,λ_ _ _ z=>(by cases z),λy hy z=>absurd z (uw y hy),λ_ _ z=>(by cases z),rfl,λi y d z=>(by simp at z)⟩;refine call_function_entry_kw OZ OX OW (ksk_s1 _ _) ?_;unfold Builtin.«sorted»;refine Ac (m:=checkCount "sorted" 1 1 _) (Ag ?_);refine Ac (O3 l (.inl rfl) ho hcl' hd (λh' kp=>?_) (by rw[Ax,Bo];omega));refine Ac (J1 ?_ (by show its.toArray.toList.length<=_;rw[Bo,Uw];omega));have vg:(h'.push (seqObj "list" its.toArray 0)).get? h'.objs.size=Z (seqObj "list" its.toArray 0):=AZ _ rfl;refine Ac (Cu (wpAny_call_entry_kw L4 ⟨_,vg,rfl⟩ Mm ?_ (ksk_l1 _ _)));show wpAny _ X.A.in1.in1 (Builtin.«list.sort» ⟨[.ref h'.objs.size],[(C8 "key",.ref q)]⟩) _ _ _;rw[ksk_t1];have I3:Inv X sI Y H2 {s2 with heap:=h'}:=I2.kept (t':=s2.toks) kp;refine gv (s:={s2 with heap:=h'}) hr S tN uI I3 clo s33 nt3 m.tb y4 (rs.mono ff) wQ λH' ws' s' st' tb' hn I' rp=>⟨_,rfl,?_⟩;refine Ag ⟨_,rfl,.ref h'.objs.size,_,I',rfl,?_⟩;have x2:sQ F H F1 H':=⟨x1.ff,(x1.hh.trans m.hh).trans st',λb o z=>st'.ntb (y3 b o z) (wK b o z),x1.new,λ_=>tb',x1.nts⟩;exact EY (P:=λv _ H'=>Q v H') x2 (rp F1 rs) hn kk
end
end HP
namespace HP
open PySem PySem.W PyProof.Rows
section
variable{prog:Program}{w:World}{A:Around}{E:Value->Shared->Prop}{s:Shared}
def KR(h:Heap)(b:Addr)(k:List Int):Prop:=∃n t,k=n::t/\KP h b n t
theorem jx{a:Addr}{vs:List Value}{ks:List (List Int)}{n:Nat}{P:LX->Shared->Prop}(hu:A.units<cLine)(ho:s.heap.get? a=Z (seqObj "list" vs.toArray n))(hl:ks.length=vs.length)(hT:∀(i:Nat) k,ks[i]?=Z k->∃b,vs[i]?=Z (.ref b)/\KR s.heap b k)(wQ:vs.length<64)(h:∀p:List Nat,p.Perm (Ah vs.length)->(p.map λi=>ks.getD i []).Pairwise (λx y=>HM.lexLt y x=Ab)->P (.done (.ret .none)) {s with heap:=JR s.heap a vs (p.map λi=>vs.getD i AM).toArray}):wpAny (model prog w) A (Builtin.«list.sort» ⟨[.ref a],[]⟩) P E s :=
 W4 (R:=KR) (F:=λ_=>True) (λ⟨n,t,e,x⟩ k=>⟨n,t,e,x.keep k⟩) (λ_ ⟨m,t,_,o,n,tk,c,g1,g2,g3,_⟩=>⟨o,_,n,m,tk,g1,g2,g3,rfl⟩)
  (λ⟨m1,t1,q1,x1⟩ ⟨m2,t2,q2,x2⟩ hC=>VC hu x1 x2 (q1▸q2▸hC)) ho hl hT (.inr λ_ _=>trivial) wQ h
end
end HP
namespace HP
open PySem PySem.Spec PyProof.Rows L2
variable[FX]
theorem iS{ds:List PyData}:∀{ks:List (List Int)},HM.Kt ds=Z ks->ds.length=ks.length/\∀(i:Nat) k,ks[i]?=Z k->∃n t,k=n::t/\ds[i]?=Z (.tuple [.int n,.tuple (HM.uQ t)]):=by
 induction ds with
 |nil=>intro ks h;cases h;exact⟨rfl,λi k e=>by simp at e⟩
 |cons d ds ih =>
  intro ks h;unfold HM.Kt at h;split at h
  .rename_i q;cases q
  .rename_i n es r q
   cases q;split at h
   .rename_i t ht
    obtain⟨ks',h1,h2⟩:=Ai.mp h;subst h2;obtain⟨l1,l2⟩:=ih h1;refine⟨by simp[l1],λi k e=>?_⟩;cases i with
    |zero=>simp at e;subst e;exact⟨n,t,rfl,by rw[QN ht];rfl⟩
    |succ i=>exact l2 i k (by simpa using e)
   .cases h
  .cases h
section
variable{X:Cx}{a:Expr}{pos p:Pos}{f:HM.BF}
theorem mV(hc:X.calm=Aa)(hr:X.A.units+64<cLine):A6 X (.builtin "sorted") (λxs H Q=>∃p F ds vs ks,xs=[.ref p]/\Zp F H/\tU X.K H p vs/\Zt X.K F ds vs/\HM.Kt ds=Z ks/\ks.length<64/\∀l ws,H l=J->Zt X.K F ((HM.CY ks).map HM.unP) ws->Q (.ref l) (upd H l (.lst ws))):=by
 intro sI s Y H xs us Q I r h;obtain⟨p,F,ds,vs,ks,rfl,sub,hq,rv,xP,wQ,q⟩:=h;obtain⟨u,rfl,rx⟩:=vals1 r;cases rx;obtain⟨dl,dk⟩:=iS xP;have hvl:=rv.1;obtain⟨its,ru,pl,hz⟩:=I.list hq;obtain⟨o,ho,tZ,n,hd⟩:=pl.isList;have hul:=ru.length;refine UL OZ OX OW (args_sorted1 _) ?_;unfold Builtin.«sorted»;refine Ac (m:=checkCount "sorted" 1 1 _) (Ag ?_);refine Ac (O3 p (.inl rfl) ho tZ hd (λh' kp=>?_) (by rw[Ax,Bo];omega));refine Ac (J1 ?_ (by show its.toArray.toList.length<=_;rw[Bo,Uw];omega));have vg:(h'.push (seqObj "list" its.toArray 0)).get? h'.objs.size=Z (seqObj "list" its.toArray 0):=AZ _ rfl;have hT:∀(i:Nat) k,ks[i]?=Z k->∃b,its[i]?=Z (.ref b)/\KR (h'.push (seqObj "list" its.toArray 0)) b k:=λi k e=>by
  obtain⟨n,t,rfl,ed⟩:=dk i k e;obtain⟨v,hv,rp⟩:=rv.get ed;obtain⟨kb,v3,v4,rfl,h1,h2,h3⟩:=Nr rp;obtain⟨c,rfl,h4⟩:=YJ h3;rw[h2.int_inv]at h1;obtain⟨u,hu,ru'⟩:=ru.get hv;cases ru';obtain⟨_,jts,rj,o1,g1,g2,n1,g3⟩:=(show ZZ X.prog X.w H s.heap kb (.tup [.int n,.ref c]) from I.hok kb _ (sub _ _ h1));obtain⟨_,cts,rc,o2,f1,f2,n2,f3⟩:=(show ZZ X.prog X.w H s.heap c (.tup (t.map V.int)) from I.hok c _ (sub _ _ h4));cases rj with
  |cons q1 rj =>
   cases rj with
   |cons q2 rj=>cases rj;obtain⟨tk,rfl⟩:=q1;cases q2;exact⟨kb,hu,n,t,rfl,o1,n1,tk,c,Ar _ (kp _ _ g1),g2,g3,o2,cts.toArray,n2,Ar _ (kp _ _ f1),f2,f3,by simpa using GS rc⟩
 have tu:ks.length=its.length:=by omega
 refine Ac (Cu (En L4 ⟨_,vg,rfl⟩ Mm (jx (s:={s with heap:=h'.push (seqObj "list" its.toArray 0)}) (by show X.A.units+1+1<cLine;omega) vg tu hT (by omega) λpm hp hs=>⟨_,rfl,?_⟩) (Pn _)));refine Ag ⟨_,rfl,?_⟩;have hpl:pm.length=its.length:=by rw[hp.length_eq,Fe]
 have uC:∀i∈pm,i<its.length:=λi hi=>AS.mp (hp.mem_iff.mp hi);have e:(pm.map λi=>ks.getD i [])=HM.CY ks:=by
  refine WX ?_ hs;refine(hp.map _).trans ?_;have:(Ah its.length).map (λi=>ks.getD i [])=ks:=by refine Ud (by simp[tu]) λi h1 h2=>?_;simp at h1;simp[Bn,show i<ks.length by omega]
  rw[this]
 obtain⟨e1,he⟩:=sortedHeap_at (out:=(pm.map λi=>its.getD i AM).toArray) vg;have I1:Inv X sI Y H {s with heap:=h',toks:=s.toks}:=I.kept kp;have xl:sL (pm.map λi=>vs.getD i V.non) (pm.map λi=>its.getD i AM):=GF (by simp) λi v u e1 e2=>by rw[A1]at e1 e2;obtain⟨j,f1,f2⟩:=Ai.mp e1;rw[f1]at e2;have f3:its.getD j AM=u:=Ct e2;have hj:=uC j (Bm f1);obtain⟨u3,g1,g2⟩:=ru.get (show vs[j]?=Z v by rw[<-f2];simp[show j<vs.length by omega]);rw[<-f3,show its.getD j AM=u3 by simp[Bn,g1]];exact g2
 refine⟨.ref h'.objs.size,_,I1.laid (a:=h'.objs.size) (o:=.lst (pm.map λi=>vs.getD i V.non)) (t':=s.toks) (λb o e1=>?_) (Aj _) ⟨by rw[Af,Bo];omega,_,e1,xl,by simpa using he⟩,rfl,q _ _ (I1.hok.fresh (Aj _)) ?_⟩
 .exact Sq (As (Ao e1)) (Ar _ e1)
 .rw[<-e,Aw]
  refine⟨by simp,λi d v h1 h2=>?_⟩;rw[A1]at h1 h2;obtain⟨j,f1,f2⟩:=Ai.mp h1;rw[f1]at h2;have hj:=uC j (Bm f1);have hk:ks[j]?=Z (ks.getD j []):=by simp[show j<ks.length by omega]
  obtain⟨n',t',e3,e4⟩:=dk j _ hk;refine rv.2 j d v ?_ ?_
  .rw[e4,<-f2]
   show Z _=Z (HM.unP (ks.getD j []));rw[e3];rfl
  .have:Z (vs.getD j V.non)=Z v:=h2
   rw[<-this];simp[Bn,show j<vs.length by omega]
theorem kU(hm:X.mg "sorted"=J)(hc:X.calm=Aa)(hr:X.A.units+64<cLine)(ha:XB X a f)(hg:Gl X "sorted":=by rfl)(hs:Ad [a] X.env=[(Ab,eval a X.env)]:=by rfl):XF X (.Call (.Name "sorted" p) [a] [] pos) (HM.Oc f):=by
 intro r d h;unfold HM.Oc at h;split at h
 case h_2=>cases h
 rename_i x hx;split at h
 case h_2=>cases h
 rename_i ds sW;split at h
 case h_2=>cases h
 rename_i ks xP;split at h
 case isFalse=>cases h
 rename_i wQ;cases h;refine PE.imp (Er (mV hc hr) hg hm NH (Ep ha hx hs) (he:=hs)) λY H Q ⟨F0,H0,F,at_,k⟩=>?_;refine⟨F0,H0,F,at_,λv fp F1 H1 x1 r1=>?_⟩;obtain⟨l,vs,e1,hq,rs⟩:=EZ x1.sub r1 sW;subst e1;exact⟨l,F1,ds,vs,ks,rfl,x1.sub,hq,rs,xP,wQ,λl2 ws vD rw'=>EY (P:=λv _ H'=>Q v H') x1 rw' vD k⟩
end
section
variable{py uX:Pos}{y:Str}
section
variable{X:Cx}{N:List Str}{scope:Scope}{fr:List Str}{ue iter:Expr}{t9:List Expr}{tg:Expr}{pos:Pos}{fi:HM.IF}{vi:PyData->Option (List PyData)}{fc:HM.TF}{fe:HM.EF}
theorem nR(z i:Nat)(hN:X.N.Nodup)(uU:X.xe=λ_ _=>False)(tG:X.calm=Aa)(T:CS X N scope fr)(tN:∀cl C s H ex,Jd (ZL X N scope cl C s H ex) fr.length tg vi)(hi:XIE X tg iter fi)(hc:∀cl C s H ex,xc (ZL X N scope cl C s H ex) t9 fc)(he:∀cl C s H ex,XE (ZL X N scope cl C s H ex) ue fe)(xQ:X.N[i]?=Z y:=by rfl)(hy:X.env.scope.names.lookup y=Z .local:=by rfl)(xM:DB (.ListComp ue [⟨tg,iter,t9,0⟩] scope pos) (Z (.Name y py)) uX.line X.env=pure Aa:=by rfl)(hs:∀x,EA iter X.env x=pure x:=by intro _;rfl):XS X (.Assign [.Name y py] (.ListComp ue [⟨tg,iter,t9,0⟩] scope pos) uX) (HM.ZJ i (HM.Yp z (ET vi fi fc fe))):=by
 intro r o h;obtain⟨b,zi,e⟩:=Ai.mp h;subst e;unfold HM.Yp at zi;split at zi
 case h_2=>cases zi
 rename_i ds0 hb;split at zi
 case isFalse=>cases zi
 rename_i htn;cases zi;unfold ET at hb;split at hb
 .rename_i ds sW
  split at hb
  .rename_i vj
   obtain⟨out,uy,e⟩:=Ai.mp hb;cases e;intro sI s Y H E I ⟨F0,H0,F,at_,k⟩;obtain⟨FZ,_,sZ,aZ⟩:=at_.freeze z;obtain⟨cl,vL,tZ,vh⟩:=Oe (QW T I);rw[exec_Assign_Name_used _ _ _ _ xM];refine Ac (OU (Ac ?_));show wpAny _ X.A (do let _ <-comprehension (.ListComp ue [⟨tg,iter,t9,0⟩] scope pos) scope X.env _ (newList []) Ab (eval iter X.env) (Z (assign (.Name y py) X.env))) _ _ s;refine Ac (Bw (Us (use:=Z (assign (.Name y py) X.env)) (Q:=λ_ s'=>SP X sI E .next s') rfl hs vL T.kind T.names (sS (hi (HM.NU z r) ds sW sI s Y H (λz0 H'=>∃F',sQ FZ H F' H'/\zp X.K z0 ds F') I ⟨F0,H0,FZ,aZ,λz0 F' H' x q=>⟨F',x,q⟩⟩) λv s1 h1=>sS h1 λzA s2 h2=>?_)) (λ_ s' hq=>Ag (Ag hq)) λ_ _ e=>e)
   obtain⟨it,fp,tn,z0,H1,rfl,I2,W,ve,f2,F1,x1,yF⟩:=h2;have uD:∀b∈fp,b<s2.heap.objs.size:=λb hb=>let ⟨o,ho,_⟩:=W.obj 0 _ ve b hb;Ao ho
   refine DU (Pz T.cell (by intro y hy;simp at hy) (λh1 ug uk=>?_) T.kind);dsimp only at ug uk ⊢;generalize hP:s2.heap.push {cls:=.type "list",dict:=J,data:=.seq ([]:List Value).toArray}=h0 at ug uk ⊢;have hsz:h0.objs.size=s2.heap.objs.size+1:=by rw[<-hP,IB]
   have uW:s2.heap.objs.size<h0.objs.size:=by rw[hsz];exact IQ _
   have old:∀b o,s2.heap.get? b=Z o->h1.get? b=Z o:=λb o e=>uk.extBut b o (As (Dy (Ao e) uW)) (Ar _ (by rw[<-hP];exact Ar _ e));have hl:h1.get? s2.heap.objs.size=Z {cls:=.type "list",data:=.seq #[] 0}:=uk.extBut _ _ (As uW) (Ar _ (by rw[<-hP];exact AZ _ rfl));have I4:Inv (ZL X N scope cl h0.objs.size s2 H1 fp) [] (Bl fr.length J++Y) (upd H1 s2.heap.objs.size (.lst [])) {s2 with heap:=h1,toks:=s2.toks+([]:List (Str×Value)).length}:=QV T tZ vh I2 tG f2 uD rfl uW ug hl old;have ye:tn 0 h1:=W.keep _ _ _ ve λb _ o e=>old b o e;have vw:H s2.heap.objs.size=J:=x1.hh.free (I2.hok.fresh (Aj _));have vG:codeAny (model X.prog X.w) X.A (.compLoop (.ListComp ue [⟨tg,iter,t9,0⟩] scope pos) 0 (.ref it) (.ref s2.heap.objs.size) (compEnvC scope cl h0.objs.size X.env)) (compPost (model X.prog X.w) X.A X.xe (Z (assign (.Name y py) X.env)) (λ_ s'=>SP X sI E .next s') (.ref s2.heap.objs.size) h0.objs.size)
     {s2 with heap:=h1,toks:=s2.toks+([]:List (Str×Value)).length}:=by
    refine Q0 T I2 W f2 I4 ye (Aj _) uD tG (hc _ _ _ _ _) (he _ _ _ _ _) aZ x1 yF (tN _ _ _ _ _) vj uy λs' ⟨F',H',vs,I',x',hD',hFD',rs⟩=>?_;obtain⟨m,hn,_⟩:=id I'.loc;have IX:Inv X sI Y H' s':=Q4 (h':=s'.heap) I2 f2 (DQ uW) I' (TY _ _);have xa:H' h0.objs.size=J:=I'.free;have wL:h0.objs.size≠X.env.locals:=II (Dy I2.lt uW);have xx:∀z c,X.env.cells.lookup z=Z c->c≠h0.objs.size:=λz c hz=>by obtain⟨v,o,ho,_⟩:=I2.cell z c hz;exact As (Dy (Ao ho) uW)
    have neP:∀p∈X.pn++sI,p.1≠h0.objs.size:=λp hp=>As (Dy (Ao (I2.pin p hp).1) uW);show wpAny _ X.A (assign (.Name y py) X.env (.ref s2.heap.objs.size)) _ _ _;refine T4 (RB IX hN xQ (.inl hy) (v:=.ref s2.heap.objs.size) rfl (λs3 I3 hsa=>?_) (.inr hy));obtain⟨a,sa,ea⟩:=hsa;have neA:h0.objs.size≠a:=by
     rcases ea with e|e
     .rw[e];exact wL
     .exact A8 (xx _ _ e)
    refine⟨m,hn.sameBut sa neA,λh2 uo=>?_⟩;have xF:sQ F H F H':=⟨Zp.refl F,x'.hh,(sZ.trans x'.ff).trans x'.sub,λ_ _ h=>.inl h,x'.tab,id⟩;refine⟨_,H',I3.turned (t':=s3.toks) (it:=h0.objs.size) (λb o hb e=>(uo.2 b hb).trans e) xa wL (.inr (Bf I2.sz (DQ uW))) xx neP,k _ (BD F H') H' ((at_.grow xF.tups).storeNew at_ x'.hh (fp':=[s2.heap.objs.size]) (.ol hD' ⟨rs.1,λj d v h1 h2=>jE x'.sub 400 (Au.mp htn d (Bm h1)) (rs.2 j d v h1 h2)⟩) (by simp) λa ha=>?_)⟩;obtain rfl:a=s2.heap.objs.size:=by simpa using ha
    refine⟨?_,vw⟩;unfold BD;rw[hD'];cases z:F s2.heap.objs.size with
    |none=>rfl
    |some o=>have:=at_.sub _ _ z;rw[vw]at this;cases this
   exact Ul vG (W.self _ 0 _ _ _ ye vG)
  .cases hb
 .cases hb
end
section
variable{X:Cx}{N:List Str}{scope:Scope}{x:Str}{px:Pos}{ue iter:Expr}{t9:List Expr}{pos:Pos}{fi:HM.IF}{fc:HM.TF}{fe:HM.EF}
theorem mI(z i:Nat)(hN:X.N.Nodup)(uU:X.xe=λ_ _=>False)(tG:X.calm=Aa)(T:CS X N scope [x])(hi:XI X (.Name x px) iter fi)(hc:∀cl C s H ex,xc (ZL X N scope cl C s H ex) t9 fc)(he:∀cl C s H ex,XE (ZL X N scope cl C s H ex) ue fe)(xQ:X.N[i]?=Z y:=by rfl)(hy:X.env.scope.names.lookup y=Z .local:=by rfl)(xM:DB (.ListComp ue [⟨.Name x px,iter,t9,0⟩] scope pos) (Z (.Name y py)) uX.line X.env=pure Aa:=by rfl)(hs:∀x,EA iter X.env x=pure x:=by intro _;rfl):XS X (.Assign [.Name y py] (.ListComp ue [⟨.Name x px,iter,t9,0⟩] scope pos) uX) (HM.ZJ i (HM.Yp z (HM.ZA fi fc fe))):=by
 rw[Qv];exact nR z i hN uU tG T (Qd T) hi.e hc he xQ hy xM hs
end
end
end HP
namespace HP
open PySem PySem.Spec PySem.W PySem.Calls PyProof.Rows L2
variable[FX]
section
variable{X:Cx}{a b c e:Expr}{fa fb fc:HM.EF}{pos p:Pos}{f:HM.BF}
theorem lK(hc:X.calm=Aa):A6 X (.type "list") (λxs H Q=>∃p lo hi,xs=[.ref p]/\H p=Z (.rng lo hi)/\-1000000<lo/\lo<1000000/\-1000000<hi/\hi<1000000 /\
  ∀l,H l=J->Q (.ref l) (upd H l (.lst ((Ah (hi-lo).toNat).map λ(k:Nat)=>V.int (lo+k))))):=by
 intro sI s Y H xs us Q I r h;obtain⟨p,lo,hi,rfl,hp,h1,h2,h3,h4,q⟩:=h;obtain⟨u,rfl,rx⟩:=vals1 r;cases rx;obtain⟨t,u,v,ho⟩:=(show ZZ X.prog X.w H s.heap p (.rng lo hi) from I.hok p _ hp);have hn:Mt lo hi 1=((hi-lo).toNat:Nat):=by rw[rangeSize_one];split<;>omega
 refine call_list_range (I.ok.hd hc) ho (small_one (by omega) (by omega) (by omega) (by omega)) hn (by omega) λh' tk acc c' kp e tj=>?_;have rv:sL ((Ah (hi-lo).toNat).map λ(k:Nat)=>V.int (lo+k)) acc.toList:=by
  refine GF (by have z:acc.toList.length=acc.size:=BB;rw[Af,Fe,z,tj.1]) λi v u e1 e2=>?_;rw[A1]at e1;obtain⟨k,hk,rfl⟩:=Ai.mp e1;obtain⟨t,rfl⟩:=tj.2 i u (by rw[<-Ek];exact e2);have:k=i:=by have:=A0.mp hk;obtain⟨_,e⟩:=this;simpa using e.symm
  subst this;exact⟨t,by simp⟩
 exact⟨.ref s.heap.objs.size,_,I.laid (t':=tk) kp (Aj _) (show ZZ X.prog X.w _ h' _ (.lst ((Ah (hi-lo).toNat).map λ(k:Nat)=>V.int (lo+k))) from
  ⟨by rw[Af,Fe,Bo];omega,acc.toList,c',rv,by simpa using e⟩),rfl,q _ (I.hok.fresh (Aj _))⟩
theorem kT(hmt:X.mg "list"=J)(hm:X.mg "range"=J)(hc:X.calm=Aa)(ha:XE X a fa){p' pos':Pos}(hgt:Gl X "list":=by rfl)(hg:Gl X "range":=by rfl)(hs:Ad [a] X.env=[(Ab,eval a X.env)]:=by rfl)(uo:Ad [JO (.Name "range" p') [a] [] pos'] X.env=[(Ab,eval (JO (.Name "range" p') [a] [] pos') X.env)]:=by rfl):XF X (.Call (.Name "list" p) [.Call (.Name "range" p') [a] [] pos'] [] pos) (HM.N0 (HM.Ce fa)):=by
 intro r d hd;unfold HM.N0 at hd;split at hd
 .rename_i ds sW
  split at hd
  .cases hd
   unfold HM.Ce at sW;split at sW
   .rename_i j hj
    split at sW
    .rename_i hok
     cases sW;obtain⟨k1,k2⟩:=KN hok;refine PE.imp (FF (lK hc) hgt hmt Qx (Z3 (FF ay hg hm boot_range (Z3 (ha r _ hj) BV hs) (he:=hs)) BV uo) (he:=uo)) λY H Q ⟨F0,H0,F,at_,k⟩=>?_;refine⟨F0,H0,F,at_,λv F1 H1 x1 r1=>⟨j,by rw[r1.int_inv],λl hl=>?_⟩⟩;refine⟨l,0,j,rfl,Zz,by omega,by omega,by omega,by omega,λl2 vD=>?_⟩;have x2:=x1.lay' (o:=.rng 0 j) hl;have rp:=YB (K:=X.K) (F:=F1) 0 j.toNat;have ej:(j-0).toNat=j.toNat:=by omega
     rw[ej];exact EY (P:=λv _ H'=>Q v H') x2 rp vD k
    .cases sW
   .cases sW
  .cases hd
 .cases hd
end
end HP
namespace HP
open PySem PySem.Spec PyProof.Rows L2
def Va(P:Program)(w:World)(outer:List Env)(H:Hp)(s:Shared)(cls:Value)(e:Addr)(s':Shared)(G:Hp->Prop):Prop :=
 ∃(H':Hp) (B:Heap) (a0:Value),s'.os=s.os/\AllBare s'.gens/\Un (t4 outer) [] H H' s.heap s'.heap/\tK P w H' s'.heap/\L6 B outer e cls a0 s'.heap /\
  (∀b u o,H' b=Z u->s'.heap.get? b=Z o->B.get? b=Z o)/\(∀b o,s.heap.get? b=Z o->H b=J->b∉t4 outer->B.get? b=Z o) /\
  (∀b o,s.heap.get? b=Z o->b∉t4 outer->∃o',B.get? b=Z o')/\G H'
def w5(P:Program)(w:World):xH:=λouter H s E v s'=>∃e cls,v=.ref e/\Va P w outer H s cls e s' (E cls J)
theorem Nf{P:Program}{w:World}{H:Hp}{h:Heap}{a:Addr}{o:HO}(x:ZZ P w H h a o):∃ob,h.get? a=Z ob:=by
 cases o with
 |lst xs=>obtain⟨_,_,_,_,q⟩:=x;exact⟨_,q⟩
 |tup xs=>obtain⟨_,_,_,_,q,_⟩:=x;exact⟨_,q⟩
 |dK kvs=>obtain⟨_,_,_,_,_,_,_,q,_⟩:=x;exact⟨_,q⟩
 |dT kvs=>obtain⟨_,_,_,_,_,_,_,q,_⟩:=x;exact⟨_,q⟩
 |set S n=>obtain⟨_,_,_,_,q,_⟩:=x;exact⟨_,q⟩
 |ins C dx fs=>obtain⟨_,_,_,q,_⟩:=x;exact⟨_,q⟩
 |own y=>exact x
 |xd fs=>obtain⟨_,⟨_,_,_,q,_⟩,_⟩:=x;exact⟨_,q⟩
 |rng lo hi=>obtain⟨_,_,_,q⟩:=x;exact⟨_,q⟩
 |frz ob u=>exact⟨_,x.1⟩
 |tbl ps=>exact⟨_,x⟩
 |met f y=>exact⟨_,x⟩
 |ext φ=>exact x.2.1
section
variable{P:Program}{w:World}{outer:List Env}{H H':Hp}{s:Shared}{h1 h2 B:Heap}
theorem VT(frm:∀b∈t4 outer,∀o,s.heap.get? b=Z o->∀ws,o.data≠.fields ws)(frh:∀b∈t4 outer,H b=J)(U:Un (t4 outer) [] H H' s.heap h1)(hok:tK P w H' h1)(c1:∀b u o,H' b=Z u->h1.get? b=Z o->B.get? b=Z o)(c2:∀b o,s.heap.get? b=Z o->H b=J->b∉t4 outer->B.get? b=Z o)(c3:∀b o,s.heap.get? b=Z o->b∉t4 outer->∃o',B.get? b=Z o')(st:B.StaysIn h2)(sl:h1.UpToSlots h2):Un (t4 outer) [] H H' s.heap h2/\tK P w H' h2/\∀b u o,H' b=Z u->h2.get? b=Z o->B.get? b=Z o:=by
 have keep:∀b u o,H' b=Z u->h1.get? b=Z o->h2.get? b=Z o:=λb u o e q=>st b o (c1 b u o e q);have slot:∀b o,s.heap.get? b=Z o->H b=J->b∈t4 outer->∃sl,h2.get? b=Z {o with slots:=sl}:=λb o e n hb=>by obtain⟨s1,q⟩:=U.slot b o e n hb (by simp);obtain⟨s2,q2⟩:=sl b _ q (λws=>frm b hb o e ws);exact⟨s2,q2⟩
 refine⟨⟨λb o e n hb _=>st b o (c2 b o e n hb),λb o e n hb _=>slot b o e n hb,U.free,λb o e _=>?_,U.tups,U.frzs,U.tbls⟩,λb u e=>?_,λb u o e q=>?_⟩
 .by_cases hb:b∈t4 outer
  .obtain⟨s2,q⟩:=slot b o e (frh b hb) hb
   exact⟨_,q⟩
  .obtain⟨o',q⟩:=c3 b o e hb
   exact⟨o',st b o' q⟩
 .refine(hok b u e).stay (λc v hc q=>?_) (λ_ q=>q) λ_ _ q=>q
  rcases hc with z|z
  .subst z;exact keep c u v e q
  .exact keep c _ v z q
 .obtain⟨o',q'⟩:=Nf (hok b u e)
  have:=keep b u o' e q';rw[q]at this;cases this;exact c1 b u o e q'
end
section
variable{X:Cx}{sI:List (Addr×Obj)}{Y:L2.St}{H:Hp}{s:Shared}
theorem iO(I:Inv X sI Y H s):∀b∈t4 X.outer,∀o,X.s₀.heap.get? b=Z o->∀ws,o.data≠.fields ws:=λb hb o e ws=>by obtain⟨_,o',q,n⟩:=I.ok.funs.mem hb;rw[e]at q;cases q;exact n ws
theorem Inv.base0(wx:X.ex=[])(I:Inv X sI Y H s):Un (t4 X.outer) [] X.H₀ H X.s₀.heap s.heap:=by have:=I.base;rw[wx]at this;exact this
theorem MR(I:Inv X sI Y H s){b:Addr}{o:Obj}(q:X.s₀.heap.get? b=Z o)(n:b∉t4 X.outer):b∉t4 X.stack:=λz=>by
 rcases AE.mp (I.stkSub b z)with y|y
 .have:=Ao q
  rw[y]at this;exact absurd (Bz this I.ok.above) (EC _)
 .exact n y
theorem Xg(wx:X.ex=[])(I:Inv X sI Y H s){h2 B:Heap}{e:Addr}{cls a0:Value}{G:Hp->Prop}(FL:L6 B X.outer e cls a0 h2)(sl:s.heap.UpToSlots h2)(c1:∀b u o,H b=Z u->s.heap.get? b=Z o->B.get? b=Z o)(d2:∀b o,X.s₀.heap.get? b=Z o->X.H₀ b=J->b∉t4 X.outer->B.get? b=Z o)(d3:∀b o,X.s₀.heap.get? b=Z o->b∉t4 X.outer->∃o',B.get? b=Z o')(g:G H):Va X.prog X.w X.outer X.H₀ X.s₀ cls e {s with heap:=h2} G:=by
 obtain⟨u1,u2,u3⟩:=VT (iO I) I.ok.frf (Inv.base0 wx I) I.hok c1 d2 d3 FL.1 sl;exact⟨H,B,a0,I.os,I.bare,u1,u2,FL,u3,d2,d3,g⟩
structure P0(X:Cx)(E:XK):Prop where
 own:∀(sI:List (Addr×Obj)) (Y:L2.St) (H:Hp) (s:Shared) (h':Heap) (e:Addr) (cls:Value) (vs:List Value),Inv X sI Y H s->Heap.MadeExcOf s.heap h' e cls vs->E cls J H->X.xe (.ref e) {s with heap:=h'}
 pass:ub (w5 X.prog X.w) X E
end
section
variable{P:Program}{w:World}{K:Ae}{mg:Str->Option Value}{base:Heap}{N:List Str}{qual:Str}{scope:Scope}{f:Addr}{cd:Value}{A:Around}{outer:List Env}{s:Shared}{H:Hp}{E:XK}
theorem gf:P0 (CO (w5 P w) P w K mg base N qual scope f cd A outer s H E) E:=by
 generalize hX:CO (w5 P w) P w K mg base N qual scope f cd A outer s H E=X;have hP:X.prog=P:=by rw[<-hX];rfl
 have hw:X.w=w:=by rw[<-hX];rfl
 have vf:X.stack=X.env::X.outer:=by rw[<-hX];rfl
 have wx:X.ex=[]:=by rw[<-hX];rfl
 have vh:X.env.frame=Z X.env.locals:=by rw[<-hX];rfl
 have uU:∀v s',X.xe v s'=wpAny (model X.prog X.w) X.A (leaving X.env v) (λ_ s''=>w5 X.prog X.w X.outer X.H₀ X.s₀ E v s'') (λe' s''=>w5 X.prog X.w X.outer X.H₀ X.s₀ E e' s'') s':=by intro v s';rw[<-hX];rfl
 constructor
 .intro sI Y H1 s1 h' e cls vs I hm g
  rw[uU];have fr:X.A.frames=Z (X.env::X.outer):=by rw[<-vf];exact I.ok.frames
  have zf:∀env∈X.env::X.outer,∀a,env.frame=Z a->a∈t4 X.stack:=λenv he a ha=>by rw[vf];exact Fg.mpr ⟨env,he,ha⟩
  have hfs:s1.heap.FunFrames X.base (X.env::X.outer):=by rw[<-vf];exact I.stack
  refine wpAny_leaves_madeW (base:=PySem.W.hideAll s1.heap (t4 X.stack)) (s:={s1 with heap:=h'}) fr vh (λb o q=>aQ _ q) (PySem.W.funFrames_hide hfs zf) hm λh2 t fl _ _ sl=>?_;refine⟨e,cls,rfl,Xg (s:=s1) wx I fl ((Heap.UpToSlots.of_keeps hm.keeps).trans sl) (λb u o q1 q2=>Py _ q2 λz=>?_) (λb o q n hb=>?_) (λb o q hb=>?_) g⟩
  .rw[I.stkFree b z]at q1;cases q1
  .exact Py _ ((Inv.base0 wx I).keep b o q n hb (by simp)) (MR I q hb)
  .obtain⟨o',q'⟩:=(Inv.base0 wx I).there b o q (by simp)
   exact⟨o',Py _ q' (MR I q hb)⟩
 .intro sI Y H1 s1 v s' I hc
  obtain⟨e,cls,rfl,H',B,a0,os,bare,U,hok,FL,c1,c2,c3,g⟩:=hc;rw[uU];have fr:X.A.frames=Z (X.env::X.outer):=by rw[<-vf];exact I.ok.frames
  have I':Inv X sI Y H' s':=I.call' os U hok bare λb z=>absurd z (by simp);rw[vf]at FL;refine wpAny_leaves_onW fr vh FL λh2 fl sl=>?_;refine⟨e,cls,rfl,Xg (s:=s') wx I' fl sl c1 (λb o q n hb=>?_) (λb o q hb=>?_) g⟩
  .exact c2 b o ((Inv.base0 wx I).keep b o q n hb (by simp)) ((Inv.base0 wx I).free b o q n (by simp)) (MR I q hb)
  .obtain⟨o',q'⟩:=(Inv.base0 wx I).there b o q (by simp)
   exact c3 b o' q' (MR I q hb)
end
end HP
namespace HP
open PySem PySem.Spec PyProof.Rows L2
variable{M:List PyData->Option Str}{x:Str}
variable[FX]
def tR(X:Cx)(E:XK)(r:HM.Env)(x:Str):TS:=λ_ Y H=>vt X.K r Y H λF0 H0 F=>∀F' H' v,sQ F0 H0 F' H'->X.mg x=Z v->E v J H'
def XR(X:Cx)(E:XK)(st:Stmt)(g:HM.RF):Prop:=∀r x,g r=Z x->PS X st (tR X E r x)
def xS(X:Cx)(E:XK)(wt:List Stmt)(g:HM.RF):Prop:=∀r x,g r=Z x->uA X wt (tR X E r x)
section
variable{X:Cx}{E:XK}{st:Stmt}{wt rest:List Stmt}{g g':HM.RF}{m:HM.SF}{pos p:Pos}{e:Expr}{es:List Expr}{f:HM.AF}
theorem bW:XR X E st HM.rNo:=λr x h=>by cases h
theorem ir(h1:XR X E st g)(h2:XS X st m)(h3:xS X E rest g'):xS X E (st::rest) (HM.VZ g m g'):=by
 intro r x h;unfold HM.VZ at h;split at h
 .rename_i y q
  cases h;refine uA.imp (HY (h1 r _ q) GR) λD Y H ⟨F0,H0,F,at_,k⟩=>?_;exact⟨F0,H0,F,at_,k⟩
 .split at h
  .rename_i r' q
   refine uA.imp (HY (h2 r _ q) (h3 r' x h)) λD Y H ⟨F0,H0,F,at_,k⟩=>?_;exact⟨F0,H0,F,at_,λσ' F' H' at'=>⟨F0,H0,F',at',k⟩⟩
  .cases h
theorem cR{t:HM.TF}{c:Expr}{sa sb:List Stmt}(hc:XT X c t)(ha:xS X E sa g)(hb:xS X E sb g'):XR X E (.If c sa sb pos) (HM.rIf t g g'):=by
 intro r o ho;unfold HM.rIf at ho;split at ho
 .rename_i q
  refine PS.imp (MO (hc r _ q) (ha r o ho) GR) λD Y H ⟨F0,H0,F,at_,k⟩=>?_;exact⟨F0,H0,F,at_,λF' H' x=>Hu ⟨F0,H0,F',at_.grow x,k⟩⟩
 .rename_i q
  refine PS.imp (MO (hc r _ q) GR (hb r o ho)) λD Y H ⟨F0,H0,F,at_,k⟩=>?_;exact⟨F0,H0,F,at_,λF' H' x=>Hv ⟨F0,H0,F',at_.grow x,k⟩⟩
 .cases ho
theorem f7{C:Addr}{B vJ yZ:String}{bm:List Value}{np tE:Pos}(fl:P0 X E)(hc:X.calm=Aa)(O:OwnCls x C bm vJ X.mg X.base)(FB:ExcBaseFacts B vJ yZ bm)(ha:XA X (e::es) f)(hg:Gl X x:=by rfl)(uh:(x==("__debug__":Str))=Ab:=by decide)(he:Ad (e::es) X.env=(Ab,eval e X.env)::Ad es X.env:=by rfl)(hpl:(backTo tE (Ad es X.env)).any (·.1)=Ab:=by rfl)(hl:(e::es).length<=sizeLine:=by decide):XR X E (.Raise (Z (.Call (.Name x np) (e::es) [] tE)) J pos) (HM.oO x f):=by
 intro r y h;unfold HM.oO at h;split at h
 case h_2=>cases h
 rename_i ds sW;cases h;intro sI s Y H D I ⟨F0,H0,F,at_,k⟩;obtain⟨tl,N,nm,q,bs,hdct,sn,sub,ab,col,dd,k0,k1,k2,k3,k5,mN,hC,hN,hni,T⟩:=O.obj;refine wpAny_Raise_call_subT (C:=C) (nm:=nm) (q:=q) (N:=N) (bs:=bs) (bm:=tl) (hdct:=hdct) (sn:=sn) (sub:=sub) (ab:=ab) (col:=col) (dd:=dd) (k0:=k0) (k1:=k1) (k2:=k2) (k3:=k3) (k5:=k5) (mN:=mN)
  FB (T.hasType FB.hasBase) (I.ok.hd hc) ?_ hni (KQ I hg O.bound ⟨rfl,?_⟩ uh)
 .rw[he];show(Ab||(backTo tE (Ad es X.env)).any (·.1))=Ab;rw[hpl];rfl
 have h:=ha.pa r ds sW tE sI s Y H (λvs H2=>∃F2,sQ F H F2 H2/\vs.length=ds.length) I ⟨F0,H0,F,at_,λvs F2 H2 x2 q2=>⟨F2,x2,q2.1.symm⟩⟩;have zH:=ha.len r ds sW;rw[he]at h ⊢;refine PB (Bw h (λus s2 ⟨vs,H2,I2,r2,F2,x2,l2⟩=>?_) λ_ _ y=>y);have kp:=I2.bk;exact⟨rfl,by rw[<-r2.length,l2,zH];exact hl,kp _ _ hC,hN.keeps kp,T.keeps kp,λh' e' hm=>fl.own sI Y H2 s2 h' e' _ _ I2 hm (k F2 H2 (.ref C) (at_.ext.trans x2) O.bound)⟩
def spR(K:Ae)(mg:Str->Option Value)(n:Nat)(M:List PyData->Option Str):Sp:=λvs H _ E=>∃F ds x,vs.length=n/\Zp F H/\Tb H/\uN F/\Zt K F ds vs/\M ds=Z x/\∀F' H' v,sQ F H F' H'->mg x=Z v->E v J H'
structure FE(P:Program)(w:World)(K:Ae)(mg:Str->Option Value)(base:Heap)(k:Nat)(x:Str)(M:List PyData->Option Str):Prop where
 ex:∃f fd ps,(∀ds d,M ds=Z d->ds.length=ps.length)/\Cc P w K mg base (w5 P w) k f fd ps (spR K mg ps.length M)/\mg x=Z (.ref f)/\Ef K (.ref f)=Aa/\Binds K fd ps []
theorem FE.mono{P:Program}{w:World}{K:Ae}{mg:Str->Option Value}{base:Heap}{j k:Nat}{x:Str}{M:List PyData->Option Str}(C:FE P w K mg base j x M)(h:j<=k):FE P w K mg base k x M:=by obtain⟨f,fd,ps,l,F,r⟩:=C.ex;exact⟨f,fd,ps,l,F.mono h,r⟩
theorem gn{k:Nat}(hp:ub (w5 X.prog X.w) X E)(C:FE X.prog X.w X.K X.mg X.base k x M)(hr:ZP k X.A)(ha:XA X (e::es) f){r:HM.Env}{y:Str}(h:HM.nS M f r=Z y)(hg:Gl X x)(uh:(x==("__debug__":Str))=Ab)(he:Ad (e::es) X.env=(Ab,eval e X.env)::Ad es X.env)(hpl:(backTo pos (Ad es X.env)).any (·.1)=Ab):PE X (.Call (.Name x p) (e::es) [] pos) λY H _=>vt X.K r Y H λF0 H0 F=>∀F' H' v,sQ F0 H0 F' H'->X.mg y=Z v->E v J H':=by
 unfold HM.nS at h;split at h
 case h_2=>cases h
 rename_i ds sW;obtain⟨fa,fd,ps,hl,F,hm,hk,hb⟩:=C.ex;refine PE.imp (KJ (E:=E) F hr hg hm hk hb .nil hp (ha.pa r ds sW) uh he hpl) λY H Q ⟨F0,H0,F1,at_,kk⟩=>?_;refine⟨F0,H0,F1,at_,λvs F' H' x1 q=>?_⟩;show spR X.K X.mg ps.length M (vs++[]) H' Q E;rw[B6];exact⟨F',ds,y,by rw[<-q.1];exact hl ds _ h,x1.sub,at_.tbx x1,at_.ntx x1,q,h,λF2 H2 v x2 hv=>kk F2 H2 v (at_.ext.trans (x1.trans x2)) hv⟩
theorem de{k:Nat}{epos:Pos}(hp:ub (w5 X.prog X.w) X E)(C:FE X.prog X.w X.K X.mg X.base k x M)(hr:ZP k X.A)(ha:XA X (e::es) f)(hg:Gl X x:=by rfl)(uh:(x==("__debug__":Str))=Ab:=by decide)(he:Ad (e::es) X.env=(Ab,eval e X.env)::Ad es X.env:=by rfl)(hpl:(backTo pos (Ad es X.env)).any (·.1)=Ab:=by rfl):XR X E (.Return (Z (.Call (.Name x p) (e::es) [] pos)) epos) (HM.nS M f):=λr y h=>PS.imp (Kq (gn hp C hr ha h hg uh he hpl)) λD Y H t=>t
end
theorem kY{P:Program}{w:World}{K:Ae}{mg:Str->Option Value}{base:Heap}{k:Nat}{qual:Str}{st:Stmt}{f:Addr}{fd:FuncData}{N ps:List Str}{g:HM.RF}(Fn:vF K x qual st f fd)(S:Zs N ps (Ze st))(hm:mg x=Z (.ref f))(hb:Binds K fd ps [])(body:∀(sO:Value) (A:Around) (outer:List Env) (s:Shared) (H:Hp) (E:XK),ZP k (A.deeper (envOfC qual (Ze st) s.heap.objs.size f sO))->xS (CO (w5 P w) P w K mg base N qual (Ze st) f sO A outer s H E) E (BU st) g):FE P w K mg base (k+1) x (HM.WV ps.length N.length g):=by
 have hpl:ps.length<=N.length:=by have:=congrArg BC S.pre;rw[Fd]at this;omega
 refine⟨f,fd,ps,λds d h=>?_,?_,hm,Fn.kp,hb⟩
 .unfold HM.WV at h
  split at h
  .assumption
  .cases h
 .obtain⟨oc,od,kV,ui,pm,an,sO,ct,vo,rfl,lk,tF⟩:=Fn.ex
  refine PY lk tF S (λvs H Q E h=>?_) λA outer s H vs Q E hr h=>?_
  .obtain⟨_,_,_,h,_⟩:=h
   exact h
  .obtain⟨F,ds,y,hl,sub,tb,nt,q,hM,kk⟩:=h
   unfold HM.WV at hM;split at hM
   .exact⟨_,body sO A outer s H E hr _ _ hM,F,H,F,Jk (N:=N) sub tb nt q (by omega),λF' H' v x1 hv=>kk F' H' v x1 hv⟩
   .cases hM
end HP
namespace HP
open PySem PySem.W PyProof.Rows
section
variable{K:Frag}{e:Addr}{t c:Value}
theorem eL(q:kitOne K t c=Z Aa):Answers (λs=>K.In s.heap/\∃o,s.heap.get? e=Z o/\o.cls=t) (.ref e) c Aa:=by
 intro dep tk prog w A R s hs;obtain⟨h0,g,d,tt,os⟩:=s;obtain⟨⟨X,o,h1,h2⟩,hq⟩:=hs;have LT:Looks (model prog w) h0 (typeOf (.ref e)) t:=h2▸(Looks.ld h1).andThen .now;unfold kitOne at q;unfold Builtin.«isinstance.nested»;refine Ac (LT.at ?_)
 by_cases z:(t==c)=Aa
 .rw[if_pos z]
  first
   |exact Ac (Hh (hq tt))
   |exact Ac (Hh (Ag (hq tt)))
 .rw[if_neg z]at q
  rw[if_neg z];obtain⟨c1,c2,c3⟩:=kit_cls (M:=model prog w) X q;refine Ac (c1.at ?_);rw[if_pos (by decide)]
  k_delta "plainIsInstance"
  refine Ac (Ac (c2.at ?_));simp only[TH,DS,if_false];refine Ac ((LT.andThen c3).at ?_)
  first
   |exact Ag (Ag (hq tt))
   |(simp only[if_true];first|exact Ag (Ag (hq tt))|exact Ag (hq tt)|exact Ac (Ag (Ag (hq tt))))
theorem eJ{prog:Program}{w:World}{A:Around}{E:Value->Shared->Prop}{s:Shared}{Q:Value->Shared->Prop}(X:K.In s.heap)(ho:∃o,s.heap.get? e=Z o/\o.cls=t)(q:kitOne K t c=Z Aa)(h:∀tk,Q (.bool Aa) {s with toks:=tk}):wpAny (model prog w) A (call (.builtin "isinstance") [.ref e,c]) Q E s :=
 call_isinstance (S:=λ_ R s=>(K.In s.heap/\∃o,s.heap.get? e=Z o/\o.cls=t)/\∀tk,R (.ok (.ret (.bool Aa))) {s with toks:=tk})
  (λprog w A R s hs=>isinstance_outer (eL q 0 _ prog w A R s hs) (by intro z;cases z)) ⟨⟨X,ho⟩,h⟩
end
end HP
namespace HP
open PySem PySem.Spec PyProof.Rows L2
abbrev Fz(X:Cx)(e:Addr):Cx:={X with A:=X.A.mark (Z (.ref e)),calm:=Ab,xe:=λ_ _=>False}
abbrev DH(X:Cx)(pn:List (Addr×Obj))(Eh:Value->Shared->Prop):Cx:={X with pn:=pn,xe:=Eh}
section
variable{X:Cx}{sI:List (Addr×Obj)}{Y:L2.St}{H:Hp}{s:Shared}
theorem WW(I:Inv X sI Y H s)(e:Addr):Inv (Fz X e) sI Y H s :=
 ⟨⟨I.ok.mod,I.ok.kind,I.ok.glob,I.ok.blt,I.ok.above,I.ok.inj,I.ok.has,I.ok.cab,λz=>absurd (show Ab=Aa from z) (by simp),I.ok.frames,I.ok.stk,I.ok.exf,I.ok.bs,I.ok.bsz,I.ok.noex,I.ok.exfs,I.ok.funs,I.ok.frf⟩,I.os,I.bare,I.base,I.loc,I.cell,I.free,I.freeC,I.pin,I.hok,I.len⟩
theorem kK(ok:X.Ok){e:Addr}(I:Inv (Fz X e) sI Y H s):Inv X sI Y H s:=⟨ok,I.os,I.bare,I.base,I.loc,I.cell,I.free,I.freeC,I.pin,I.hok,I.len⟩
theorem U6(ok:X.Ok)(pn:List (Addr×Obj))(Eh:Value->Shared->Prop):(DH X pn Eh).Ok:=⟨ok.mod,ok.kind,ok.glob,ok.blt,ok.above,ok.inj,ok.has,ok.cab,ok.hd,ok.frames,ok.stk,ok.exf,ok.bs,ok.bsz,ok.noex,ok.exfs,ok.funs,ok.frf⟩
theorem cz(I:Inv X sI Y H s)(Eh:Value->Shared->Prop):Inv (DH X (X.pn++sI) Eh) [] Y H s :=
 ⟨U6 I.ok _ Eh,I.os,I.bare,I.base,I.loc,I.cell,I.free,I.freeC,λp hp=>I.pin p (by simpa using hp),I.hok,I.len⟩
theorem ib(ok:X.Ok){wj:List (Addr×Obj)}{Eh:Value->Shared->Prop}(I:Inv (DH X (X.pn++sI) Eh) wj Y H s):Inv X sI Y H s :=
 ⟨ok,I.os,I.bare,I.base,I.loc,I.cell,I.free,I.freeC,λp hp=>I.pin p (De _ hp),I.hok,I.len⟩
theorem i7(I:Inv X sI Y H s){h':Heap}{m':Str->Option Value}{t':Nat}(hn:h'.Ns X.env.locals m')(hs:EB X.env.locals s.heap h'):Inv X sI (Bl X.N.length J) H {s with heap:=h',toks:=t'}:=by
 have k:∀{b:Addr} {o:Obj},b≠X.env.locals->s.heap.get? b=Z o->h'.get? b=Z o:=λ{b o} hb e=>(hs.2 b hb).trans e;have wL:∀{b:Addr} {o:Obj},X.s₀.heap.get? b=Z o->b≠X.env.locals:=λ{b o} e=>As (Bz (Ao e) I.ok.above);have trk:∀{b:Addr} {u:HO},H b=Z u->b≠X.env.locals:=λ{b u} e z=>by rw[z,I.free]at e;cases e
 refine⟨I.ok,I.os,I.bare,⟨λb o e n hb hx=>k (wL e) (I.base.keep b o e n hb hx),λb o e n hb hx=>?_,I.base.free,λb o e hx=>?_,I.base.tups,I.base.frzs,I.base.tbls⟩,⟨m',hn,λi x v _ h=>?_⟩,λx c e=>?_,I.free,I.freeC,λp hp=>?_,λb u e=>?_,by simp⟩
 .obtain⟨sl,q⟩:=I.base.slot b o e n hb hx
  exact⟨sl,k (wL e) q⟩
 .obtain⟨o',q⟩:=I.base.there b o e hx
  exact⟨o',k (wL e) q⟩
 .rw[Ms]at h
  split at h<;>cases h
 .obtain⟨v,o,q,d⟩:=I.cell x c e
  exact⟨v,o,k (I.cne x c e) q,d⟩
 .obtain⟨q1,q2,q3,q4⟩:=I.pin p hp
  exact⟨k q3 q1,q2,q3,q4⟩
 .refine(I.hok b u e).stay (λc v hc q=>k ?_ q) (λ_ q=>q) λ_ _ q=>q
  rcases hc with z|z
  .rw[z];exact trk e
  .exact trk z
variable{H':Hp}{s':Shared}{e:Addr}{cls a0:Value}{B:Heap}{G:V->Hp->Prop}{Q:Flow->Shared->Prop}{E:Value->Shared->Prop}{cx n:Str}{c0:Value}{np hp:Pos}{b₀:Stmt}{yz:List Stmt}{rest:List ExceptHandler}{j:Nat}
theorem dZ(vf:X.stack=X.env::X.outer)(vh:X.env.frame=Z X.env.locals)(I:Inv X sI Y H s)(os:s'.os=s.os)(bare:AllBare s'.gens)(U:Un (t4 X.stack) [] H H' s.heap s'.heap)(hok:tK X.prog X.w H' s'.heap)(FL:L6 B X.stack e cls a0 s'.heap)(c1:∀b u o,H' b=Z u->s'.heap.get? b=Z o->B.get? b=Z o)(c2:∀b o,s.heap.get? b=Z o->H b=J->b∉t4 X.stack->B.get? b=Z o)(c3:∀b o,s.heap.get? b=Z o->b∉t4 X.stack->∃o',B.get? b=Z o')(hg:Gl X cx)(xA:X.mg cx=Z c0)(wx:Pl X.K cls c0=Z Aa)(uh:(cx==("__debug__":Str))=Ab)(hN:X.N.Nodup)(hj:X.N[j]?=Z n)(u4:X.env.scope.names.lookup n=Z .local)(yc:∀s7 oe,oe.cls=cls->Inv (Fz X e) sI (Y.set j (Z (.ref e))) (upd H' e (AA e oe)) s7->wpAny (model X.prog X.w) (X.A.mark (Z (.ref e))) (execs (b₀::yz) X.env) (λf s8=>∃u v σ8 H8,f=.ret u/\Inv (Fz X e) sI σ8 H8 s8/\RelV v u/\G v H8) (λ_ _=>False) s7)(tL:∀u v H8 σ8 s9,Inv X sI σ8 H8 s9->RelV v u->G v H8->Q (.ret u) s9):wpAny (model X.prog X.w) X.A (noteFrame (.ref e) X.env) (λ_ s₂=>wpAny (model X.prog X.w) X.A (setFlight (.ref e) J) (λ_ s₃=>wpAny (model X.prog X.w) X.A (handleBy (.ref e) X.env (.ExceptHandler (Z (.Name cx np)) (Z n) (b₀::yz) hp::rest)) Q E s₃) E s₂) E s':=by
 have fr:X.A.frames=Z (X.env::X.outer):=by rw[<-vf];exact I.ok.frames
 have frm:∀b∈t4 X.stack,∀o,s.heap.get? b=Z o->∀ws,o.data≠.fields ws:=λb hb o q ws=>by obtain⟨_,o',q',nf⟩:=I.stack.mem hb;rw[q]at q';cases q';exact nf ws
 have FL0:L6 B (X.env::X.outer) e cls a0 s'.heap:=by rw[<-vf];exact FL
 refine wpAny_looks_onW fr vh FL0 λh4 held4 sl4=>?_;refine wpAny_landsW held4 λh5 FL5 sl5=>?_;have step:∀{h:Heap},L6 B (X.env::X.outer) e cls a0 h->s'.heap.UpToSlots h->Un (t4 X.stack) [] H H' s.heap h/\tK X.prog X.w H' h:=λ{h} fl sl=>by obtain⟨u1,u2,_⟩:=VT frm (λb hb=>I.stkFree b hb) U hok c1 c2 c3 fl.1 sl;exact⟨u1,u2⟩
 obtain⟨u5,hok5⟩:=step FL5 (sl4.trans sl5);have I5:Inv X sI Y H' {s' with heap:=h5}:=I.call' (s':={s' with heap:=h5}) os u5 hok5 bare λb z=>absurd z (by simp);obtain⟨ob,ux,hobc⟩:=FL5.there;refine wpAny_handleBy_cons (codeAny_handlers_test (KQ (X:=Fz X e) (WW I5 e) hg xA ?_ uh)) (by intro q;cases q);have LT:PySem.W.Looks (model X.prog X.w) h5 (typeOf (.ref e)) cls:=hobc▸(PySem.W.Looks.ld ux).andThen .now;refine(PySem.W.exm_one I5.kIn LT wx).here ?_;refine codeAny_handlers_suite_as (lands_againW FL5 λh6 FL6 sl6=>?_);obtain⟨u6,hok6⟩:=step FL6 (sl4.trans (sl5.trans sl6));obtain⟨oe,hoe,hoec⟩:=FL6.there;have hBe:B.get? e=J:=FL6.2.1;have hse:s.heap.get? e=J:=by
  cases q:s.heap.get? e with
  |none=>rfl
  |some o =>
   by_cases hb:e∈t4 X.stack
   .exfalso
    have hb':e∈t4 (X.env::X.outer):=by rw[<-vf];exact hb
    obtain⟨_,o',q',nf⟩:=FL6.2.2.1.mem hb';obtain⟨oe',vs,q2,_,q3,_⟩:=FL6.first
    rw[q']at q2;cases q2;exact nf vs q3
   .obtain⟨o',q'⟩:=c3 e o q hb
    rw[hBe]at q';cases q'
 have hHe:H e=J:=by
  cases q:H e with
  |none=>rfl
  |some u=>obtain⟨o,q'⟩:=Nf (I.hok e u q);rw[hse]at q';cases q'
 have hHe':H' e=J:=by
  cases q:H' e with
  |none=>rfl
  |some u=>obtain⟨o,q'⟩:=Nf (hok e u q);have:=c1 e u o q q';rw[hBe]at this;cases this
 have ne:∀{b:Addr} {u:HO},H' b=Z u->b≠e:=λ{b u} q z=>by rw[z,hHe']at q;cases q
 have up:∀{b:Addr} {u:HO},H' b=Z u->upd H' e (AA e oe) b=Z u:=λ{b u} q=>by unfold upd;rw[if_neg (ne q)];exact q
 have u7:Un (t4 X.stack) [] H (upd H' e (AA e oe)) s.heap h6:=⟨u6.keep,u6.slot,λb o q n hx=>by
  have hb:b≠e:=λz=>by rw[z,hse]at q;cases q
  unfold upd;rw[if_neg hb];exact u6.free b o q n hx,u6.there,λb xs q=>up (u6.tups b xs q),λb o u q=>up (u6.frzs b o u q),λb ps q=>by
  obtain⟨more,q'⟩:=u6.tbls b ps q;exact⟨more,up q'⟩⟩
 have hok7:tK X.prog X.w (upd H' e (AA e oe)) h6:=λb u q=>by
  by_cases hb:b=e
  .subst hb
   rw[Zz]at q;cases q;exact Ji hoe
  .have q':H' b=Z u:=by unfold upd at q;rw[if_neg hb]at q;exact q
   exact(hok6 b u q').stay (λ_ _ _ q=>q) (λc q=>up q) λc xs q=>up q
 have I6:Inv X sI Y (upd H' e (AA e oe)) {s' with heap:=h6}:=I.call' (s':={s' with heap:=h6}) os u7 hok7 bare λb z=>absurd z (by simp);refine QK (X:=Fz X e) (i:=j) (v:=.ref e) (WW I6 e) hN hj (.inl u4) rfl (λs7 I7=>?_) (.inr u4);refine Bw (yc s7 oe hoec I7) (λf s8 hf=>?_) λ_ _ z=>Bv z;obtain⟨u,v,σ8,H8,rfl,I8,rv,g⟩:=hf;have I8':=kK I.ok I8;obtain⟨m8,hn8,_⟩:=I8'.loc;refine wpAny_nameGoes u4 hn8 (by rw[I.ok.kind];rfl) λh9 m9 hn9 hs9=>?_;exact tL u v H8 _ _ (i7 I8' hn9 hs9) rv g
end
end HP
namespace HP
open PySem PySem.Spec PyProof.Rows L2
variable{j:Nat}{p1 p2:Pos}{n:Str}
variable[FX]
section
variable{X:Cx}{pos p:Pos}
theorem jk:A6 X (.builtin "isinstance") (λxs H Q=>∃e w oe,xs=[.ref e,w]/\H e=Z (AA e oe)/\(∀c,RelV w c->IA X.K oe.cls c=Z Aa)/\Q (.bl Aa) H):=by
 intro sI s Y H xs us Q I r h;obtain⟨e,w,oe,rfl,he,hk,q⟩:=h;cases r with
 |cons r1 r =>
  cases r with
  |cons r2 r=>cases r;cases r1;exact eJ I.kIn ⟨oe,D5 (I.hok e _ he),rfl⟩ (hk _ r2) λtk=>⟨.bl Aa,H,I.tok tk,rfl,q⟩
def pI(j:Nat)(w:V)(X:Cx):TE:=λY H Q=>∃e oe,Y[j]?=Z (Z (.ref e))/\H e=Z (AA e oe)/\(∀c,RelV w c->IA X.K oe.cls c=Z Aa)/\Q (.bl Aa) H
theorem Wm{y:Str}{w:V}(hm:X.mg "isinstance"=J)(hy:PE X (.Name y p2) (tC w))(hN:X.N[j]?=Z n)(hv:vk X.env.scope n)(hd:(n==("__debug__":Str))=Ab)(tF:(n==("__classdict__":Str))=Ab)(hg:Gl X "isinstance")(vc:Ad [.Name n p1,.Name y p2] X.env=(Ab,eval (.Name n p1) X.env)::Ad [.Name y p2] X.env)(uo:Ad [.Name y p2] X.env=[(Ab,eval (.Name y p2) X.env)]):PE X (.Call (.Name "isinstance" p) [.Name n p1,.Name y p2] [] pos) (pI j w X):=by
 refine PE.imp (Er jk hg hm Y0 (Z3 (CI hN hv hd tF) (Z3 hy BV (by rw[uo];rfl)) vc) (he:=vc) (hpl:=by rw[uo];rfl)) λY H Q ⟨e,oe,h1,h2,h3,h4⟩=>?_;exact⟨_,h1,e,w,oe,rfl,h2,h3,h4⟩
theorem fk{g:HM.RF}{m:HM.SF}{hd:Str->Option PyData}{body:List Stmt}{cx y1 y2:Str}{c0:Value}{w1 w2:V}{np hp rp lp q1 q2 r1 r2 z1 z2:Pos}(vf:X.stack=X.env::X.outer)(vh:X.env.frame=Z X.env.locals)(uU:X.xe=λ_ _=>False)(hN:X.N.Nodup)(hm:vV X body m)(hR:∀(pn:List (Addr×Obj)) (Eh:Value->Shared->Prop) (E0:XK),ub (w5 X.prog X.w) (DH X pn Eh) E0->xS (DH X pn Eh) E0 body g)(hmi:X.mg "isinstance"=J)(xA:X.mg cx=Z c0)(hy1:∀(e:Addr) (pn:List (Addr×Obj)),PE (Fz (DH X pn λ_ _=>False) e) (.Name y1 r1) (tC w1))(hy2:∀(e:Addr) (pn:List (Addr×Obj)),PE (Fz (DH X pn λ_ _=>False) e) (.Name y2 r2) (tC w2))(hh:∀x d,hd x=Z d->d=.list [.bool Aa,.bool Aa]/\∃cls,X.mg x=Z cls/\Pl X.K cls c0=Z Aa/\(∀c,RelV w1 c->IA X.K cls c=Z Aa)/\∀c,RelV w2 c->IA X.K cls c=Z Aa)(hj:X.N[j]?=Z n:=by rfl)(u4:X.env.scope.names.lookup n=Z .local:=by rfl)(hg0:Gl X cx:=by rfl)(uh:(cx==("__debug__":Str))=Ab:=by decide)(hgi:Gl X "isinstance":=by rfl)(hdn:(n==("__debug__":Str))=Ab:=by decide)(tF:(n==("__classdict__":Str))=Ab:=by decide)(e1:Ad [.Name n q1,.Name y1 r1] X.env=(Ab,eval (.Name n q1) X.env)::Ad [.Name y1 r1] X.env:=by rfl)(e2:Ad [.Name y1 r1] X.env=[(Ab,eval (.Name y1 r1) X.env)]:=by rfl)(e3:Ad [.Name n q2,.Name y2 r2] X.env=(Ab,eval (.Name n q2) X.env)::Ad [.Name y2 r2] X.env:=by rfl)(e4:Ad [.Name y2 r2] X.env=[(Ab,eval (.Name y2 r2) X.env)]:=by rfl)(e5:∀a b:Expr,Ad [.Call (.Name "isinstance" p1) [a,b] [] z1,.Call (.Name "isinstance" p2) [.Name n q2,.Name y2 r2] [] z2] X.env=(Ab,eval (.Call (.Name "isinstance" p1) [a,b] [] z1) X.env)::Ad [.Call (.Name "isinstance" p2) [.Name n q2,.Name y2 r2] [] z2] X.env:=by intros;rfl)(e6:Ad [.Call (.Name "isinstance" p2) [.Name n q2,.Name y2 r2] [] z2] X.env=[(Ab,eval (.Call (.Name "isinstance" p2) [.Name n q2,.Name y2 r2] [] z2) X.env)]:=by rfl):XS X (.Try body [.ExceptHandler (Z (.Name cx np)) (Z n) [.Return (Z (.List [.Call (.Name "isinstance" p1) [.Name n q1,.Name y1 r1] [] z1,.Call (.Name "isinstance" p2) [.Name n q2,.Name y2 r2] [] z2] lp)) rp] hp] [] [] pos) (HM.lx g hd m):=by
 intro r o h;unfold HM.lx at h;split at h
 .rename_i x hx
  obtain⟨d,hd1,yH⟩:=Ai.mp h;subst yH;obtain⟨rfl,cls,yX,k0,k1,k2⟩:=hh x d hd1;intro sI s Y H D I ⟨F0,H0,F,at_,k⟩;refine wpAny_Try_except ?_;generalize hEh:(λe s₁=>wpAny (model X.prog X.w) X.A (noteFrame e X.env) (λ_ s₂=>wpAny (model X.prog X.w) X.A (setFlight e J) (λ_ s₃=>wpAny (model X.prog X.w) X.A (handleBy e X.env _) (SP X sI D) X.xe s₃) X.xe s₂) X.xe s₁)=Eh;have hP:ub (w5 X.prog X.w) (DH X (X.pn++sI) Eh) (λv _ H'=>X.mg x=Z v/\∃F',sQ F0 H0 F' H'):=by
   intro wj σ1 H1 s1 v s' I1 hc;obtain⟨e,cls',rfl,H',B,a0,os,bare,U,hok,FL,c1,c2,c3,yo,F',x1⟩:=hc;rw[yX]at yo;cases yo;have I1n:Inv (DH X (X.pn++sI) λ_ _=>False) wj σ1 H1 s1:=⟨U6 I.ok _ _,I1.os,I1.bare,I1.base,I1.loc,I1.cell,I1.free,I1.freeC,I1.pin,I1.hok,I1.len⟩;show Eh (.ref e) s';rw[<-hEh];refine dZ (X:=DH X (X.pn++sI) λ_ _=>False) (j:=j) (G:=λv H8=>∃F8,sQ F0 H0 F8 H8/\Rep X.K F8 (.list [.bool Aa,.bool Aa]) v) vf vh I1n os bare U hok FL c1 c2 c3 hg0 xA k0 uh hN hj u4 (λs7 oe hoe I7=>?_) λu v H8 σ8 s9 I9 rv ⟨F8,x8,q8⟩=>?_
   .subst hoe
    have sJ:j<σ1.length:=by rw[I1.len];exact(A0.mp hj).1
    have hsj:(σ1.set j (Z (.ref e)))[j]?=Z (Z (V.ref e)):=by simp[sJ]
    have pa:PA (Fz (DH X (X.pn++sI) λ_ _=>False) e) [.Call (.Name "isinstance" p1) [.Name n q1,.Name y1 r1] [] z1,.Call (.Name "isinstance" p2) [.Name n q2,.Name y2 r2] [] z2] _ :=
     Z3 (Wm (j:=j) (w:=w1) hmi (hy1 e _) hj (.inl u4) hdn tF hgi e1 e2) (Z3 (Wm (j:=j) (w:=w2) hmi (hy2 e _) hj (.inl u4) hdn tF hgi e3 e4) BV e6) (e5 _ _)
    refine Bw (Qq (Kq (VB pa)) wj s7 (σ1.set j (Z (.ref e))) (upd H' e (AA e oe)) {nx:=λ_ _=>False,rt:=λv H8=>∃F8,sQ F0 H0 F8 H8/\Rep X.K F8 (.list [.bool Aa,.bool Aa]) v} I7 ?_) (λf s8 hf=>?_) λ_ _ z=>z
    .have hHe:H' e=J:=by
      cases q:H' e with
      |none=>rfl
      |some u=>obtain⟨o,q'⟩:=Nf (hok e u q);have:=c1 e u o q q';rw[FL.2.1]at this;cases this
     have x2:=x1.lay' (o:=AA e oe) hHe;refine⟨e,oe,hsj,Zz,k1,e,oe,hsj,Zz,k2,(show 2<=sizeLine by decide),λpp hpp=>?_⟩;exact⟨_,x2.lay (o:=.lst [.bl Aa,.bl Aa]) hpp,.lst (.of Zz) rfl (Zt.cons (.bl Aa) (.one (.bl Aa))).2⟩
    .cases f with
     |ret u=>obtain⟨v,σ8,H8,I8,rv,q⟩:=hf;exact⟨u,v,σ8,H8,rfl,I8,rv,q⟩
     |next=>obtain⟨_,_,_,q⟩:=hf;exact q.elim
     |brk=>obtain⟨_,_,_,q⟩:=hf;exact q.elim
     |cont=>obtain⟨_,_,_,q⟩:=hf;exact q.elim
   .exact⟨v,σ8,H8,ib I.ok I9,rv,k v F8 H8 x8 q8⟩
  refine Bw (hR _ Eh _ hP r x hx [] s Y H {nx:=λ_ _=>False,rt:=λ_ _=>False} (cz I Eh) ⟨F0,H0,F,at_,λF' H' v x1 hv=>⟨hv,F',x1⟩⟩) (λf s1 hf=>?_) λe s1 he=>he;cases f with
  |ret u=>obtain⟨_,_,_,_,_,q⟩:=hf;exact q.elim
  |next=>obtain⟨_,_,_,q⟩:=hf;exact q.elim
  |brk=>obtain⟨_,_,_,q⟩:=hf;exact q.elim
  |cont=>obtain⟨_,_,_,q⟩:=hf;exact q.elim
 .intro sI s Y H D I t
  refine wpAny_Try_except (Bw (hm r o h sI s Y H D I t) (λf s1 hf=>?_) λe s1 he=>?_)
  .cases f with
   |next=>exact Mo hf
   |ret u=>exact hf
   |brk=>exact hf
   |cont=>exact hf
  .rw[uU]at he;exact he.elim
end
end HP
namespace HP
open PySem PySem.Spec PyProof.Rows L2
section
variable{h:Heap}{np:Pos}{K:Ae}{cx x:Str}{mg:Str->Option Value}
theorem nC:B5 "ValueError"=Z (.type "ValueError"):=by decide +kernel
theorem di{C:Addr}{bmB:List Value}{vJ:String}(X:K.In h)(hm:mg x=Z (.ref C))(q:OR K C bmB vJ=Aa):OwnCls x C bmB vJ mg h:=by
 refine⟨hm,?_⟩;unfold OR at q;split at q
 case h_2=>cases q
 rename_i d0 c0 s0 h0;split at q
 case h_2=>cases q
 rename_i C1 tl v0 v1 v2 v3 nn v5 h1 h2;rw[AI,AI,AI,AI,AI,beq_iff_eq,beq_iff_eq,beq_iff_eq,TR]at q;obtain⟨⟨⟨⟨⟨rfl,rfl⟩,q1⟩,q2⟩,q3⟩,q4⟩:=q;cases c0 with
 |mk nm bs mro ns qn hd sn sub ab col del =>
  dsimp only at h1 q1 q3 q4;subst h1 q1;have e:s0=#[v0,v1,v2,v3,Z (.builtin nn),v5]:=by
   cases s0 with
   |mk l=>simp only at h2;rw[h2]
  subst e;exact⟨tl,ns,nm,qn,bs,hd,sn,sub,ab,col,d0,v0,v1,v2,v3,v5,_,X _ _ h0,.of_isNs (PySem.W.isNs_of_in X q3),PySem.W.nsMap_none_of_in X q3 q4,PySem.W.tail_of_in X q2⟩
structure MB(K:Ae)(mg:Str->Option Value)(cx x:Str):Prop where
 ex:∃C0 C1:Addr,mg cx=Z (.ref C0)/\mg x=Z (.ref C1)/\OR K C1 [.type "ValueError",.type "Exception",.type "BaseException",.type "object"] "ValueError.__new__"=Aa/\Pl K (.ref C1) (.ref C0)=Z Aa/\IA K (.ref C1) (.type "ValueError")=Z Aa
theorem qz{C0 C1:Addr}(X:K.In h)(G:h.Ns Bh mg)(a:Fj K Bh cx=Z (Z (.ref C0)))(b:Fj K Bh x=Z (Z (.ref C1)))(c:OR K C1 [.type "ValueError",.type "Exception",.type "BaseException",.type "object"] "ValueError.__new__"=Aa)(d:Pl K (.ref C1) (.ref C0)=Z Aa)(e:IA K (.ref C1) (.type "ValueError")=Z Aa):MB K mg cx x :=
 ⟨C0,C1,Iy X G a,Iy X G b,c,d,e⟩
variable[FX]
section
variable{X:Cx}{E:XK}{pos:Pos}{e:Expr}{es:List Expr}{f:HM.AF}{st:Stmt}{wt rest:List Stmt}{g:HM.RF}
theorem dU:xS X E wt HM.rNo:=λr x h=>by cases h
theorem QJ(h1:XR X E st g):xS X E (st::rest) g:=λr x h=>uA.imp (HY (h1 r x h) GR) λD Y H ⟨F0,H0,F,at_,k⟩=>⟨F0,H0,F,at_,k⟩
theorem km{tE:Pos}(fl:P0 X E)(hc:X.calm=Aa)(T:MB X.K X.mg cx x)(ha:XA X (e::es) f)(hg:Gl X x:=by rfl)(uh:(x==("__debug__":Str))=Ab:=by decide)(he:Ad (e::es) X.env=(Ab,eval e X.env)::Ad es X.env:=by rfl)(hpl:(backTo tE (Ad es X.env)).any (·.1)=Ab:=by rfl)(hl:(e::es).length<=sizeLine:=by decide):XR X E (.Raise (Z (.Call (.Name x np) (e::es) [] tE)) J pos) (HM.oO x f):=by
 obtain⟨C0,C1,h0,h1,h2,h3,h4⟩:=T.ex;intro r y h sI s Y H D I t;exact f7 fl hc (di I.mod.kin h1 h2) PySem.F.excBase_ValueError ha hg uh he hpl hl r y h sI s Y H D I t
theorem gO{m:HM.SF}{body:List Stmt}{n:Str}{j:Nat}{hp rp lp p1 p2 q1 q2 r1 r2 z1 z2:Pos}(T:MB X.K X.mg cx x)(hmv:X.mg "ValueError"=J)(hmi:X.mg "isinstance"=J)(vf:X.stack=X.env::X.outer)(vh:X.env.frame=Z X.env.locals)(uU:X.xe=λ_ _=>False)(hN:X.N.Nodup)(hm:vV X body m)(hR:∀(pn:List (Addr×Obj)) (Eh:Value->Shared->Prop) (E0:XK),ub (w5 X.prog X.w) (DH X pn Eh) E0->xS (DH X pn Eh) E0 body g)(hj:X.N[j]?=Z n:=by rfl)(u4:X.env.scope.names.lookup n=Z .local:=by rfl)(hg0:Gl X cx:=by rfl)(hg1:Gl X x:=by rfl)(wA:Gl X "ValueError":=by rfl)(uh:(cx==("__debug__":Str))=Ab:=by decide)(hdx:(x==("__debug__":Str))=Ab:=by decide)(hgi:Gl X "isinstance":=by rfl)(hdn:(n==("__debug__":Str))=Ab:=by decide)(tF:(n==("__classdict__":Str))=Ab:=by decide)(e1:Ad [.Name n q1,.Name x r1] X.env=(Ab,eval (.Name n q1) X.env)::Ad [.Name x r1] X.env:=by rfl)(e2:Ad [.Name x r1] X.env=[(Ab,eval (.Name x r1) X.env)]:=by rfl)(e3:Ad [.Name n q2,.Name "ValueError" r2] X.env=(Ab,eval (.Name n q2) X.env)::Ad [.Name "ValueError" r2] X.env:=by rfl)(e4:Ad [.Name "ValueError" r2] X.env=[(Ab,eval (.Name "ValueError" r2) X.env)]:=by rfl)(e5:∀a b:Expr,Ad [.Call (.Name "isinstance" p1) [a,b] [] z1,.Call (.Name "isinstance" p2) [.Name n q2,.Name "ValueError" r2] [] z2] X.env=(Ab,eval (.Call (.Name "isinstance" p1) [a,b] [] z1) X.env)::Ad [.Call (.Name "isinstance" p2) [.Name n q2,.Name "ValueError" r2] [] z2] X.env:=by intros;rfl)(e6:Ad [.Call (.Name "isinstance" p2) [.Name n q2,.Name "ValueError" r2] [] z2] X.env=[(Ab,eval (.Call (.Name "isinstance" p2) [.Name n q2,.Name "ValueError" r2] [] z2) X.env)]:=by rfl):XS X (.Try body [.ExceptHandler (Z (.Name cx np)) (Z n) [.Return (Z (.List [.Call (.Name "isinstance" p1) [.Name n q1,.Name x r1] [] z1,.Call (.Name "isinstance" p2) [.Name n q2,.Name "ValueError" r2] [] z2] lp)) rp] hp] [] [] pos) (HM.lx g (HM.hdT x) m):=by
 obtain⟨C0,C1,h0,h1,h2,h3,h4⟩:=T.ex;refine fk (j:=j) (c0:=.ref C0) (w1:=.ref C1) (w2:=.ty "ValueError") vf vh uU hN hm hR hmi h0 (λe pn=>QC hg1 h1 rfl hdx) (λe pn=>V3 wA hmv nC rfl (by decide) (by decide)) (λy d hd=>?_) hj u4 hg0 uh hgi hdn tF e1 e2 e3 e4 e5 e6;unfold HM.hdT at hd;split at hd
 .rename_i hy
  cases hd;rw[beq_iff_eq.mp hy];refine⟨rfl,.ref C1,h1,h3,λc rc=>?_,λc rc=>?_⟩
  .obtain rfl:c=.ref C1:=rc
   unfold IA;rw[if_pos (by simp)]
  .obtain rfl:c=.type "ValueError":=rc
   exact h4
 .cases hd
end
end
end HP
namespace HM
open PySem
variable{i:Int}{ds:List D}{n:Nat}
theorem D7{α:Type}{c:TF}{e:EF}{r:Env}(g:α->D)(p:α->Bool)(f:α->D):∀(xs:List α),(∀x∈xs,c (Z (.pl (g x))::r)=Z (p x))->(∀x∈xs,p x=Aa->e (Z (.pl (g x))::r)=Z (f x))->Bc c e r (xs.map g)=Z ((xs.filter p).map f)
 |[],_,_=>rfl
 |x::xs,h1,h2=>by
  have ih:=D7 g p f xs (λy hy=>h1 y (Ap _ hy)) (λy hy=>h2 y (Ap _ hy));have hc:=h1 x (Am ..);rw[Ak];unfold Bc;rw[hc];cases hp:p x with
  |true=>have he:=h2 x (Am ..) hp;dsimp only;rw[he];dsimp only;rw[ih,bA hp];rfl
  |false=>dsimp only;rw[ih,bz (by simp[hp])]
theorem CM{α:Type}{e:EF}{r:Env}(g:α->D)(f:α->D)(xs:List α)(h:∀x∈xs,e (Z (.pl (g x))::r)=Z (f x)):Bc ZK e r (xs.map g)=Z (xs.map f):=by rw[D7 g (λ_=>Aa) f xs (λ_ _=>rfl) λx hx _=>h x hx,Mb.mpr λ_ _=>rfl]
theorem M9{α:Type}{i:Nat}{body:SF}(g:α->D)(P:List α->Env->Prop)(xs:List α)(r:Env)(h0:P [] r)(hs:∀pre x post r,xs=pre++x::post->P pre r->∃r',body (r.set i (Z (.pl (g x))))=Z (.nx r')/\P (pre++[x]) r'):∃r',ZN i body (xs.map g) r=Z (.nx r')/\P xs r':=by
 have key:∀(post pre:List α) (r:Env),xs=pre++post->P pre r->∃r',ZN i body (post.map g) r=Z (.nx r')/\P xs r':=by
  intro post
  induction post with
  |nil=>intro pre r e h;rw[B6]at e;subst e;exact⟨r,rfl,h⟩
  |cons x post ih=>intro pre r e h;obtain⟨r1,h1,h2⟩:=hs pre x post r e h;obtain⟨r2,h3,h4⟩:=ih (pre++[x]) r1 (by rw[e,Ff];rfl) h2;refine⟨r2,?_,h4⟩;rw[Ak];unfold ZN;rw[h1];exact h3
 exact key xs [] r rfl h0
abbrev dI(i:Int):D:=AB i
abbrev dN(k:Nat):D:=AB (k:Int)
theorem NT(ns:List Int):uQ ns=ns.map dI:=rfl
theorem CL(n:Nat):D9 0 n=(Ah n).map dN:=by unfold D9;refine Fh λk _=>?_;show AB (0+(k:Int))=AB (k:Int);rw[Int.zero_add]
theorem CU(ns:List Int):BP (ns.map dI)=Z ns:=by
 induction ns with
 |nil=>rfl
 |cons n ns ih=>show(BP (ns.map dI)).map (n::·)=_;rw[ih];rfl
theorem NQ(bs:List Bool):FA (bs.map λb=>BX b)=Z bs:=by
 induction bs with
 |nil=>rfl
 |cons b bs ih=>show(FA (bs.map λb=>BX b)).map (b::·)=_;rw[ih];rfl
abbrev sG(ns:List Int):D:=BZ (ns.map dI)
theorem GN{j:Nat}{d:D}(h:ds[j]?=Z d):vE ds (j:Int)=Z d:=by have hj:j<ds.length:=(A0.mp h).1;unfold vE wu;rw[if_pos (by omega),if_pos (by omega)];simpa using h
theorem Nb{d:D}(h0:0<=i)(h:ds[i.toNat]?=Z d):vE ds i=Z d:=by
 have e:i=((i.toNat:Nat):Int):=by omega
 rw[e];exact GN (by simpa using h)
@[simp] theorem sD(d:D)(r:List D):vE (d::r) 0=Z d:=GN (j:=0) rfl
@[simp] theorem sx(a d:D)(r:List D):vE (a::d::r) 1=Z d:=GN (j:=1) rfl
@[simp] theorem sC(a b d:D)(r:List D):vE (a::b::d::r) 2=Z d:=GN (j:=2) rfl
@[simp] theorem sy(a b c d:D)(r:List D):vE (a::b::c::d::r) 3=Z d:=GN (j:=3) rfl
@[simp] theorem sA(a b c e d:D)(r:List D):vE (a::b::c::e::d::r) 4=Z d:=GN (j:=4) rfl
theorem sg(i j:Int)(h:(Z5 i||Z5 j)=Aa):Cv (.int i) (.int j)=Z (.int (i*j)):=by show(if Z5 i||Z5 j then Z (AB (i*j))else J)=_;rw[if_pos h]
@[simp] theorem sf:Z5 7=Aa:=rfl
@[simp] theorem qq:Z5 11=Aa:=rfl
@[simp] theorem qx:Z5 13=Aa:=rfl
@[simp] theorem qv:Z5 17=Aa:=rfl
@[simp] theorem qo:Z5 19=Aa:=rfl
@[simp] theorem qk:Z5 23=Aa:=rfl
@[simp] theorem sq:Z5 29=Aa:=rfl
@[simp] theorem qj:Z5 31=Aa:=rfl
@[simp] theorem sm:Z5 37=Aa:=rfl
@[simp] theorem qy:Z5 41=Aa:=rfl
@[simp] theorem qw:Z5 43=Aa:=rfl
@[simp] theorem qu:Z5 47=Aa:=rfl
@[simp] theorem qt:Z5 53=Aa:=rfl
@[simp] theorem so:Z5 59=Aa:=rfl
@[simp] theorem qr:Z5 61=Aa:=rfl
@[simp] theorem su:Z5 67=Aa:=rfl
@[simp] theorem sr:Z5 71=Aa:=rfl
@[simp] theorem qp:Z5 73=Aa:=rfl
@[simp] theorem qD:Z5 48271=Aa:=rfl
@[simp] theorem sh:Z5 2=Aa:=rfl
@[simp] theorem si:Z5 3=Aa:=rfl
@[simp] theorem sj:Z5 5=Aa:=rfl
theorem Rx(h1:-1000000000<i)(h2:i<1000000000):Z5 i=Aa:=by
 unfold Z5;have:i.natAbs<18446744073709551616:=by omega
 exact Hi.mpr this
theorem EU(h:n<1000000):vp (n:Int)=Aa:=Hi.mpr (by omega)
@[simp] theorem qm(i:Int):C2 (.int i)=Aa:=rfl
@[simp] theorem qh(i:Bool):C2 (.bool i)=Aa:=rfl
@[simp] theorem qg:C2 .none=Aa:=rfl
@[simp] theorem sE(i j:Int):BR (.int i) (.int j)=(i==j):=rfl
structure Wk where
 many:Nat
 deeds:List (List (List Int))
 looks:List (List Int)
 beg:List Int
 goal:List Int
noncomputable def ZQ (dd:List (List Int)):D:=.tuple (dd.map sG)
def Wk.d(w:Wk):D:=.tuple [.int w.many,.tuple (w.deeds.map ZQ),.tuple (w.looks.map sG),sG w.beg,sG w.goal]
def Cr(n:Nat)(c:List Int):Prop:=c.Pairwise (· < ·)/\∀x∈c,0<=x/\x<(n:Int)
structure Wk.Ok(w:Wk):Prop where
 m1:2<=w.many
 m2:w.many<=5
 d1:1<=w.deeds.length
 d2:w.deeds.length<=3
 dl:∀dd∈w.deeds,dd.length=w.many
 dc:∀dd∈w.deeds,∀c∈dd,Cr w.many c
 l2:w.looks.length<=3
 ll:∀l∈w.looks,l.length=w.many
 lc:∀l∈w.looks,∀x∈l,0<=x/\x<=9
 b1:w.beg≠[]
 bc:Cr w.many w.beg
 g1:w.goal≠[]
 gc:Cr w.many w.goal
theorem Cr.len:∀{c:List Int},Cr n c->c.length<=n:=by
 have key:∀(c:List Int) (l:Int),c.Pairwise (· < ·)->(∀x∈c,l<=x/\x<(n:Int))->(c.length:Int)<=max 0 ((n:Int)-l):=by
  intro c
  induction c with
  |nil=>intro l _ _;simp;omega
  |cons x c ih=>intro l hp hb;have h1:=hb x (Am ..);have h2:=ih (x+1) (DE.mp hp).2 λy hy=>⟨by have:=(DE.mp hp).1 y hy;omega,(hb y (Ap _ hy)).2⟩;rw[AD];omega
 intro c h;have:=key c 0 h.1 h.2;omega
theorem sortI_perm(ns:List Int):(sortI ns).Perm ns:=J9 ns _
theorem ie(ns:List Int):(sortI ns).Pairwise (·<=·):=by have h:=Pq (le:=λa b:Int=>decide (a<=b)) (λa b c h1 h2=>by simp at *;omega) (λa b=>by simp;omega) ns;exact h.imp λh=>by simpa using h
theorem Yu:∀{ns:List Int},ns.Pairwise (·<=·)->ns.Nodup->ns.Pairwise (· < ·)
 |[],_,_=>.nil
 |n::ns,h,hn=>by obtain⟨h1,h2⟩:=DE.mp h;obtain⟨n1,n2⟩:=Dg.mp hn;refine DE.mpr ⟨λx hx=>?_,Yu h2 n2⟩;have:=h1 x hx;have:n≠x:=λe=>n1 (e▸hx);omega
theorem Np{ns:List Int}(hn:ns.Nodup)(hb:∀x∈ns,0<=x/\x<(n:Int)):Cr n (sortI ns) :=
 ⟨Yu (ie ns) ((sortI_perm ns).nodup_iff.mpr hn),λx hx=>hb x ((sortI_perm ns).mem_iff.mp hx)⟩
theorem Rl(ns:List Int)(h:ns.length<64):GC (ns.map dI)=Z ((sortI ns).map dI):=by unfold GC;rw[if_pos (by rw[Af];exact h),CU];rfl
theorem Le:∀(ns acc:List Int) (x:Int),x∈tY acc ns↔x∈acc\/x∈ns
 |[],acc,x=>by simp[tY]
 |n::ns,acc,x=>by
  unfold tY;split
  .rename_i h
   have h':n∈acc:=by simpa using h
   rw[Le ns acc x]
   constructor
   .rintro (h|h)
    .exact .inl h
    .exact .inr (Ap _ h)
   .rintro (h|h)
    .exact .inl h
    .rcases AE.mp h with e|e
     .exact .inl (e▸h')
     .exact .inr e
  .rw[Le ns _ x,Bg,AW,AE]
   constructor
   .rintro ((h|h)|h)
    .exact .inl h
    .exact .inr (.inl h)
    .exact .inr (.inr h)
   .rintro (h|h|h)
    .exact .inl (.inl h)
    .exact .inl (.inr h)
    .exact .inr h
theorem N6:∀(ns acc:List Int),acc.Nodup->(tY acc ns).Nodup
 |[],acc,h=>h
 |n::ns,acc,h=>by
  unfold tY;split
  .exact N6 ns acc h
  .rename_i hc
   have hc':n∉acc:=by simpa using hc
   refine N6 ns _ ?_;rw[JX];exact⟨h,by simp,λa ha b hb=>by simp at hb;subst hb;exact λe=>hc' (e▸ha)⟩
end HM
namespace HG
open PySem HM
def au:SF :=
 (Zq (tQ (wq (tV (K2 (Za 0) .bool)) (Cj (tV (K2 (Za 0) .int)))) (ZF (eC (.bool Ab))) AN)
  (ZF (Ye wU wU (Za 1) (Za 0) (Za 2))))
def DO:List D->Option D:=fnOf 3 3 au
def XY:SF :=
 (ZF (Gr (K2 (Za 0) .tuple) (Ye wU wU (Za 1) (AJ (Zo 0)) (Za 2))))
def DN:List D->Option D:=fnOf 3 3 XY
def Ew:SF :=
 (Zq (tQ (Cj (tV (Zj DO (Zb (Za 3) (Zb (Za 2) (Zb (sM Kk (Za 1) (eC (.int 1))) Zh)))))) (ZF (eC (.bool Ab))) AN)
  (Z2 2 (sM A4 (Za 3) (eC (.int 1)))))
def Ow:SF :=
 (Zq (tQ (Cj (tV (K2 (Za 0) .tuple))) (ZF (eC (.bool Ab))) AN)
  (Zq (Z2 2 (eC (.int 0)))
  (Zq (AR 3 (ZD (sU (Za 0))) Ew)
  (ZF (eC (.bool Aa))))))
def Dv:List D->Option D:=fnOf 2 4 Ow
def RZ:SF :=
 (ZF (Gr (Zj DN (Zb (Za 0) (Zb (Za 1) (Zb (Za 1) Zh)))) (Hx (ZA (ZD (sU (Za 0))) ZK (Zj Dv (Zb (Za 0) (Zb (Za 2) Zh)))))))
def Im:List D->Option D:=fnOf 2 2 RZ
def RY:SF :=
 (ZF (Gr (Zj DN (Zb (Za 0) (Zb (Za 1) (Zb (Za 1) Zh)))) (Hx (ZA (ZD (sU (Za 0))) ZK (Zj DO (Zb (Za 0) (Zb (eC (.int 0)) (Zb (eC (.int 9)) Zh))))))))
def Ig:List D->Option D:=fnOf 2 2 RY
def ar:SF :=
 (ZF (Gr (Zj DN (Zb (Za 0) (Zb (eC (.int 1)) (Zb (eC (.int 5)) Zh)))) (Hx (ZA (ZD (sU (Za 0))) ZK (Zj Im (Zb (Za 0) (Zb (Za 2) Zh)))))))
def LK:List D->Option D:=fnOf 2 2 ar
def ak:SF :=
 (ZF (Gr (Zj DN (Zb (Za 0) (Zb (eC (.int 0)) (Zb (eC (.int 4)) Zh)))) (Hx (ZA (ZD (sU (Za 0))) ZK (Zj Ig (Zb (Za 0) (Zb (Za 2) Zh)))))))
def LJ:List D->Option D:=fnOf 2 2 ak
def YW:SF :=
 (ZF (Gr (Zj Dv (Zb (Za 0) (Zb (Za 1) Zh))) (sM xb (AJ (Zo 0)) (eC (.int 0)))))
def Ll:List D->Option D:=fnOf 2 2 YW
def aj:SF :=
 (Zq (tQ (wq (Cj (tV (Zj DN (Zb (Za 0) (Zb (eC (.int 5)) (Zb (eC (.int 5)) Zh)))))) (Cj (tV (Zj DO (Zb (tJ (Zo 0) (eC (.int 0))) (Zb (eC (.int 1)) (Zb (eC (.int 8)) Zh))))))) (ZF (eC (.bool Ab))) AN)
  (Zq (Z2 1 (tJ (Zo 0) (eC (.int 0))))
  (Zq (tQ (wq (Cj (tV (Zj LK (Zb (tJ (Zo 0) (eC (.int 1))) (Zb (Za 1) Zh))))) (Cj (tV (Zj LJ (Zb (tJ (Zo 0) (eC (.int 2))) (Zb (Za 1) Zh)))))) (ZF (eC (.bool Ab))) AN)
  (ZF (Gr (Zj Ll (Zb (tJ (Zo 0) (eC (.int 3))) (Zb (Za 1) Zh))) (Zj Dv (Zb (tJ (Zo 0) (eC (.int 4))) (Zb (Za 1) Zh))))))))
def LI:List D->Option D:=fnOf 1 2 aj
def YV:SF :=
 (ZF (tJ (Zo 0) (eC (.int 1))))
def F6:List D->Option D:=fnOf 1 1 YV
def YU:SF :=
 (ZF (tJ (Zo 0) (eC (.int 2))))
def FY:List D->Option D:=fnOf 1 1 YU
def YD:SF :=
 (Zq (tQ (Cj (tV (Zj LI (Zb (Za 0) Zh)))) Qs AN)
  (ZF (Za 0)))
def DP:List D->Option D:=fnOf 1 1 YD
def aL:SF :=
 (Zq (tQ (Cj (tV (Zj Dv (Zb (Za 1) (Zb (AJ (sU (Zj FY (Zb (Za 0) Zh)))) Zh))))) Qs AN)
  (ZF (Za 1)))
def LO:List D->Option D:=fnOf 2 2 aL
def YC:SF :=
 (ZF (C4 (ZA (ZD (sU (Za 1))) ZK (tJ (sU (tJ (sU (Zj FY (Zb (Za 1) Zh))) (Za 0))) (Za 3)))))
def Lq:List D->Option D:=fnOf 3 3 YC
def aC:SF :=
 (Zq (Z2 3 (tJ (sU (Zj F6 (Zb (Za 0) Zh))) (Za 2)))
  (ZF (Hx (ZA (ZD (sU (Za 1))) ZK (sM xb (AJ (sU (tJ (Zo 4) (Za 0)))) (eC (.int 0)))))))
def LR:List D->Option D:=fnOf 3 4 aC
def Y7:SF :=
 (ZF (uc (ZA (Ce (AJ (sU (Zj F6 (Zb (Za 0) Zh))))) (tV (Zj LR (Zb (Za 1) (Zb (Za 2) (Zb (Za 0) Zh))))) (Za 0))))
def Ly:List D->Option D:=fnOf 2 2 Y7
def Lp:SF :=
 (Gx 4 (Za 6) (eC (.bool Aa)))
def Lo:SF :=
 (AR 6 (ZD (sU (tJ (Zo 3) (Za 5)))) Lp)
def XX:SF :=
 (Zq (Z2 3 (tJ (sU (Zj F6 (Zb (Za 0) Zh))) (Za 2)))
  (Zq (ZJ 4 fDk)
  (Zq (AR 5 (ZD (sU (Za 1))) Lo)
  (ZF (C4 (N3 (Zo 4)))))))
def Jt:List D->Option D:=fnOf 3 7 XX
def Ln:SF :=
 (nc 3 (Zj Lq (Zb (Za 0) (Zb (Za 1) (Zb (Za 4) Zh)))) (Za 4))
def XU:SF :=
 (Zq (ZJ 3 Vf)
  (Zq (AR 4 (ZD (sU (Za 2))) Ln)
  (ZF (uc (ZA (ZD (sU (uc (N3 (Zo 3))))) ZK (Br (Zb (Za 0) (Zb (C4 (Xc 4 (Za 0))) Zh))))))))
def Ea:List D->Option D:=fnOf 3 5 XU
def YT:SF :=
 (Zq (tQ (tV (sM xG (Za 1) (AJ (Zo 0)))) (ZF (tJ (Zo 0) (Za 1))) AN)
  (ZF (eC (.int 0))))
def ZE:List D->Option D:=fnOf 2 2 YT
def YG:SF :=
 (ZF (sM CQ (sM CQ (sM Cv (Za 0) (eC (.int 48271))) (Za 1)) (Za 2)))
def ZV:List D->Option D:=fnOf 3 3 YG
def SQ:SF :=
 (Zq (ZJ 3 (ZA (Ce (Za 1)) (tV (sM xG (Zj ZV (Zb (sM A4 (sM A4 (Za 1) (sM Cv (sM Cv (eC (.int 31)) (Za 0)) (Za 0))) (sM Cv (eC (.int 7)) (Za 0))) (Zb (eC (.int 9973)) (Zb (eC (.int 5)) Zh)))) (eC (.int 2)))) (Za 0)))
  (Zq (tQ (tV (sM xG (AJ (Zo 3)) (Za 2))) (ZJ 3 (AY (Zb (Zj ZV (Zb (Za 0) (Zb (eC (.int 9967)) (Zb (Za 1) Zh)))) Zh))) AN)
  (ZF (C4 (Zo 3)))))
def Ik:List D->Option D:=fnOf 3 4 SQ
def Ij:SF :=
 (Zq (Z2 4 (sM A4 (sM A4 (Za 0) (sM Cv (sM Cv (eC (.int 43)) (Za 3)) (Za 3))) (sM Cv (eC (.int 11)) (Za 3))))
  (Zq (Z2 5 (Zj ZV (Zb (Za 4) (Zb (eC (.int 9949)) (Zb (eC (.int 10)) Zh)))))
  (Zq (ZJ 6 (mX (Zj ZV (Zb (Za 4) (Zb (eC (.int 9941)) (Zb (Za 1) Zh)))) (eC (.bool Aa))))
  (Zq (tQ (tV (sM xG (Za 5) (eC (.int 3)))) (Gx 6 (Zj ZV (Zb (Za 4) (Zb (eC (.int 9931)) (Zb (Za 1) Zh)))) (eC (.bool Aa))) AN)
  (Zq (FJ 2 (C4 (N3 (Zo 6))))
  (tQ (tV (sM tT (Za 5) (eC (.int 9)))) (k9 2 (eC (.int (-1))) (Br Zh)) AN))))))
def YS:SF :=
 (Zq (ZJ 2 (AY Zh))
  (Zq (AR 3 (Ce (Za 1)) Ij)
  (ZF (C4 (Zo 2)))))
def Lk:List D->Option D:=fnOf 2 7 YS
def LH:SF :=
 (Zq (Z2 5 (sM dD (sM Kk (Za 4) (eC (.int 1))) (eC (.int 0))))
  (Zq (Z2 6 (sM da (sM A4 (Za 4) (eC (.int 1))) (sM Kk (Za 1) (eC (.int 1)))))
  (Zq (Z2 7 (sM tT (Zj ZV (Zb (sM A4 (Za 0) (sM Cv (eC (.int 17)) (Za 4))) (Zb (eC (.int 9929)) (Zb (eC (.int 6)) Zh)))) (eC (.int 1))))
  (Zq (FJ 2 (C4 (aJ (MW (AY (Zb (Za 5) Zh)) (iw (AY (Zb (Za 4) Zh)) (m6 (Za 7)))))))
  (FJ 3 (Br (Zb (Za 6) Zh)))))))
def YR:SF :=
 (Zq (ZJ 2 (AY Zh))
  (Zq (ZJ 3 (AY Zh))
  (Zq (AR 4 (Ce (Za 1)) LH)
  (ZF (Br (Zb (C4 (Zo 2)) (Zb (C4 (Zo 3)) Zh)))))))
def Lj:List D->Option D:=fnOf 2 8 YR
def Lx:SF :=
 (Zq (Z2 7 (sM A4 (Zj ZE (Zb (Za 0) (Zb (sM A4 (sM A4 (Za 1) (eC (.int 4))) (Za 5)) Zh))) (sM Cv (eC (.int 71)) (Za 5))))
  (Zq (Z2 8 (sM A4 (eC (.int 2)) (Zj ZV (Zb (Za 7) (Zb (eC (.int 9883)) (Zb (eC (.int 2)) Zh))))))
  (FJ 6 (C4 (ZA (Ce (Za 3)) ZK (Zj ZV (Zb (sM A4 (Za 8) (sM Cv (sM Cv (eC (.int 13)) (Za 0)) (Za 0))) (Zb (eC (.int 9871)) (Zb (Za 9) Zh)))))))))
def Ol:SF :=
 (FJ 4 (Zj Lk (Zb (sM A4 (Zj ZE (Zb (Za 0) (Zb (sM A4 (sM A4 (Za 1) (eC (.int 1))) (Za 5)) Zh))) (sM Cv (eC (.int 61)) (Za 5))) (Zb (Za 3) Zh))))
def LG:SF :=
 (Zq (Z2 2 (Zj ZE (Zb (Za 0) (Zb (Za 1) Zh))))
  (Zq (Z2 3 (sM A4 (eC (.int 2)) (Zj ZV (Zb (Za 2) (Zb (eC (.int 9923)) (Zb (eC (.int 4)) Zh))))))
  (Zq (tQ (tV (sM xb (AJ (Zo 0)) (eC (.int 63)))) (Z2 3 (sM A4 (eC (.int 2)) (Zj ZV (Zb (Za 2) (Zb (eC (.int 9923)) (Zb (eC (.int 6)) Zh)))))) AN)
  (Zq (ZJ 4 (AY Zh))
  (Zq (AR 5 (Ce (sM A4 (eC (.int 1)) (Zj ZV (Zb (Za 2) (Zb (eC (.int 9907)) (Zb (eC (.int 3)) Zh)))))) Ol)
  (Zq (tQ (tV (sM tT (Zj ZV (Zb (Za 2) (Zb (eC (.int 9901)) (Zb (eC (.int 3)) Zh)))) (eC (.int 1)))) (ZJ 4 (MW (RC (sU (Zj Lj (Zb (Zj ZE (Zb (Za 0) (Zb (sM A4 (Za 1) (eC (.int 1))) Zh))) (Zb (Za 3) Zh))))) (iM (Zo 4) J (Z (eC (.int 1)))))) AN)
  (Zq (ZJ 6 (AY Zh))
  (Zq (AR 5 (Ce (Zj ZV (Zb (Za 2) (Zb (eC (.int 9887)) (Zb (eC (.int 4)) Zh))))) Lx)
  (Zq (Z2 9 (Zj Ik (Zb (Zj ZE (Zb (Za 0) (Zb (sM A4 (Za 1) (eC (.int 7))) Zh))) (Zb (Za 3) (Zb (eC (.int 1)) Zh)))))
  (Zq (tQ (tV (sM tT (Zj ZV (Zb (Za 2) (Zb (eC (.int 9859)) (Zb (eC (.int 3)) Zh)))) (eC (.int 1)))) (Z2 9 (aE (Ce (Za 3)))) AN)
  (Zq (Z2 10 (Zj Ik (Zb (Zj ZE (Zb (Za 0) (Zb (sM A4 (Za 1) (eC (.int 8))) Zh))) (Zb (Za 3) (Zb (eC (.int 1)) Zh)))))
  (ZF (Br (Zb (Za 3) (Zb (C4 (Zo 4)) (Zb (C4 (Zo 6)) (Zb (Za 9) (Zb (Za 10) Zh))))))))))))))))))
def FT:List D->Option D:=fnOf 2 11 LG
def Ex:SF :=
 (Zq (tQ (tV (sM tT (tJ (sU (tJ (sU (tJ (Zo 0) (eC (.int 1)))) (Za 2))) (Za 4)) (Br Zh))) (ZF (eC .none)) AN)
  (ZJ 3 (MW (Zo 3) (RC (sU (tJ (sU (tJ (sU (tJ (Zo 0) (eC (.int 1)))) (Za 2))) (Za 4)))))))
def RX:SF :=
 (Zq (ZJ 3 (AY Zh))
  (Zq (AR 4 (ZD (sU (Za 1))) Ex)
  (ZF (C4 (aJ (Zo 3))))))
def GP:List D->Option D:=fnOf 3 5 RX
def JC:SF :=
 (Zq (Z2 5 (C4 (ZA (ZD (sU (Za 1))) ZK (tJ (sU (tJ (sU (tJ (Zo 1) (eC (.int 2)))) (Za 0))) (Za 5)))))
  (Zq (tQ (tV (oN (Za 5) (Zo 3))) (nZ 3 (Za 5)) AN)
  (m5 3 (Za 5) (Za 4))))
def ai:SF :=
 (Zq (ZJ 3 Vf)
  (Zq (AR 4 (ZD (sU (Za 2))) JC)
  (ZF (uc (ZA (ZD (sU (uc (N3 (Zo 3))))) ZK (Br (Zb (Za 0) (Zb (C4 (Xc 4 (Za 0))) Zh))))))))
def E9:List D->Option D:=fnOf 3 6 ai
def Zx(ns:List Int)(k:Nat):Int:=if k<ns.length then ns.getD k 0 else 0
theorem GI(ns:List Int)(k:Nat):ZE [.list (ns.map dI),.int k]=Z (.int (Zx ns k)):=by
 simp[ZE,YT,Zx]
 by_cases h:k<ns.length
 .have h':(k:Int)<(ns.length:Int):=by omega
  have e:vE (ns.map dI) (k:Int)=Z (.int ns[k]):=GN (by simp[h]);simp[h,h',e]
 .have h':¬(k:Int)<(ns.length:Int):=by omega
  simp[h,h']
def Z4(c p m:Int):Int:=c*48271%p%m
theorem DJ(c p m:Int)(hp:0<p)(hm:0<m):ZV [.int c,.int p,.int m]=Z (.int (Z4 c p m)):=by simp[ZV,YG,hp,hm,Z4]
theorem Eb(c p m:Int)(hm:0<m):0<=Z4 c p m/\Z4 c p m<m:=⟨Pc _ (by omega),T7 _ hm⟩
def crP(c:Int)(k:Nat):Bool:=decide (Z4 (c+31*(k:Int)*(k:Int)+7*(k:Int)) 9973 5<2)
def yM(c:Int)(n:Nat):List Int:=((Ah n).filter (crP c)).map λ(k:Nat)=>(k:Int)
def yw(c:Int)(n:Nat):List Int:=if(yM c n).length<1 then[Z4 c 9967 n]else yM c n
theorem W9(n:Nat)(p:Nat->Bool):Cr n (((Ah n).filter p).map λ(k:Nat)=>(k:Int)):=by
 refine⟨?_,λx hx=>?_⟩
 .rw[O4]
  refine List.Pairwise.imp (λ{a b} h=>?_) (List.Pairwise.filter p bJ);omega
 .obtain⟨k,hk,rfl⟩:=Al.mp hx
  have:=AS.mp (B4.mp hk).1;omega
theorem Vm(c:Int)(n:Nat)(hn:0<n):Cr n (yw c n)/\yw c n≠[]:=by
 unfold yw;split
 .refine⟨⟨by simp,λx hx=>?_⟩,by simp⟩
  have e:x=Z4 c 9967 n:=by simpa using hx
  rw[e];have:=Eb c 9967 n (by omega);omega
 .rename_i h
  exact⟨W9 n _,λe=>h (by rw[e];simp)⟩
theorem W5(c:Int)(n:Nat)(hn:0<n)(hb:n<1000):Ik [.int c,.int n,.int 1]=Z (sG (yw c n)):=by
 have hn':(0:Int)<(n:Int):=by omega
 have key:Bc (tV (sM xG (Zj ZV (Zb (sM A4 (sM A4 (Za 1) (sM Cv (sM Cv (eC (.int 31)) (Za 0)) (Za 0))) (sM Cv (eC (.int 7)) (Za 0))) (Zb (eC (.int 9973)) (Zb (eC (.int 5)) Zh)))) (eC (.int 2)))) (Za 0)
   [Z (.pl (.int c)),Z (.pl (.int n)),Z (.pl (.int 1)),J] (D9 0 n)=Z ((yM c n).map dI):=by
  rw[CL];rw[D7 dN (crP c) dN]
  .unfold yM
   rw[Aw];rfl
  .intro k hk
   have hk':=AS.mp hk;have s2:Z5 (31*(k:Int))=Aa:=Rx (by omega) (by omega);simp[DJ,crP,s2]
  .intro k hk _
   simp
 have h1:vp (n:Int)=Aa:=EU (by omega);have h2:(D9 0 n).length<1000000:=by rw[CL];simp;omega
 by_cases hl:(yM c n).length<1
 .have hl':((yM c n).length:Int)<1:=by omega
  have hm:=DJ c 9967 n (by decide) hn';simp[Ik,SQ,h1,h2,key];simp[hl',yw,hl,hm]
 .have hl':¬((yM c n).length:Int)<1:=by omega
  simp[Ik,SQ,h1,h2,key];simp[hl',yw,hl]
def PQ(c:Int)(n k:Nat):List Int :=
 let s:=c+43*(k:Int)*(k:Int)+11*(k:Int)
 if Z4 s 9949 10<3/\Z4 s 9941 n≠Z4 s 9931 n then[Z4 s 9941 n,Z4 s 9931 n]else[Z4 s 9941 n]
def DX(c:Int)(n k:Nat):List Int:=if Z4 (c+43*(k:Int)*(k:Int)+11*(k:Int)) 9949 10=9 then[]else sortI (PQ c n k)
theorem eR(c:Int)(n k:Nat)(hn:0<n):Cr n (DX c n k):=by
 unfold DX;split
 .exact⟨.nil,λx hx=>by simp at hx⟩
 .unfold PQ
  dsimp only;have b1:=Eb (c+43*(k:Int)*(k:Int)+11*(k:Int)) 9941 n (by omega);have b2:=Eb (c+43*(k:Int)*(k:Int)+11*(k:Int)) 9931 n (by omega);split
  .rename_i h
   refine Np (by simp[h.2]) λx hx=>?_;simp at hx;rcases hx with e|e<;>(subst e;assumption)
  .refine Np (by simp) λx hx=>?_
   simp at hx;subst hx;assumption
theorem jb(n:Nat):wu (n+1) (-1)=Z n:=by unfold wu;rw[if_neg (by decide),if_pos (by omega)];congr 1;omega
theorem ke(c:Int)(n k:Nat)(xU:List D)(o4 o5 o6:Option B)(hn:0<n)(hk:k<1000)(hl:xU.length<1000):∃r5 r6 r7,Ij [Z (.pl (.int c)),Z (.pl (.int n)),Z (.ol xU),Z (.pl (dN k)),o4,o5,o6]=Z (.nx [Z (.pl (.int c)),Z (.pl (.int n)),Z (.ol (xU++[sG (DX c n k)])),Z (.pl (dN k)),r5,r6,r7]):=by
 have hn':(0:Int)<(n:Int):=by omega
 have s2:Z5 (43*(k:Int))=Aa:=Rx (by omega) (by omega);have hl':xU.length<1000000:=by omega
 have m1:=DJ (c+43*(k:Int)*(k:Int)+11*(k:Int)) 9949 10 (by decide) (by decide);have m2:=DJ (c+43*(k:Int)*(k:Int)+11*(k:Int)) 9941 n (by decide) hn';have m3:=DJ (c+43*(k:Int)*(k:Int)+11*(k:Int)) 9931 n (by decide) hn';unfold DX PQ;dsimp only;generalize Z4 (c+43*(k:Int)*(k:Int)+11*(k:Int)) 9949 10=wy at *;generalize Z4 (c+43*(k:Int)*(k:Int)+11*(k:Int)) 9941 n=a at *;generalize Z4 (c+43*(k:Int)*(k:Int)+11*(k:Int)) 9931 n=b at *;have t1:GC [AB a]=Z ((sortI [a]).map dI):=Rl [a] (by simp);have t2:GC [AB a,AB b]=Z ((sortI [a,b]).map dI):=Rl [a,b] (by simp)
 by_cases w3:wy<3
 .have w9:(wy==9)=Ab:=by simp;omega
  have w9':¬wy=9:=by omega
  by_cases ab:a=b
  .subst ab
   simp[Ij,s2,m1,m2,m3,w3,w9,w9',tf,BS,hl',t1]
  .simp[Ij,s2,m1,m2,m3,w3,w9,w9',tf,ab,BS,hl',t2]
 .by_cases w9:wy=9
  .subst w9
   simp[Ij,s2,m1,m2,tf,BS,hl',t1,jb]
  .have w9':(wy==9)=Ab:=by simp[w9]
   simp[Ij,s2,m1,m2,w3,w9',w9,tf,BS,hl',t1]
theorem eu(c:Int)(n:Nat)(hn:0<n)(hb:n<1000):Lk [.int c,.int n]=Z (ZQ ((Ah n).map λk=>DX c n k)):=by
 have h1:vp (n:Int)=Aa:=EU (by omega);have h2:(D9 0 n).length<1000000:=by rw[CL];simp;omega
 obtain⟨r',e1,o3,o4,o5,o6,p1⟩:=M9 (i:=3) (body:=Ij) dN (λ(s:List Nat) r=>∃o3 o4 o5 o6,r=[Z (.pl (.int c)),Z (.pl (.int n)),Z (.ol (s.map λk=>sG (DX c n k))),o3,o4,o5,o6]) (Ah n)
  [Z (.pl (.int c)),Z (.pl (.int n)),Z (.ol []),J,J,J,J] ⟨J,J,J,J,rfl⟩ (by
   rintro s k post r vR ⟨o3,o4,o5,o6,rfl⟩
   have hk':k<n:=AS.mp (by rw[vR];simp);have hs:s.length<n:=by have:=congrArg BC vR;simp at this;omega
   obtain⟨r5,r6,r7,e⟩:=ke c n k (s.map λk=>sG (DX c n k)) o4 o5 o6 hn (by omega) (by simp;omega);exact⟨_,e,Z (.pl (dN k)),r5,r6,r7,by simp⟩)
 subst p1;have hl:n<1000000:=by omega
 simp[Lk,YS,h1,CL,hl,e1,ZQ]
def ahV(k:Nat):Int:=if(0:Int) > (k:Int)-1 then 0 else(k:Int)-1
def wW(n k:Nat):Int:=if(n:Int)-1<(k:Int)+1 then(n:Int)-1 else(k:Int)+1
def xI(c:Int)(k:Nat):List Int:=sortI (tY [] (ahV k::(if Z4 (c+17*(k:Int)) 9929 6=1 then[(k:Int)]else[])))
theorem d8(c:Int)(n k:Nat)(hk:k<n):Cr n (xI c k):=by
 unfold xI;have ha:0<=ahV k/\ahV k<n:=by unfold ahV;split<;>omega
 refine Np (N6 _ _ (by simp)) λx hx=>?_;rw[Le]at hx;rcases hx with h|h
 .simp at h
 .rcases AE.mp h with e|e
  .subst e;exact ha
  .split at e
   .simp at e;subst e;omega
   .simp at e
theorem cp(n k:Nat)(hk:k<n):Cr n [wW n k]:=by
 have ha:0<=wW n k/\wW n k<n:=by unfold wW;split<;>omega
 exact⟨by simp,λx hx=>by simp at hx;subst hx;exact ha⟩
theorem kD(c:Int)(n k:Nat)(ls rs:List D)(o4 o5 o6 o7:Option B)(hk:k<8)(h1:ls.length<1000)(h2:rs.length<1000):∃r4 r5 r6,LH [Z (.pl (.int c)),Z (.pl (.int n)),Z (.ol ls),Z (.ol rs),Z (.pl (dN k)),o5,o6,o7]=Z (.nx [Z (.pl (.int c)),Z (.pl (.int n)),Z (.ol (ls++[sG (xI c k)])),Z (.ol (rs++[sG [wW n k]])),Z (.pl (dN k)),r4,r5,r6]):=by
 have h1':ls.length<1000000:=by omega
 have h2':rs.length<1000000:=by omega
 have m1:=DJ (c+17*(k:Int)) 9929 6 (by decide) (by decide);have hk8:k=0\/k=1\/k=2\/k=3\/k=4\/k=5\/k=6\/k=7:=by omega
 have l1:Mu [if(k:Int)-1<0 then 0 else(k:Int)-1,(k:Int)]=Aa:=by rcases hk8 with rfl|rfl|rfl|rfl|rfl|rfl|rfl|rfl<;>rfl
 have l2:Mu [if(k:Int)-1<0 then 0 else(k:Int)-1]=Aa:=by rcases hk8 with rfl|rfl|rfl|rfl|rfl|rfl|rfl|rfl<;>rfl
 unfold xI;generalize Z4 (c+17*(k:Int)) 9929 6=a at *
 by_cases e:a=1
 .subst e
  simp[LH,m1,h1',h2',ahV,wW,BP,NT,l1]
 .have e':(a==1)=Ab:=by simp[e]
  simp[LH,m1,h1',h2',ahV,wW,e,e',BP,NT,l2]
theorem gK(c:Int)(n:Nat)(hb:n<=8):Lj [.int c,.int n]=Z (.tuple [ZQ ((Ah n).map λk=>xI c k),ZQ ((Ah n).map λk=>[wW n k])]):=by
 have h1:vp (n:Int)=Aa:=EU (by omega);obtain⟨r',e1,o4,o5,o6,o7,p1⟩:=M9 (i:=4) (body:=LH) dN (λ(s:List Nat) r=>∃o4 o5 o6 o7,r=[Z (.pl (.int c)),Z (.pl (.int n)),Z (.ol (s.map λk=>sG (xI c k))),Z (.ol (s.map λk=>sG [wW n k])),o4,o5,o6,o7]) (Ah n)
  [Z (.pl (.int c)),Z (.pl (.int n)),Z (.ol []),Z (.ol []),J,J,J,J] ⟨J,J,J,J,rfl⟩ (by
   rintro s k post r vR ⟨o4,o5,o6,o7,rfl⟩
   have hk':k<n:=AS.mp (by rw[vR];simp);have hs:s.length<n:=by have:=congrArg BC vR;simp at this;omega
   obtain⟨r5,r6,r7,e⟩:=kD c n k (s.map λk=>sG (xI c k)) (s.map λk=>sG [wW n k]) o4 o5 o6 o7 (by omega) (by simp;omega) (by simp;omega);exact⟨_,e,Z (.pl (dN k)),r5,r6,r7,by simp⟩)
 subst p1;have hl:n<1000000:=by omega
 simp[Lj,YR,h1,CL,hl,e1,ZQ]
section
variable(ns:List Int)(at_:Nat)
def ZR:Nat:=(2+Z4 (Zx ns at_) 9923 4).toNat
def CJ:List (List (List Int)):=(Ah (1+Z4 (Zx ns at_) 9907 3).toNat).map λk=>(Ah (ZR ns at_)).map λs=>DX (Zx ns (at_+1+k)+61*(k:Int)) (ZR ns at_) s
def HD:List (List (List Int)) :=
 if Z4 (Zx ns at_) 9901 3=1 then[(Ah (ZR ns at_)).map λk=>xI (Zx ns (at_+1)) k,(Ah (ZR ns at_)).map λk=>[wW (ZR ns at_) k]]++(CJ ns at_).take 1 else CJ ns at_
def Gv(k:Nat):List Int:=(Ah (ZR ns at_)).map λ(s:Nat)=>Z4 (Zx ns (at_+4+k)+71*(k:Int)+13*(s:Int)*(s:Int)) 9871 (2+Z4 (Zx ns (at_+4+k)+71*(k:Int)) 9883 2)
def HF:List (List Int):=(Ah (Z4 (Zx ns at_) 9887 4).toNat).map (Gv ns at_)
def Kf:List Int:=if Z4 (Zx ns at_) 9859 3=1 then(Ah (ZR ns at_)).map λ(k:Nat)=>(k:Int)else yw (Zx ns (at_+7)) (ZR ns at_)
def Vd:List Int:=yw (Zx ns (at_+8)) (ZR ns at_)
def zq:Wk:=⟨ZR ns at_,HD ns at_,HF ns at_,Kf ns at_,Vd ns at_⟩
theorem M6:2<=ZR ns at_/\ZR ns at_<=5:=by have:=Eb (Zx ns at_) 9923 4 (by decide);unfold ZR;omega
theorem gC:((ZR ns at_:Nat):Int)=2+Z4 (Zx ns at_) 9923 4:=by have:=Eb (Zx ns at_) 9923 4 (by decide);unfold ZR;omega
theorem c5:(zq ns at_).Ok:=by
 have hm:=M6 ns at_;have hd3:=Eb (Zx ns at_) 9907 3 (by decide);have dk:∀dd∈CJ ns at_,dd.length=ZR ns at_/\∀c∈dd,Cr (ZR ns at_) c:=by intro dd h;unfold CJ at h;obtain⟨k,_,rfl⟩:=Al.mp h;refine⟨by simp,λc hc=>?_⟩;obtain⟨s,_,rfl⟩:=Al.mp hc;exact eR _ _ _ (by omega)
 have dv:∀dd∈HD ns at_,dd.length=ZR ns at_/\∀c∈dd,Cr (ZR ns at_) c:=by
  intro dd h;unfold HD at h;split at h
  .rcases Bg.mp h with h|h
   .simp at h
    rcases h with rfl|rfl
    .refine⟨by simp,λc hc=>?_⟩
     obtain⟨s,hs,rfl⟩:=Al.mp hc;exact d8 _ _ _ (AS.mp hs)
    .refine⟨by simp,λc hc=>?_⟩
     obtain⟨s,hs,rfl⟩:=Al.mp hc;exact cp _ _ (AS.mp hs)
   .exact dk dd (List.mem_of_mem_take h)
  .exact dk dd h
 have lk:(CJ ns at_).length=(1+Z4 (Zx ns at_) 9907 3).toNat:=by unfold CJ;simp
 have lv:1<=(HD ns at_).length/\(HD ns at_).length<=3:=by
  unfold HD;split
  .simp;omega
  .omega
 have hl4:=Eb (Zx ns at_) 9887 4 (by decide);have lo:∀l∈HF ns at_,l.length=ZR ns at_/\∀x∈l,0<=x/\x<=9:=by intro l h;unfold HF at h;obtain⟨k,_,rfl⟩:=Al.mp h;unfold Gv;refine⟨by simp,λx hx=>?_⟩;obtain⟨s,_,rfl⟩:=Al.mp hx;have h2:=Eb (Zx ns (at_+4+k)+71*(k:Int)) 9883 2 (by decide);have h3:=Eb (Zx ns (at_+4+k)+71*(k:Int)+13*(s:Int)*(s:Int)) 9871 (2+Z4 (Zx ns (at_+4+k)+71*(k:Int)) 9883 2) (by omega);omega
 have ll:(HF ns at_).length<=3:=by unfold HF;simp;omega
 have cb:=Vm (Zx ns (at_+7)) (ZR ns at_) (by omega);have cg:=Vm (Zx ns (at_+8)) (ZR ns at_) (by omega);have hb:Kf ns at_≠[]/\Cr (ZR ns at_) (Kf ns at_):=by
  unfold Kf;split
  .refine⟨λe=>?_,?_⟩
   .have:=congrArg BC e
    simp at this;omega
   .have:=W9 (ZR ns at_) λ_=>Aa
    rwa [Mb.mpr λ_ _=>rfl]at this
  .exact⟨cb.2,cb.1⟩
 exact⟨hm.1,hm.2,lv.1,lv.2,λdd h=>(dv dd h).1,λdd h=>(dv dd h).2,ll,λl h=>(lo l h).1,λl h=>(lo l h).2,hb.1,hb.2,cg.2,cg.1⟩
theorem lI(k n:Nat)(c:Option B)(ds:List D)(o6 o7 o8 o9 zx:Option B)(hk:k<1000)(h1:ds.length<1000)(hn:0<n)(hb:n<1000):Ol [Z (.pl (.list (ns.map dI))),Z (.pl (.int at_)),c,Z (.pl (.int n)),Z (.ol ds),Z (.pl (dN k)),o6,o7,o8,o9,zx] =Z (.nx [Z (.pl (.list (ns.map dI))),Z (.pl (.int at_)),c,Z (.pl (.int n)),Z (.ol (ds++[ZQ ((Ah n).map λs=>DX (Zx ns (at_+1+k)+61*(k:Int)) n s)])),Z (.pl (dN k)),o6,o7,o8,o9,zx]):=by
 have h1':ds.length<1000000:=by omega
 have hc:=GI ns (at_+1+k);have e:((at_+1+k:Nat):Int)=(at_:Int)+1+(k:Int):=by omega
 rw[e]at hc;have hd:=eu (Zx ns (at_+1+k)+61*(k:Int)) n hn hb;simp[Ol,hc,hd,h1']
theorem kH(k n:Nat)(c o4:Option B)(ls:List D)(o7 o8 o9 zx:Option B)(hk:k<1000)(h1:ls.length<1000)(hn:n=ZR ns at_):∃r7 r8,Lx [Z (.pl (.list (ns.map dI))),Z (.pl (.int at_)),c,Z (.pl (.int n)),o4,Z (.pl (dN k)),Z (.ol ls),o7,o8,o9,zx] =Z (.nx [Z (.pl (.list (ns.map dI))),Z (.pl (.int at_)),c,Z (.pl (.int n)),o4,Z (.pl (dN k)),Z (.ol (ls++[sG (Gv ns at_ k)])),r7,r8,o9,zx]):=by
 have hb:=M6 ns at_;have h1':ls.length<1000000:=by omega
 have hc:=GI ns (at_+4+k);have e:((at_+4+k:Nat):Int)=(at_:Int)+4+(k:Int):=by omega
 rw[e]at hc;have m1:=DJ (Zx ns (at_+4+k)+71*(k:Int)) 9883 2 (by decide) (by decide);have b1:=Eb (Zx ns (at_+4+k)+71*(k:Int)) 9883 2 (by decide);have hok:vp (n:Int)=Aa:=EU (by omega);have hl:n<1000000:=by omega
 unfold Gv;rw[<-hn];generalize Z4 (Zx ns (at_+4+k)+71*(k:Int)) 9883 2=mo at *;generalize Zx ns (at_+4+k)=cc at *;simp[Lx,hc,m1,hok,h1',CL,hl];rw[CM dN λ(s:Nat)=>dI (Z4 (cc+71*(k:Int)+13*(s:Int)*(s:Int)) 9871 (2+mo))]
 .refine⟨Z (.pl (.int (cc+71*(k:Int)))),Z (.pl (.int (2+mo))),?_⟩
  simp
 .intro s hs
  have hs':=AS.mp hs;have s2:Z5 (13*(s:Int))=Aa:=Rx (by omega) (by omega);have m2:=DJ (cc+71*(k:Int)+13*(s:Int)*(s:Int)) 9871 (2+mo) (by decide) (by omega);simp[s2,m2]
theorem ig(h:ns.length<=63):FT [.list (ns.map dI),.int at_]=Z (zq ns at_).d:=by
 have hb:=M6 ns at_;have hmc:=gC ns at_;have c0:=GI ns at_;have c1:=GI ns (at_+1);have c7:=GI ns (at_+7);have c8:=GI ns (at_+8);have e1:((at_+1:Nat):Int)=(at_:Int)+1:=by omega
 have e7:((at_+7:Nat):Int)=(at_:Int)+7:=by omega
 have e8:((at_+8:Nat):Int)=(at_:Int)+8:=by omega
 rw[e1]at c1;rw[e7]at c7;rw[e8]at c8;have m4:=DJ (Zx ns at_) 9923 4 (by decide) (by decide);have m3:=DJ (Zx ns at_) 9907 3 (by decide) (by decide);have b3:=Eb (Zx ns at_) 9907 3 (by decide);have mw:=DJ (Zx ns at_) 9901 3 (by decide) (by decide);have ml:=DJ (Zx ns at_) 9887 4 (by decide) (by decide);have bl:=Eb (Zx ns at_) 9887 4 (by decide);have mb:=DJ (Zx ns at_) 9859 3 (by decide) (by decide);have wk:=gK (Zx ns (at_+1)) (ZR ns at_) (by omega);have k7:=W5 (Zx ns (at_+7)) (ZR ns at_) (by omega) (by omega);have k8:=W5 (Zx ns (at_+8)) (ZR ns at_) (by omega) (by omega);have sJ:¬(63:Int)<(ns.length:Int):=by omega
 have ok3:vp (1+Z4 (Zx ns at_) 9907 3)=Aa:=Hi.mpr (by omega);have okl:vp (Z4 (Zx ns at_) 9887 4)=Aa:=Hi.mpr (by omega);have okm:vp ((ZR ns at_:Nat):Int)=Aa:=EU (by omega);obtain⟨r1,f1,o5,q1⟩:=M9 (i:=5) (body:=Ol) dN (λ(s:List Nat) r=>∃o5,r=[Z (.pl (.list (ns.map dI))),Z (.pl (.int at_)),Z (.pl (.int (Zx ns at_))),Z (.pl (.int (ZR ns at_))),
   Z (.ol (s.map λk=>ZQ ((Ah (ZR ns at_)).map λs=>DX (Zx ns (at_+1+k)+61*(k:Int)) (ZR ns at_) s))),o5,J,J,J,J,J]) (Ah (1+Z4 (Zx ns at_) 9907 3).toNat)
  [Z (.pl (.list (ns.map dI))),Z (.pl (.int at_)),Z (.pl (.int (Zx ns at_))),Z (.pl (.int (ZR ns at_))),Z (.ol []),J,J,J,J,J,J] ⟨J,rfl⟩ (by
   rintro s k post r vR ⟨o5,rfl⟩
   have hk':=AS.mp (show k∈Ah (1+Z4 (Zx ns at_) 9907 3).toNat by rw[vR];simp);have hs:s.length<4:=by have:=congrArg BC vR;simp at this;omega
   have e:=lI ns at_ k (ZR ns at_) (Z (.pl (.int (Zx ns at_)))) (s.map λk=>ZQ ((Ah (ZR ns at_)).map λs=>DX (Zx ns (at_+1+k)+61*(k:Int)) (ZR ns at_) s)) J J J J J (by omega) (by simp;omega) (by omega) (by omega);exact⟨_,e,Z (.pl (dN k)),by simp⟩)
 subst q1;have lks:∀(o4 o5:Option B),∃r2,ZN 5 Lx ((Ah (Z4 (Zx ns at_) 9887 4).toNat).map dN) [Z (.pl (.list (ns.map dI))),Z (.pl (.int at_)),Z (.pl (.int (Zx ns at_))),Z (.pl (.int (ZR ns at_))),o4,o5,Z (.ol []),J,J,J,J]=Z (.nx r2) /\
   ∃o5 o7 o8,r2=[Z (.pl (.list (ns.map dI))),Z (.pl (.int at_)),Z (.pl (.int (Zx ns at_))),Z (.pl (.int (ZR ns at_))),o4,o5,Z (.ol ((Ah (Z4 (Zx ns at_) 9887 4).toNat).map λk=>sG (Gv ns at_ k))),o7,o8,J,J]:=by
  intro o4 o5;refine M9 (i:=5) (body:=Lx) dN (λ(s:List Nat) r=>∃o5 o7 o8,r=[Z (.pl (.list (ns.map dI))),Z (.pl (.int at_)),Z (.pl (.int (Zx ns at_))),Z (.pl (.int (ZR ns at_))),
   o4,o5,Z (.ol (s.map λk=>sG (Gv ns at_ k))),o7,o8,J,J]) (Ah (Z4 (Zx ns at_) 9887 4).toNat) _ ⟨o5,J,J,rfl⟩ ?_
  rintro s k post r vR ⟨o5,o7,o8,rfl⟩
  have hk':=AS.mp (show k∈Ah (Z4 (Zx ns at_) 9887 4).toNat by rw[vR];simp);have hs:s.length<4:=by have:=congrArg BC vR;simp at this;omega
  obtain⟨r7,r8,e⟩:=kH ns at_ k (ZR ns at_) (Z (.pl (.int (Zx ns at_)))) o4 (s.map λk=>sG (Gv ns at_ k)) o7 o8 J J (by omega) (by simp;omega) rfl;exact⟨_,e,Z (.pl (dN k)),r7,r8,by simp⟩
 have n3:(1+Z4 (Zx ns at_) 9907 3).toNat<1000000:=by omega
 have nl:(Z4 (Zx ns at_) 9887 4).toNat<1000000:=by omega
 have nm:ZR ns at_<1000000:=by omega
 have hdk:((Ah (1+Z4 (Zx ns at_) 9907 3).toNat).map λk=>ZQ ((Ah (ZR ns at_)).map λs=>DX (Zx ns (at_+1+k)+61*(k:Int)) (ZR ns at_) s))=(CJ ns at_).map ZQ:=by unfold CJ;simp
 have ua:((Ah (Z4 (Zx ns at_) 9887 4).toNat).map λk=>sG (Gv ns at_ k))=(HF ns at_).map sG:=by unfold HF;simp
 rw[hdk]at f1;simp only[ua]at lks;have dkl:(CJ ns at_).length<10:=by unfold CJ;simp;omega
 unfold zq Wk.d HD Kf Vd;simp only
 by_cases w1:Z4 (Zx ns at_) 9901 3=1
 .have w1':(Z4 (Zx ns at_) 9901 3==1)=Aa:=by simp[w1]
  have cut:cutD ((CJ ns at_).map ZQ) J (Z 1)=((CJ ns at_).take 1).map ZQ:=by unfold cutD zw;simp
  obtain⟨r2,f2,p5,p7,p8,q2⟩:=lks (Z (.ol (ZQ ((Ah (ZR ns at_)).map λk=>xI (Zx ns (at_+1)) k)::ZQ ((Ah (ZR ns at_)).map λk=>[wW (ZR ns at_) k])::List.take 1 ((CJ ns at_).map ZQ)))) o5;subst q2;have c2:min 1 (CJ ns at_).length+1+1<1000000:=by omega
  have c3:(2:Nat)+min 1 (CJ ns at_).length<1000000:=by omega
  by_cases w2:Z4 (Zx ns at_) 9859 3=1
  .have w2':(Z4 (Zx ns at_) 9859 3==1)=Aa:=by simp[w2]
   simp[FT,LG,c0,m4,<-hmc,sJ,m3,ok3,CL,n3,f1,mw,w1',c1,wk,cut,w1,ml,okl,nl,f2,c7,k7,mb,w2',okm,nm,c8,k8,w2,c2,c3]
  .have w2':(Z4 (Zx ns at_) 9859 3==1)=Ab:=by simp[w2]
   simp[FT,LG,c0,m4,<-hmc,sJ,m3,ok3,CL,n3,f1,mw,w1',c1,wk,cut,w1,ml,okl,nl,f2,c7,k7,mb,w2',okm,nm,c8,k8,w2,c2,c3]
 .have w1':(Z4 (Zx ns at_) 9901 3==1)=Ab:=by simp[w1]
  obtain⟨r2,f2,p5,p7,p8,q2⟩:=lks (Z (.ol ((CJ ns at_).map ZQ))) o5;subst q2
  by_cases w2:Z4 (Zx ns at_) 9859 3=1
  .have w2':(Z4 (Zx ns at_) 9859 3==1)=Aa:=by simp[w2]
   simp[FT,LG,c0,m4,<-hmc,sJ,m3,ok3,CL,n3,f1,mw,w1',w1,ml,okl,nl,f2,c7,k7,mb,w2',okm,nm,c8,k8,w2]
  .have w2':(Z4 (Zx ns at_) 9859 3==1)=Ab:=by simp[w2]
   simp[FT,LG,c0,m4,<-hmc,sJ,m3,ok3,CL,n3,f1,mw,w1',w1,ml,okl,nl,f2,c7,k7,mb,w2',okm,nm,c8,k8,w2]
end
section
variable{c:List Int}{n:Nat}
theorem WM{e:EF}{r:HM.Env}{f:D->D}(xs:List D)(h:∀x∈xs,e (Z (.pl x)::r)=Z (f x)):Bc ZK e r xs=Z (xs.map f):=by
 have:=CM (e:=e) (r:=r) id f xs h
 rwa [List.map_id]at this
theorem WO(xs:List D)(p:D->Bool):FA (xs.map λx=>BX (p x))=Z (xs.map p):=by
 have:=NQ (xs.map p)
 rwa [Aw]at this
def DG(d:D)(lo hi:Int):Bool:=match d with
 | .int i=>decide (lo<=i)&&decide (i<=hi)
 |_=>Ab
def w6:D->Prop
 | .dict _=>False
 |_=>True
theorem Lz(d:D)(lo hi:Int)(nd:w6 d:=by trivial):DO [d,.int lo,.int hi]=Z (.bool (DG d lo hi)):=by
 cases d<;>first|exact nd.elim|simp[DO,au,DG]
 rename_i i
 by_cases h:lo<=i<;>simp[h]
def Cy(d:D)(lo hi:Int):Bool:=match d with
 | .tuple ds=>decide (lo<=(ds.length:Int))&&decide ((ds.length:Int)<=hi)
 |_=>Ab
theorem Lf(d:D)(lo hi:Int)(nd:w6 d:=by trivial):DN [d,.int lo,.int hi]=Z (.bool (Cy d lo hi)):=by
 cases d<;>first|exact nd.elim|simp[DN,XY,Cy]
 rename_i ds
 by_cases h:lo<=(ds.length:Int)<;>simp[h]
def Dr(many:Int):Int->List D->Bool
 |_,[]=>Aa
 |l,.int i::r=>(decide (l<=i)&&decide (i<=many-1))&&Dr many (i+1) r
 |_,_::_=>Ab
def Ja(d:D)(many:Int):Bool:=match d with
 | .tuple ds=>Dr many 0 ds
 |_=>Ab
theorem WD(d:D)(many:Int):∀(ds:List D) (l:Int) (o:Option B),(∀x∈ds,w6 x) ->(Dr many l ds=Aa->∃l' o',ZN 3 Ew ds [Z (.pl d),Z (.pl (.int many)),Z (.pl (.int l)),o]=Z (.nx [Z (.pl d),Z (.pl (.int many)),Z (.pl (.int l')),o'])) /\ (Dr many l ds=Ab->ZN 3 Ew ds [Z (.pl d),Z (.pl (.int many)),Z (.pl (.int l)),o]=Z (.rt (.bool Ab)))
 |[],l,o,_=>⟨λ_=>⟨l,o,rfl⟩,λh=>by simp[Dr]at h⟩
 |x::ds,l,o,nd=>by
  have key:=Lz x l (many-1) (nd x (Am ..));cases hx:DG x l (many-1)with
  |false =>
   have e:Ew [Z (.pl d),Z (.pl (.int many)),Z (.pl (.int l)),Z (.pl x)]=Z (.rt (.bool Ab)):=by rw[hx]at key;simp[Ew,key]
   have e2:Dr many l (x::ds)=Ab:=by cases x<;>simp[Dr];rename_i i;simp[DG]at hx;intro h1 h2;exact absurd (hx h1) (by omega)
   refine⟨λh=>?_,λ_=>?_⟩
   .rw[e2]at h;cases h
   .unfold ZN
    show(match Ew [Z (.pl d),Z (.pl (.int many)),Z (.pl (.int l)),Z (.pl x)]with|some (.nx r')=>_|some (.ct r')=>_|some (.bk r')=>_|some (.rt d)=>_|none=>_)=_;rw[e]
  |true =>
   cases x with
   |int i =>
    have e:Ew [Z (.pl d),Z (.pl (.int many)),Z (.pl (.int l)),Z (.pl (.int i))]=Z (.nx [Z (.pl d),Z (.pl (.int many)),Z (.pl (.int (i+1))),Z (.pl (.int i))]):=by rw[hx]at key;simp[Ew,key]
    have e2:Dr many l (.int i::ds)=Dr many (i+1) ds:=by have:(decide (l<=i)&&decide (i<=many-1))=Aa:=hx;simp only[Dr,this,TC]
    obtain⟨a1,a2⟩:=WD d many ds (i+1) (Z (.pl (.int i))) λx hx=>nd x (Ap _ hx);rw[e2];have e3:ZN 3 Ew (.int i::ds) [Z (.pl d),Z (.pl (.int many)),Z (.pl (.int l)),o]=ZN 3 Ew ds [Z (.pl d),Z (.pl (.int many)),Z (.pl (.int (i+1))),Z (.pl (.int i))]:=by show(match Ew [Z (.pl d),Z (.pl (.int many)),Z (.pl (.int l)),Z (.pl (.int i))]with|some (.nx r')=>_|some (.ct r')=>_|some (.bk r')=>_|some (.rt d)=>_|none=>_)=_;rw[e]
    rw[e3];exact⟨a1,a2⟩
   |_=>simp[DG]at hx
theorem YH(d:D)(many:Int)(hl:∀ds,d=.tuple ds->ds.length<1000000/\∀x∈ds,w6 x)(nd:w6 d:=by trivial):Dv [d,.int many]=Z (.bool (Ja d many)):=by
 cases d with
 |tuple ds =>
  obtain⟨hl,hn⟩:=hl ds rfl;obtain⟨a1,a2⟩:=WD (.tuple ds) many ds 0 J hn;cases h:Dr many 0 ds with
  |true=>obtain⟨l',o',e⟩:=a1 h;simp[Dv,Ow,Ja,h,hl,e]
  |false=>have e:=a2 h;simp[Dv,Ow,Ja,h,hl,e]
 |dict _=>exact nd.elim
 |_=>simp[Dv,Ow,Ja]
def small:D->Prop
 | .tuple ds=>ds.length<1000000/\∀x∈ds,w6 x
 | .dict _=>False
 |_=>True
theorem YE(h:(c.map dI).length<1000000):small (sG c):=⟨h,λx hx=>by obtain⟨i,_,rfl⟩:=Al.mp hx;trivial⟩
theorem Xd{d:D}(h:small d):w6 d:=by cases d<;>first|exact h.elim|trivial
theorem ju{d:D}(h:small d):∀ds,d=.tuple ds->ds.length<1000000/\∀x∈ds,w6 x:=by rintro ds rfl;exact h
def KC(d:D)(many:Int):Bool:=Cy d many many&&(match d with | .tuple ds=>ds.all λc=>Ja c many|_=>Ab)
def Yg(d:D):Prop:=match d with | .tuple ds=>ds.length<1000000/\∀x∈ds,small x | .dict _=>False|_=>True
theorem iB{d:D}(h:Yg d):w6 d:=by cases d<;>first|exact h.elim|trivial
theorem lB(d:D)(many:Int)(hs:Yg d):Im [d,.int many]=Z (.bool (KC d many)):=by
 have h1:=Lf d many many (iB hs);cases hr:Cy d many many with
 |false=>rw[hr]at h1;simp[Im,RZ,h1,KC,hr]
 |true =>
  rw[hr]at h1;cases d with
  |tuple ds =>
   have hs':ds.length<1000000/\∀x∈ds,small x:=hs;simp[Im,RZ,h1,KC,hr,hs'.1];rw[WM (f:=λc=>.bool (Ja c many))]
   .simp[WO]
   .intro x hx
    simp[YH x many (ju (hs'.2 x hx)) (Xd (hs'.2 x hx))]
  |_=>simp[Cy]at hr
def Ku(d:D)(many:Int):Bool:=Cy d many many&&(match d with | .tuple ds=>ds.all λc=>DG c 0 9|_=>Ab)
theorem lA(d:D)(many:Int)(hs:small d):Ig [d,.int many]=Z (.bool (Ku d many)):=by
 have h1:=Lf d many many (Xd hs);cases hr:Cy d many many with
 |false=>rw[hr]at h1;simp[Ig,RY,h1,Ku,hr]
 |true =>
  rw[hr]at h1;cases d with
  |tuple ds =>
   have hs':ds.length<1000000:=hs.1;simp[Ig,RY,h1,Ku,hr,hs'];rw[WM (f:=λc=>.bool (DG c 0 9))]
   .simp[WO]
   .intro x hx
    simp[Lz x 0 9 (hs.2 x hx)]
  |_=>simp[Cy]at hr
structure Wk.V(w:Wk):Prop where
 m1:1<=w.many
 m2:w.many<=8
 d1:1<=w.deeds.length
 d2:w.deeds.length<=5
 dl:∀dd∈w.deeds,dd.length=w.many
 dc:∀dd∈w.deeds,∀c∈dd,Cr w.many c
 l2:w.looks.length<=4
 ll:∀l∈w.looks,l.length=w.many
 lc:∀l∈w.looks,∀x∈l,0<=x/\x<=9
 b1:w.beg≠[]
 bc:Cr w.many w.beg
 gc:Cr w.many w.goal
theorem Wk.Ok.v{w:Wk}(h:w.Ok):Wk.V w:=by obtain⟨m1,m2,d1,d2,dl,dc,l2,ll,lc,b1,bc,g1,gc⟩:=h;exact⟨by omega,by omega,d1,by omega,dl,dc,by omega,ll,lc,b1,bc,gc⟩
theorem QD(n:Nat):∀(c:List Int) (l:Int),c.Pairwise (· < ·)->(∀x∈c,l<=x/\x<(n:Int))->Dr n l (c.map dI)=Aa
 |[],_,_,_=>rfl
 |x::c,l,hp,hb=>by have h1:=hb x (Am ..);have ih:=QD n c (x+1) (DE.mp hp).2 λy hy=>⟨by have:=(DE.mp hp).1 y hy;omega,(hb y (Ap _ hy)).2⟩;show((decide (l<=x)&&decide (x<=(n:Int)-1))&&Dr n (x+1) (c.map dI))=Aa;rw[ih,decide_eq_true h1.1,decide_eq_true (show x<=(n:Int)-1 by omega)];rfl
theorem Q7(h:Cr n c)(hn:n<1000):Dv [sG c,.int n]=Z (.bool Aa):=by have hl:=h.len;rw[YH (sG c) n (by intro ds e;cases e;exact⟨by simp;omega,λx hx=>by obtain⟨i,_,rfl⟩:=Al.mp hx;trivial⟩)];show Z (BX (Dr n 0 (c.map dI)))=_;rw[QD n c 0 h.1 h.2]
theorem lZ(h:Cr n c)(h0:c≠[])(hn:n<1000):Ll [sG c,.int n]=Z (.bool Aa):=by
 have h1:=Q7 h hn;have h2:(0:Int)<(c.length:Int):=by have:=Uv.mpr h0;omega
 simp[Ll,YW,h1];exact Uv.mpr h0
theorem gI{w:Wk}(h:Wk.V w){dd:List (List Int)}(hd:dd∈w.deeds):Im [ZQ dd,.int w.many]=Z (.bool Aa):=by
 have hl:=h.dl dd hd;have m2:=h.m2;rw[lB (ZQ dd) _ (show(dd.map sG).length<1000000/\∀x∈dd.map sG,small x by refine⟨by simp;omega,λx hx=>?_⟩;obtain⟨c,hc,rfl⟩:=Al.mp hx;have:=(h.dc dd hd c hc).len;refine YE ?_;simp;omega)];have e:KC (ZQ dd) w.many=Aa:=by unfold KC ZQ Cy;simp[hl];intro c hc;exact QD w.many c 0 (h.dc dd hd c hc).1 (h.dc dd hd c hc).2
 rw[e]
theorem eB{w:Wk}(h:Wk.V w){l:List Int}(hd:l∈w.looks):Ig [sG l,.int w.many]=Z (.bool Aa):=by
 have hl:=h.ll l hd;have m2:=h.m2;rw[lA (sG l) _ (YE (show(l.map dI).length<1000000 by simp;omega))];have e:Ku (sG l) w.many=Aa:=by unfold Ku Cy;simp[hl];intro x hx;have:=h.lc l hd x hx;simp[DG];omega
 rw[e]
theorem allTrue(α:Type)(xs:List α):FA (xs.map λ_=>BX Aa)=Z (xs.map λ_=>Aa):=by
 have:=NQ (xs.map λ_=>Aa)
 rwa [Aw]at this
theorem mq{w:Wk}(h:Wk.V w):LK [.tuple (w.deeds.map ZQ),.int w.many]=Z (.bool Aa):=by
 have h1:=Lf (.tuple (w.deeds.map ZQ)) 1 5;have d1:=h.d1;have d2:=h.d2;have e:Cy (.tuple (w.deeds.map ZQ)) 1 5=Aa:=by simp[Cy];omega
 rw[e]at h1;have hl:w.deeds.length<1000000:=by omega
 simp[LK,ar,h1,hl];rw[CM ZQ (λ_=>.bool Aa)]
 .simp[allTrue]
 .intro x hx
  simp[gI h hx]
theorem l8{w:Wk}(h:Wk.V w):LJ [.tuple (w.looks.map sG),.int w.many]=Z (.bool Aa):=by
 have h1:=Lf (.tuple (w.looks.map sG)) 0 4;have d2:=h.l2;have e:Cy (.tuple (w.looks.map sG)) 0 4=Aa:=by simp[Cy];omega
 rw[e]at h1;have hl:w.looks.length<1000000:=by omega
 simp[LJ,ak,h1,hl];rw[CM sG (λ_=>.bool Aa)]
 .simp[allTrue]
 .intro x hx
  simp[eB h hx]
theorem mW{w:Wk}(h:Wk.V w):LI [w.d]=Z (.bool Aa):=by
 have h1:=Lf w.d 5 5;have e:Cy w.d 5 5=Aa:=by simp[Cy,Wk.d]
 rw[e]at h1;have h2:=Lz (.int w.many) 1 8;have m1:=h.m1;have m2:=h.m2;have e2:DG (.int w.many) 1 8=Aa:=by simp[DG];omega
 rw[e2]at h2;have h3:=mq h;have h4:=l8 h;have h5:=lZ h.bc h.b1 (by omega);have h6:=Q7 h.gc (by omega);unfold Wk.d at h1 ⊢;simp[LI,aj,h1,h2,h3,h4,h5,h6]
theorem Lb{w:Wk}(h:Wk.V w):DP [w.d]=Z w.d:=by simp[DP,YD,mW h]
theorem So(w:Wk):F6 [w.d]=Z (.tuple (w.deeds.map ZQ)):=by simp[F6,YV,Wk.d]
theorem Sn(w:Wk):FY [w.d]=Z (.tuple (w.looks.map sG)):=by simp[FY,YU,Wk.d]
theorem oY{w:Wk}(h:Wk.V w){ls:List Int}(hl:Cr w.looks.length ls):LO [w.d,sG ls]=Z (sG ls):=by have l2:=h.l2;have h1:=Q7 hl (by omega);simp[LO,aL,Sn,h1]
end
section
variable{l s:Int}{c:List Int}
def Bi(w:Wk)(d s:Int):List Int:=(w.deeds[d.toNat]?.getD [])[s.toNat]?.getD []
def Kn(w:Wk)(l s:Int):Int:=(w.looks[l.toNat]?.getD [])[s.toNat]?.getD 0
def AH(w:Wk)(c:List Int)(d:Int):Bool:=c.all λs=>decide (0<(Bi w d s).length)
def Bp(w:Wk)(c:List Int)(d:Int):List Int:=c.flatMap λs=>Bi w d s
def ZM(w:Wk)(c:List Int)(d:Int):List Int:=sortI (tY [] (Bp w c d))
def Zy(w:Wk)(ls:List Int)(s:Int):List Int:=ls.map λl=>Kn w l s
theorem QG{w:Wk}{d:Int}(h0:0<=d)(h1:d<w.deeds.length):vE (w.deeds.map ZQ) d=Z (ZQ (w.deeds[d.toNat]?.getD [])):=by
 refine Nb h0 ?_;have h:d.toNat<w.deeds.length:=by omega
 simp[h,Bn]
theorem Qh{w:Wk}(hv:Wk.V w){d:Int}(h0:0<=d)(h1:d<w.deeds.length)(h2:0<=s)(h3:s<w.many):vE ((w.deeds[d.toNat]?.getD []).map sG) s=Z (sG (Bi w d s)):=by
 refine Nb h2 ?_;have h:d.toNat<w.deeds.length:=by omega
 have hl:(w.deeds[d.toNat]?.getD []).length=w.many:=by
  have:w.deeds[d.toNat]?.getD []=w.deeds[d.toNat]:=by simp[h,Bn]
  rw[this];exact hv.dl _ (Gk h)
 have h':s.toNat<(w.deeds[d.toNat]?.getD []).length:=by omega
 unfold Bi;rw[A1,A2 h'];simp[Bn,h']
theorem Qb{w:Wk}(hv:Wk.V w){d:Int}(h0:0<=d)(h1:d<w.deeds.length)(h2:0<=s)(h3:s<w.many):Cr w.many (Bi w d s):=by
 have h:d.toNat<w.deeds.length:=by omega
 have e:w.deeds[d.toNat]?.getD []=w.deeds[d.toNat]:=by simp[h,Bn]
 have hl:=hv.dl _ (Gk h);unfold Bi;rw[e];have h':s.toNat<(w.deeds[d.toNat]).length:=by omega
 have e2:(w.deeds[d.toNat])[s.toNat]?.getD []=(w.deeds[d.toNat])[s.toNat]:=by simp[h',Bn]
 rw[e2];exact hv.dc _ (Gk h) _ (Gk h')
theorem Wu{w:Wk}(h0:0<=l)(h1:l<w.looks.length):vE (w.looks.map sG) l=Z (sG (w.looks[l.toNat]?.getD [])):=by
 refine Nb h0 ?_;have h:l.toNat<w.looks.length:=by omega
 simp[h,Bn]
theorem V8{w:Wk}(hv:Wk.V w)(h0:0<=l)(h1:l<w.looks.length)(h2:0<=s)(h3:s<w.many):vE ((w.looks[l.toNat]?.getD []).map dI) s=Z (.int (Kn w l s)):=by
 refine Nb h2 ?_;have h:l.toNat<w.looks.length:=by omega
 have hl:(w.looks[l.toNat]?.getD []).length=w.many:=by
  have:w.looks[l.toNat]?.getD []=w.looks[l.toNat]:=by simp[h,Bn]
  rw[this];exact hv.ll _ (Gk h)
 have h':s.toNat<(w.looks[l.toNat]?.getD []).length:=by omega
 unfold Kn;rw[A1,A2 h'];simp[Bn,h']
theorem lb{w:Wk}(hv:Wk.V w){ls:List Int}(hl:Cr w.looks.length ls)(h2:0<=s)(h3:s<w.many):Lq [w.d,sG ls,.int s]=Z (sG (Zy w ls s)):=by
 have l2:=hv.l2;have sJ:=hl.len;have hb:ls.length<1000000:=by omega
 simp[Lq,YC,hb];rw[CM dI (λl=>dI (Kn w l s))]
 .simp[Zy]
 .intro l hl'
  have hb:=hl.2 l hl';simp[Sn,Wu hb.1 hb.2,V8 hv hb.1 hb.2 h2 h3]
theorem oW{w:Wk}(hv:Wk.V w)(hc:Cr w.many c){d:Int}(h0:0<=d)(h1:d<w.deeds.length):LR [w.d,sG c,.int d]=Z (.bool (AH w c d)):=by
 have m2:=hv.m2;have sJ:=hc.len;have hb:c.length<1000000:=by omega
 simp[LR,aC,So,QG h0 h1,hb];rw[CM dI (λs=>.bool (decide (0<(Bi w d s).length)))]
 .have e:=NQ (c.map λs=>decide (0<(Bi w d s).length))
  rw[Aw]at e;have e':((λb=>BX b)∘λs=>decide (0<(Bi w d s).length))=λs=>BX (decide (0<(Bi w d s).length)):=rfl;rw[e']at e;simp[e,AH]
 .intro s hs
  have hb:=hc.2 s hs;simp[ZQ,Qh hv h0 h1 hb.1 hb.2]
def wC(w:Wk)(c:List Int):List Int:=((Ah w.deeds.length).filter λ(d:Nat)=>AH w c (d:Int)).map λ(k:Nat)=>(k:Int)
theorem nB{w:Wk}(hv:Wk.V w)(hc:Cr w.many c):Ly [w.d,sG c]=Z (.list ((wC w c).map dI)):=by
 have d2:=hv.d2;have hok:vp (w.deeds.length:Int)=Aa:=EU (by omega);have hb:w.deeds.length<1000000:=by omega
 simp[Ly,Y7,So,hok,CL,hb];rw[D7 dN (λk:Nat=>AH w c k) dN]
 .simp[wC]
 .intro k hk
  have hk':=AS.mp hk;simp[oW hv hc (show(0:Int)<=(k:Int) by omega) (by omega)]
 .intro k hk _
  simp
def CG(acc:List Int)(x:Int):List Int:=if acc.contains x then acc else acc++[x]
theorem NR:∀(l acc:List Int),tY acc l=l.foldl CG acc
 |[],acc=>rfl
 |x::l,acc=>by
  unfold tY;rw[DT];unfold CG;split
  .rw[NR l acc];rfl
  .rw[NR l (acc++[x])];rfl
def vC(acc:List Int):List (Ky×D):=acc.map λi=>(Cg i,BX Aa)
theorem gH(acc:List Int)(x:Int):tf (vC acc) (Cg x) (BX Aa)=vC (CG acc x):=by
 unfold tf CG vC
 by_cases h:x∈acc
 .have e1:((acc.map λi=>((Cg i:Ky),BX Aa)).any λp=>decide (p.1=Cg x))=Aa:=by
   simp;exact h
  have e2:acc.contains x=Aa:=by simpa using h
  rw[if_pos e1,if_pos e2,Aw];refine Fh λi _=>?_;simp
 .have e1:¬((acc.map λi=>((Cg i:Ky),BX Aa)).any λp=>decide (p.1=Cg x))=Aa:=by
   simp;exact h
  have e2:¬acc.contains x=Aa:=by simpa using h
  rw[if_neg e1,if_neg e2];simp
theorem X4(acc:List Int)(x:Int):(CG acc x).length<=acc.length+1:=by unfold CG;split<;>simp
theorem WN:∀(l acc:List Int),(l.foldl CG acc).length<=acc.length+l.length
 |[],acc=>by simp
 |x::l,acc=>by rw[DT];have:=WN l (CG acc x);have:=X4 acc x;simp;omega
theorem VN(e0 e1 e2 e3 e5:Option B):∀(l acc:List Int) (o:Option B),acc.length+l.length<1000000 ->∃o',ZN 6 Lp (l.map dI) [e0,e1,e2,e3,Z (.ok (vC acc)),e5,o]=Z (.nx [e0,e1,e2,e3,Z (.ok (vC (l.foldl CG acc))),e5,o'])
 |[],acc,o,_=>⟨o,rfl⟩
 |x::l,acc,o,h=>by
  rw[AD]at h;have hb:acc.length<1000000:=by omega
  have e:Lp [e0,e1,e2,e3,Z (.ok (vC acc)),e5,Z (.pl (dI x))]=Z (.nx [e0,e1,e2,e3,Z (.ok (vC (CG acc x))),e5,Z (.pl (dI x))]):=by
   have hl:(vC acc).length<1000000:=by unfold vC;simp;exact hb
   simp[Lp,hl,gH]
  have hd:=X4 acc x;obtain⟨o',e'⟩:=VN e0 e1 e2 e3 e5 l (CG acc x) (Z (.pl (dI x))) (by omega);refine⟨o',?_⟩;rw[Ak,DT,<-e'];unfold ZN;show(match Lp [e0,e1,e2,e3,Z (.ok (vC acc)),e5,Z (.pl (dI x))]with|some (.nx r')=>_|some (.ct r')=>_|some (.bk r')=>_|some (.rt d)=>_|none=>_)=_;rw[e];cases l<;>rfl
theorem Vn{w:Wk}(hv:Wk.V w){d:Int}(h0:0<=d)(h1:d<w.deeds.length)(e1 e2:Option B):∀(c acc:List Int) (o5 o6:Option B),(∀s∈c,0<=s/\s<(w.many:Int))->acc.length+c.length*10<100000 ->∃o5' o6',ZN 5 Lo (c.map dI) [Z (.pl w.d),e1,e2,Z (.pl (ZQ (w.deeds[d.toNat]?.getD []))),Z (.ok (vC acc)),o5,o6]=Z (.nx [Z (.pl w.d),e1,e2,Z (.pl (ZQ (w.deeds[d.toNat]?.getD []))),Z (.ok (vC ((Bp w c d).foldl CG acc))),o5',o6'])
 |[],acc,o5,o6,_,_=>⟨o5,o6,rfl⟩
 |s::c,acc,o5,o6,hs,hl=>by
  rw[AD]at hl;have hb:=hs s (Am ..);have hr:=(Qb hv h0 h1 hb.1 hb.2).len;have m2:=hv.m2;have hrl:(Bi w d s).length<1000000:=by omega
  obtain⟨o',e⟩:=VN (Z (.pl w.d)) e1 e2 (Z (.pl (ZQ (w.deeds[d.toNat]?.getD [])))) (Z (.pl (dI s))) (Bi w d s) acc o6 (by omega);have e':Lo [Z (.pl w.d),e1,e2,Z (.pl (ZQ (w.deeds[d.toNat]?.getD []))),Z (.ok (vC acc)),Z (.pl (dI s)),o6]=Z (.nx [Z (.pl w.d),e1,e2,Z (.pl (ZQ (w.deeds[d.toNat]?.getD []))),Z (.ok (vC ((Bi w d s).foldl CG acc))),Z (.pl (dI s)),o']):=by unfold ZQ at e ⊢;simp[Lo,Qh hv h0 h1 hb.1 hb.2,hrl,e]
  have hf:=WN (Bi w d s) acc;obtain⟨p5,p6,ih⟩:=Vn hv h0 h1 e1 e2 c ((Bi w d s).foldl CG acc) (Z (.pl (dI s))) o' (λx hx=>hs x (Ap _ hx)) (by omega);refine⟨p5,p6,?_⟩;have ef:Bp w (s::c) d=Bi w d s++Bp w c d:=rfl;rw[ef,List.foldl_append,<-ih,Ak];show(match Lo [Z (.pl w.d),e1,e2,Z (.pl (ZQ (w.deeds[d.toNat]?.getD []))),Z (.ok (vC acc)),Z (.pl (dI s)),o6]with|some (.nx r')=>_|some (.ct r')=>_|some (.bk r')=>_|some (.rt d)=>_|none=>_)=_;rw[e']
theorem Vt{w:Wk}(hv:Wk.V w)(hc:Cr w.many c){d:Int}(h0:0<=d)(h1:d<w.deeds.length):∀x∈Bp w c d,0<=x/\x<(w.many:Int):=by intro x hx;obtain⟨s,hs,h⟩:=JU.mp hx;exact(Qb hv h0 h1 (hc.2 s hs).1 (hc.2 s hs).2).2 x h
theorem GL{w:Wk}(hv:Wk.V w)(hc:Cr w.many c){d:Int}(h0:0<=d)(h1:d<w.deeds.length):Cr w.many (ZM w c d):=by refine Np (N6 _ _ (by simp)) λx hx=>Vt hv hc h0 h1 x ?_;rw[Le]at hx;simpa using hx
theorem jm{w:Wk}(hv:Wk.V w)(hc:Cr w.many c){d:Int}(h0:0<=d)(h1:d<w.deeds.length):Jt [w.d,sG c,.int d]=Z (sG (ZM w c d)):=by
 have m2:=hv.m2;have sJ:=hc.len;have hb:c.length<1000000:=by omega
 obtain⟨o5,o6,e⟩:=Vn hv h0 h1 (Z (.pl (sG c))) (Z (.pl (.int d))) c [] J J hc.2 (by simp;omega);have hl:(tY [] (Bp w c d)).length<64:=by have h:=(GL hv hc h0 h1).len;have:=(sortI_perm (tY [] (Bp w c d))).length_eq;unfold ZM at h;omega
 have hs:=Rl _ hl;rw[NR]at hs;have ek:(vC ((Bp w c d).foldl CG [])).map (λp=>BS p.1)=((Bp w c d).foldl CG []).map dI:=by unfold vC;rw[Aw];rfl
 simp[Jt,XX,So,QG h0 h1,hb];rw[show Z (B.ok [])=Z (B.ok (vC [])) from rfl,e];simp[ek,hs,ZM,NR]
end
abbrev Gs:=List (List Int×List Int)
abbrev Az(k:List Int):List Ky:=k.map Cg
def AQ(g:Gs):List (List Ky×List D):=g.map λp=>(Az p.1,p.2.map dI)
theorem KZ{a b:List Int}(h:Az a=Az b):a=b:=by
 induction a generalizing b with
 |nil=>cases b with
  |nil=>rfl
  |cons _ _=>simp at h
 |cons x a ih=>cases b with
  |nil=>simp at h
  |cons y b=>simp at h;rw[h.1,ih (by simpa using h.2)]
theorem Qy(a b:List Int):(Az a=Az b)↔a=b:=⟨KZ,λh=>by rw[h]⟩
theorem lj(k:List Int):MU (k.map dI)=Z (Az k):=by
 induction k with
 |nil=>rfl
 |cons x k ih=>show(MU (k.map dI)).map (Cg x::·)=_;rw[ih];rfl
theorem Cp(k:List Int):Be (sG k)=Z (Az k):=lj k
theorem K3(g:Gs)(k:List Int):Zm (AQ g) (Az k)=(Zm g k).map λp=>p.map dI:=by
 unfold Zm AQ;rw[List.find?_map];have e:((λp:List Ky×List D=>decide (p.1=Az k))∘λp:List Int×List Int=>(Az p.1,p.2.map dI))=λp=>decide (p.1=k):=by
  funext p
  simp only[L9];exact decide_eq_decide.mpr (Qy p.1 k)
 rw[e];cases g.find? λp=>decide (p.1=k)<;>rfl
theorem Wz(g:Gs)(k:List Int):Cf (AQ g) (Az k)=AQ (Cf g k):=by
 unfold Cf;rw[K3];cases Zm g k with
 |none=>simp[AQ]
 |some p=>rfl
theorem Nc(k:List Int)(s:Int):∀(g:Gs),Dq (AQ g) (Az k) (dI s)=AQ (Dq g k s)
 |[]=>rfl
 |(x,p)::g=>by
  show Dq ((Az x,p.map dI)::AQ g) (Az k) (dI s)=AQ (Dq ((x,p)::g) k s);unfold Dq
  by_cases h:x=k
  .rw[if_pos (by rw[h]),if_pos h]
   simp[AQ]
  .rw[if_neg (λe=>h (KZ e)),if_neg h,Nc k s g]
   rfl
def Cw(g:Gs)(k:List Int)(s:Int):Gs:=Dq (Cf g k) k s
theorem Jo(k:List Int):Zm ([]:Gs) k=J:=rfl
theorem E5(x:List Int)(p:List Int)(g:Gs)(k:List Int):Zm ((x,p)::g) k=if x=k then Z p else Zm g k:=by
 unfold Zm;rw[Df]
 by_cases h:x=k<;>simp[h]
theorem WJ(k:List Int)(s:Int)(k':List Int):∀(g:Gs),Zm (Dq g k s) k'=if k=k' then(Zm g k).map (·++[s])else Zm g k'
 |[]=>by simp[Dq,Jo]
 |(x,p)::g=>by
  unfold Dq
  by_cases h:x=k
  .subst h
   rw[if_pos rfl,E5,E5,E5,if_pos rfl];split<;>rfl
  .rw[if_neg h,E5,WJ k s k' g,E5,E5,if_neg h]
   by_cases h2:x=k'
   .subst h2
    rw[if_pos rfl,if_pos rfl,if_neg (A8 h)]
   .rw[if_neg h2,if_neg h2]
theorem Yj(x:List Int)(p:List Int)(k:List Int):∀(g:Gs),Zm (g++[(x,p)]) k=match Zm g k with|some q=>Z q|none=>if x=k then Z p else J
 |[]=>by simp[Jo,E5]
 |(y,q)::g=>by rw[Uc,E5,E5,Yj x p k g];split<;>rfl
theorem Nn(g:Gs)(k k':List Int):Zm (Cf g k) k'=if k=k' then Z ((Zm g k).getD [])else Zm g k':=by
 unfold Cf;cases h:Zm g k with
 |some p =>
  by_cases e:k=k'
  .subst e;rw[if_pos rfl];exact h
  .rw[if_neg e]
 |none =>
  show Zm (g++[(k,[])]) k'=_;rw[Yj]
  by_cases e:k=k'
  .subst e;rw[if_pos rfl,if_pos rfl,h];rfl
  .rw[if_neg e,if_neg e]
   cases Zm g k'<;>rfl
theorem gg(g:Gs)(k k':List Int)(s:Int):Zm (Cw g k s) k'=if k=k' then Z ((Zm g k).getD []++[s])else Zm g k':=by
 unfold Cw;rw[WJ,Nn,Nn,if_pos rfl]
 by_cases e:k=k'
 .rw[if_pos e,if_pos e];rfl
 .rw[if_neg e,if_neg e,if_neg e]
theorem W2(k:List Int)(s:Int):∀(g:Gs),(Dq g k s).map (·.1)=g.map (·.1)
 |[]=>rfl
 |(x,p)::g=>by
  unfold Dq;split
  .rfl
  .rw[Ak,W2 k s g];rfl
theorem QQ(g:Gs)(k:List Int):(Zm g k).isSome=Aa↔k∈g.map (·.1):=by
 induction g with
 |nil=>simp[Jo]
 |cons p g ih =>
  obtain⟨x,q⟩:=p;rw[E5,Ak,AE]
  by_cases h:x=k
  .simp[h]
  .rw[if_neg h,ih]
   constructor
   .exact .inr
   .rintro (e|e)
    .exact absurd e.symm h
    .exact e
theorem gk(g:Gs)(k:List Int):(Cf g k).map (·.1)=if k∈g.map (·.1)then g.map (·.1)else g.map (·.1)++[k]:=by
 unfold Cf;cases h:Zm g k with
 |some p=>rw[if_pos ((QQ g k).mp (by rw[h];rfl))]
 |none=>rw[if_neg (λm=>by have:=(QQ g k).mpr m;rw[h]at this;cases this)];simp
theorem i3(g:Gs)(k:List Int)(s:Int):(Cw g k s).map (·.1)=if k∈g.map (·.1)then g.map (·.1)else g.map (·.1)++[k]:=by unfold Cw;rw[W2,gk]
def Cd(f:Int->List Int)(c:List Int):Gs:=c.foldl (λg s=>Cw g (f s) s) []
structure wY(f:Int->List Int)(pre:List Int)(g:Gs):Prop where
 nd:(g.map (·.1)).Nodup
 look:∀k,Zm g k=if k∈pre.map f then Z (pre.filter λs=>f s==k)else J
theorem wY.mem{f:Int->List Int}{pre:List Int}{g:Gs}(h:wY f pre g)(k:List Int):k∈g.map (·.1)↔k∈pre.map f:=by
 rw[<-QQ,h.look];split
 .rename_i m;exact⟨λ_=>m,λ_=>rfl⟩
 .rename_i m;exact⟨(λe=>by cases e),λe=>absurd e m⟩
theorem wY.step{f:Int->List Int}{pre:List Int}{g:Gs}(h:wY f pre g)(s:Int):wY f (pre++[s]) (Cw g (f s) s):=by
 refine⟨?_,λk=>?_⟩
 .rw[i3]
  split
  .exact h.nd
  .rename_i m
   rw[JX];exact⟨h.nd,by simp,λa ha b hb=>by simp at hb;subst hb;exact λe=>m (e▸ha)⟩
 .rw[gg,h.look,h.look,BI,List.filter_append]
  by_cases e:f s=k
  .subst e
   have e0:f s∈pre.map f++[s].map f:=by simp
   rw[if_pos rfl,if_pos e0];have e2:[s].filter (λx=>f x==f s)=[s]:=by simp
   rw[e2];split
   .rfl
   .rename_i m
    have:pre.filter (λx=>f x==f s)=[]:=by rw[bI];intro a ha q;exact m (Al.mpr ⟨a,ha,by simpa using q⟩)
    rw[this];rfl
  .have e2:[s].filter (λx=>f x==k)=[]:=by simp[e]
   rw[if_neg e,e2,B6];have e3:(k∈pre.map f++[s].map f)↔k∈pre.map f:=by
    rw[Bg]
    constructor
    .rintro (q|q)
     .exact q
     .simp at q;exact absurd q.symm e
    .exact .inl
   by_cases q:k∈pre.map f
   .rw[if_pos q,if_pos (e3.mpr q)]
   .rw[if_neg q,if_neg (λz=>q (e3.mp z))]
theorem WH(f:Int->List Int):∀(c pre:List Int) (g:Gs),wY f pre g->wY f (pre++c) (c.foldl (λg s=>Cw g (f s) s) g)
 |[],pre,g,h=>by rw[B6];exact h
 |s::c,pre,g,h=>by have:=WH f c (pre++[s]) _ (h.step s);rw[Ff]at this;exact this
theorem Eu(f:Int->List Int)(c:List Int):wY f c (Cd f c):=by
 have:=WH f c [] [] ⟨Fo,λk=>by simp[Jo]⟩
 rwa [ID]at this
def ZU(w:Wk)(ls c:List Int):Gs:=(CY ((Cd (Zy w ls) c).map (·.1))).map λk=>(k,c.filter λs=>Zy w ls s==k)
def Bd(p:List Int×List Int):D:=.tuple [sG p.1,sG p.2]
theorem Xa(ks:List (List Int)):Jf (ks.map sG)=Z ks:=by
 induction ks with
 |nil=>rfl
 |cons k ks ih=>show(match BP (k.map dI)with|some ns=>(Jf (ks.map sG)).map (ns::·)|none=>J)=_;rw[CU,ih];rfl
theorem j5(ks:List (List Int))(h:ks.length<64)(hn:ks.length<2\/∀k∈ks,k≠[]):GC (ks.map sG)=Z ((CY ks).map sG):=by
 unfold GC;rw[if_pos (by rw[Af];exact h)];cases ks with
 |nil=>simp[BP,sortI,CY,uQ]
 |cons k ks =>
  have e:BP (Iv sG (k::ks))=J:=rfl;rw[e,Xa];have e2:(decide ((Iv sG (k::ks)).length<2)||(k::ks).all λt=>!t.isEmpty)=Aa:=by
   rw[Gj,Af];rcases hn with q|q
   .exact .inl (by simpa using q)
   .refine .inr (Au.mpr λt ht=>?_)
    have:=q t ht;cases t with
    |nil=>exact absurd rfl this
    |cons _ _=>rfl
  dsimp only;rw[if_pos e2];unfold OP;simp only[NT]
theorem D6(ks:List (List Int)):(CY ks).Perm ks:=J9 ks _
theorem Wh(w:Wk)(ls c:List Int)(hc:c.length<60):GC ((AQ (Cd (Zy w ls) c)).map λp=>BZ (p.1.map BS))=Z ((CY ((Cd (Zy w ls) c).map (·.1))).map sG):=by
 have hg:=Eu (Zy w ls) c;have e:((AQ (Cd (Zy w ls) c)).map λp=>BZ (p.1.map BS))=((Cd (Zy w ls) c).map (·.1)).map sG:=by unfold AQ;rw[Aw,Aw];refine Fh λp _=>?_;simp only[L9];unfold Az sG;rw[Aw];rfl
 rw[e];have uZ:∀k∈(Cd (Zy w ls) c).map (·.1),k∈c.map (Zy w ls):=λk hk=>(hg.mem k).mp hk;refine j5 _ ?_ ?_
 .have:(Cd (Zy w ls) c).map (·.1) ⊆ c.map (Zy w ls):=uZ
  have:=(Mq hg.nd this);rw[Af,Af]at this;rw[Af];omega
 .cases ls with
  |nil =>
   left
   have:(Cd (Zy w []) c).map (·.1) ⊆ [[]]:=λk hk=>by obtain⟨s,_,e⟩:=Al.mp (uZ k hk);rw[<-e];simp[Zy]
   have:=(Mq hg.nd this);simp at this ⊢;omega
  |cons l ls =>
   right
   intro k hk e;obtain⟨s,_,e'⟩:=Al.mp (uZ k hk);rw[e]at e';simp[Zy]at e'
theorem YF(w:Wk)(ls c:List Int)(e:EF)(r:HM.Env)(h:∀k∈(Cd (Zy w ls) c).map (·.1),e (Z (.pl (sG k))::r)=Z (.tuple [sG k,.tuple ((c.filter λs=>Zy w ls s==k).map dI)])):Bc ZK e r ((CY ((Cd (Zy w ls) c).map (·.1))).map sG)=Z ((ZU w ls c).map Bd):=by
 rw[CM sG (λk=>.tuple [sG k,.tuple ((c.filter λs=>Zy w ls s==k).map dI)])]
 .unfold ZU
  rw[Aw];rfl
 .intro k hk
  exact h k ((D6 _).mem_iff.mp hk)
theorem WR(w:Wk)(ls c:List Int)(k:List Int)(hk:k∈(Cd (Zy w ls) c).map (·.1)):Zm (AQ (Cd (Zy w ls) c)) (Az k)=Z ((c.filter λs=>Zy w ls s==k).map dI):=by have hg:=Eu (Zy w ls) c;rw[K3,hg.look,if_pos ((hg.mem k).mp hk)];rfl
theorem WE(f:Int->List Int)(pre:List Int)(g:Gs)(h:wY f pre g)(k:List Int)(p:List Int)(e:Zm g k=Z p):p.length<=pre.length:=by
 rw[h.look]at e;split at e
 .cases e;exact EE _ _
 .cases e
theorem Fx(f:Int->List Int)(pre:List Int)(g:Gs)(h:wY f pre g):g.length<=pre.length:=by have h2:g.map (·.1) ⊆ pre.map f:=λk hk=>(h.mem k).mp hk;have:=Mq h.nd h2;simpa using this
theorem X2{w:Wk}(hv:Wk.V w){ls:List Int}(hl:Cr w.looks.length ls)(e2:Option B):∀(c pre:List Int) (g:Gs) (o:Option B),wY (Zy w ls) pre g->(∀s∈c,0<=s/\s<(w.many:Int))->pre.length+c.length<1000 ->∃o',ZN 4 Ln (c.map dI) [Z (.pl w.d),Z (.pl (sG ls)),e2,Z (.otl (AQ g)),o]=Z (.nx [Z (.pl w.d),Z (.pl (sG ls)),e2,Z (.otl (AQ (c.foldl (λg s=>Cw g (Zy w ls s) s) g))),o'])
 |[],pre,g,o,_,_,_=>⟨o,rfl⟩
 |s::c,pre,g,o,hg,hb,hn=>by
  rw[AD]at hn;have hs:=hb s (Am ..);have sJ:(AQ g).length<1000000:=by have:=Fx _ _ _ hg;unfold AQ;rw[Af];omega
  have h1:Zm (Cf (AQ g) (Az (Zy w ls s))) (Az (Zy w ls s))=Z (((Zm g (Zy w ls s)).getD []).map dI):=by rw[Wz,K3,Nn,if_pos rfl];rfl
  have h2:(((Zm g (Zy w ls s)).getD []).map dI).length<1000000:=by
   rw[Af];cases e:Zm g (Zy w ls s)with
   |none=>simp
   |some p=>have:=WE _ _ _ hg _ _ e;simp;omega
  have h2':((Zm g (Zy w ls s)).getD []).length<1000000:=by rwa [Af]at h2
  have e:Ln [Z (.pl w.d),Z (.pl (sG ls)),e2,Z (.otl (AQ g)),Z (.pl (dI s))]=Z (.nx [Z (.pl w.d),Z (.pl (sG ls)),e2,Z (.otl (AQ (Cw g (Zy w ls s) s))),Z (.pl (dI s))]):=by have ek:=lb hv hl hs.1 hs.2;simp[Ln,ek,Cp,sJ,h1,h2'];rw[Wz,Nc];rfl
  obtain⟨o',ih⟩:=X2 hv hl e2 c (pre++[s]) (Cw g (Zy w ls s) s) (Z (.pl (dI s))) (hg.step s) (λx hx=>hb x (Ap _ hx)) (by simp;omega);refine⟨o',?_⟩;rw[Ak,DT,<-ih];show(match Ln [Z (.pl w.d),Z (.pl (sG ls)),e2,Z (.otl (AQ g)),Z (.pl (dI s))]with|some (.nx r')=>_|some (.ct r')=>_|some (.bk r')=>_|some (.rt d)=>_|none=>_)=_;rw[e]
theorem Rz{w:Wk}(hv:Wk.V w){ls:List Int}(hl:Cr w.looks.length ls){c:List Int}(hc:Cr w.many c):Ea [w.d,sG ls,sG c]=Z (.list ((ZU w ls c).map Bd)):=by
 have m2:=hv.m2;have sJ:=hc.len;have hb:c.length<1000000:=by omega
 obtain⟨o',e⟩:=X2 hv hl (Z (.pl (sG c))) c [] [] J ⟨Fo,λk=>by simp[Jo]⟩ hc.2 (by simp;omega);have hk:=Wh w ls c (by omega);have hg:c.foldl (λg s=>Cw g (Zy w ls s) s) []=Cd (Zy w ls) c:=rfl;rw[hg]at e;have hn:(CY ((Cd (Zy w ls) c).map (·.1))).length<1000000:=by rw[(D6 _).length_eq,Af];have:=Fx _ _ _ (Eu (Zy w ls) c);omega
 simp[Ea,XU,hb];rw[show Z (B.otl [])=Z (B.otl (AQ [])) from rfl,e];simp[hk,hn];rw[YF]
 .simp
 .intro k hk'
  simp[Cp,WR w ls c k hk']
section
variable{ds:List D}{m n:Nat}
def uf:Nat->D->Bool
 |_,.none=>Aa
 |_,.int _=>Aa
 |_,.str x=>PyData.canLay0 (.str x)
 |0,_=>Ab
 |n+1,.list ds=>ds.all (uf n)
 |n+1,.tuple ds=>ds.all (uf n)
 |_,_=>Ab
theorem YI(h:∀d∈ds,d.canLay0=Aa):Mk ds=Aa:=by
 induction ds with
 |nil=>rfl
 |cons d ds ih=>show(d.canLay0&&Mk ds)=Aa;rw[h d (Am ..),ih λx hx=>h x (Ap _ hx)];rfl
theorem Yy(h:∀d∈ds,d.depth<=n):Pb ds<=n:=by
 induction ds with
 |nil=>exact BY _
 |cons d ds ih=>show max d.depth (Pb ds)<=n;have h1:=h d (Am ..);have h2:=ih λx hx=>h x (Ap _ hx);omega
theorem Kx:∀(n:Nat) (d:D),uf n d=Aa->d.canLay0=Aa/\d.depth<=n
 |n,.none,_=>⟨rfl,by show 0<=n;omega⟩
 |n,.int _,_=>⟨rfl,by show 0<=n;omega⟩
 |n,.str x,h=>by refine⟨?_,by show 0<=n;omega⟩;cases n<;>exact h
 |0,.bool _,h=>by cases h
 |0,.list _,h=>by cases h
 |0,.tuple _,h=>by cases h
 |0,.dict _,h=>by cases h
 |n+1,.bool _,h=>by cases h
 |n+1,.dict _,h=>by cases h
 |n+1,.list ds,h=>by have h':ds.all (uf n)=Aa:=h;have hh:=Au.mp h';refine⟨YI λd hd=>(Kx n d (hh d hd)).1,?_⟩;show Pb ds+1<=n+1;have:=Yy λd hd=>(Kx n d (hh d hd)).2;omega
 |n+1,.tuple ds,h=>by have h':ds.all (uf n)=Aa:=h;have hh:=Au.mp h';refine⟨YI λd hd=>(Kx n d (hh d hd)).1,?_⟩;show Pb ds+1<=n+1;have:=Yy λd hd=>(Kx n d (hh d hd)).2;omega
theorem K1{d:D}(h:uf n d=Aa)(hn:n<=60):C2 d=Aa:=by obtain⟨h1,h2⟩:=Kx n d h;unfold C2;rw[h1,decide_eq_true (show d.depth<=60 by omega)];rfl
theorem Yi(ih:∀d∈ds,∀e,(∃m,uf m e=Aa)->(BR d e=Aa↔d=e)):∀(es:List D),(∀e∈es,∃m,uf m e=Aa)->(OQ ds es=Aa↔ds=es):=by
 induction ds with
 |nil =>
  intro es _;cases es with
  |nil=>exact⟨λ_=>rfl,λ_=>rfl⟩
  |cons e es=>exact⟨(λh=>by cases h),(λh=>by cases h)⟩
 |cons d ds ihl =>
  intro es he;cases es with
  |nil=>exact⟨(λh=>by cases h),(λh=>by cases h)⟩
  |cons e es=>show((BR d e&&OQ ds es)=Aa)↔_;rw[AI,ih d (Am ..) e (he e (Am ..)),ihl (λx hx=>ih x (Ap _ hx)) es (λx hx=>he x (Ap _ hx)),List.cons.injEq]
theorem eV(h:uf m (.list ds)=Aa):∀d∈ds,∃m,uf m d=Aa:=by
 cases m with
 |zero=>cases h
 |succ m=>have h':ds.all (uf m)=Aa:=h;exact λd hd=>⟨m,Au.mp h' d hd⟩
theorem iJ(h:uf m (.tuple ds)=Aa):∀d∈ds,∃m,uf m d=Aa:=by
 cases m with
 |zero=>cases h
 |succ m=>have h':ds.all (uf m)=Aa:=h;exact λd hd=>⟨m,Au.mp h' d hd⟩
theorem HX{b:Bool}(h:uf m (.bool b)=Aa):False:=by cases m<;>cases h
theorem HR{b:List (D×D)}(h:uf m (.dict b)=Aa):False:=by cases m<;>cases h
theorem Ng:∀(n:Nat) (d e:D),uf n d=Aa->(∃m,uf m e=Aa)->(BR d e=Aa↔d=e):=by
 intro n
 induction n with
 |zero =>
  intro d e hd ⟨m,he⟩;cases d<;>first|cases hd|skip
  all_goals cases e<;>first
   |exact(HX he).elim
   |exact(HR he).elim
   |exact⟨λ_=>rfl,λ_=>rfl⟩
   |exact⟨(λh=>by cases h),(λh=>by cases h)⟩
   |(rename_i a b;show((a==b)=Aa)↔_;simp)
 |succ n ih =>
  intro d e hd ⟨m,he⟩;cases d with
  |bool _=>exact(HX hd).elim
  |dict _=>exact(HR hd).elim
  |list ds =>
   cases e with
   |list es=>show(OQ ds es=Aa)↔_;rw[Yi (λd h e he=>ih d e (Au.mp (show ds.all (uf n)=Aa from hd) d h) he) es (eV he)];simp
   |bool _=>exact(HX he).elim
   |dict _=>exact(HR he).elim
   |_=>exact⟨(λh=>by cases h),(λh=>by cases h)⟩
  |tuple ds =>
   cases e with
   |tuple es=>show(OQ ds es=Aa)↔_;rw[Yi (λd h e he=>ih d e (Au.mp (show ds.all (uf n)=Aa from hd) d h) he) es (iJ he)];simp
   |bool _=>exact(HX he).elim
   |dict _=>exact(HR he).elim
   |_=>exact⟨(λh=>by cases h),(λh=>by cases h)⟩
  |none=>cases e<;>first
   |exact(HX he).elim
   |exact(HR he).elim
   |exact⟨λ_=>rfl,λ_=>rfl⟩
   |exact⟨(λh=>by cases h),(λh=>by cases h)⟩
  |int i=>cases e<;>first
   |exact(HX he).elim
   |exact(HR he).elim
   |exact⟨(λh=>by cases h),(λh=>by cases h)⟩
   |(rename_i b;show((i==b)=Aa)↔_;simp)
  |str i=>cases e<;>first
   |exact(HX he).elim
   |exact(HR he).elim
   |exact⟨(λh=>by cases h),(λh=>by cases h)⟩
   |(rename_i b;show((i==b)=Aa)↔_;simp)
theorem eY{d e:D}(hd:uf n d=Aa)(he:uf m e=Aa)(hn:n<=60)(hm:m<=60)[Decidable (d=e)]:tT d e=Z (.bool (decide (d=e))):=by
 unfold tT;rw[K1 hd hn,K1 he hm,if_pos (by rfl)];congr 2;have h:=Ng n d e hd ⟨m,he⟩;cases q:BR d e with
 |true=>exact(decide_eq_true (h.mp q)).symm
 |false=>exact(decide_eq_false λz=>by rw[h.mpr z]at q;cases q).symm
theorem GO{d:D}(hd:uf n d=Aa)(hn:n<=60):tT d d=Z (.bool Aa):=by unfold tT;rw[K1 hd hn,(Ng n d d hd ⟨n,hd⟩).mpr rfl];rfl
theorem Fy{d e:D}(hd:uf n d=Aa)(he:uf m e=Aa)(hn:n<=60)(hm:m<=60)(h:d≠e):tT d e=Z (.bool Ab):=by have:Decidable (d=e):=isFalse h;rw[eY hd he hn hm,decide_eq_false h]
theorem i8{d:D}(hd:uf n d=Aa)(hn:n<=60):zO d d=Z (.bool Ab):=by unfold zO;rw[K1 hd hn,(Ng n d d hd ⟨n,hd⟩).mpr rfl];rfl
theorem FC(n:Nat)(ns:List Int):uf (n+1) (sG ns)=Aa:=by show(ns.map dI).all (uf n)=Aa;rw[Au];intro d hd;obtain⟨i,_,rfl⟩:=Al.mp hd;cases n<;>rfl
theorem Jj(n:Nat)(ns:List Int):uf (n+1) (.list (ns.map dI))=Aa:=FC n ns
theorem Vy(h:∀d∈ds,uf n d=Aa):uf (n+1) (.list ds)=Aa:=Au.mpr h
theorem ES(n:Nat)(i:Int):uf n (.int i)=Aa:=by cases n<;>rfl
theorem eM(n:Nat):uf n .none=Aa:=by cases n<;>rfl
end
section
variable{c:List Int}
def Mz(w:Wk)(c:List Int)(d:Int):D:=if AH w c d then sG (ZM w c d)else .none
theorem Yr{w:Wk}(hv:Wk.V w){d:Int}(h0:0<=d)(h1:d<w.deeds.length)(e1:Option B):∀(c acc:List Int) (o:Option B),(∀s∈c,0<=s/\s<(w.many:Int))->acc.length+c.length*10<100000 ->(AH w c d=Aa->∃o',ZN 4 Ex (c.map dI) [Z (.pl w.d),e1,Z (.pl (.int d)),Z (.ol (acc.map dI)),o]=Z (.nx [Z (.pl w.d),e1,Z (.pl (.int d)),Z (.ol ((acc++Bp w c d).map dI)),o'])) /\ (AH w c d=Ab->ZN 4 Ex (c.map dI) [Z (.pl w.d),e1,Z (.pl (.int d)),Z (.ol (acc.map dI)),o]=Z (.rt .none))
 |[],acc,o,_,_=>⟨λ_=>⟨o,by simp[Bp];rfl⟩,λh=>by simp[AH]at h⟩
 |s::c,acc,o,hs,hl=>by
  rw[AD]at hl;have hb:=hs s (Am ..);have hr:=(Qb hv h0 h1 hb.1 hb.2).len;have m2:=hv.m2;have hd:=QG h0 h1 (w:=w);have xi:=Qh hv h0 h1 hb.1 hb.2;have g1:vE [AB w.many,.tuple (w.deeds.map ZQ),.tuple (w.looks.map sG),sG w.beg,sG w.goal] 1=Z (.tuple (w.deeds.map ZQ)):=by simp
  have ec:AH w (s::c) d=(decide (0<(Bi w d s).length)&&AH w c d):=rfl;have ef:Bp w (s::c) d=Bi w d s++Bp w c d:=rfl;cases hz:Bi w d s with
  |nil =>
   have e:Ex [Z (.pl w.d),e1,Z (.pl (.int d)),Z (.ol (acc.map dI)),Z (.pl (dI s))]=Z (.rt .none):=by rw[hz]at xi;have e3:tT (sG []) (.tuple [])=Z (.bool Aa):=GO (FC 0 []) (by decide);unfold Wk.d;simp[Ex,hd,ZQ,xi,-tT];rw[e3]
   have ec':AH w (s::c) d=Ab:=by rw[ec,hz];rfl
   refine⟨λh=>(by rw[ec']at h;cases h),λ_=>?_⟩;rw[Ak];show(match Ex [Z (.pl w.d),e1,Z (.pl (.int d)),Z (.ol (acc.map dI)),Z (.pl (dI s))]with|some (.nx r')=>_|some (.ct r')=>_|some (.bk r')=>_|some (.rt d)=>_|none=>_)=_;rw[e]
  |cons x xs =>
   have sJ:acc.length+(Bi w d s).length<1000000:=by omega
   have e:Ex [Z (.pl w.d),e1,Z (.pl (.int d)),Z (.ol (acc.map dI)),Z (.pl (dI s))]=Z (.nx [Z (.pl w.d),e1,Z (.pl (.int d)),Z (.ol ((acc++Bi w d s).map dI)),Z (.pl (dI s))]):=by rw[hz]at xi sJ;rw[AD]at sJ;have e3:tT (sG (x::xs)) (.tuple [])=Z (.bool Ab):=Fy (FC 0 (x::xs)) (FC 0 []) (by decide) (by decide) (by simp);unfold Wk.d;simp[Ex,hd,ZQ,xi,hz,-tT];rw[e3];simp[hd,ZQ,xi,sJ]
   have ec':AH w (s::c) d=AH w c d:=by rw[ec,hz];rfl
   obtain⟨i1,i2⟩:=Yr hv h0 h1 e1 c (acc++Bi w d s) (Z (.pl (dI s))) (λx hx=>hs x (Ap _ hx)) (by rw[AK];omega);have e5:ZN 4 Ex ((s::c).map dI) [Z (.pl w.d),e1,Z (.pl (.int d)),Z (.ol (acc.map dI)),o]=ZN 4 Ex (c.map dI) [Z (.pl w.d),e1,Z (.pl (.int d)),Z (.ol ((acc++Bi w d s).map dI)),Z (.pl (dI s))]:=by rw[Ak];show(match Ex [Z (.pl w.d),e1,Z (.pl (.int d)),Z (.ol (acc.map dI)),Z (.pl (dI s))]with|some (.nx r')=>_|some (.ct r')=>_|some (.bk r')=>_|some (.rt d)=>_|none=>_)=_;rw[e]
   rw[e5,ec',ef,<-Ff];exact⟨i1,i2⟩
theorem Yf{w:Wk}(hv:Wk.V w)(h7:w.many<=7)(hc:Cr w.many c){d:Int}(h0:0<=d)(h1:d<w.deeds.length):GP [w.d,sG c,.int d]=Z (Mz w c d):=by
 have m2:=hv.m2;have sJ:=hc.len;have hb:c.length<1000000:=by omega
 obtain⟨i1,i2⟩:=Yr hv h0 h1 (Z (.pl (sG c))) c [] J hc.2 (by simp;omega);unfold Mz;cases h:AH w c d with
 |false=>have e:=i2 h;rw[Fl]at e;simp[GP,RX,hb,e]
 |true =>
  obtain⟨o',e⟩:=i1 h;rw[Fl,ID]at e;have hf:Mu (Bp w c d)=Aa:=Au.mpr λx hx=>by have:=Vt hv hc h0 h1 x hx;rw[AI,decide_eq_true_eq,decide_eq_true_eq];omega
  simp[GP,RX,hb,e,CU,hf,ZM,NT]
theorem ax{w:Wk}(hv:Wk.V w){ls:List Int}(hl:Cr w.looks.length ls)(e2:Option B):∀(c pre:List Int) (g:Gs) (o o':Option B),wY (Zy w ls) pre g->(∀s∈c,0<=s/\s<(w.many:Int))->pre.length+c.length<1000 ->∃p p',ZN 4 JC (c.map dI) [Z (.pl w.d),Z (.pl (sG ls)),e2,Z (.otl (AQ g)),o,o']=Z (.nx [Z (.pl w.d),Z (.pl (sG ls)),e2,Z (.otl (AQ (c.foldl (λg s=>Cw g (Zy w ls s) s) g))),p,p'])
 |[],pre,g,o,o',_,_,_=>⟨o,o',rfl⟩
 |s::c,pre,g,o,o',hg,hb,hn=>by
  rw[AD]at hn;have hs:=hb s (Am ..);have sJ:(AQ g).length<1000000:=by have:=Fx _ _ _ hg;unfold AQ;rw[Af];omega
  have l2:=hv.l2;have hll:=hl.len;have hlb:ls.length<1000000:=by omega
  have ec:Bc ZK (tJ (sU (tJ (sU (tJ (Zo 1) (eC (.int 2)))) (Za 0))) (Za 5)) [Z (.pl w.d),Z (.pl (sG ls)),e2,Z (.otl (AQ g)),Z (.pl (dI s)),o'] (ls.map dI)=Z ((Zy w ls s).map dI):=by
   rw[CM dI (λl=>dI (Kn w l s))]
   .simp[Zy]
   .intro l hl'
    have hb:=hl.2 l hl';unfold Wk.d;simp[Wu hb.1 hb.2,V8 hv hb.1 hb.2 hs.1 hs.2]
  have e:JC [Z (.pl w.d),Z (.pl (sG ls)),e2,Z (.otl (AQ g)),Z (.pl (dI s)),o']=Z (.nx [Z (.pl w.d),Z (.pl (sG ls)),e2,Z (.otl (AQ (Cw g (Zy w ls s) s))),Z (.pl (dI s)),Z (.pl (sG (Zy w ls s)))]):=by
   have ek:=K3 g (Zy w ls s);have et:=Cp (Zy w ls s);cases h:Zm g (Zy w ls s)with
   |none =>
    rw[h]at ek;have ea:Cf g (Zy w ls s)=g++[(Zy w ls s,[])]:=by unfold Cf;rw[h]
    have eb:AQ g++[(Az (Zy w ls s),[])]=AQ (Cf g (Zy w ls s)):=by rw[ea];simp[AQ]
    have h1:Zm (AQ (Cf g (Zy w ls s))) (Az (Zy w ls s))=Z []:=by rw[K3,Nn,if_pos rfl,h];rfl
    simp[JC,hlb,ec,et,ek,sJ];rw[eb,h1];simp[Nc];rfl
   |some p =>
    rw[h]at ek;have ea:Cf g (Zy w ls s)=g:=by unfold Cf;rw[h]
    have hp:p.length<1000000:=by have:=WE _ _ _ hg _ _ h;omega
    simp[JC,hlb,ec,et,ek,sJ,hp,Nc];unfold Cw;rw[ea]
  obtain⟨p,p',ih⟩:=ax hv hl e2 c (pre++[s]) (Cw g (Zy w ls s) s) (Z (.pl (dI s))) (Z (.pl (sG (Zy w ls s)))) (hg.step s) (λx hx=>hb x (Ap _ hx)) (by simp;omega);refine⟨p,p',?_⟩;rw[Ak,DT,<-ih];show(match JC [Z (.pl w.d),Z (.pl (sG ls)),e2,Z (.otl (AQ g)),Z (.pl (dI s)),o']with|some (.nx r')=>_|some (.ct r')=>_|some (.bk r')=>_|some (.rt d)=>_|none=>_)=_;rw[e]
theorem Ox{w:Wk}(hv:Wk.V w){ls:List Int}(hl:Cr w.looks.length ls)(hc:Cr w.many c):E9 [w.d,sG ls,sG c]=Z (.list ((ZU w ls c).map Bd)):=by
 have m2:=hv.m2;have sJ:=hc.len;have hb:c.length<1000000:=by omega
 obtain⟨p,p',e⟩:=ax hv hl (Z (.pl (sG c))) c [] [] J J ⟨Fo,λk=>by simp[Jo]⟩ hc.2 (by simp;omega);have hk:=Wh w ls c (by omega);have hg:c.foldl (λg s=>Cw g (Zy w ls s) s) []=Cd (Zy w ls) c:=rfl;rw[hg]at e;have hn:(CY ((Cd (Zy w ls) c).map (·.1))).length<1000000:=by rw[(D6 _).length_eq,Af];have:=Fx _ _ _ (Eu (Zy w ls) c);omega
 simp[E9,ai,hb];rw[show Z (B.otl [])=Z (B.otl (AQ [])) from rfl,e];simp[hk,hn];rw[YF]
 .simp
 .intro k hk'
  simp[Cp,WR w ls c k hk']
theorem Jq{w:Wk}{d:Int}(h:d∈wC w c):0<=d/\d<w.deeds.length/\AH w c d=Aa:=by unfold wC at h;obtain⟨k,hk,rfl⟩:=Al.mp h;obtain⟨h1,h2⟩:=B4.mp hk;have:=AS.mp h1;exact⟨by omega,by omega,h2⟩
end
end HG
namespace HG4
open PySem HM HG
def ah:SF :=
 (ZF (aE (Ce (AJ (sU (Zj FY (Zb (Zj DP (Zb (Za 0) Zh)) Zh)))))))
def Ii:List D->Option D:=fnOf 1 1 ah
end HG4
namespace HM
open PySem
theorem Ld{α:Type}{c:TF}{e:EF}{r:Env}(a b:α->D)(p:α->Bool)(f:α->D):∀(xs:List α),(∀x∈xs,c (Z (.pl (a x))::Z (.pl (b x))::r)=Z (p x))->(∀x∈xs,p x=Aa->e (Z (.pl (a x))::Z (.pl (b x))::r)=Z (f x)) ->FO c e r (xs.map λx=>.tuple [a x,b x])=Z ((xs.filter p).map f)
 |[],_,_=>rfl
 |x::xs,h1,h2=>by
  have ih:=Ld a b p f xs (λy hy=>h1 y (Ap _ hy)) (λy hy=>h2 y (Ap _ hy));have hc:=h1 x (Am ..);rw[Ak];unfold FO;rw[hc];cases hp:p x with
  |true=>have he:=h2 x (Am ..) hp;dsimp only;rw[he];dsimp only;rw[ih,bA hp];rfl
  |false=>dsimp only;rw[ih,bz (by simp[hp])]
theorem ZX{P:Option vW->Prop}{a b:SF}{r r':Env}(h:a r=Z (.nx r'))(k:P (b r')):P (Zq a b r):=by show P (match a r with|some (.nx r')=>b r'|some (.rt d)=>Z (.rt d)|some (.bk r')=>Z (.bk r')|some (.ct r')=>Z (.ct r')|none=>J);rw[h];exact k
end HM
namespace HG4
open PySem HM HG
variable{x:Int}{c:List Int}
def PZ(w:Wk)(ls c:List Int)(s:Int):List Int:=c.filter λx=>Zy w ls x==Zy w ls s
theorem fY{n:Nat}(p:Int->Bool)(h:Cr n c):Cr n (c.filter p):=⟨h.1.filter p,λx hx=>h.2 x (B4.mp hx).1⟩
def zT(w:Wk):List Int:=(Ah w.looks.length).map λ(k:Nat)=>(k:Int)
theorem Xi{w:Wk}{ls:List Int}{s:Int}:x∈PZ w ls c s↔x∈c/\Zy w ls x=Zy w ls s:=by unfold PZ;rw[B4,beq_iff_eq]
theorem fF{w:Wk}{d:Int}:x∈ZM w c d↔∃s∈c,x∈Bi w d s:=by
 unfold ZM;rw[(sortI_perm _).mem_iff,Le];unfold Bp;rw[JU]
 constructor
 .rintro (h|h)
  .cases h
  .exact h
 .exact .inr
theorem ng{w:Wk}(hv:Wk.V w):Ii [w.d]=Z (sG (zT w)):=by
 have l2:=hv.l2;have hok:vp (w.looks.length:Int)=Aa:=EU (by omega);have hb:w.looks.length<1000000:=by omega
 simp[Ii,ah,Lb hv,Sn,hok,CL,hb,zT]
end HG4
namespace HM
open PySem
def Av:Option vW->Option D
 |some (.nx _)=>Z .none
 |some (.rt d)=>Z d
 |_=>J
end HM
namespace HG4
open PySem HM HG
end HG4
namespace HG5
open PySem HM HG HG4
variable{L:List (List Int)}{c ls p:List Int}{m n:Nat}
def Zu(w:Wk)(ls c:List Int):List (List Int):=(ZU w ls c).map (·.2)
theorem X3{w:Wk}:p∈Zu w ls c↔∃s∈c,p=PZ w ls c s:=by
 unfold Zu ZU;rw[Aw,Al];have hg:=Eu (Zy w ls) c
 constructor
 .rintro ⟨k,hk,rfl⟩
  obtain⟨s,hs,e⟩:=Al.mp ((hg.mem k).mp ((D6 _).mem_iff.mp hk));refine⟨s,hs,?_⟩;subst e;rfl
 .rintro ⟨s,hs,rfl⟩
  exact⟨Zy w ls s,(D6 _).mem_iff.mpr ((hg.mem _).mpr (Al.mpr ⟨s,hs,rfl⟩)),rfl⟩
theorem Jg{w:Wk}(hc:Cr w.many c)(h:p∈Zu w ls c):Cr w.many p/\p≠[]/\∀x∈p,x∈c:=by obtain⟨s,hs,rfl⟩:=X3.mp h;exact⟨fY _ hc,T6 (Xi.mpr ⟨hs,rfl⟩),λx hx=>(Xi.mp hx).1⟩
theorem YA(w:Wk)(ls c:List Int):(Zu w ls c).Nodup:=by unfold Zu ZU;rw[Aw];have hg:=Eu (Zy w ls) c;have hn:(CY ((Cd (Zy w ls) c).map (·.1))).Nodup:=(D6 _).nodup_iff.mpr hg.nd;rw[bq,O4];refine List.Pairwise.imp_of_mem (λ{a b} ha hb tX e=>?_) (bq.mp hn);obtain⟨s,hs,es⟩:=Al.mp ((hg.mem a).mp ((D6 _).mem_iff.mp ha));have h1:s∈c.filter λs=>Zy w ls s==a:=B4.mpr ⟨hs,beq_iff_eq.mpr es⟩;have e':(c.filter λs=>Zy w ls s==a)=c.filter λs=>Zy w ls s==b:=e;rw[e']at h1;have:=beq_iff_eq.mp (B4.mp h1).2;exact tX (es.symm.trans this)
theorem K9{w:Wk}(h:c≠[]):Zu w ls c≠[]:=by
 cases c with
 |nil=>exact absurd rfl h
 |cons s c=>exact T6 (X3.mpr ⟨s,Am ..,rfl⟩)
def Gm:Nat->List (List Int)
 |0=>[[]]
 |n+1=>Gm n++(Gm n).map (·++[(n:Int)])
theorem Xo:∀n,(Gm n).length=2 ^ n
 |0=>rfl
 |n+1=>by show(Gm n++(Gm n).map (·++[(n:Int)])).length=_;rw[AK,Af,Xo n,Nat.pow_succ];omega
theorem QX:∀(n:Nat) (c:List Int),Cr n c->c∈Gm n
 |0,c,h=>by
  cases c with
  |nil=>exact AW.mpr rfl
  |cons x c=>have:=h.2 x (Am ..);omega
 |n+1,c,h=>by
  show c∈Gm n++(Gm n).map (·++[(n:Int)])
  by_cases hm:(n:Int)∈c
  ·-- the last is n
   have key:∀(c:List Int),c.Pairwise (· < ·)->(∀x∈c,0<=x/\x<((n+1:Nat):Int))->(n:Int)∈c->∃c',c=c'++[(n:Int)]/\c'.Pairwise (· < ·)/\∀x∈c',0<=x/\x<(n:Int):=by
    intro c
    induction c with
    |nil=>intro _ _ h;simp at h
    |cons x c ih =>
     intro hp hb hm;obtain⟨p1,p2⟩:=DE.mp hp
     by_cases hx:x=(n:Int)
     .cases c with
      |nil=>exact⟨[],by rw[hx];rfl,.nil,λy hy=>by simp at hy⟩
      |cons y c=>have h1:=p1 y (Am ..);have h2:=hb y (Ap _ (Am ..));omega
     .have hm':(n:Int)∈c:=by
       rcases AE.mp hm with e|e
       .exact absurd e.symm hx
       .exact e
      obtain⟨c',e,q1,q2⟩:=ih p2 (λy hy=>hb y (Ap _ hy)) hm';refine⟨x::c',by rw[e];rfl,DE.mpr ⟨λy hy=>p1 y (by rw[e];exact De _ hy),q1⟩,λy hy=>?_⟩;rcases AE.mp hy with e'|hy
      .have h1:=p1 (n:Int) hm'
       have h2:=hb x (Am ..);rw[e'];omega
      .exact q2 y hy
   obtain⟨c',e,q1,q2⟩:=key c h.1 h.2 hm;exact Ci _ (Al.mpr ⟨c',QX n c' ⟨q1,q2⟩,e.symm⟩)
  .refine De _ (QX n c ⟨h.1,λx hx=>?_⟩)
   have h1:=h.2 x hx;have:x≠(n:Int):=λe=>hm (e▸hx);omega
theorem Yq(hn:L.Nodup)(h:∀c∈L,Cr n c):L.length<=2 ^ n:=by rw[<-Xo n];exact Mq hn λc hc=>QX n c (h c hc)
def Z7(w:Wk)(c:List Int):Bool:=c.all λs=>w.goal.contains s
def tm(w:Wk)(ls:List Int):Nat->List Int->Bool
 |0,c=>Z7 w c
 |n+1,c=>Z7 w c||(Ah w.deeds.length).any λd=>AH w c d&&(Zu w ls (ZM w c d)).all λp=>tm w ls n p
theorem Nz{w:Wk}{ls:List Int}:∀(n:Nat) (c:List Int),tm w ls n c=Aa->tm w ls (n+1) c=Aa
 |0,c,h=>by show(Z7 w c||_)=Aa;rw[show Z7 w c=Aa from h];rfl
 |n+1,c,h=>by
  have h':(Z7 w c||(Ah w.deeds.length).any λd=>AH w c d&&(Zu w ls (ZM w c d)).all λp=>tm w ls n p)=Aa:=h;show(Z7 w c||(Ah w.deeds.length).any λd=>AH w c d&&(Zu w ls (ZM w c d)).all λp=>tm w ls (n+1) p)=Aa;rw[Gj]at h' ⊢;rcases h' with h'|h'
  .exact .inl h'
  .right
   obtain⟨d,hd,hq⟩:=Ei.mp h';rw[AI]at hq;refine Ei.mpr ⟨d,hd,?_⟩;rw[AI];exact⟨hq.1,Au.mpr λp hp=>Nz n p (Au.mp hq.2 p hp)⟩
theorem Gy{w:Wk}(h:n<=m)(q:tm w ls n c=Aa):tm w ls m c=Aa:=by
 induction h with
 |refl=>exact q
 |step _ ih=>exact Nz _ _ ih
def D3(w:Wk)(ls:List Int)(L:List (List Int)):Prop:=∀c∈L,∀d:Nat,d<w.deeds.length->AH w c d=Aa->∀p∈Zu w ls (ZM w c d),p∈L
theorem RH{w:Wk}{ls:List Int}{L:List (List Int)}(hL:D3 w ls L){n:Nat}(h:∀c∈L,tm w ls (n+1) c=Aa->tm w ls n c=Aa):∀(m:Nat),∀c∈L,tm w ls m c=Aa->tm w ls n c=Aa
 |0,c,_,q=>Gy (BY n) q
 |m+1,c,hc,q=>by
  refine h c hc ?_;have q':(Z7 w c||(Ah w.deeds.length).any λd=>AH w c d&&(Zu w ls (ZM w c d)).all λp=>tm w ls m p)=Aa:=q;show(Z7 w c||(Ah w.deeds.length).any λd=>AH w c d&&(Zu w ls (ZM w c d)).all λp=>tm w ls n p)=Aa;rw[Gj]at q' ⊢;rcases q' with q'|q'
  .exact .inl q'
  .right
   obtain⟨d,hd,hq⟩:=Ei.mp q';rw[AI]at hq;refine Ei.mpr ⟨d,hd,?_⟩;rw[AI];exact⟨hq.1,Au.mpr λp hp=>RH hL h m p (hL c hc d (AS.mp hd) hq.1 p hp) (Au.mp hq.2 p hp)⟩
theorem Of{α:Type}{p q:α->Bool}:∀{L:List α},(∀x∈L,p x=Aa->q x=Aa)->(∃x∈L,q x=Aa/\p x=Ab)->(L.filter p).length<(L.filter q).length
 |[],_,⟨x,hx,_⟩=>by simp at hx
 |y::L,h,⟨x,hx,h1,h2⟩=>by
  have le:∀{L:List α},(∀x∈L,p x=Aa->q x=Aa)->(L.filter p).length<=(L.filter q).length:=by
   intro L
   induction L with
   |nil=>intro _;exact Aj _
   |cons z L ih =>
    intro h;have:=ih λx hx=>h x (Ap _ hx);have hz:=h z (Am ..);rw[Ez,Ez];cases hp:p z with
    |true=>rw[hz hp];simpa using this
    |false =>
     cases q z
     .simpa using this
     .simp;omega
  have hL:=λx hx=>h x (Ap y hx);have hy:=h y (Am ..);rw[Ez,Ez];rcases AE.mp hx with e|hx
  .subst e
   rw[h2,h1];have:=le hL;simp;omega
  .have:=Of hL ⟨x,hx,h1,h2⟩
   cases hp:p y with
   |true=>rw[hy hp];simpa using this
   |false =>
    cases q y
    .simpa using this
    .simp;omega
theorem Wa{w:Wk}(hL:D3 w ls L)(hc:c∈L)(q:tm w ls m c=Aa):tm w ls L.length c=Aa:=by
 have key:∀t:Nat,(∃n,n<=t/\∀c∈L,tm w ls (n+1) c=Aa->tm w ls n c=Aa)\/t+1<=(L.filter λc=>tm w ls (t+1) c).length:=by
  intro t
  induction t with
  |zero =>
   by_cases h:∀c∈L,tm w ls 1 c=Aa->tm w ls 0 c=Aa
   .exact .inl ⟨0,Aj 0,h⟩
   .right
    have h':∃c∈L,tm w ls 1 c=Aa/\tm w ls 0 c=Ab:=by
     apply bH;intro z;apply h;intro c hc h1;cases h0:tm w ls 0 c with
     |true=>rfl
     |false=>exact absurd ⟨c,hc,h1,h0⟩ z
    have:=Of (p:=λc=>tm w ls 0 c) (q:=λc=>tm w ls 1 c) (L:=L) (λx _ hx=>Nz 0 x hx) h';show 1<=(L.filter λc=>tm w ls 1 c).length;omega
  |succ t ih =>
   rcases ih with⟨n,hn,hs⟩|ih
   .exact .inl ⟨n,by omega,hs⟩
   .by_cases h:∀c∈L,tm w ls (t+1+1) c=Aa->tm w ls (t+1) c=Aa
    .exact .inl ⟨t+1,Aj _,h⟩
    .right
     have h':∃c∈L,tm w ls (t+1+1) c=Aa/\tm w ls (t+1) c=Ab:=by
      apply bH;intro z;apply h;intro c hc h1;cases h0:tm w ls (t+1) c with
      |true=>rfl
      |false=>exact absurd ⟨c,hc,h1,h0⟩ z
     have:=Of (p:=λc=>tm w ls (t+1) c) (q:=λc=>tm w ls (t+1+1) c) (L:=L) (λx _ hx=>Nz (t+1) x hx) h';omega
 rcases key L.length with⟨n,hn,hs⟩|h
 .exact Gy hn (RH hL hs m c hc q)
 .have:=EE (λc=>tm w ls (L.length+1) c) L
  omega
end HG5
namespace HG5
open PySem HM HG
def Jv:SF :=
 (Zq (Z2 5 (Zj GP (Zb (Za 0) (Zb (tJ (Zo 2) (Za 3)) (Zb (Za 4) Zh)))))
  (tQ (tV (sM CB (Za 5) (eC .none))) (Zq (ZJ 6 (Od (ZD (sU (Zj E9 (Zb (Za 0) (Zb (Za 1) (Zb (Za 5) Zh)))))) ZK (Za 1)))
  (Ck 6 (ZJ 2 (MW (Zo 2) (ZA (ZD (sU (Za 6))) (tV (aA (Za 0) (Zo 3))) (Za 0)))))) AN))
def Li:SF :=
 (Zq (AR 4 (Ce (AJ (sU (tJ (Zo 0) (eC (.int 1)))))) Jv)
  (Z2 3 (sM A4 (Za 3) (eC (.int 1)))))
def NZ:SF :=
 (Zq (ZJ 2 (Od (ZD (sU (Zj E9 (Zb (Za 0) (Zb (Za 1) (Zb (tJ (Zo 0) (eC (.int 3))) Zh)))))) ZK (Za 1)))
  (Zq (Z2 3 (eC (.int 0)))
  (Zq (Qt 100000 (tV (sM xG (Za 3) (AJ (Zo 2)))) Li)
  (Ck 2 (ZF (Za 2))))))
def NY:List D->Option D:=fnOf 2 7 NZ
def ag:SF :=
 (ZF (sM tT (uc (ZA (ZD (sU (Za 1))) (tV (Jz (Za 0) (sU (tJ (Zo 1) (eC (.int 4)))))) (Za 0))) (uc (AY Zh))))
def LF:List D->Option D:=fnOf 2 2 ag
def ZT:SF :=
 (Zq (Z2 5 (Zj GP (Zb (Za 0) (Zb (Za 2) (Zb (Za 4) Zh)))))
  (tQ (tV (sM CB (Za 5) (eC .none))) (tQ (tV (sM tT (uc (Od (ZD (sU (Zj E9 (Zb (Za 0) (Zb (Za 1) (Zb (Za 5) Zh)))))) (tV (FI (Za 1) (Zo 5))) (Za 1))) (uc (AY Zh)))) (ZF (eC (.bool Aa))) AN) AN))
def JK:SF :=
 (Zq (AR 4 (Ce (AJ (sU (tJ (Zo 0) (eC (.int 1)))))) ZT)
  (ZF (eC (.bool Ab))))
def OO:List D->Option D:=fnOf 4 6 JK
def Lw:SF :=
 (Gx 3 (Za 4) (Za 5))
def FU:SF :=
 (tQ (Cm (tV (FI (Za 4) (Zo 3))) (tV (md OO (Zb (Za 0) (Zb (Za 1) (Zb (Za 4) (Zb (Qi (Zo 3)) Zh))))))) (FJ 6 (Za 4)) AN)
def JB:SF :=
 (Zq (ZJ 6 (AY Zh))
  (Zq (AR 4 (ZD (sU (Za 2))) FU)
  (Ck 6 (AR 4 (ZD (sU (Za 6))) Lw))))
def G7:SF :=
 (tQ (tV (Zj LF (Zb (Za 0) (Zb (Za 4) Zh)))) (Gx 3 (Za 4) (eC (.int 0))) AN)
def Ov:SF :=
 (Zq (Z2 2 (Zj NY (Zb (Za 0) (Zb (Za 1) Zh))))
  (Zq (ZJ 3 zQ)
  (Zq (AR 4 (ZD (sU (Za 2))) G7)
  (Zq (AR 5 (Nj (eC (.int 1)) (sM A4 (AJ (Zo 2)) (eC (.int 1)))) JB)
  (Ck 3 (ZF (Za 3)))))))
def Ou:List D->Option D:=fnOf 2 7 Ov
def Tn:SF :=
 (Zq (Z2 2 (Zj Ou (Zb (Za 0) (Zb (Za 1) Zh))))
  (Zq (ZJ 3 (Od (ZD (sU (Zj E9 (Zb (Za 0) (Zb (Za 1) (Zb (tJ (Zo 0) (eC (.int 3))) Zh)))))) ZK (Rb (Zo 4) (Za 1) (eC (.int 999)))))
  (Zq (tQ (tV (sM tT (KW (Zo 3)) (eC (.int 999)))) (ZF (eC .none)) AN)
  (ZF (KW (Zo 3))))))
def Z6:List D->Option D:=fnOf 2 4 Tn
end HG5
namespace HG5
open PySem HM HG HG4
section
variable{L:List (List Int)}{c ls:List Int}
theorem je{a b:List Int}(h:sG a=sG b):a=b:=by
 injection h with h
 have:=congrArg BP h;rw[CU,CU]at this;exact Ct this
theorem XC(p:List Int):C2 (sG p)=Aa:=K1 (FC 0 p) (by decide)
theorem eP(a b:List Int):BR (sG a) (sG b)=(a==b):=by have h:=Ng 1 (sG a) (sG b) (FC 0 a) ⟨1,FC 0 b⟩;apply Pe.mpr;rw[h,beq_iff_eq];exact⟨je,λe=>by rw[e]⟩
theorem gr(L:List (List Int))(p:List Int):P8 (L.map sG) (sG p)=Z (L.contains p):=by
 unfold P8;have h1:(L.map sG).all C2=Aa:=Au.mpr λd hd=>by obtain⟨c,_,rfl⟩:=Al.mp hd;exact XC c
 rw[XC,h1,if_pos (by rfl)];congr 1
 induction L with
 |nil=>rfl
 |cons c L ih=>rw[Ak,Ee,eP,List.contains_cons,ih (by rw[Ak,Di,AI]at h1;exact h1.2)];rw[show(c==p)=(p==c) from Pe.mpr ⟨λh=>beq_iff_eq.mpr (beq_iff_eq.mp h).symm,λh=>beq_iff_eq.mpr (beq_iff_eq.mp h).symm⟩]
inductive Rch(w:Wk)(ls:List Int):List Int->Prop where
 |beg {p:List Int} (h:p∈Zu w ls w.beg):Rch w ls p
 |step {c p:List Int} {d:Nat} (r:Rch w ls c) (hd:d<w.deeds.length) (hc:AH w c d=Aa) (h:p∈Zu w ls (ZM w c d)):Rch w ls p
structure Dj(w:Wk)(ls:List Int)(L:List (List Int)):Prop where
 nd:L.Nodup
 cr:∀c∈L,Cr w.many c/\c≠[]
 rch:∀c∈L,Rch w ls c
theorem Dj.len{w:Wk}(I:Dj w ls L)(h7:w.many<=7):L.length<=128:=by have h1:=Yq I.nd λc hc=>(I.cr c hc).1;have h2:2 ^ w.many<=2 ^ 7:=J5 (by decide) h7;have h3:2 ^ 7=128:=rfl;omega
theorem Qa{w:Wk}{d:Int}(h0:c≠[])(hc:AH w c d=Aa):ZM w c d≠[]:=by
 cases c with
 |nil=>exact absurd rfl h0
 |cons s c =>
  unfold AH at hc;have h1:=Au.mp hc s (Am ..);have h2:0<(Bi w d s).length:=by simpa using h1
  cases hr:Bi w d s with
  |nil=>rw[hr]at h2;simp at h2
  |cons x xs=>exact T6 (fF.mpr ⟨s,Am ..,by rw[hr];exact Am ..⟩)
def CD(w:Wk)(ls c:List Int)(L:List (List Int))(d:Nat):List (List Int):=if AH w c d then L++(Zu w ls (ZM w c d)).filter (λp=>!L.contains p)else L
theorem kq{w:Wk}{d:Nat}:∃M,CD w ls c L d=L++M:=by
 unfold CD;split
 .exact⟨_,rfl⟩
 .exact⟨[],by simp⟩
theorem jo{w:Wk}{d:Nat}(h:AH w c d=Aa){p:List Int}(hp:p∈Zu w ls (ZM w c d)):p∈CD w ls c L d:=by
 unfold CD;rw[if_pos h]
 by_cases q:p∈L
 .exact De _ q
 .refine Ci _ (B4.mpr ⟨hp,?_⟩)
  simp[q]
theorem ko{w:Wk}(hv:Wk.V w){d:Nat}(I:Dj w ls L)(hc:c∈L)(hd:d<w.deeds.length):Dj w ls (CD w ls c L d):=by
 unfold CD;split
 .rename_i vq
  have hl:=GL hv (I.cr c hc).1 (show(0:Int)<=(d:Int) by omega) (by omega);refine⟨?_,λp hp=>?_,λp hp=>?_⟩
  .rw[JX]
   refine⟨I.nd,(YA w ls _).filter _,λa ha b hb e=>?_⟩;subst e;have:=(B4.mp hb).2;simp[ha]at this
  .rcases Bg.mp hp with hp|hp
   .exact I.cr p hp
   .have:=Jg hl (B4.mp hp).1
    exact⟨this.1,this.2.1⟩
  .rcases Bg.mp hp with hp|hp
   .exact I.rch p hp
   .exact .step (I.rch c hc) hd vq (B4.mp hp).1
 .exact I
section
variable{w:Wk}(hv:Wk.V w)(h7:w.many<=7){ls:List Int}(hl:Cr w.looks.length ls)
include hv h7 hl
theorem ja(I:Dj w ls L){at_:Nat}(hc:L[at_]?=Z c){d:Nat}(hd:d<w.deeds.length)(o5 o6:Option B):∃p5 p6,Jv [Z (.pl w.d),Z (.pl (sG ls)),Z (.ol (L.map sG)),Z (.pl (dN at_)),Z (.pl (dN d)),o5,o6]=Z (.nx [Z (.pl w.d),Z (.pl (sG ls)),Z (.ol ((CD w ls c L d).map sG)),Z (.pl (dN at_)),Z (.pl (dN d)),p5,p6]):=by
 have hm:c∈L:=Bm hc;obtain⟨cr,ne⟩:=I.cr c hm;have zj:vE (L.map sG) (at_:Int)=Z (sG c):=GN (by rw[A1,hc];rfl);have uH:=Yf hv h7 cr (show(0:Int)<=(d:Int) by omega) (by omega);have sJ:=I.len h7;unfold Mz at uH;cases vq:AH w c d with
 |false=>rw[vq]at uH;refine⟨Z (.pl .none),o6,?_⟩;unfold CD;rw[vq];simp[Jv,zj,uH]
 |true =>
  rw[vq]at uH;have lc:=GL hv cr (show(0:Int)<=(d:Int) by omega) (by omega);have hs:=Ox hv hl lc;have hsn:(ZU w ls (ZM w c d)).length<=8:=by unfold ZU;rw[Af,(D6 _).length_eq,Af];have:=Fx _ _ _ (Eu (Zy w ls) (ZM w c d));have:=lc.len;omega
  have uk:(ZU w ls (ZM w c d)).length<1000000:=by omega
  have za:(Zu w ls (ZM w c d)).length<=8:=by unfold Zu;rw[Af];exact hsn
  have e1:∀r:HM.Env,FO ZK (Za 1) r ((ZU w ls (ZM w c d)).map Bd)=Z ((Zu w ls (ZM w c d)).map sG):=λr=>by have e:=Ld (c:=ZK) (e:=Za 1) (r:=r) (λp:List Int×List Int=>sG p.1) (λp=>sG p.2) (λ_=>Aa) (λp=>sG p.2) (ZU w ls (ZM w c d)) (λp _=>rfl) (λp _ _=>by simp);rw[Mb.mpr λ_ _=>rfl]at e;unfold Zu;rw[Aw];exact e
  have e2:∀r:HM.Env,r[2]?=Z (Z (.ol (L.map sG)))->Bc (tV (aA (Za 0) (Zo 3))) (Za 0) r ((Zu w ls (ZM w c d)).map sG)=Z (((Zu w ls (ZM w c d)).filter λp=>!L.contains p).map sG):=λr r2=>by
   rw[D7 sG (λp=>!L.contains p) sG]
   .intro p _
    simp[r2,gr,-Fp]
   .intro p _ _
    simp
  have uD:=EE (λp=>!L.contains p) (Zu w ls (ZM w c d));have vj:L.length+((Zu w ls (ZM w c d)).filter λp=>!L.contains p).length<1000000:=by omega
  have hpb:(Zu w ls (ZM w c d)).length<1000000:=by omega
  refine⟨Z (.pl (sG (ZM w c d))),Z (.pl (.list ((Zu w ls (ZM w c d)).map sG))),?_⟩;unfold CD;rw[vq];simp[Jv,zj,uH,hs,uk,e1,hpb,e2,vj,-Fp]
theorem Xy{at_:Nat}{c:List Int}:∀(ds:List Nat) (M:List (List Int)) (o4 o5 o6:Option B),Dj w ls M->M[at_]?=Z c->(∀d∈ds,d<w.deeds.length) ->∃p4 p5 p6,ZN 4 Jv (ds.map dN) [Z (.pl w.d),Z (.pl (sG ls)),Z (.ol (M.map sG)),Z (.pl (dN at_)),o4,o5,o6]=Z (.nx [Z (.pl w.d),Z (.pl (sG ls)),Z (.ol ((ds.foldl (CD w ls c) M).map sG)),Z (.pl (dN at_)),p4,p5,p6]) /\ Dj w ls (ds.foldl (CD w ls c) M)/\(∃N,ds.foldl (CD w ls c) M=M++N)/\∀d∈ds,AH w c d=Aa->∀p∈Zu w ls (ZM w c d),p∈ds.foldl (CD w ls c) M
 |[],M,o4,o5,o6,I,hc,_=>⟨o4,o5,o6,rfl,I,⟨[],by simp⟩,λd hd=>by simp at hd⟩
 |d::ds,M,o4,o5,o6,I,hc,sW=>by
  have hm:c∈M:=Bm hc;have hd:=sW d (Am ..);obtain⟨p5,p6,e⟩:=ja hv h7 hl I hc hd o5 o6;obtain⟨N1,eN1⟩:=kq (w:=w) (ls:=ls) (c:=c) (L:=M) (d:=d);have hc':(CD w ls c M d)[at_]?=Z c:=by rw[eN1,DD (A0.mp hc).1];exact hc
  obtain⟨q4,q5,q6,f,I',⟨N2,eN2⟩,ur⟩:=Xy ds (CD w ls c M d) (Z (.pl (dN d))) p5 p6 (ko hv I hm hd) hc' λx hx=>sW x (Ap _ hx);refine⟨q4,q5,q6,?_,I',⟨N1++N2,?_⟩,λx hx vq p hp=>?_⟩
  .rw[Ak,DT,<-f]
   show(match Jv [Z (.pl w.d),Z (.pl (sG ls)),Z (.ol (M.map sG)),Z (.pl (dN at_)),Z (.pl (dN d)),o5,o6]with|some (.nx r')=>_|some (.ct r')=>_|some (.bk r')=>_|some (.rt d)=>_|none=>_)=_;rw[e]
  .rw[DT,eN2,eN1,Ff]
  .rw[DT]
   rcases AE.mp hx with e'|hx
   .subst e'
    rw[eN2];exact De _ (jo vq hp)
   .exact ur x hx vq p hp
theorem Yk:∀(tM at_:Nat) (L:List (List Int)) (o4 o5 o6:Option B),Dj w ls L->at_<=L.length->129<=at_+tM->(∀i c,i<at_->L[i]?=Z c->∀d:Nat,d<w.deeds.length->AH w c d=Aa->∀p∈Zu w ls (ZM w c d),p∈L) ->∃L' p3 p4 p5 p6,Dx (tV (sM xG (Za 3) (AJ (Zo 2)))) Li tM [Z (.pl w.d),Z (.pl (sG ls)),Z (.ol (L.map sG)),Z (.pl (dN at_)),o4,o5,o6]=Z (.nx [Z (.pl w.d),Z (.pl (sG ls)),Z (.ol (L'.map sG)),p3,p4,p5,p6]) /\ Dj w ls L'/\(∃N,L'=L++N)/\D3 w ls L'
 |0,at_,L,o4,o5,o6,I,h1,h2,_=>by have:=I.len h7;omega
 |tM+1,at_,L,o4,o5,o6,I,h1,h2,hdone=>by
  by_cases tu:at_<L.length
  .have hok:vp (w.deeds.length:Int)=Aa:=EU (by have:=hv.d2;omega)
   have uh:w.deeds.length<1000000:=by have:=hv.d2;omega
   obtain⟨c,hc⟩:∃c,L[at_]?=Z c:=⟨_,A2 tu⟩;obtain⟨p4,p5,p6,f,I',⟨N,eN⟩,ur⟩:=Xy hv h7 hl (at_:=at_) (c:=c) (Ah w.deeds.length) L o4 o5 o6 I hc λd hd=>AS.mp hd;generalize hM:(Ah w.deeds.length).foldl (CD w ls c) L=M at *;have body:Li [Z (.pl w.d),Z (.pl (sG ls)),Z (.ol (L.map sG)),Z (.pl (dN at_)),o4,o5,o6]=Z (.nx [Z (.pl w.d),Z (.pl (sG ls)),Z (.ol (M.map sG)),Z (.pl (dN (at_+1))),p4,p5,p6]):=by have i0:B8 (.pl w.d)=Z [AB w.many,.tuple (w.deeds.map ZQ),.tuple (w.looks.map sG),sG w.beg,sG w.goal]:=rfl;simp[Li,i0,hok,CL,uh,-B8];simp[hok,CL,uh,f]
   obtain⟨L',q3,q4,q5,q6,g,z0,⟨N',eN'⟩,tZ⟩:=Yk tM (at_+1) M p4 p5 p6 I' (by rw[eN,AK];omega) (by omega) (λi c' hi hc' d hd vq p hp=>by
    by_cases e:i=at_
    .subst e
     rw[eN,DD tu,hc]at hc';cases hc';exact ur d (AS.mpr hd) vq p hp
    .have hi':i<at_:=by omega
     rw[eN,DD (by omega)]at hc';rw[eN];exact De _ (hdone i c' hi' hc' d hd vq p hp))
   refine⟨L',q3,q4,q5,q6,?_,z0,⟨N++N',by rw[eN',eN,Ff]⟩,tZ⟩;have ht:(tV (sM xG (Za 3) (AJ (Zo 2)))) [Z (.pl w.d),Z (.pl (sG ls)),Z (.ol (L.map sG)),Z (.pl (dN at_)),o4,o5,o6]=Z Aa:=by simp[tu]
   unfold Dx;rw[ht];dsimp only;rw[body];exact g
  .have e:at_=L.length:=by omega
   have ht:(tV (sM xG (Za 3) (AJ (Zo 2)))) [Z (.pl w.d),Z (.pl (sG ls)),Z (.ol (L.map sG)),Z (.pl (dN at_)),o4,o5,o6]=Z Ab:=by simp[tu]
   refine⟨L,Z (.pl (dN at_)),o4,o5,o6,?_,I,⟨[],by simp⟩,λc hc d hd vq p hp=>?_⟩
   .unfold Dx
    rw[ht]
   .obtain⟨i,hi,hq⟩:=Mc hc
    exact hdone i c (by omega) (by rw[A2 hi,hq]) d hd vq p hp
theorem lF:∃L,NY [w.d,sG ls]=Z (.list (L.map sG))/\Dj w ls L/\D3 w ls L/\∀p∈Zu w ls w.beg,p∈L:=by
 have hs:=Ox hv hl hv.bc;have zL:=hv.bc.len;have uk:(ZU w ls w.beg).length<1000000:=by unfold ZU;rw[Af,(D6 _).length_eq,Af];have:=Fx _ _ _ (Eu (Zy w ls) w.beg);omega
 have e1:∀r:HM.Env,FO ZK (Za 1) r ((ZU w ls w.beg).map Bd)=Z ((Zu w ls w.beg).map sG):=λr=>by have e:=Ld (c:=ZK) (e:=Za 1) (r:=r) (λp:List Int×List Int=>sG p.1) (λp=>sG p.2) (λ_=>Aa) (λp=>sG p.2) (ZU w ls w.beg) (λp _=>rfl) (λp _ _=>by simp);rw[Mb.mpr λ_ _=>rfl]at e;unfold Zu;rw[Aw];exact e
 have I0:Dj w ls (Zu w ls w.beg):=⟨YA w ls w.beg,λc hc=>⟨(Jg hv.bc hc).1,(Jg hv.bc hc).2.1⟩,λc hc=>.beg hc⟩;obtain⟨L,p3,p4,p5,p6,g,I,⟨N,eN⟩,tZ⟩:=Yk hv h7 hl 100000 0 (Zu w ls w.beg) J J J I0 (BY _) (by omega) (λi c hi=>by omega);refine⟨L,?_,I,tZ,λp hp=>by rw[eN];exact De _ hp⟩;have i0:B8 (.pl w.d)=Z [AB w.many,.tuple (w.deeds.map ZQ),.tuple (w.looks.map sG),sG w.beg,sG w.goal]:=rfl;have g':Dx (tV (sM xG (Za 3) (AJ (Zo 2)))) Li 100000 [Z (.pl w.d),Z (.pl (sG ls)),Z (.ol ((Zu w ls w.beg).map sG)),Z (.pl (.int 0)),J,J,J]=Z (.nx [Z (.pl w.d),Z (.pl (sG ls)),Z (.ol (L.map sG)),p3,p4,p5,p6]):=g;show Av (NZ [Z (.pl w.d),Z (.pl (sG ls)),J,J,J,J,J])=_;have e':NZ [Z (.pl w.d),Z (.pl (sG ls)),J,J,J,J,J]=Z (.rt (.list (L.map sG))):=by unfold NZ;refine ZX (P:=λq=>q=_) (r':=[Z (.pl w.d),Z (.pl (sG ls)),Z (.ol ((Zu w ls w.beg).map sG)),J,J,J,J]) (by simp[i0,hs,uk,e1,-B8];simp[hs,uk,e1]) ?_;refine ZX (P:=λq=>q=_) (r':=[Z (.pl w.d),Z (.pl (sG ls)),Z (.ol ((Zu w ls w.beg).map sG)),Z (.pl (.int 0)),J,J,J]) (by simp) ?_;refine ZX (P:=λq=>q=_) (r':=[Z (.pl w.d),Z (.pl (sG ls)),Z (.ol (L.map sG)),p3,p4,p5,p6]) g' ?_;simp
 rw[e'];rfl
end
end
section
variable{c:List Int}{M:Tb}
theorem mh{α:Type}(ns:List Int):tT (.list (ns.map dI)) (.list [])=Z (.bool ns.isEmpty):=by
 cases ns with
 |nil=>exact GO (Jj 0 []) (by decide)
 |cons n ns=>exact Fy (Jj 0 (n::ns)) (Jj 0 []) (by decide) (by decide) (by simp)
theorem Q1(L:List (List Int)):tT (.list (L.map sG)) (.list [])=Z (.bool L.isEmpty):=by
 have h:∀L:List (List Int),uf 2 (.list (L.map sG))=Aa:=λL=>Vy λd hd=>by obtain⟨c,_,rfl⟩:=Al.mp hd;exact FC 0 c
 cases L with
 |nil=>exact GO (h []) (by decide)
 |cons c L=>exact Fy (h (c::L)) (h []) (by decide) (by decide) (by simp)
theorem uJ{α:Type}(p:α->Bool)(L:List α):(L.filter λx=>!p x).isEmpty=L.all p:=by
 induction L with
 |nil=>rfl
 |cons x L ih =>
  rw[Ez,Di];cases p x with
  |true=>simpa using ih
  |false=>rfl
theorem mM{w:Wk}(hv:Wk.V w)(hc:c.length<1000):LF [w.d,sG c]=Z (.bool (Z7 w c)):=by
 have hb:c.length<1000000:=by omega
 have i0:B8 (.pl w.d)=Z [AB w.many,.tuple (w.deeds.map ZQ),.tuple (w.looks.map sG),sG w.beg,sG w.goal]:=rfl;have e:∀r:HM.Env,r[0]?=Z (Z (.pl w.d))->Bc (tV (Jz (Za 0) (sU (tJ (Zo 1) (eC (.int 4)))))) (Za 0) r (c.map dI)=Z ((c.filter λs=>!w.goal.contains s).map dI):=λr r0=>by
  rw[D7 dI (λs=>!w.goal.contains s) dI]
  .intro s _
   simp[r0,i0,Hr,CU,-B8,-Fp];simp[Hr,CU,-Fp]
  .intro s _ _
   simp
 have g:=mh (α:=Int) (c.filter λs=>!w.goal.contains s);rw[uJ (λs=>w.goal.contains s) c]at g;simp[LF,ag,hb,e,g,Z7,-tT,-Fp]
abbrev Tb:=List (List Int×Int)
def encM(M:Tb):List (List Ky×D):=M.map λp=>(Az p.1,dI p.2)
theorem GU(M:Tb)(k:List Int):Zm (encM M) (Az k)=(Zm M k).map dI:=by
 unfold Zm encM;rw[List.find?_map];have e:((λp:List Ky×D=>decide (p.1=Az k))∘λp:List Int×Int=>(Az p.1,dI p.2))=λp=>decide (p.1=k):=by
  funext p
  simp only[L9];exact decide_eq_decide.mpr (Qy p.1 k)
 rw[e];cases M.find? λp=>decide (p.1=k)<;>rfl
theorem Nt(M:Tb)(k:List Int)(v:Int):tf (encM M) (Az k) (dI v)=encM (tf M k v):=by
 unfold tf;have e1:((encM M).any λp=>decide (p.1=Az k))=M.any λp=>decide (p.1=k):=by
  unfold encM;rw[TB];congr 1
  funext p
  simp only[L9];exact decide_eq_decide.mpr (Qy p.1 k)
 rw[e1];split
 .unfold encM
  rw[Aw,Aw];refine Fh λp _=>?_;simp only[L9]
  by_cases h:p.1=k
  .rw[if_pos h,if_pos (by rw[h])]
  .rw[if_neg h,if_neg (λe=>h (KZ e))]
 .unfold encM
  rw[BI];rfl
theorem Rf(k:List Int):Zm ([]:Tb) k=J:=rfl
theorem Ga(x:List Int)(v:Int)(M:Tb)(k:List Int):Zm ((x,v)::M) k=if x=k then Z v else Zm M k:=by
 unfold Zm;rw[Df]
 by_cases h:x=k<;>simp[h]
theorem jN(x k:List Int)(v:Int)(M:Tb):Zm (tf M x v) k=if x=k then Z v else Zm M k:=by
 have rep:∀M:Tb,Zm (M.map λp=>if p.1=x then(p.1,v)else p) k=if x=k then(Zm M k).map (λ_=>v)else Zm M k:=by
  intro M
  induction M with
  |nil=>rw[Fl,Rf];split<;>rfl
  |cons p M ih =>
   obtain⟨a,b⟩:=p;rw[Ak]
   by_cases ha:a=x
   .rw[if_pos (show(a,b).1=x from ha),Ga,Ga,ih]
    show(if a=k then Z v else _)=_
    by_cases hk:x=k
    .rw[if_pos (by rw[ha,hk]),if_pos hk,if_pos (by rw[ha,hk])];rfl
    .rw[if_neg (by rw[ha];exact hk),if_neg hk,if_neg hk,if_neg (by rw[ha];exact hk)]
   .rw[if_neg (show ¬(a,b).1=x from ha),Ga,Ga,ih]
    by_cases hk:a=k
    .rw[if_pos hk,if_pos hk]
     have:x≠k:=λe=>ha (hk.trans e.symm);rw[if_neg this]
    .rw[if_neg hk,if_neg hk]
 have app:∀M:Tb,Zm (M++[(x,v)]) k=match Zm M k with|some u=>Z u|none=>if x=k then Z v else J:=by
  intro M
  induction M with
  |nil=>rw[ID,Ga,Rf]
  |cons p M ih =>
   obtain⟨a,b⟩:=p;rw[Uc,Ga,Ga,ih]
   by_cases hk:a=k
   .rw[if_pos hk,if_pos hk]
   .rw[if_neg hk,if_neg hk]
 have has:∀M:Tb,(M.any λp=>decide (p.1=x))=(Zm M x).isSome:=by
  intro M
  induction M with
  |nil=>rfl
  |cons p M ih =>
   obtain⟨a,b⟩:=p;rw[Ee,Ga,ih]
   by_cases ha:a=x<;>simp[ha]
 unfold tf;split
 .rename_i h
  rw[rep]
  by_cases hk:x=k
  .subst hk
   rw[has]at h;rw[if_pos rfl,if_pos rfl];obtain⟨u,hu⟩:=EH.mp h;rw[hu];rfl
  .rw[if_neg hk,if_neg hk]
 .rename_i h
  rw[app]
  by_cases hk:x=k
  .subst hk
   rw[has]at h;rw[if_pos rfl,if_pos rfl];cases hq:Zm M x with
   |none=>rfl
   |some u=>rw[hq]at h;exact absurd rfl h
  .rw[if_neg hk,if_neg hk]
   cases Zm M k<;>rfl
theorem Nd(x:List Int)(v:Int)(M:Tb):(tf M x v).length<=M.length+1:=by
 unfold tf;split
 .rw[Af];omega
 .rw[AK];exact Aj _
def ZH(M:Tb)(p:List Int):Bool:=(Zm M p).isSome
def Cn(w:Wk)(ls c:List Int)(M:Tb):Bool:=(Ah w.deeds.length).any λd=>AH w c d&&(Zu w ls (ZM w c d)).all λp=>ZH M p
section
variable{w:Wk}(hv:Wk.V w)(h7:w.many<=7){ls:List Int}(hl:Cr w.looks.length ls)
include hv h7 hl
theorem lT(hc:Cr w.many c){d:Nat}(hd:d<w.deeds.length)(o5:Option B):((AH w c d&&(Zu w ls (ZM w c d)).all λp=>ZH M p)=Aa->ZT [Z (.pl w.d),Z (.pl (sG ls)),Z (.pl (sG c)),Z (.pl (.dict (Zn (encM M)))),Z (.pl (dN d)),o5]=Z (.rt (.bool Aa))) /\ ((AH w c d&&(Zu w ls (ZM w c d)).all λp=>ZH M p)=Ab->∃p5,ZT [Z (.pl w.d),Z (.pl (sG ls)),Z (.pl (sG c)),Z (.pl (.dict (Zn (encM M)))),Z (.pl (dN d)),o5]=Z (.nx [Z (.pl w.d),Z (.pl (sG ls)),Z (.pl (sG c)),Z (.pl (.dict (Zn (encM M)))),Z (.pl (dN d)),p5])):=by
 have uH:=Yf hv h7 hc (show(0:Int)<=(d:Int) by omega) (by omega);unfold Mz at uH;cases vq:AH w c d with
 |false=>rw[vq]at uH;refine⟨λh=>(by cases h),λ_=>⟨Z (.pl .none),?_⟩⟩;simp[ZT,uH]
 |true =>
  rw[vq]at uH;have lc:=GL hv hc (show(0:Int)<=(d:Int) by omega) (by omega);have hs:=Ox hv hl lc;have uk:(ZU w ls (ZM w c d)).length<1000000:=by unfold ZU;rw[Af,(D6 _).length_eq,Af];have:=Fx _ _ _ (Eu (Zy w ls) (ZM w c d));have:=lc.len;omega
  have e1:∀r:HM.Env,r[3]?=Z (Z (.pl (.dict (Zn (encM M)))))->FO (tV (FI (Za 1) (Zo 5))) (Za 1) r ((ZU w ls (ZM w c d)).map Bd)=Z (((Zu w ls (ZM w c d)).filter λp=>!ZH M p).map sG):=λr r3=>by have e:=Ld (c:=tV (FI (Za 1) (Zo 5))) (e:=Za 1) (r:=r) (λp:List Int×List Int=>sG p.1) (λp=>sG p.2) (λp=>!ZH M p.2) (λp=>sG p.2) (ZU w ls (ZM w c d)) (λp _=>by have hk:Be (sG p.2)=Z (Az p.2):=Cp p.2;simp[r3,sY,hk,GU,ZH]) (λp _ _=>by simp);have e':((ZU w ls (ZM w c d)).map λp:List Int×List Int=>BZ [sG p.1,sG p.2])=(ZU w ls (ZM w c d)).map Bd:=rfl;rw[<-e',e];unfold Zu;rw[List.filter_map,Aw];rfl
  have g:=Q1 ((Zu w ls (ZM w c d)).filter λp=>!ZH M p);rw[uJ]at g;cases ha:(Zu w ls (ZM w c d)).all λp=>ZH M p with
  |true=>rw[ha]at g;refine⟨λ_=>?_,λh=>(by cases h)⟩;simp[ZT,uH,hs,uk,e1,g,-tT]
  |false=>rw[ha]at g;refine⟨λh=>(by cases h),λ_=>⟨Z (.pl (sG (ZM w c d))),?_⟩⟩;simp[ZT,uH,hs,uk,e1,g,-tT]
theorem XG{c:List Int}(hc:Cr w.many c){M:Tb}:∀(ds:List Nat) (o4 o5:Option B),(∀d∈ds,d<w.deeds.length) ->((ds.any λd=>AH w c d&&(Zu w ls (ZM w c d)).all λp=>ZH M p)=Aa->ZN 4 ZT (ds.map dN) [Z (.pl w.d),Z (.pl (sG ls)),Z (.pl (sG c)),Z (.pl (.dict (Zn (encM M)))),o4,o5]=Z (.rt (.bool Aa))) /\ ((ds.any λd=>AH w c d&&(Zu w ls (ZM w c d)).all λp=>ZH M p)=Ab->∃p4 p5,ZN 4 ZT (ds.map dN) [Z (.pl w.d),Z (.pl (sG ls)),Z (.pl (sG c)),Z (.pl (.dict (Zn (encM M)))),o4,o5]=Z (.nx [Z (.pl w.d),Z (.pl (sG ls)),Z (.pl (sG c)),Z (.pl (.dict (Zn (encM M)))),p4,p5]))
 |[],o4,o5,_=>⟨λh=>(by cases h),λ_=>⟨o4,o5,rfl⟩⟩
 |d::ds,o4,o5,sW=>by
  obtain⟨t1,t2⟩:=lT hv h7 hl hc (M:=M) (sW d (Am ..)) o5;rw[Ee];cases hq:(AH w c d&&(Zu w ls (ZM w c d)).all λp=>ZH M p)with
  |true=>refine⟨λ_=>?_,λh=>(by cases h)⟩;rw[Ak];show(match ZT [Z (.pl w.d),Z (.pl (sG ls)),Z (.pl (sG c)),Z (.pl (.dict (Zn (encM M)))),Z (.pl (dN d)),o5]with|some (.nx r')=>_|some (.ct r')=>_|some (.bk r')=>_|some (.rt d)=>_|none=>_)=_;rw[t1 hq]
  |false =>
   obtain⟨p5,e⟩:=t2 hq;obtain⟨i1,i2⟩:=XG hc ds (Z (.pl (dN d))) p5 λx hx=>sW x (Ap _ hx);have e5:ZN 4 ZT ((d::ds).map dN) [Z (.pl w.d),Z (.pl (sG ls)),Z (.pl (sG c)),Z (.pl (.dict (Zn (encM M)))),o4,o5]=ZN 4 ZT (ds.map dN) [Z (.pl w.d),Z (.pl (sG ls)),Z (.pl (sG c)),Z (.pl (.dict (Zn (encM M)))),Z (.pl (dN d)),p5]:=by rw[Ak];show(match ZT [Z (.pl w.d),Z (.pl (sG ls)),Z (.pl (sG c)),Z (.pl (.dict (Zn (encM M)))),Z (.pl (dN d)),o5]with|some (.nx r')=>_|some (.ct r')=>_|some (.bk r')=>_|some (.rt d)=>_|none=>_)=_;rw[e]
   rw[e5,OS];exact⟨i1,i2⟩
theorem Rg(hc:Cr w.many c):OO [w.d,sG ls,sG c,.dict (Zn (encM M))]=Z (.bool (Cn w ls c M)):=by
 obtain⟨i1,i2⟩:=XG hv h7 hl hc (M:=M) (Ah w.deeds.length) J J λd hd=>AS.mp hd;have hok:vp (w.deeds.length:Int)=Aa:=EU (by have:=hv.d2;omega);have uh:w.deeds.length<1000000:=by have:=hv.d2;omega
 have i0:B8 (.pl w.d)=Z [AB w.many,.tuple (w.deeds.map ZQ),.tuple (w.looks.map sG),sG w.beg,sG w.goal]:=rfl;show Av (JK [Z (.pl w.d),Z (.pl (sG ls)),Z (.pl (sG c)),Z (.pl (.dict (Zn (encM M)))),J,J])=_;unfold Cn;cases h:(Ah w.deeds.length).any λd=>AH w c d&&(Zu w ls (ZM w c d)).all λp=>ZH M p with
 |true =>
  have e:JK [Z (.pl w.d),Z (.pl (sG ls)),Z (.pl (sG c)),Z (.pl (.dict (Zn (encM M)))),J,J]=Z (.rt (.bool Aa)):=by simp[JK,i0,-B8];simp[hok,CL,uh,i1 h]
  rw[e];rfl
 |false =>
  obtain⟨p4,p5,f⟩:=i2 h;have e:JK [Z (.pl w.d),Z (.pl (sG ls)),Z (.pl (sG c)),Z (.pl (.dict (Zn (encM M)))),J,J]=Z (.rt (.bool Ab)):=by simp[JK,i0,-B8];simp[hok,CL,uh,f]
  rw[e];rfl
end
end
section
variable{L:List (List Int)}{c ls:List Int}
def CF(w:Wk)(ls:List Int)(t:Nat)(c:List Int):Option Int:=((Ah (t+1)).find? λn=>tm w ls n c).map λ(n:Nat)=>(n:Int)
theorem GQ{w:Wk}{t:Nat}:(CF w ls t c).isSome=tm w ls t c:=by
 unfold CF;rw[Gg];cases h:tm w ls t c with
 |true=>rw[TQ];exact⟨t,AS.mpr (by omega),h⟩
 |false =>
  cases q:(Ah (t+1)).find? λn=>tm w ls n c with
  |none=>rfl
  |some n=>have h1:=List.find?_some q;have h2:=AS.mp (UK q);rw[Gy (show n<=t by omega) h1]at h;cases h
theorem kX{w:Wk}{t:Nat}:CF w ls (t+1) c=match CF w ls t c with
  |some k=>Z k
  |none=>if tm w ls (t+1) c then Z ((t+1:Nat):Int)else J:=by
 unfold CF;rw[List.range_succ (n:=t+1),TX];cases(Ah (t+1)).find? λn=>tm w ls n c with
 |some n=>rfl
 |none=>show DC _ (Option.or J ([t+1].find? λn=>tm w ls n c))=_;rw[Option.none_or,Df];cases tm w ls (t+1) c<;>rfl
theorem La{w:Wk}{t:Nat}{k:Int}(h:CF w ls t c=Z k):∃n:Nat,k=(n:Int)/\n<=t/\tm w ls n c=Aa/\∀m,m<n->tm w ls m c=Ab:=by
 unfold CF at h;obtain⟨n,hn,rfl⟩:=Ai.mp h;refine⟨n,rfl,?_,List.find?_some (p:=λn=>tm w ls n c) hn,λm hm=>?_⟩
 .have:=AS.mp (UK hn)
  omega
 .cases q:tm w ls m c with
  |false=>rfl
  |true =>
   obtain⟨_,as,bs,e,xO⟩:=List.find?_eq_some_iff_append.mp hn;have uC:m∈Ah (t+1):=AS.mpr (by have:=AS.mp (UK hn);omega);have hp:(as++n::bs).Pairwise (· < ·):=by rw[<-e];exact bJ
   rw[e]at uC;rcases Bg.mp uC with h1|h1
   .have:=xO m h1
    rw[q]at this;cases this
   .rcases AE.mp h1 with h2|h2
    .omega
    .have:=(DE.mp (Uz.mp hp).2.1).1 m h2
     omega
structure DY(w:Wk)(ls:List Int)(L:List (List Int))(t:Nat)(M:Tb):Prop where
 look:∀c,Zm M c=if c∈L then CF w ls t c else J
theorem NL(v:Int)(k:List Int):∀(ms:List (List Int)) (M:Tb),Zm (ms.foldl (λM c=>tf M c v) M) k=if k∈ms then Z v else Zm M k
 |[],M=>by simp
 |c::ms,M=>by
  rw[DT,NL v k ms,jN]
  by_cases h1:k∈ms
  .rw[if_pos h1,if_pos (Ap _ h1)]
  .rw[if_neg h1]
   by_cases h2:c=k
   .rw[if_pos h2,if_pos (by rw[h2];exact Am ..)]
   .rw[if_neg h2,if_neg]
    intro h;rcases AE.mp h with e|e
    .exact h2 e.symm
    .exact h1 e
theorem NK(v:Int):∀(ms:List (List Int)) (M:Tb),(ms.foldl (λM c=>tf M c v) M).length<=M.length+ms.length
 |[],M=>Aj _
 |c::ms,M=>by rw[DT,AD];have:=NK v ms (tf M c v);have:=Nd c v M;omega
def Bk(w:Wk)(ls:List Int)(L:List (List Int))(M:Tb):List (List Int):=L.filter λc=>!ZH M c&&Cn w ls c M
theorem QI{w:Wk}(hL:D3 w ls L){t:Nat}{M:Tb}(T:DY w ls L t M):DY w ls L (t+1) ((Bk w ls L M).foldl (λM c=>tf M c ((t+1:Nat):Int)) M):=by
 have yV:∀c∈L,ZH M c=tm w ls t c:=λc hc=>by unfold ZH;rw[T.look,if_pos hc,GQ]
 refine⟨λc=>?_⟩;rw[NL,T.look]
 by_cases hc:c∈L
 .rw[if_pos hc,if_pos hc,kX]
  have v9:Cn w ls c M=(Ah w.deeds.length).any λd=>AH w c d&&(Zu w ls (ZM w c d)).all λp=>tm w ls t p:=by
   unfold Cn;apply Pe.mpr;rw[Ei,Ei]
   constructor
   .rintro ⟨d,hd,hq⟩
    rw[AI]at hq;refine⟨d,hd,?_⟩;rw[AI];refine⟨hq.1,Au.mpr λp hp=>?_⟩;rw[<-yV p (hL c hc d (AS.mp hd) hq.1 p hp)];exact Au.mp hq.2 p hp
   .rintro ⟨d,hd,hq⟩
    rw[AI]at hq;refine⟨d,hd,?_⟩;rw[AI];refine⟨hq.1,Au.mpr λp hp=>?_⟩;rw[yV p (hL c hc d (AS.mp hd) hq.1 p hp)];exact Au.mp hq.2 p hp
  have uC:c∈Bk w ls L M↔(tm w ls t c=Ab/\Cn w ls c M=Aa):=by
   unfold Bk;rw[B4,AI,yV c hc]
   constructor
   .rintro ⟨_,h1,h2⟩
    exact⟨by simpa using h1,h2⟩
   .rintro ⟨h1,h2⟩
    exact⟨hc,by simp[h1],h2⟩
  cases hw:tm w ls t c with
  |true =>
   have hs:(CF w ls t c).isSome=Aa:=by rw[GQ];exact hw
   obtain⟨k,hk⟩:=EH.mp hs;rw[if_neg (λh=>by rw[hw]at uC;cases(uC.mp h).1),hk]
  |false =>
   have hs:CF w ls t c=J:=by
    have:=GQ (w:=w) (ls:=ls) (t:=t) (c:=c);rw[hw]at this;cases q:CF w ls t c with
    |none=>rfl
    |some k=>rw[q]at this;cases this
   have hth:Z7 w c=Ab:=by
    cases q:Z7 w c with
    |false=>rfl
    |true=>have:tm w ls t c=Aa:=Gy (BY t) (show tm w ls 0 c=Aa from q);rw[hw]at this;cases this
   have xV:tm w ls (t+1) c=Cn w ls c M:=by rw[v9];show(Z7 w c||_)=_;rw[hth,OS]
   rw[hs];dsimp only;rw[xV];cases hcw:Cn w ls c M with
   |true=>rw[if_pos (uC.mpr ⟨hw,hcw⟩),if_pos rfl]
   |false=>rw[if_neg (λh=>by have:=(uC.mp h).2;rw[hcw]at this;cases this)];rfl
 .rw[if_neg hc,if_neg hc,if_neg]
  intro h;exact hc (B4.mp h).1
def M0(w:Wk)(L:List (List Int)):Tb:=(L.filter λc=>Z7 w c).foldl (λM c=>tf M c 0) []
theorem Q3{w:Wk}:DY w ls L 0 (M0 w L):=by
 refine⟨λc=>?_⟩;unfold M0;rw[NL,Rf];have e:CF w ls 0 c=if Z7 w c then Z 0 else J:=by unfold CF;show DC _ (([0]:List Nat).find? λn=>tm w ls n c)=_;rw[Df];show DC _ (match tm w ls 0 c with|true=>Z 0|false=>_)=_;have:tm w ls 0 c=Z7 w c:=rfl;rw[this];cases Z7 w c<;>rfl
 rw[e]
 by_cases hc:c∈L
 .rw[if_pos hc]
  cases ht:Z7 w c with
  |true=>rw[if_pos (B4.mpr ⟨hc,ht⟩)];rfl
  |false=>rw[if_neg (λh=>by have:=(B4.mp h).2;rw[ht]at this;cases this)];rfl
 .rw[if_neg hc,if_neg λh=>hc (B4.mp h).1]
section
variable{w:Wk}(hv:Wk.V w)(h7:w.many<=7){ls:List Int}(hl:Cr w.looks.length ls){L:List (List Int)}(I:Dj w ls L)
include hv h7 hl I
theorem Qk(e2 e5 e6:Option B):∀(cs:List (List Int)) (M:Tb) (o4:Option B),(∀c∈cs,c∈L)->M.length+cs.length<100000 ->∃p4,ZN 4 G7 (cs.map sG) [Z (.pl w.d),Z (.pl (sG ls)),e2,Z (.ot (encM M)),o4,e5,e6]=Z (.nx [Z (.pl w.d),Z (.pl (sG ls)),e2,Z (.ot (encM ((cs.filter λc=>Z7 w c).foldl (λM c=>tf M c 0) M))),p4,e5,e6])
 |[],M,o4,_,_=>⟨o4,rfl⟩
 |c::cs,M,o4,xB,sJ=>by
  rw[AD]at sJ;have hc:=(I.cr c (xB c (Am ..))).1;have tZ:=hc.len;have ht:=mM hv (c:=c) (by omega);have yn:(encM M).length<1000000:=by unfold encM;rw[Af];omega
  have hk:Be (sG c)=Z (Az c):=Cp c;have vZ:=Nt M c 0;have hpl:=Nd c 0 M;rw[Ak,Ez];cases hth:Z7 w c with
  |true =>
   rw[hth]at ht;have e:G7 [Z (.pl w.d),Z (.pl (sG ls)),e2,Z (.ot (encM M)),Z (.pl (sG c)),e5,e6]=Z (.nx [Z (.pl w.d),Z (.pl (sG ls)),e2,Z (.ot (encM (tf M c 0))),Z (.pl (sG c)),e5,e6]):=by rw[<-vZ];simp[G7,ht,hk,yn]
   obtain⟨p4,ih⟩:=Qk e2 e5 e6 cs (tf M c 0) (Z (.pl (sG c))) (λx hx=>xB x (Ap _ hx)) (by omega);refine⟨p4,?_⟩;rw[if_pos rfl,DT,<-ih];show(match G7 [Z (.pl w.d),Z (.pl (sG ls)),e2,Z (.ot (encM M)),Z (.pl (sG c)),e5,e6]with|some (.nx r')=>_|some (.ct r')=>_|some (.bk r')=>_|some (.rt d)=>_|none=>_)=_;rw[e]
  |false =>
   rw[hth]at ht;have e:G7 [Z (.pl w.d),Z (.pl (sG ls)),e2,Z (.ot (encM M)),Z (.pl (sG c)),e5,e6]=Z (.nx [Z (.pl w.d),Z (.pl (sG ls)),e2,Z (.ot (encM M)),Z (.pl (sG c)),e5,e6]):=by simp[G7,ht]
   obtain⟨p4,ih⟩:=Qk e2 e5 e6 cs M (Z (.pl (sG c))) (λx hx=>xB x (Ap _ hx)) (by omega);refine⟨p4,?_⟩;rw[if_neg (by simp),<-ih];show(match G7 [Z (.pl w.d),Z (.pl (sG ls)),e2,Z (.ot (encM M)),Z (.pl (sG c)),e5,e6]with|some (.nx r')=>_|some (.ct r')=>_|some (.bk r')=>_|some (.rt d)=>_|none=>_)=_;rw[e]
theorem Qp(e2 e5:Option B)(M:Tb):∀(cs ms:List (List Int)) (o4:Option B),(∀c∈cs,c∈L)->ms.length+cs.length<100000 ->∃p4,ZN 4 FU (cs.map sG) [Z (.pl w.d),Z (.pl (sG ls)),e2,Z (.ot (encM M)),o4,e5,Z (.ol (ms.map sG))]=Z (.nx [Z (.pl w.d),Z (.pl (sG ls)),e2,Z (.ot (encM M)),p4,e5,Z (.ol ((ms++Bk w ls cs M).map sG))])
 |[],ms,o4,_,_=>⟨o4,by unfold Bk;simp[ZN]⟩
 |c::cs,ms,o4,xB,sJ=>by
  rw[AD]at sJ;have hc:=(I.cr c (xB c (Am ..))).1;have hw:=Rg hv h7 hl hc (M:=M);have hk:Be (sG c)=Z (Az c):=Cp c;have ua:=GU M c;have hmb:ms.length<1000000:=by omega
  have em:Bk w ls (c::cs) M=if(!ZH M c&&Cn w ls c M)=Aa then c::Bk w ls cs M else Bk w ls cs M:=by unfold Bk;rw[Ez]
  cases hq:(!ZH M c&&Cn w ls c M)with
  |true =>
   have hq':=hq;rw[AI]at hq';have h1:ZH M c=Ab:=by simpa using hq'.1
   have h1':Zm M c=J:=by
    have h1:(Zm M c).isSome=Ab:=h1;cases q:Zm M c with
    |none=>rfl
    |some k=>rw[q]at h1;cases h1
   rw[h1']at ua;have e:FU [Z (.pl w.d),Z (.pl (sG ls)),e2,Z (.ot (encM M)),Z (.pl (sG c)),e5,Z (.ol (ms.map sG))]=Z (.nx [Z (.pl w.d),Z (.pl (sG ls)),e2,Z (.ot (encM M)),Z (.pl (sG c)),e5,Z (.ol ((ms++[c]).map sG))]):=by rw[hq'.2]at hw;simp[FU,hk,ua,hw,hmb]
   obtain⟨p4,ih⟩:=Qp e2 e5 M cs (ms++[c]) (Z (.pl (sG c))) (λx hx=>xB x (Ap _ hx)) (by rw[AK,IP];omega);refine⟨p4,?_⟩;rw[em,hq,if_pos rfl,show ms++c::Bk w ls cs M=(ms++[c])++Bk w ls cs M by simp,<-ih,Ak];show(match FU [Z (.pl w.d),Z (.pl (sG ls)),e2,Z (.ot (encM M)),Z (.pl (sG c)),e5,Z (.ol (ms.map sG))]with|some (.nx r')=>_|some (.ct r')=>_|some (.bk r')=>_|some (.rt d)=>_|none=>_)=_;rw[e]
  |false =>
   have e:FU [Z (.pl w.d),Z (.pl (sG ls)),e2,Z (.ot (encM M)),Z (.pl (sG c)),e5,Z (.ol (ms.map sG))]=Z (.nx [Z (.pl w.d),Z (.pl (sG ls)),e2,Z (.ot (encM M)),Z (.pl (sG c)),e5,Z (.ol (ms.map sG))]):=by
    cases h1:Zm M c with
    |some k=>rw[h1]at ua;simp[FU,hk,ua]
    |none =>
     have h2:ZH M c=Ab:=by unfold ZH;rw[h1];rfl
     rw[h2]at hq;have h3:Cn w ls c M=Ab:=by simpa using hq
     rw[h3]at hw;rw[h1]at ua;simp[FU,hk,ua,hw]
   obtain⟨p4,ih⟩:=Qp e2 e5 M cs ms (Z (.pl (sG c))) (λx hx=>xB x (Ap _ hx)) (by omega);refine⟨p4,?_⟩;rw[em,hq,if_neg (by simp),<-ih,Ak];show(match FU [Z (.pl w.d),Z (.pl (sG ls)),e2,Z (.ot (encM M)),Z (.pl (sG c)),e5,Z (.ol (ms.map sG))]with|some (.nx r')=>_|some (.ct r')=>_|some (.bk r')=>_|some (.rt d)=>_|none=>_)=_;rw[e]
end
theorem Vv(e0 e1 e2 e6:Option B)(v:Int):∀(ms:List (List Int)) (M:Tb) (o4:Option B),M.length+ms.length<100000 ->∃p4,ZN 4 Lw (ms.map sG) [e0,e1,e2,Z (.ot (encM M)),o4,Z (.pl (dI v)),e6]=Z (.nx [e0,e1,e2,Z (.ot (encM (ms.foldl (λM c=>tf M c v) M))),p4,Z (.pl (dI v)),e6])
 |[],M,o4,_=>⟨o4,rfl⟩
 |c::ms,M,o4,sJ=>by
  rw[AD]at sJ;have yn:(encM M).length<1000000:=by unfold encM;rw[Af];omega
  have hk:Be (sG c)=Z (Az c):=Cp c;have vZ:=Nt M c v;have hpl:=Nd c v M;have e:Lw [e0,e1,e2,Z (.ot (encM M)),Z (.pl (sG c)),Z (.pl (dI v)),e6]=Z (.nx [e0,e1,e2,Z (.ot (encM (tf M c v))),Z (.pl (sG c)),Z (.pl (dI v)),e6]):=by rw[<-vZ];simp[Lw,hk,yn]
  obtain⟨p4,ih⟩:=Vv e0 e1 e2 e6 v ms (tf M c v) (Z (.pl (sG c))) (by omega);refine⟨p4,?_⟩;rw[Ak,DT,<-ih];show(match Lw [e0,e1,e2,Z (.ot (encM M)),Z (.pl (sG c)),Z (.pl (dI v)),e6]with|some (.nx r')=>_|some (.ct r')=>_|some (.bk r')=>_|some (.rt d)=>_|none=>_)=_;rw[e]
end
section
variable{w:Wk}(hv:Wk.V w)(h7:w.many<=7){ls:List Int}(hl:Cr w.looks.length ls){L:List (List Int)}(I:Dj w ls L)
include hv h7 hl I
theorem la{M:Tb}(hM:M.length<50000)(v:Int)(o4 o6:Option B):∃p4 p6,JB [Z (.pl w.d),Z (.pl (sG ls)),Z (.pl (.list (L.map sG))),Z (.ot (encM M)),o4,Z (.pl (dI v)),o6] =Z (.nx [Z (.pl w.d),Z (.pl (sG ls)),Z (.pl (.list (L.map sG))),Z (.ot (encM ((Bk w ls L M).foldl (λM c=>tf M c v) M))),p4,Z (.pl (dI v)),p6]):=by
 have sJ:=I.len h7;have hLb:L.length<1000000:=by omega
 obtain⟨p4,e1⟩:=Qp hv h7 hl I (Z (.pl (.list (L.map sG)))) (Z (.pl (dI v))) M L [] o4 (λ_ h=>h) (by simp;omega);have yn:(Bk w ls L M).length<=L.length:=EE _ _;have hmb:(Bk w ls L M).length<1000000:=by omega
 obtain⟨q4,e2⟩:=Vv (Z (.pl w.d)) (Z (.pl (sG ls))) (Z (.pl (.list (L.map sG)))) (Z (.pl (.list ((Bk w ls L M).map sG)))) v (Bk w ls L M) M p4 (by omega);rw[Fl,ID]at e1;refine⟨q4,Z (.pl (.list ((Bk w ls L M).map sG))),?_⟩;simp[JB,hLb,e1,hmb,e2]
theorem YM(hL:D3 w ls L):∀(n t:Nat) (M:Tb) (o4 o5 o6:Option B),DY w ls L t M->M.length<=128*(t+1)->t+n<=128 ->∃M' p4 p5 p6,ZN 5 JB ((CN (t+1) n).map dN) [Z (.pl w.d),Z (.pl (sG ls)),Z (.pl (.list (L.map sG))),Z (.ot (encM M)),o4,o5,o6] =Z (.nx [Z (.pl w.d),Z (.pl (sG ls)),Z (.pl (.list (L.map sG))),Z (.ot (encM M')),p4,p5,p6])/\DY w ls L (t+n) M'
 |0,t,M,o4,o5,o6,T,_,_=>⟨M,o4,o5,o6,rfl,T⟩
 |n+1,t,M,o4,o5,o6,T,hM,ht=>by obtain⟨p4,p6,e⟩:=la hv h7 hl I (M:=M) (by omega) ((t+1:Nat):Int) o4 o6;have T':=QI hL T;have sJ:=I.len h7;have yn:(Bk w ls L M).length<=L.length:=EE _ _;have uD:=NK ((t+1:Nat):Int) (Bk w ls L M) M;have hM1:((Bk w ls L M).foldl (λM c=>tf M c ((t+1:Nat):Int)) M).length<=128*(t+1+1):=Bf uD (by omega);obtain⟨M',q4,q5,q6,f,T''⟩:=YM hL n (t+1) _ p4 (Z (.pl (dN (t+1)))) p6 T' hM1 (by omega);refine⟨M',q4,q5,q6,?_,by rw[show t+(n+1)=t+1+n by omega];exact T''⟩;rw[List.range'_succ,Ak,<-f];show(match JB [Z (.pl w.d),Z (.pl (sG ls)),Z (.pl (.list (L.map sG))),Z (.ot (encM M)),o4,Z (.pl (dN (t+1))),o6]with|some (.nx r')=>_|some (.ct r')=>_|some (.bk r')=>_|some (.rt d)=>_|none=>_)=_;rw[e]
end
theorem ly(n:Nat):D9 1 n=(CN 1 n).map dN:=by unfold D9;rw[List.range'_eq_map_range,Aw];refine Fh λk _=>?_;show AB (1+(k:Int))=AB ((1+k:Nat):Int);congr 1
section
variable{w:Wk}(hv:Wk.V w)(h7:w.many<=7){ls:List Int}(hl:Cr w.looks.length ls)
include hv h7 hl
theorem me:∃L M,Ou [w.d,sG ls]=Z (.dict (Zn (encM M)))/\Dj w ls L/\D3 w ls L/\(∀p∈Zu w ls w.beg,p∈L)/\DY w ls L L.length M:=by
 obtain⟨L,ur,I,hL,xZ⟩:=lF hv h7 hl;have sJ:=I.len h7;have hLb:L.length<1000000:=by omega
 obtain⟨p4,e0⟩:=Qk hv h7 hl I (Z (.pl (.list (L.map sG)))) J J L [] J (λ_ h=>h) (by simp;omega);have xA:(M0 w L).length<=L.length:=by unfold M0;have h1:=NK 0 (L.filter λc=>Z7 w c) [];have h2:=EE (λc=>Z7 w c) L;exact Bf h1 (by rw[Mn];omega)
 obtain⟨M,q4,q5,q6,f,T⟩:=YM hv h7 hl I hL L.length 0 (M0 w L) p4 J J Q3 (by omega) (by omega);rw[L7]at T;refine⟨L,M,?_,I,hL,xZ,T⟩;have hok1:vp 1=Aa:=rfl;have hok:vp ((L.length:Int)+1)=Aa:=by
  have:=EU (n:=L.length+1) (by omega)
  rwa [show((L.length+1:Nat):Int)=(L.length:Int)+1 by omega]at this
 have hr:D9 1 ((L.length:Int)+1-1).toNat=(CN 1 L.length).map dN:=by rw[show((L.length:Int)+1-1).toNat=L.length by omega,ly]
 show Av (Ov [Z (.pl w.d),Z (.pl (sG ls)),J,J,J,J,J])=_;have e:Ov [Z (.pl w.d),Z (.pl (sG ls)),J,J,J,J,J]=Z (.rt (.dict (Zn (encM M)))):=by
  unfold Ov;refine ZX (P:=λq=>q=_) (r':=[Z (.pl w.d),Z (.pl (sG ls)),Z (.pl (.list (L.map sG))),J,J,J,J]) (by simp[ur]) ?_;refine ZX (P:=λq=>q=_) (r':=[Z (.pl w.d),Z (.pl (sG ls)),Z (.pl (.list (L.map sG))),Z (.ot (encM [])),J,J,J]) (by simp[encM]) ?_;refine ZX (P:=λq=>q=_) (r':=[Z (.pl w.d),Z (.pl (sG ls)),Z (.pl (.list (L.map sG))),Z (.ot (encM (M0 w L))),p4,J,J]) (by simp[hLb,e0,M0]) ?_;refine ZX (P:=λq=>q=_) (r':=[Z (.pl w.d),Z (.pl (sG ls)),Z (.pl (.list (L.map sG))),Z (.ot (encM M)),q4,q5,q6]) ?_ (by simp);have f':ZN 5 JB ((CN 1 L.length).map dN) [Z (.pl w.d),Z (.pl (sG ls)),Z (.pl (.list (L.map sG))),Z (.ot (encM (M0 w L))),p4,J,J]=Z (.nx [Z (.pl w.d),Z (.pl (sG ls)),Z (.pl (.list (L.map sG))),Z (.ot (encM M)),q4,q5,q6]):=f;have ei:Nj (eC (.int 1)) (sM A4 (AJ (Zo 2)) (eC (.int 1))) [Z (.pl w.d),Z (.pl (sG ls)),Z (.pl (.list (L.map sG))),Z (.ot (encM (M0 w L))),p4,J,J]=Z ((CN 1 L.length).map dN):=by simp[hok1,hok];rw[show((L.length:Int)+1-1).toNat=L.length by omega]at hr;exact hr
  unfold AR;rw[ei];dsimp only;rw[if_pos (by rw[Af,Pa];exact hLb)];exact f'
 rw[e];rfl
end
def PL(w:Wk)(ls:List Int)(n:Nat):Prop:=∀p∈Zu w ls w.beg,tm w ls n p=Aa
def wZ(w:Wk)(ls:List Int)(d:D):Prop:=(∃n:Nat,d=.int n/\PL w ls n/\∀m,m<n->¬PL w ls m)\/(d=.none/\∀n,¬PL w ls n)
theorem wZ.unique{w:Wk}{ls:List Int}{d e:D}(h1:wZ w ls d)(h2:wZ w ls e):d=e:=by
 rcases h1 with⟨n,rfl,a1,a2⟩|⟨rfl,a⟩
 .rcases h2 with⟨m,rfl,b1,b2⟩|⟨rfl,b⟩
  .have:n=m:=by
    rcases Nat.lt_trichotomy n m with h|h|h
    .exact absurd a1 (b2 n h)
    .exact h
    .exact absurd b1 (a2 m h)
   rw[this]
  .exact absurd a1 (b n)
 .rcases h2 with⟨m,rfl,b1,b2⟩|⟨rfl,b⟩
  .exact absurd b1 (a m)
  .rfl
section
variable{w:Wk}(hv:Wk.V w)(h7:w.many<=7){ls:List Int}(hl:Cr w.looks.length ls)
include hv h7 hl
theorem nz:∃d,Z6 [w.d,sG ls]=Z d/\wZ w ls d:=by
 obtain⟨L,M,hco,I,hL,xZ,T⟩:=me hv h7 hl;have sJ:=I.len h7;have hs:=Ox hv hl hv.bc;have zL:=hv.bc.len;have uk:(ZU w ls w.beg).length<1000000:=by unfold ZU;rw[Af,(D6 _).length_eq,Af];have:=Fx _ _ _ (Eu (Zy w ls) w.beg);omega
 have xm:∀p∈Zu w ls w.beg,Zm M p=CF w ls L.length p:=λp hp=>by rw[T.look,if_pos (xZ p hp)]
 have e1:∀r:HM.Env,r[2]?=Z (Z (.pl (.dict (Zn (encM M)))))->FO ZK (Rb (Zo 4) (Za 1) (eC (.int 999))) r ((ZU w ls w.beg).map Bd)=Z (((Zu w ls w.beg).map λp=>(Zm M p).getD 999).map dI):=λr r2=>by
  have e:=Ld (c:=ZK) (e:=Rb (Zo 4) (Za 1) (eC (.int 999))) (r:=r) (λp:List Int×List Int=>sG p.1) (λp=>sG p.2) (λ_=>Aa) (λp=>dI ((Zm M p.2).getD 999)) (ZU w ls w.beg) (λp _=>rfl) (λp _ _=>by
   have hk:Be (sG p.2)=Z (Az p.2):=Cp p.2;have ua:=GU M p.2;cases hq:Zm M p.2 with
   |none=>rw[hq]at ua;simp[r2,sY,hk,ua]
   |some k=>rw[hq]at ua;simp[r2,sY,hk,ua])
  rw[Mb.mpr λ_ _=>rfl]at e;have e':((ZU w ls w.beg).map λp:List Int×List Int=>BZ [sG p.1,sG p.2])=(ZU w ls w.beg).map Bd:=rfl;rw[<-e',e];unfold Zu;rw[Aw,Aw];rfl
 have tX:(Zu w ls w.beg).map (λp=>(Zm M p).getD 999)≠[]:=λe=>K9 hv.b1 (Uu.mp e);obtain⟨m,hm⟩:∃m,((Zu w ls w.beg).map λp=>(Zm M p).getD 999).max?=Z m:=by
  cases q:((Zu w ls w.beg).map λp=>(Zm M p).getD 999).max? with
  |none=>rw[UA]at q;exact absurd q tX
  |some m=>exact⟨m,rfl⟩
 obtain⟨m1,m2⟩:=UC.mp hm;have i0:B8 (.pl w.d)=Z [AB w.many,.tuple (w.deeds.map ZQ),.tuple (w.looks.map sG),sG w.beg,sG w.goal]:=rfl;have ecs:∀tl:Option D,Tn [Z (.pl w.d),Z (.pl (sG ls)),J,J]=(if m=999 then Z (.rt .none)else Z (.rt (.int m))):=λ_=>by
  unfold Tn;refine ZX (P:=λq=>q=_) (r':=[Z (.pl w.d),Z (.pl (sG ls)),Z (.pl (.dict (Zn (encM M)))),J]) (by simp[hco]) ?_;refine ZX (P:=λq=>q=_) (r':=[Z (.pl w.d),Z (.pl (sG ls)),Z (.pl (.dict (Zn (encM M)))),Z (.ol (((Zu w ls w.beg).map λp=>(Zm M p).getD 999).map dI))]) (by simp[i0,hs,uk,e1,-B8];simp[hs,uk,e1]) ?_;generalize xB:(Zu w ls w.beg).map (λp=>(Zm M p).getD 999)=cs at *
  by_cases hq:m=999
  .rw[if_pos hq]
   subst hq;simp[CU,hm]
  .rw[if_neg hq]
   have hq':(m==999)=Ab:=by simp[hq]
   simp[CU,hm,hq']
 have xX:Z6 [w.d,sG ls]=Av (if m=999 then Z (.rt .none)else Z (.rt (.int m))):=by rw[<-ecs J];rfl
 by_cases hq:m=999
 .rw[if_pos hq]at xX
  refine⟨.none,xX,.inr ⟨rfl,λn hn=>?_⟩⟩;subst hq;obtain⟨p,hp,e⟩:=Al.mp m1;rw[xm p hp]at e;have xV:tm w ls L.length p=Aa:=Wa hL (xZ p hp) (hn p hp);rw[<-GQ]at xV;obtain⟨k,hk⟩:=EH.mp xV;obtain⟨j,rfl,hj,_⟩:=La hk;rw[hk]at e;have:((j:Nat):Int)=999:=e;omega
 .rw[if_neg hq]at xX
  have ur:∀p∈Zu w ls w.beg,∃n:Nat,Zm M p=Z (n:Int)/\(n:Int)<=m/\tm w ls n p=Aa/\∀j,j<n->tm w ls j p=Ab:=λp hp=>by
   have we:=m2 _ (Al.mpr ⟨p,hp,rfl⟩);cases hk:Zm M p with
   |none =>
    rw[hk]at we;have we:(999:Int)<=m:=we;obtain⟨p',hp',e⟩:=Al.mp m1;cases hk':Zm M p' with
    |none=>rw[hk']at e;exact absurd e.symm hq
    |some k'=>rw[hk']at e;rw[xm p' hp']at hk';obtain⟨j,rfl,hj,_⟩:=La hk';have:((j:Nat):Int)=m:=e;omega
   |some k=>rw[hk]at we;have hk0:=hk;rw[xm p hp]at hk;obtain⟨n,rfl,_,h2,h3⟩:=La hk;exact⟨n,rfl,we,h2,h3⟩
  obtain⟨p,hp,e⟩:=Al.mp m1;obtain⟨n,k1,k2,k3,k4⟩:=ur p hp;rw[k1]at e;have e:(n:Int)=m:=e;subst e;refine⟨_,xX,.inl ⟨n,rfl,λq hq'=>?_,λj hj hw=>?_⟩⟩
  .obtain⟨n',a1,a2,a3,_⟩:=ur q hq'
   exact Gy (by omega) a3
  .have:=hw p hp
   rw[k4 j hj]at this;cases this
end
end HG5
namespace HG5
open PySem HM HG
def mH:SF :=
 (ZF (tJ (Zo 0) (eC (.int 3))))
def Ob:List D->Option D:=fnOf 1 1 mH
def kS:SF :=
 (ZF (tJ (Zo 0) (eC (.int 4))))
def Lm:List D->Option D:=fnOf 1 1 kS
def YQ:SF :=
 (ZF (Hx (ZA (ZD (sU (Za 1))) ZK (M4 (Za 0) (sU (Zj Lm (Zb (Za 1) Zh)))))))
def G9:List D->Option D:=fnOf 2 2 YQ
def af:SF :=
 (ZF (uc (ZA (ZD (sU (Za 0))) ZK (tJ (Zo 0) (eC (.int 1))))))
def ZY:List D->Option D:=fnOf 1 1 af
def LN(ap:AP):SF :=
 (YO 3 (Rc ZY (Zb (tJ (Zo 5) (eC (.int 1))) Zh)))
def JN(ap:AP):SF :=
 (Zq (iU 4 3)
  (tQ (tV (FI (Za 4) (Zo 2))) (Zq (Gx 2 (Za 4) (K7 ap 1 (Zb (Za 4) Zh)))
  (AR 5 (ZD (sU (B2 (Zo 2) (Za 4)))) (LN ap))) AN))
def OF(ap:AP):SF :=
 (Zq (ZJ 2 zQ)
  (Zq (ZJ 3 (RC (Zo 0)))
  (Zq (Qt 100000 (tV (sM xb (AJ (Zo 3)) (eC (.int 0)))) (JN ap))
  (Ck 2 (ZF (Za 2))))))
def LL(ap:AP):List D->Option D:=fnOf 2 6 (OF ap)
def Tj(ap:AP):SF :=
 (Zq (ZJ 3 (ZA (ZD (sU (Za 0))) ZK (K7 ap 3 (Zb (Za 0) (Zb (Za 2) Zh)))))
  (Ck 3 (ZF (HJ (ZA (ZD (sU (Za 3))) (tV (sM CB (Za 0) (eC .none))) (Za 0))))))
def JA(ap:AP):List D->Option D:=fnOf 3 4 (Tj ap)
def Z9(ap:AP):SF :=
 (tQ (tV (FI (Za 4) (Zo 1))) (Zq (Z2 5 (Zj (JA ap) (Zb (B2 (Zo 0) (Za 4)) (Zb (Za 1) (Zb (Za 2) Zh)))))
  (tQ (tV (sM CB (Za 5) (eC .none))) (Gx 3 (Za 4) (Za 5)) AN)) AN)
def GY(ap:AP):List D->Option (List (List Ky×D)):=yA 3 6
 (Kp (ZJ 3 zQ)
 (Kp (GD 0 (AR 4 (BM 0) (Z9 ap)))
 (P5 3)))
def LD(ap:AP):SF :=
 (Gx 3 (Za 6) (Za 4))
def LC(ap:AP):SF :=
 (Zq (Ck 5 (AR 6 (ZD (sU (Za 5))) (LD ap)))
  (Zq (ZJ 7 (Ro (GY ap) (Zb (Za 1) (Zb (Qi (Zo 3)) (Zb (Za 2) Zh)))))
  (Zq (Ck 7 (GD 7 (Z2 4 (HJ (ZA (BM 7) ZK (B2 (Zo 8) (Za 0)))))))
  (Ck 7 (GD 7 (ZJ 5 (ZA (BM 7) (tV (sM tT (B2 (Zo 8) (Za 0)) (Za 5))) (Za 0))))))))
def Oa(ap:AP):SF :=
 (Zq (ZJ 3 zQ)
  (Zq (Z2 4 (eC (.int 0)))
  (Zq (GD 1 (ZJ 5 (ZA (BM 1) (tV (Zj G9 (Zb (Za 1) (Zb (Za 0) Zh)))) (Za 0))))
  (Zq (Qt 100000 (tV (sM xb (AJ (Zo 5)) (eC (.int 0)))) (LC ap))
  (Ck 3 (ZF (Za 3)))))))
def Lh(ap:AP):List D->Option D:=fnOf 3 8 (Oa ap)
def Tq:SF :=
 (Zq (ZJ 2 (ZA (ZD (sU (Zj ZY (Zb (Za 0) Zh)))) (tV (Xb (Za 0) (Zo 2))) (B2 (Zo 2) (Za 0))))
  (ZF (eIf (tV (sM tT (AJ (Zo 2)) (AJ (Zo 0)))) (KW (Zo 2)) (eC .none))))
def Gd:List D->Option D:=fnOf 2 3 Tq
def ae:SF :=
 (ZF (uc (ZA (ZD (sU (Zj Ly (Zb (Za 0) (Zb (Za 2) Zh))))) ZK (Br (Zb (Za 0) (Zb (Zj Ea (Zb (Za 1) (Zb (Za 2) (Zb (Zj Jt (Zb (Za 1) (Zb (Za 3) (Zb (Za 0) Zh)))) Zh)))) Zh))))))
def FR:List D->Option D:=fnOf 3 3 ae
def Ta(ap:AP):SF :=
 (ZF (aD (LL ap) 1 [0,1] (Zj ZY (Zb (Zj Ea (Zb (Za 0) (Zb (Za 1) (Zb (Za 2) Zh)))) Zh))))
def LQ(ap:AP):List D->Option D:=fnOf 3 3 (Ta ap)
def Sm:SF :=
 (Zq (Z2 2 (Zj Gd (Zb (tJ (Zo 0) (eC (.int 1))) (Zb (Za 1) Zh))))
  (ZF (eIf (tV (sM Gu (Za 2) (eC .none))) (eC .none) (sM A4 (Za 2) (eC (.int 1))))))
def Lg:List D->Option D:=fnOf 2 3 Sm
def SO(ap:AP):SF :=
 (ZF (Zj (Lh ap) (Zb (Za 0) (Zb (Za 1) (Zb (eC (sV 0 [])) Zh)))))
def Ot(ap:AP):List D->Option D:=fnOf 2 2 (SO ap)
def Rv(ap:AP):SF :=
 (Zq (Kz (Zj DP (Zb (Za 0) Zh)))
  (Zq (Kz (Zj LO (Zb (Za 0) (Zb (Za 1) Zh))))
  (Zq (Z2 2 (Zj Ob (Zb (Za 0) Zh)))
  (Zq (Z2 3 (Zj (Ot ap) (Zb (Za 0) (Zb (Zj (LQ ap) (Zb (Za 0) (Zb (Za 1) (Zb (Za 2) Zh)))) Zh))))
  (ZF (Zj Gd (Zb (Zj Ea (Zb (Za 0) (Zb (Za 1) (Zb (Za 2) Zh)))) (Zb (Za 3) Zh))))))))
def E6(ap:AP):List D->Option D:=fnOf 2 4 (Rv ap)
end HG5
namespace HG5
open PySem HM HG HG4
section
variable{c:List Int}
theorem lL(w:Wk):Ob [w.d]=Z (sG w.beg):=rfl
theorem lq(w:Wk):Lm [w.d]=Z (sG w.goal):=rfl
theorem QS{α:Type}(xs:List α)(p:α->Bool):FA (xs.map λx=>BX (p x))=Z (xs.map p):=by
 have:=NQ (xs.map p)
 rwa [Aw]at this
theorem lW{w:Wk}(hc:c.length<1000):G9 [w.d,sG c]=Z (.bool (Z7 w c)):=by
 have hb:c.length<1000000:=by omega
 have e:∀r:HM.Env,r[0]?=Z (Z (.pl w.d))->Bc ZK (M4 (Za 0) (sU (Zj Lm (Zb (Za 1) Zh)))) r (c.map dI)=Z (c.map λs=>BX (w.goal.contains s)):=λr r0=>by
  rw[CM dI (λs=>BX (w.goal.contains s))]
  .intro s _
   simp[r0,lq,Hr,CU,-Fp]
 simp[G9,YQ,hb,e,QS,Z7,-Fp]
theorem R7(g:Gs)(h:g.length<1000000):ZY [.list (g.map Bd)]=Z (.list ((g.map (·.2)).map sG)):=by
 have e:∀r:HM.Env,Bc ZK (tJ (Zo 0) (eC (.int 1))) r (g.map Bd)=Z ((g.map (·.2)).map sG):=λr=>by
  rw[CM Bd (λp=>sG p.2),Aw]
  .rfl
  .intro p _
   rfl
 simp[ZY,af,h,e]
def MA(w:Wk)(ls c:List Int)(d:Int):D:=.tuple [dI d,.list ((ZU w ls (ZM w c d)).map Bd)]
def MM(w:Wk)(ls c:List Int):D:=.list ((wC w c).map (MA w ls c))
theorem split_len{w:Wk}{ls:List Int}:(ZU w ls c).length<=c.length:=by unfold ZU;rw[Af,(D6 _).length_eq,Af];exact Fx _ _ _ (Eu (Zy w ls) c)
theorem Qw(w:Wk)(c:List Int):(wC w c).length<=w.deeds.length:=by
 unfold wC;rw[Af];have:=EE (λ(d:Nat)=>AH w c (d:Int)) (Ah w.deeds.length)
 rwa [Fe]at this
theorem V4{w:Wk}{d:Nat}(hd:d<w.deeds.length)(hc:AH w c d=Aa):(d:Int)∈wC w c:=by unfold wC;exact Al.mpr ⟨d,B4.mpr ⟨AS.mpr hd,hc⟩,rfl⟩
section
variable{w:Wk}(hv:Wk.V w){ls:List Int}(hl:Cr w.looks.length ls)
include hv hl
theorem mn(hc:Cr w.many c):FR [w.d,sG ls,sG c]=Z (MM w ls c):=by
 have hdo:=nB hv hc;have hb:(wC w c).length<1000000:=by have:=Qw w c;have:=hv.d2;omega
 have e:∀r:HM.Env,r[0]?=Z (Z (.pl w.d))->r[1]?=Z (Z (.pl (sG ls)))->r[2]?=Z (Z (.pl (sG c))) ->
   Bc ZK (Br (Zb (Za 0) (Zb (Zj Ea (Zb (Za 1) (Zb (Za 2) (Zb (Zj Jt (Zb (Za 1) (Zb (Za 3) (Zb (Za 0) Zh)))) Zh)))) Zh))) r ((wC w c).map dI)=Z ((wC w c).map (MA w ls c)):=λr r0 r1 r2=>by
  rw[CM dI (MA w ls c)];intro d hd;obtain⟨d0,d1,_⟩:=Jq hd;have h1:=jm hv hc d0 d1;have h2:=Rz hv hl (GL hv hc d0 d1);simp[r0,r1,r2,h1,h2,MA]
 simp[FR,ae,hdo,hb,e,MM]
end
end
section
variable{C:List (List Int)}{ds:List D}{p:List Int}{n:Nat}{wf:Wf}
abbrev Wy:=D×Gs
def uj(y:Wy):D:=.tuple [y.1,.list (y.2.map Bd)]
def vB(y:Wy):List (List Int):=y.2.map (·.2)
abbrev Wf:=List Int->List Wy
inductive IY(wf:Wf)(B:List (List Int)):List Int->Prop where
 |beg {p:List Int} (h:p∈B):IY wf B p
 |step {c p:List Int} {y:Wy} (r:IY wf B c) (hy:y∈wf c) (h:p∈vB y):IY wf B p
structure EJ(wf:Wf)(Ok:List Int->Prop)(B C W:List (List Int)):Prop where
 nd:C.Nodup
 cr:∀c∈C,Ok c
 wr:∀c∈W,Ok c
 rc:∀c∈C,IY wf B c
 rw:∀c∈W,IY wf B c
 cl:∀c∈C,∀y∈wf c,∀p∈vB y,p∈C\/p∈W
 bg:∀p∈B,p∈C\/p∈W
def Zv(wf:Wf)(C:List (List Int)):List (List Ky×D):=C.map λc=>(Az c,.list ((wf c).map uj))
theorem RA(wf:Wf)(C:List (List Int))(k:List Int):Zm (Zv wf C) (Az k)=if k∈C then Z (.list ((wf k).map uj))else J:=by
 unfold Zm Zv
 induction C with
 |nil=>rfl
 |cons c C ih =>
  rw[Ak,Df]
  by_cases h:c=k
  .subst h
   rw[if_pos (Am ..)];simp
  .have h':decide ((Az c,(PyData.list ((wf c).map uj))).1=Az k)=Ab:=decide_eq_false λe=>h (KZ e)
   rw[h'];dsimp only;rw[ih]
   by_cases q:k∈C
   .rw[if_pos q,if_pos (Ap _ q)]
   .rw[if_neg q,if_neg λz=>by
     rcases AE.mp z with e|e
     .exact h e.symm
     .exact q e]
theorem iQ{k:List Int}(h:k∉C):tf (Zv wf C) (Az k) (.list ((wf k).map uj))=Zv wf (C++[k]):=by
 unfold tf;rw[if_neg]
 .unfold Zv
  rw[BI];rfl
 .intro z
  obtain⟨p,hp,e⟩:=Ei.mp z;unfold Zv at hp;obtain⟨c,hc,rfl⟩:=Al.mp hp;have e:=KZ (of_decide_eq_true e);subst e;exact h hc
theorem Ya(wf:Wf)(L:List (List Int)):((Zv wf L).map λp=>BZ (p.1.map BS))=L.map sG:=by unfold Zv;rw[Aw];refine Fh λc _=>?_;show BZ ((c.map Cg).map BS)=BZ (c.map dI);rw[Aw];rfl
def IT(wf:Wf)(c:List Int):List (List Int):=(wf c).flatMap vB
theorem EJ.old{Ok:List Int->Prop}{B V:List (List Int)}(I:EJ wf Ok B C (V++[p]))(hp:p∈C):EJ wf Ok B C V:=by
 have key:∀q,q∈C\/q∈V++[p]->q∈C\/q∈V:=λq h=>by
  rcases h with h|h
  .exact .inl h
  .rcases Bg.mp h with h|h
   .exact .inr h
   .rw[AW.mp h];exact .inl hp
 exact⟨I.nd,I.cr,λc h=>I.wr c (De _ h),I.rc,λc h=>I.rw c (De _ h),λc hc y hy q hq=>key q (I.cl c hc y hy q hq),λq hq=>key q (I.bg q hq)⟩
structure Mx(wf:Wf)(Ok:List Int->Prop):Prop where
 ok:∀c,Ok c->∀y∈wf c,∀p∈vB y,Ok p
 ys:∀c,Ok c->(wf c).length<=10
 ps:∀c,Ok c->∀y∈wf c,y.2.length<=8
 cs:∀C:List (List Int),C.Nodup->(∀c∈C,Ok c)->C.length<=128
theorem EJ.new{Ok:List Int->Prop}(O:Mx wf Ok){B V:List (List Int)}(I:EJ wf Ok B C (V++[p]))(hp:p∉C):EJ wf Ok B (C++[p]) (V++IT wf p):=by
 have zC:=I.wr p (Ci _ (AW.mpr rfl));have hpr:=I.rw p (Ci _ (AW.mpr rfl));have key:∀q,q∈C\/q∈V++[p]->q∈C++[p]\/q∈V++IT wf p:=λq h=>by
  rcases h with h|h
  .exact .inl (De _ h)
  .rcases Bg.mp h with h|h
   .exact .inr (De _ h)
   .exact .inl (Ci _ h)
 refine⟨?_,λc h=>?_,λc h=>?_,λc h=>?_,λc h=>?_,λc h y hy q hq=>?_,λq hq=>key q (I.bg q hq)⟩
 .rw[JX]
  refine⟨I.nd,by simp,λx hx y hy e=>?_⟩;rw[AW.mp hy]at e;exact hp (e▸hx)
 .rcases Bg.mp h with h|h
  .exact I.cr c h
  .rw[AW.mp h];exact zC
 .rcases Bg.mp h with h|h
  .exact I.wr c (De _ h)
  .obtain⟨y,hy,hq⟩:=JU.mp h
   exact O.ok p zC y hy c hq
 .rcases Bg.mp h with h|h
  .exact I.rc c h
  .rw[AW.mp h];exact hpr
 .rcases Bg.mp h with h|h
  .exact I.rw c (De _ h)
  .obtain⟨y,hy,hq⟩:=JU.mp h
   exact .step hpr hy hq
 .rcases Bg.mp h with h|h
  .exact key q (I.cl c h y hy q hq)
  .rw[AW.mp h]at hy
   exact .inr (Ci _ (JU.mpr ⟨y,hy,hq⟩))
theorem i4{Ok:List Int->Prop}(O:Mx wf Ok){c:List Int}(hc:Ok c):(IT wf c).length<=80:=by
 have key:∀ys:List Wy,(∀y∈ys,y∈wf c)->(ys.flatMap vB).length<=8*ys.length:=by
  intro ys
  induction ys with
  |nil=>intro _;exact Aj 0
  |cons y ys ih =>
   intro h;rw[List.flatMap_cons,AK,AD];have h1:=ih λx hx=>h x (Ap _ hx);have h2:=O.ps c hc y (h y (Am ..));have h3:(vB y).length=y.2.length:=by unfold vB;rw[Af]
   omega
 have h1:=key (wf c) λ_ h=>h;have h2:=O.ys c hc;unfold IT;omega
theorem VX(ap:AP)(e0 e1 e2 e4:Option B):∀(ys:List Wy) (W:List (List Int)) (o:Option B),(∀y∈ys,y.2.length<=8)->W.length+8*ys.length<900000 ->∃o',ZN 5 (LN ap) (ys.map uj) [e0,e1,e2,Z (.ol (W.map sG)),e4,o]=Z (.nx [e0,e1,e2,Z (.ol ((W++ys.flatMap vB).map sG)),e4,o'])
 |[],W,o,_,_=>⟨o,by rw[List.flatMap_nil,B6];rfl⟩
 |y::ys,W,o,sW,sJ=>by
  rw[AD]at sJ;have hb:=sW y (Am ..);have zK:=R7 y.2 (by omega);have hpl:(vB y).length<=8:=by unfold vB;rw[Af];exact hb
  have body:LN ap [e0,e1,e2,Z (.ol (W.map sG)),e4,Z (.pl (uj y))]=Z (.nx [e0,e1,e2,Z (.ol ((W++vB y).map sG)),e4,Z (.pl (uj y))]):=by
   have h1:Rc ZY (Zb (tJ (Zo 5) (eC (.int 1))) Zh) [e0,e1,e2,Z (.ol (W.map sG)),e4,Z (.pl (uj y))]=Z (.ol ((vB y).map sG)):=by unfold Rc;show(match ZY [.list (y.2.map Bd)]with|some (.list ys)=>Z (B.ol ys)|_=>J)=_;rw[zK];rfl
   unfold LN YO;rw[h1];show(if _ then _ else _)=_;rw[if_pos (by rw[Af,Af];show _<1000000;omega),BI];rfl
  obtain⟨o',ih⟩:=VX ap e0 e1 e2 e4 ys (W++vB y) (Z (.pl (uj y))) (λx hx=>sW x (Ap _ hx)) (by rw[AK];omega);refine⟨o',?_⟩;rw[List.flatMap_cons,<-Ff,<-ih,Ak];show(match LN ap [e0,e1,e2,Z (.ol (W.map sG)),e4,Z (.pl (uj y))]with|some (.nx r')=>_|some (.ct r')=>_|some (.bk r')=>_|some (.rt d)=>_|none=>_)=_;rw[body]
theorem Yx(wf:Wf)(C:List (List Int))(p:List Int)(r:HM.Env)(i j:Nat)(h1:r[i]?=Z (Z (.pl (sG p))))(h2:r[j]?=Z (Z (.ot (Zv wf C)))):tV (FI (Za i) (Zo j)) r=Z (!decide (p∈C)):=by
 have hk:Be (sG p)=Z (Az p):=Cp p;have ua:=RA wf C p
 by_cases hp:p∈C
 .rw[if_pos hp]at ua
  simp[h1,h2,hk,ua,hp]
 .rw[if_neg hp]at ua
  simp[h1,h2,hk,ua,hp]
theorem Wn(t:Nat)(cs:List D):MX (sV t cs)=Z (t,cs):=rfl
section
variable{ap:AP}{wf:Wf}{Ok:List Int->Prop}(O:Mx wf Ok){t:Nat}{cs:List D}(ha:∀c,Ok c->ap t cs [sG c]=Z (.list ((wf c).map uj)))
include O ha
omit ha O in
theorem jf{V:List (List Int)}(e0 e1 o4 o5:Option B)(hp:p∈C):JN ap [e0,e1,Z (.ot (Zv wf C)),Z (.ol ((V++[p]).map sG)),o4,o5]=Z (.nx [e0,e1,Z (.ot (Zv wf C)),Z (.ol (V.map sG)),Z (.pl (sG p)),o5]):=by
 unfold JN;refine ZX (P:=λq=>q=_) (r':=[e0,e1,Z (.ot (Zv wf C)),Z (.ol (V.map sG)),Z (.pl (sG p)),o5]) ?_ ?_
 .rw[BI]
  simp
 .have ht:=Yx wf C p [e0,e1,Z (.ot (Zv wf C)),Z (.ol (V.map sG)),Z (.pl (sG p)),o5] 4 2 rfl rfl
  rw[decide_eq_true hp]at ht;unfold tQ;rw[ht];rfl
theorem gu{V:List (List Int)}(e0 o4 o5:Option B)(hp:p∉C)(hc:Ok p)(hC:C.length<1000)(hV:V.length<100000):∃o5',JN ap [e0,Z (.pl (sV t cs)),Z (.ot (Zv wf C)),Z (.ol ((V++[p]).map sG)),o4,o5]=Z (.nx [e0,Z (.pl (sV t cs)),Z (.ot (Zv wf (C++[p]))),Z (.ol ((V++IT wf p).map sG)),Z (.pl (sG p)),o5']):=by
 have zH:=O.ys p hc;obtain⟨o5',go⟩:=VX ap e0 (Z (.pl (sV t cs))) (Z (.ot (Zv wf (C++[p])))) (Z (.pl (sG p))) (wf p) V o5 (λy hy=>O.ps p hc y hy) (by omega);refine⟨o5',?_⟩;unfold JN;refine ZX (P:=λq=>q=_) (r':=[e0,Z (.pl (sV t cs)),Z (.ot (Zv wf C)),Z (.ol (V.map sG)),Z (.pl (sG p)),o5]) ?_ ?_
 .rw[BI]
  simp
 .have ht:=Yx wf C p [e0,Z (.pl (sV t cs)),Z (.ot (Zv wf C)),Z (.ol (V.map sG)),Z (.pl (sG p)),o5] 4 2 rfl rfl
  rw[decide_eq_false hp]at ht;unfold tQ;rw[ht];show Zq _ _ _=_;have hk:Be (sG p)=Z (Az p):=Cp p;have hww:=ha p hc;have tZ:(Zv wf C).length<1000000:=by unfold Zv;rw[Af];omega
  refine ZX (P:=λq=>q=_) (r':=[e0,Z (.pl (sV t cs)),Z (.ot (Zv wf (C++[p]))),Z (.ol (V.map sG)),Z (.pl (sG p)),o5]) ?_ ?_
  .rw[<-iQ hp]
   have hv:K7 ap 1 (Zb (Za 4) Zh) [e0,Z (.pl (sV t cs)),Z (.ot (Zv wf C)),Z (.ol (V.map sG)),Z (.pl (sG p)),o5]=Z (.list ((wf p).map uj)):=by unfold K7;show(match MX (sV t cs)with|some (t,cs)=>_|none=>J)=_;rw[Wn];exact hww
   unfold Gx;rw[hv];show(match Be (sG p)with|some y=>_|none=>J)=_;rw[hk];dsimp only;rw[if_pos (show _<big from tZ)];rfl
  .have ua:=RA wf (C++[p]) p
   rw[if_pos (Ci _ (AW.mpr rfl))]at ua;have hi:ZD (sU (B2 (Zo 2) (Za 4))) [e0,Z (.pl (sV t cs)),Z (.ot (Zv wf (C++[p]))),Z (.ol (V.map sG)),Z (.pl (sG p)),o5]=Z ((wf p).map uj):=by simp[hk,ua]
   unfold AR;rw[hi];dsimp only;rw[if_pos (by rw[Af];show _<1000000;omega)];exact go
theorem Tc(B:List (List Int))(e0:Option HM.B):∀(tM:Nat) (C W:List (List Int)) (o4 o5:Option HM.B),EJ wf Ok B C W->(128-C.length)*81+W.length<tM->(128-C.length)*81+W.length<60000 ->∃C' o4' o5',Dx (tV (sM xb (AJ (Zo 3)) (eC (.int 0)))) (JN ap) tM [e0,Z (.pl (sV t cs)),Z (.ot (Zv wf C)),Z (.ol (W.map sG)),o4,o5]=Z (.nx [e0,Z (.pl (sV t cs)),Z (.ot (Zv wf C')),Z (.ol []),o4',o5'])/\EJ wf Ok B C' []
 |0,C,W,o4,o5,I,h,_=>by omega
 |tM+1,C,W,o4,o5,I,h,hW=>by
  have sJ:=O.cs C I.nd I.cr
  by_cases hw:W=[]
  .subst hw
   refine⟨C,o4,o5,?_,I⟩;unfold Dx;have ht:(tV (sM xb (AJ (Zo 3)) (eC (.int 0)))) [e0,Z (.pl (sV t cs)),Z (.ot (Zv wf C)),Z (.ol (([]:List (List Int)).map sG)),o4,o5]=Z Ab:=by simp
   rw[ht];rfl
  .obtain⟨V,p,rfl⟩:∃V p,W=V++[p]:=⟨W.dropLast,W.getLast hw,(List.dropLast_concat_getLast hw).symm⟩
   rw[AK,IP]at h hW;have ht:(tV (sM xb (AJ (Zo 3)) (eC (.int 0)))) [e0,Z (.pl (sV t cs)),Z (.ot (Zv wf C)),Z (.ol ((V++[p]).map sG)),o4,o5]=Z Aa:=by simp
   by_cases hp:p∈C
   .obtain⟨C',o4',o5',g,z0⟩:=Tc B e0 tM C V (Z (.pl (sG p))) o5 (I.old hp) (by omega) (by omega)
    refine⟨C',o4',o5',?_,z0⟩;unfold Dx;rw[ht];dsimp only;rw[jf e0 _ o4 o5 hp];exact g
   .have zC:=I.wr p (Ci _ (AW.mpr rfl))
    have J0:=I.new O hp;have vD:=O.cs _ J0.nd J0.cr;rw[AK,IP]at vD;have zL:=i4 O zC;obtain⟨q5,e⟩:=gu O ha (V:=V) e0 o4 o5 hp zC (by omega) (by omega);obtain⟨C',o4',o5',g,z0⟩:=Tc B e0 tM (C++[p]) (V++IT wf p) (Z (.pl (sG p))) q5 J0 (by rw[AK,AK,IP];omega) (by rw[AK,AK,IP];omega);refine⟨C',o4',o5',?_,z0⟩;unfold Dx;rw[ht];dsimp only;rw[e];exact g
theorem lE{B:List (List Int)}(hB:∀c∈B,Ok c)(hl:B.length<=100):∃L,LL ap [.list (B.map sG),sV t cs]=Z (.dict (Zn (Zv wf L)))/\EJ wf Ok B L []:=by
 have I0:EJ wf Ok B [] B:=⟨.nil,λc h=>(by simp at h),hB,λc h=>(by simp at h),λc h=>.beg h,λc h=>(by simp at h),λp h=>.inr h⟩;obtain⟨L,o4,o5,g,z0⟩:=Tc O ha B (Z (.pl (.list (B.map sG)))) 100000 [] B J J I0 (by simp;omega) (by simp;omega);refine⟨L,?_,z0⟩;show Av (OF ap [Z (.pl (.list (B.map sG))),Z (.pl (sV t cs)),J,J,J,J])=_;have e:OF ap [Z (.pl (.list (B.map sG))),Z (.pl (sV t cs)),J,J,J,J]=Z (.rt (.dict (Zn (Zv wf L)))):=by unfold OF;refine ZX (P:=λq=>q=_) (r':=[Z (.pl (.list (B.map sG))),Z (.pl (sV t cs)),Z (.ot (Zv wf [])),J,J,J]) rfl ?_;refine ZX (P:=λq=>q=_) (r':=[Z (.pl (.list (B.map sG))),Z (.pl (sV t cs)),Z (.ot (Zv wf [])),Z (.ol (B.map sG)),J,J]) rfl ?_;refine ZX (P:=λq=>q=_) g ?_;simp
 rw[e];rfl
end
theorem GK(n:Nat)(p:List Int):uT (n+1) (sG p)=Aa:=by show(p.map dI).all (uT n)=Aa;rw[List.all_map];exact Au.mpr λx _=>by cases n<;>rfl
theorem eK(n:Nat)(i:Int):uT n (.int i)=Aa:=by cases n<;>rfl
theorem Js(h:∀d∈ds,uT n d=Aa):uT (n+1) (.tuple ds)=Aa:=Au.mpr h
theorem WQ(h:∀d∈ds,uT n d=Aa):uT (n+1) (.list ds)=Aa:=Au.mpr h
theorem iA(n:Nat)(p:List Int×List Int):uT (n+2) (Bd p)=Aa:=Js λd hd=>by
 rcases AE.mp hd with e|hd
 .subst e;exact GK n _
 .rw[AW.mp hd];exact GK n _
theorem cf{y:Wy}(h:uT (n+3) y.1=Aa):uT (n+4) (uj y)=Aa:=Js λd hd=>by
 rcases AE.mp hd with e|hd
 .subst e;exact h
 .rw[AW.mp hd]
  exact WQ λd hd=>by obtain⟨p,_,rfl⟩:=Al.mp hd;exact iA n p
theorem cH{L:List (List Int)}(h:∀c∈L,∀y∈wf c,uT (n+3) y.1=Aa):uT (n+6) (.dict (Zn (Zv wf L)))=Aa:=by show(Zn (Zv wf L)).all _=Aa;refine Au.mpr λp hp=>?_;unfold Zn Zv at hp;rw[Aw]at hp;obtain⟨c,hc,rfl⟩:=Al.mp hp;show uT (n+5) (.list ((wf c).map uj))=Aa;exact WQ λd hd=>by obtain⟨y,hy,rfl⟩:=Al.mp hd;exact cf (h c hc y hy)
theorem cE(w:Wk):uT 20 w.d=Aa:=by
 refine Js λd hd=>?_;have h:∀x:List (List Int),∀d∈x.map sG,uT 17 d=Aa:=λx d hd=>by obtain⟨p,_,rfl⟩:=Al.mp hd;exact GK 16 p
 have hd:=AE.mp hd;rcases hd with e|hd
 .subst e;rfl
 rcases AE.mp hd with e|hd
 .subst e
  exact Js λd hd=>by obtain⟨x,_,rfl⟩:=Al.mp hd;exact Js (h x)
 rcases AE.mp hd with e|hd
 .subst e
  exact Js λd hd=>by obtain⟨x,_,rfl⟩:=Al.mp hd;exact GK 17 x
 rcases AE.mp hd with e|hd
 .subst e;exact GK 18 _
 .rw[AW.mp hd];exact GK 18 _
end
section
variable{cb:Cb}{c:List Int}{M:Tb}
def oI:Option Int->D
 |some k=>.int k
 |none=>.none
abbrev Cb:=Wy->Tb->Option Int
def DM(cb:Cb)(ys:List Wy)(M:Tb):Option Int:=(ys.filterMap λy=>cb y M).min?
def AX(wf:Wf)(cb:Cb)(L:List (List Int))(M:Tb):Tb:=L.filterMap λc=>if ZH M c then J else(DM cb (wf c) M).map λk=>(c,k)
def BJ(T:Tb):Option Int:=(T.map (·.2)).min?
def D0(T:Tb):List (List Int):=(T.filter λp=>Z p.2==BJ T).map (·.1)
def BN(found:List (List Int))(k:Int)(M:Tb):Tb:=found.foldl (λM c=>tf M c k) M
inductive Hq(wf:Wf)(cb:Cb)(L:List (List Int)):Tb->Option Int->List (List Int)->Tb->Prop where
 |done {M:Tb} {k:Option Int}:Hq wf cb L M k [] M
 |step {M R:Tb} {k:Int} {found:List (List Int)} (hf:found≠[]) (h:Hq wf cb L (BN found k M) (BJ (AX wf cb L (BN found k M))) (D0 (AX wf cb L (BN found k M))) R):Hq wf cb L M (Z k) found R
theorem P4:∀os:List (Option Int),BP ((os.filter JZ).map oI)=Z (os.filterMap id)
 |[]=>rfl
 |none::os=>P4 os
 |some k::os=>by show(BP ((os.filter JZ).map oI)).map (k::·)=_;rw[P4 os];rfl
theorem nu{ap:AP}{t:Nat}{cs:List D}{ys:List Wy}(hy:ys.length<1000)(ha:∀y∈ys,ap t cs [uj y,.dict (Zn (encM M))]=Z (oI (cb y M))):JA ap [.list (ys.map uj),.dict (Zn (encM M)),sV t cs]=Z (oI (DM cb ys M)):=by
 show Av (Tj ap [Z (.pl (.list (ys.map uj))),Z (.pl (.dict (Zn (encM M)))),Z (.pl (sV t cs)),J])=_;have hb:ys.length<big:=by show _<1000000;omega
 have e1:Bc ZK (K7 ap 3 (Zb (Za 0) (Zb (Za 2) Zh))) [Z (.pl (.list (ys.map uj))),Z (.pl (.dict (Zn (encM M)))),Z (.pl (sV t cs)),J] (ys.map uj)=Z ((ys.map λy=>cb y M).map oI):=by
  rw[CM uj (λy=>oI (cb y M)),Aw]
  .rfl
  .intro y h
   show(match MX (sV t cs)with|some (t,cs)=>_|none=>J)=_;rw[Wn];exact ha y h
 have e2:Bc (tV (sM CB (Za 0) (eC .none))) (Za 0) [Z (.pl (.list (ys.map uj))),Z (.pl (.dict (Zn (encM M)))),Z (.pl (sV t cs)),Z (.pl (.list ((ys.map λy=>cb y M).map oI)))] ((ys.map λy=>cb y M).map oI)=Z (((ys.map λy=>cb y M).filter JZ).map oI):=by
  rw[D7 oI JZ oI]
  .intro o _
   cases o<;>rfl
  .intro o _ _
   rfl
 unfold Tj;refine ZX (P:=λq=>Av q=_) (r':=[Z (.pl (.list (ys.map uj))),Z (.pl (.dict (Zn (encM M)))),Z (.pl (sV t cs)),Z (.ol ((ys.map λy=>cb y M).map oI))]) ?_ ?_
 .unfold ZJ ZA
  show DC _ (if(ys.map uj).length<big then _ else _)=_;rw[if_pos (by rw[Af];exact hb),e1];rfl
 .show Av (DC vW.rt (HJ _ [Z (.pl (.list (ys.map uj))),Z (.pl (.dict (Zn (encM M)))),Z (.pl (sV t cs)),Z (.pl (.list ((ys.map λy=>cb y M).map oI)))]))=_
  have e3:ZA (ZD (sU (Za 3))) (tV (sM CB (Za 0) (eC .none))) (Za 0) [Z (.pl (.list (ys.map uj))),Z (.pl (.dict (Zn (encM M)))),Z (.pl (sV t cs)),Z (.pl (.list ((ys.map λy=>cb y M).map oI)))]=Z (.ol (((ys.map λy=>cb y M).filter JZ).map oI)):=by unfold ZA;show(if((ys.map λy=>cb y M).map oI).length<big then _ else J)=_;rw[if_pos (by rw[Af,Af];exact hb),e2];rfl
  unfold HJ;rw[e3];show Av (DC vW.rt (match BP (((ys.map λy=>cb y M).filter JZ).map oI)with|some ns=>Z (match ns.min? with|some i=>AB i|none=>.none)|none=>J))=_;rw[P4];show Z (match((ys.map λy=>cb y M).filterMap id).min? with|some i=>AB i|none=>.none)=_;unfold DM;rw[List.filterMap_map];show Z (match(ys.filterMap λy=>cb y M).min? with|some i=>AB i|none=>.none)=_;cases(ys.filterMap λy=>cb y M).min?<;>rfl
theorem iZ{k:Int}(h:ZH M c=Ab):tf M c k=M++[(c,k)]:=by unfold tf;rw[if_neg];intro z;obtain⟨p,hp,e⟩:=Ei.mp z;have e:=of_decide_eq_true e;unfold ZH Zm at h;rw[Gg]at h;have:(M.find? λp=>decide (p.1=c)).isSome=Aa:=TQ.mpr ⟨p,hp,decide_eq_true e⟩;rw[h]at this;cases this
theorem lg(M N:Tb)(c:List Int):ZH (M++N) c=(ZH M c||ZH N c):=by unfold ZH Zm;rw[TX,Gg,Gg,Gg,Option.isSome_or]
theorem eG:ZH M c=Aa↔∃k,(c,k)∈M:=by
 unfold ZH Zm;rw[Gg,TQ]
 constructor
 .rintro ⟨⟨c',k⟩,h,e⟩
  have e:=of_decide_eq_true e;exact⟨k,by rw[<-e];exact h⟩
 .rintro ⟨k,h⟩
  exact⟨_,h,decide_eq_true rfl⟩
theorem fI{wf:Wf}{L:List (List Int)}{k:Int}:(c,k)∈AX wf cb L M↔c∈L/\ZH M c=Ab/\DM cb (wf c) M=Z k:=by
 unfold AX;rw[Fg]
 constructor
 .rintro ⟨c',h1,h2⟩
  split at h2
  .cases h2
  .rename_i hn
   obtain⟨k',h3,h4⟩:=Ai.mp h2;cases h4;exact⟨h1,by simpa using hn,h3⟩
 .rintro ⟨h1,h2,h3⟩
  exact⟨c,h1,by rw[h2,h3];rfl⟩
section
variable{ap:AP}{wf:Wf}{L:List (List Int)}{t:Nat}{cs:List D}{cb:Cb}(vN:L.Nodup)(sJ:L.length<=128)(wd:∀c∈L,(wf c).length<1000)(ha:∀c∈L,∀y∈wf c,∀M,ap t cs [uj y,.dict (Zn (encM M))]=Z (oI (cb y M)))
include wd ha
theorem V9{M:Tb}:∀(K:List (List Int)) (acc:Tb) (o4 o5:Option B),(∀c∈K,c∈L)->K.Nodup->(∀c∈K,ZH acc c=Ab)->Bj o4=Ab->Bj o5=Ab->acc.length+K.length<100000 ->∃p4 p5,Bj p4=Ab/\Bj p5=Ab/\ZN 4 (Z9 ap) (K.map sG) [Z (.hd (Zn (Zv wf L))),Z (.pl (.dict (Zn (encM M)))),Z (.pl (sV t cs)),Z (.ot (encM acc)),o4,o5] =Z (.nx [Z (.hd (Zn (Zv wf L))),Z (.pl (.dict (Zn (encM M)))),Z (.pl (sV t cs)),Z (.ot (encM (acc++AX wf cb K M))),p4,p5])
 |[],acc,o4,o5,_,_,_,h4,h5,_=>⟨o4,o5,h4,h5,by show Z (vW.nx _)=_;rw[show AX wf cb [] M=[] from rfl,B6]⟩
 |c::K,acc,o4,o5,hK,hn,tj,h4,h5,hl=>by
  rw[AD]at hl;have hc:=hK c (Am ..);have hk:Be (sG c)=Z (Az c):=Cp c;have ua:=GU M c;have hlr:=RA wf L c;rw[if_pos hc]at hlr;have hlc:=nu (ap:=ap) (t:=t) (cs:=cs) (cb:=cb) (ys:=wf c) (M:=M) (wd c hc) λy hy=>ha c hc y hy M;have xq:AX wf cb (c::K) M=(if ZH M c then[]else match DM cb (wf c) M with|some k=>[(c,k)]|none=>[])++AX wf cb K M:=by
   unfold AX;rw[Gh];cases ZH M c with
   |true=>rfl
   |false=>cases DM cb (wf c) M<;>rfl
  have step:∀(acc':Tb) (p5:Option B),Bj p5=Ab->(∀x∈K,ZH acc' x=Ab)->acc'.length+K.length<100000->Z9 ap [Z (.hd (Zn (Zv wf L))),Z (.pl (.dict (Zn (encM M)))),Z (.pl (sV t cs)),Z (.ot (encM acc)),Z (.pl (sG c)),o5] =
     Z (.nx [Z (.hd (Zn (Zv wf L))),Z (.pl (.dict (Zn (encM M)))),Z (.pl (sV t cs)),Z (.ot (encM acc')),Z (.pl (sG c)),p5])->acc'++AX wf cb K M=acc++AX wf cb (c::K) M ->
    ∃p4 p5,Bj p4=Ab/\Bj p5=Ab/\ZN 4 (Z9 ap) ((c::K).map sG) [Z (.hd (Zn (Zv wf L))),Z (.pl (.dict (Zn (encM M)))),Z (.pl (sV t cs)),Z (.ot (encM acc)),o4,o5] =
     Z (.nx [Z (.hd (Zn (Zv wf L))),Z (.pl (.dict (Zn (encM M)))),Z (.pl (sV t cs)),Z (.ot (encM (acc++AX wf cb (c::K) M))),p4,p5]):=λacc' p5 hp5 hx hl' e eq=>by
   obtain⟨q4,q5,g4,g5,ih⟩:=V9 (M:=M) K acc' (Z (.pl (sG c))) p5 (λx hx=>hK x (Ap _ hx)) (Dg.mp hn).2 hx rfl hp5 hl';refine⟨q4,q5,g4,g5,?_⟩;rw[<-eq,<-ih,Ak];show(match Z9 ap [Z (.hd (Zn (Zv wf L))),Z (.pl (.dict (Zn (encM M)))),Z (.pl (sV t cs)),Z (.ot (encM acc)),Z (.pl (sG c)),o5]with|some (.nx r')=>_|some (.ct r')=>_|some (.bk r')=>_|some (.rt d)=>_|none=>_)=_;rw[e]
  have hKa:∀x∈K,ZH acc x=Ab:=λx hx=>tj x (Ap _ hx);cases hq:Zm M c with
  |some k =>
   have hh:ZH M c=Aa:=by unfold ZH;rw[hq];rfl
   rw[hq]at ua;refine step acc o5 h5 hKa (by omega) ?_ (by rw[xq,hh];rfl);have ht:tV (FI (Za 4) (Zo 1)) [Z (.hd (Zn (Zv wf L))),Z (.pl (.dict (Zn (encM M)))),Z (.pl (sV t cs)),Z (.ot (encM acc)),Z (.pl (sG c)),o5]=Z Ab:=by simp[sY,hk,ua]
   unfold Z9 tQ;rw[ht];rfl
  |none =>
   have hh:ZH M c=Ab:=by unfold ZH;rw[hq];rfl
   rw[hq]at ua;have ht:tV (FI (Za 4) (Zo 1)) [Z (.hd (Zn (Zv wf L))),Z (.pl (.dict (Zn (encM M)))),Z (.pl (sV t cs)),Z (.ot (encM acc)),Z (.pl (sG c)),o5]=Z Aa:=by simp[sY,hk,ua]
   have hca:Zj (JA ap) (Zb (B2 (Zo 0) (Za 4)) (Zb (Za 1) (Zb (Za 2) Zh))) [Z (.hd (Zn (Zv wf L))),Z (.pl (.dict (Zn (encM M)))),Z (.pl (sV t cs)),Z (.ot (encM acc)),Z (.pl (sG c)),o5]=Z (oI (DM cb (wf c) M)):=by
    have hg:B2 (Zo 0) (Za 4) [Z (.hd (Zn (Zv wf L))),Z (.pl (.dict (Zn (encM M)))),Z (.pl (sV t cs)),Z (.ot (encM acc)),Z (.pl (sG c)),o5]=Z (.list ((wf c).map uj)):=by simp[sY,hk,hlr]
    unfold Zj Zb;rw[hg];exact hlc
   have hs5:Z2 5 (Zj (JA ap) (Zb (B2 (Zo 0) (Za 4)) (Zb (Za 1) (Zb (Za 2) Zh)))) [Z (.hd (Zn (Zv wf L))),Z (.pl (.dict (Zn (encM M)))),Z (.pl (sV t cs)),Z (.ot (encM acc)),Z (.pl (sG c)),o5]=Z (.nx [Z (.hd (Zn (Zv wf L))),Z (.pl (.dict (Zn (encM M)))),Z (.pl (sV t cs)),Z (.ot (encM acc)),Z (.pl (sG c)),Z (.pl (oI (DM cb (wf c) M)))]):=by unfold Z2;rw[hca];rfl
   cases we:DM cb (wf c) M with
   |none=>rw[we]at hs5;refine step acc (Z (.pl .none)) rfl hKa (by omega) ?_ (by rw[xq,hh,we];rfl);unfold Z9 tQ;rw[ht];dsimp only;refine ZX (P:=λq=>q=_) hs5 ?_;rfl
   |some k =>
    rw[we]at hs5;have vZ:=iZ (k:=k) (tj c (Am ..));have hpe:=Nt acc c k;have vO:(encM acc).length<1000000:=by unfold encM;rw[Af];omega
    refine step (acc++[(c,k)]) (Z (.pl (.int k))) rfl (λx hx=>?_) (by rw[AK,IP];omega) ?_ (by rw[xq,hh,we,Ff];rfl)
    .rw[lg,hKa x hx,OS]
     cases hb:ZH [(c,k)] x with
     |false=>rfl
     |true=>obtain⟨k',hm⟩:=eG.mp hb;cases AW.mp hm;exact absurd hx (Dg.mp hn).1
    .unfold Z9 tQ
     rw[ht];dsimp only;refine ZX (P:=λq=>q=_) hs5 ?_;have h2:tV (sM CB (Za 5) (eC .none)) [Z (.hd (Zn (Zv wf L))),Z (.pl (.dict (Zn (encM M)))),Z (.pl (sV t cs)),Z (.ot (encM acc)),Z (.pl (sG c)),Z (.pl (oI (Z k)))]=Z Aa:=rfl;rw[h2,<-vZ,<-hpe];show(match Be (sG c)with|some y=>_|none=>J)=_;rw[hk];show(if(encM acc).length<big then _ else J)=_;rw[if_pos (show _<big from vO)];rfl
include vN sJ
theorem nv(M:Tb):GY ap [.dict (Zn (Zv wf L)),.dict (Zn (encM M)),sV t cs]=Z (encM (AX wf cb L M)):=by
 obtain⟨p4,p5,g4,g5,go⟩:=V9 wd ha (M:=M) L [] J J (λ_ h=>h) vN (λ_ _=>rfl) rfl rfl (by simp;omega);have hw:BM 0 [Z (.hd (Zn (Zv wf L))),Z (.pl (.dict (Zn (encM M)))),Z (.pl (sV t cs)),Z (.ot (encM [])),J,J]=Z (L.map sG):=by show(ER (Zn (Zv wf L))).map _=_;rw[sY,<-Ya wf L];rfl
 have hf:AR 4 (BM 0) (Z9 ap) [Z (.hd (Zn (Zv wf L))),Z (.pl (.dict (Zn (encM M)))),Z (.pl (sV t cs)),Z (.ot (encM [])),J,J]=Z (.nx [Z (.hd (Zn (Zv wf L))),Z (.pl (.dict (Zn (encM M)))),Z (.pl (sV t cs)),Z (.ot (encM (AX wf cb L M))),p4,p5]):=by unfold AR;rw[hw];dsimp only;rw[if_pos (by rw[Af];show _<1000000;omega),go];rfl
 have hh:GD 0 (AR 4 (BM 0) (Z9 ap)) [Z (.pl (.dict (Zn (Zv wf L)))),Z (.pl (.dict (Zn (encM M)))),Z (.pl (sV t cs)),Z (.ot (encM [])),J,J]=Z (.nx [Z (.pl (.dict (Zn (Zv wf L)))),Z (.pl (.dict (Zn (encM M)))),Z (.pl (sV t cs)),Z (.ot (encM (AX wf cb L M))),p4,p5]):=by
  show(match AR 4 (BM 0) (Z9 ap) [Z (.hd (Zn (Zv wf L))),Z (.pl (.dict (Zn (encM M)))),Z (.pl (sV t cs)),Z (.ot (encM [])),J,J]with|some (.nx r')=>_|some (.rt d)=>_|_=>J)=_;rw[hf];have a2:([J,Z (B.pl (.dict (Zn (encM M)))),Z (.pl (sV t cs)),Z (.ot (encM (AX wf cb L M))),p4,p5]:HM.Env).all (λq=>!Bj q)=Aa:=by simp only[Di,OV,g4,g5];rfl
  show(if([J,Z (B.pl (.dict (Zn (encM M)))),Z (.pl (sV t cs)),Z (.ot (encM (AX wf cb L M))),p4,p5]:HM.Env).all (λq=>!Bj q)=Aa then _ else _)=_;rw[if_pos a2];rfl
 unfold GY yA;rw[if_pos (show([PyData.dict (Zn (Zv wf L)),PyData.dict (Zn (encM M)),sV t cs]:List D).length=3 from rfl)];show(match ZJ 3 zQ [Z (.pl (.dict (Zn (Zv wf L)))),Z (.pl (.dict (Zn (encM M)))),Z (.pl (sV t cs)),J,J,J]with|some (.nx r')=>Kp (GD 0 (AR 4 (BM 0) (Z9 ap))) (P5 3) r'|_=>J)=_;show Kp (GD 0 (AR 4 (BM 0) (Z9 ap))) (P5 3) [Z (.pl (.dict (Zn (Zv wf L)))),Z (.pl (.dict (Zn (encM M)))),Z (.pl (sV t cs)),Z (.ot (encM [])),J,J]=_;unfold Kp;rw[hh];rfl
end
end
section
variable{cb:Cb}{M T:Tb}{wf:Wf}
theorem WB(ap:AP)(e0 e1 e2 e5 e7:Option B)(v:Int):∀(ms:List (List Int)) (M:Tb) (o:Option B),M.length+ms.length<100000->Bj o=Ab ->∃p,Bj p=Ab/\ZN 6 (LD ap) (ms.map sG) [e0,e1,e2,Z (.ot (encM M)),Z (.pl (dI v)),e5,o,e7]=Z (.nx [e0,e1,e2,Z (.ot (encM (BN ms v M))),Z (.pl (dI v)),e5,p,e7])
 |[],M,o,_,h=>⟨o,h,rfl⟩
 |c::ms,M,o,sJ,_=>by
  rw[AD]at sJ;have yn:(encM M).length<1000000:=by unfold encM;rw[Af];omega
  have hk:Be (sG c)=Z (Az c):=Cp c;have vZ:=Nt M c v;have hpl:=Nd c v M;have e:LD ap [e0,e1,e2,Z (.ot (encM M)),Z (.pl (dI v)),e5,Z (.pl (sG c)),e7]=Z (.nx [e0,e1,e2,Z (.ot (encM (tf M c v))),Z (.pl (dI v)),e5,Z (.pl (sG c)),e7]):=by rw[<-vZ];simp[LD,hk,yn]
  obtain⟨p,hp,ih⟩:=WB ap e0 e1 e2 e5 e7 v ms (tf M c v) (Z (.pl (sG c))) (by omega) rfl;refine⟨p,hp,?_⟩;show _=Z (vW.nx [e0,e1,e2,Z (.ot (encM (BN ms v (tf M c v)))),Z (.pl (dI v)),e5,p,e7]);rw[Ak,<-ih];show(match LD ap [e0,e1,e2,Z (.ot (encM M)),Z (.pl (dI v)),e5,Z (.pl (sG c)),e7]with|some (.nx r')=>_|some (.ct r')=>_|some (.bk r')=>_|some (.rt d)=>_|none=>_)=_;rw[e]
theorem X8(T:Tb):((encM T).map λp=>BZ (p.1.map BS))=(T.map (·.1)).map sG:=by unfold encM;rw[Aw,Aw];refine Fh λp _=>?_;show BZ ((p.1.map Cg).map BS)=BZ (p.1.map dI);rw[Aw];rfl
def zo(T:Tb):Prop:=(T.map (·.1)).Nodup
theorem We(h:zo T){p:List Int×Int}(hp:p∈T):Zm T p.1=Z p.2:=by
 induction T with
 |nil=>simp at hp
 |cons q T ih =>
  obtain⟨c,k⟩:=q;rw[Ga];unfold zo at h;rw[Ak,Dg]at h;rcases AE.mp hp with e|e
  .subst e;rw[if_pos rfl]
  .rw[if_neg λz=>h.1 (by rw[z];exact Al.mpr ⟨p,e,rfl⟩)]
   exact ih h.2 e
theorem fU:∀{L:List (List Int)},L.Nodup->zo (AX wf cb L M):=by
 intro L h;unfold zo;have:((AX wf cb L M).map (·.1)).Sublist L:=by
  unfold AX;rw[List.map_filterMap]
  clear h
  induction L with
  |nil=>exact .slnil
  |cons c L ih =>
   rw[Gh];cases ZH M c with
   |true=>exact ih.cons c
   |false=>cases DM cb (wf c) M with
    |none=>exact ih.cons c
    |some k=>exact ih.cons₂ c
 exact h.sublist this
theorem Ww{L:List (List Int)}:(AX wf cb L M).length<=L.length:=bD ..
section
variable{T:Tb}(hT:zo T)(hl:T.length<100000)
include hT hl
theorem jl(r:HM.Env)(h7:r[7]?=Z (Z (.hd (Zn (encM T))))):ZA (BM 7) ZK (B2 (Zo 8) (Za 0)) r=Z (.ol ((T.map (·.2)).map dI)):=by
 have hw:BM 7 r=Z ((T.map (·.1)).map sG):=by unfold BM;rw[h7];show(ER (Zn (encM T))).map _=_;rw[sY,<-X8 T];rfl
 have hg:Bc ZK (B2 (Zo 8) (Za 0)) r ((T.map (·.1)).map sG)=Z ((T.map (·.2)).map dI):=by rw[Aw,Aw];have:=CM (e:=B2 (Zo 8) (Za 0)) (r:=r) (λp:List Int×Int=>sG p.1) (λp=>dI p.2) T (λp hp=>by have hk:Be (sG p.1)=Z (Az p.1):=Cp p.1;have ua:=GU T p.1;rw[We hT hp]at ua;simp[h7,sY,hk,ua]);exact this
 unfold ZA;rw[hw];dsimp only;rw[if_pos (by rw[Af,Af];show _<1000000;omega),hg];rfl
theorem jG{k:Option Int}(r:HM.Env)(h7:r[7]?=Z (Z (.hd (Zn (encM T)))))(h4:r[4]?=Z (Z (.pl (oI k)))):ZA (BM 7) (tV (sM tT (B2 (Zo 8) (Za 0)) (Za 5))) (Za 0) r=Z (.ol (((T.filter λp=>Z p.2==k).map (·.1)).map sG)):=by
 have hw:BM 7 r=Z ((T.map (·.1)).map sG):=by unfold BM;rw[h7];show(ER (Zn (encM T))).map _=_;rw[sY,<-X8 T];rfl
 have hg:Bc (tV (sM tT (B2 (Zo 8) (Za 0)) (Za 5))) (Za 0) r ((T.map (·.1)).map sG)=Z (((T.filter λp=>Z p.2==k).map (·.1)).map sG):=by
  rw[Aw,Aw];have:=D7 (c:=tV (sM tT (B2 (Zo 8) (Za 0)) (Za 5))) (e:=Za 0) (r:=r) (λp:List Int×Int=>sG p.1) (λp=>Z p.2==k) (λp=>sG p.1) T (λp hp=>by
   have hk:Be (sG p.1)=Z (Az p.1):=Cp p.1;have ua:=GU T p.1;rw[We hT hp]at ua;have h1:B2 (Zo 8) (Za 0) (Z (.pl (sG p.1))::r)=Z (.int p.2):=by simp[h7,sY,hk,ua]
   have h2:Za 5 (Z (B.pl (sG p.1))::r)=Z (oI k):=by simp[h4]
   unfold tV sM;rw[h1,h2];cases k with
   |none=>show(match tT (.int p.2) .none with|some (.bool b)=>Z b|_=>J)=_;rw[Fy (ES 1 _) (eM 1) (by decide) (by decide) (by simp)];rfl
   |some k =>
    show(match tT (.int p.2) (.int k)with|some (.bool b)=>Z b|_=>J)=_
    by_cases e:p.2=k
    .rw[e,GO (ES 1 _) (by decide)]
     simp
    .rw[Fy (ES 1 _) (ES 1 _) (by decide) (by decide) (by simpa using e)]
     simp[e]) (λp _ _=>by simp)
  exact this
 unfold ZA;rw[hw];dsimp only;rw[if_pos (by rw[Af,Af];show _<1000000;omega),hg];rfl
end
section
variable{w:Wk}(hv:Wk.V w){ap:AP}{wf:Wf}{L:List (List Int)}{t:Nat}{cs:List D}{cb:Cb}(vN:L.Nodup)(sJ:L.length<=128)(wB:∀c∈L,Cr w.many c)(wd:∀c∈L,(wf c).length<1000)(ha:∀c∈L,∀y∈wf c,∀M,ap t cs [uj y,.dict (Zn (encM M))]=Z (oI (cb y M)))
include vN sJ wd ha
theorem lr{k:Int}{found:List (List Int)}{o6 o7:Option B}(h6:Bj o6=Ab)(h7:Bj o7=Ab)(hf:found.length<=128)(hM:M.length<50000):∃p6 p7,Bj p6=Ab/\Bj p7=Ab/\LC ap [Z (.pl w.d),Z (.pl (.dict (Zn (Zv wf L)))),Z (.pl (sV t cs)),Z (.ot (encM M)),Z (.pl (dI k)),Z (.ol (found.map sG)),o6,o7] =Z (.nx [Z (.pl w.d),Z (.pl (.dict (Zn (Zv wf L)))),Z (.pl (sV t cs)),Z (.ot (encM (BN found k M))),Z (.pl (oI (BJ (AX wf cb L (BN found k M))))),Z (.ol ((D0 (AX wf cb L (BN found k M))).map sG)),p6,p7]):=by
 obtain⟨p6,hp6,e1⟩:=WB ap (Z (.pl w.d)) (Z (.pl (.dict (Zn (Zv wf L))))) (Z (.pl (sV t cs))) (Z (.pl (.list (found.map sG)))) o7 k found M o6 (by omega) h6;generalize hM':BN found k M=M' at *;have hnx:=nv vN sJ wd ha M';have hT:zo (AX wf cb L M'):=fU vN;have zM:(AX wf cb L M').length<100000:=by have:=Ww (wf:=wf) (cb:=cb) (L:=L) (M:=M');omega
 generalize hO:AX wf cb L M'=T at *;refine⟨p6,Z (.pl (.dict (Zn (encM T)))),hp6,rfl,?_⟩;unfold LC;refine ZX (P:=λq=>q=_) (r':=[Z (.pl w.d),Z (.pl (.dict (Zn (Zv wf L)))),Z (.pl (sV t cs)),Z (.ot (encM M')),Z (.pl (dI k)),Z (.pl (.list (found.map sG))),p6,o7]) ?_ ?_
 .unfold Ck NU AR
  have hfb:found.length<1000000:=by omega
  simp[hfb];exact e1
 .refine ZX (P:=λq=>q=_) (r':=[Z (.pl w.d),Z (.pl (.dict (Zn (Zv wf L)))),Z (.pl (sV t cs)),Z (.ot (encM M')),Z (.pl (dI k)),Z (.pl (.list (found.map sG))),p6,Z (.ot (encM T))]) ?_ ?_
  .have tZ:Ro (GY ap) (Zb (Za 1) (Zb (Qi (Zo 3)) (Zb (Za 2) Zh))) [Z (.pl w.d),Z (.pl (.dict (Zn (Zv wf L)))),Z (.pl (sV t cs)),Z (.ot (encM M')),Z (.pl (dI k)),Z (.pl (.list (found.map sG))),p6,o7]=Z (.ot (encM T)):=by
    unfold Ro;show(match GY ap [.dict (Zn (Zv wf L)),.dict (Zn (encM M')),sV t cs]with|some kvs=>if kvs.all (λp=>M8 p.2)then Z (B.ot kvs)else J|none=>J)=_;rw[hnx];have uD:(encM T).all (λp=>M8 p.2)=Aa:=by unfold encM;rw[List.all_map];exact Au.mpr λp _=>rfl
    dsimp only;rw[if_pos uD]
   unfold ZJ;rw[tZ];rfl
  .have a1:∀x4 x5:D,([Z (B.pl w.d),Z (.pl (.dict (Zn (Zv wf L)))),Z (.pl (sV t cs)),Z (.ot (encM M')),Z (.pl x4),Z (.pl x5),p6,Z (.pl (.dict (Zn (encM T))))]:HM.Env).all (λq=>!Bj q)=Aa:=λx4 x5=>by
    simp only[Di,OV,hp6];rfl
   have a2:∀x4:D,∀x5:B,Bj (Z x5)=Ab->([Z (B.pl w.d),Z (.pl (.dict (Zn (Zv wf L)))),Z (.pl (sV t cs)),Z (.ot (encM M')),Z (.pl x4),Z x5,p6,J]:HM.Env).all (λq=>!Bj q)=Aa:=λx4 x5 hx=>by simp only[Di,OV,hp6,hx];rfl
   have hv1:=jl hT zM [Z (.pl w.d),Z (.pl (.dict (Zn (Zv wf L)))),Z (.pl (sV t cs)),Z (.ot (encM M')),Z (.pl (dI k)),Z (.pl (.list (found.map sG))),p6,Z (.hd (Zn (encM T)))] rfl;have hm1:Z2 4 (HJ (ZA (BM 7) ZK (B2 (Zo 8) (Za 0)))) [Z (.pl w.d),Z (.pl (.dict (Zn (Zv wf L)))),Z (.pl (sV t cs)),Z (.ot (encM M')),Z (.pl (dI k)),Z (.pl (.list (found.map sG))),p6,Z (.hd (Zn (encM T)))]=Z (.nx [Z (.pl w.d),Z (.pl (.dict (Zn (Zv wf L)))),Z (.pl (sV t cs)),Z (.ot (encM M')),Z (.pl (oI (BJ T))),Z (.pl (.list (found.map sG))),p6,Z (.hd (Zn (encM T)))]):=by
    have:HJ (ZA (BM 7) ZK (B2 (Zo 8) (Za 0))) [Z (.pl w.d),Z (.pl (.dict (Zn (Zv wf L)))),Z (.pl (sV t cs)),Z (.ot (encM M')),Z (.pl (dI k)),Z (.pl (.list (found.map sG))),p6,Z (.hd (Zn (encM T)))]=Z (oI (BJ T)):=by unfold HJ;rw[hv1];show(match BP ((T.map (·.2)).map dI)with|some ns=>Z (match ns.min? with|some i=>AB i|none=>.none)|none=>J)=_;rw[CU];show Z (match(T.map (·.2)).min? with|some i=>AB i|none=>.none)=_;unfold BJ;cases(T.map (·.2)).min?<;>rfl
    unfold Z2;rw[this];rfl
   refine ZX (P:=λq=>q=_) (r':=[Z (.pl w.d),Z (.pl (.dict (Zn (Zv wf L)))),Z (.pl (sV t cs)),Z (.ot (encM M')),Z (.pl (oI (BJ T))),Z (.pl (.list (found.map sG))),p6,Z (.pl (.dict (Zn (encM T))))]) ?_ ?_
   .show(if([Z (B.pl w.d),Z (.pl (.dict (Zn (Zv wf L)))),Z (.pl (sV t cs)),Z (.ot (encM M')),Z (.pl (dI k)),Z (.pl (.list (found.map sG))),p6,Z (.pl (.dict (Zn (encM T))))]:HM.Env).all (λq=>!Bj q)=Aa then _ else _)=_
    rw[if_pos (a1 _ _)];show(match Z2 4 _ [Z (.pl w.d),Z (.pl (.dict (Zn (Zv wf L)))),Z (.pl (sV t cs)),Z (.ot (encM M')),Z (.pl (dI k)),Z (.pl (.list (found.map sG))),p6,Z (.hd (Zn (encM T)))]with|some (.nx r')=>_|some (.rt d)=>_|_=>J)=_;rw[hm1];show(if([Z (B.pl w.d),Z (.pl (.dict (Zn (Zv wf L)))),Z (.pl (sV t cs)),Z (.ot (encM M')),Z (.pl (oI (BJ T))),Z (.pl (.list (found.map sG))),p6,J]:HM.Env).all (λq=>!Bj q)=Aa then _ else _)=_;rw[if_pos (a2 _ _ rfl)];rfl
   .have hk1:=jG hT zM (k:=BJ T) [Z (.pl w.d),Z (.pl (.dict (Zn (Zv wf L)))),Z (.pl (sV t cs)),Z (.ot (encM M')),Z (.pl (oI (BJ T))),Z (.pl (.list (found.map sG))),p6,Z (.hd (Zn (encM T)))] rfl rfl
    have wz:ZJ 5 (ZA (BM 7) (tV (sM tT (B2 (Zo 8) (Za 0)) (Za 5))) (Za 0)) [Z (.pl w.d),Z (.pl (.dict (Zn (Zv wf L)))),Z (.pl (sV t cs)),Z (.ot (encM M')),Z (.pl (oI (BJ T))),Z (.pl (.list (found.map sG))),p6,Z (.hd (Zn (encM T)))]=Z (.nx [Z (.pl w.d),Z (.pl (.dict (Zn (Zv wf L)))),Z (.pl (sV t cs)),Z (.ot (encM M')),Z (.pl (oI (BJ T))),Z (.ol ((D0 T).map sG)),p6,Z (.hd (Zn (encM T)))]):=by unfold ZJ;rw[hk1];rfl
    show(if([Z (B.pl w.d),Z (.pl (.dict (Zn (Zv wf L)))),Z (.pl (sV t cs)),Z (.ot (encM M')),Z (.pl (oI (BJ T))),Z (.pl (.list (found.map sG))),p6,Z (.pl (.dict (Zn (encM T))))]:HM.Env).all (λq=>!Bj q)=Aa then _ else _)=_;rw[if_pos (a1 _ _)];show(match ZJ 5 _ [Z (.pl w.d),Z (.pl (.dict (Zn (Zv wf L)))),Z (.pl (sV t cs)),Z (.ot (encM M')),Z (.pl (oI (BJ T))),Z (.pl (.list (found.map sG))),p6,Z (.hd (Zn (encM T)))]with|some (.nx r')=>_|some (.rt d)=>_|_=>J)=_;rw[wz];show(if([Z (B.pl w.d),Z (.pl (.dict (Zn (Zv wf L)))),Z (.pl (sV t cs)),Z (.ot (encM M')),Z (.pl (oI (BJ T))),Z (.ol ((D0 T).map sG)),p6,J]:HM.Env).all (λq=>!Bj q)=Aa then _ else _)=_;rw[if_pos (a2 _ _ rfl)];rfl
omit vN sJ wd ha in
theorem gh{c:List Int}(h:c∈D0 (AX wf cb L M)):c∈L/\ZH M c=Ab:=by obtain⟨⟨c',k⟩,h1,rfl⟩:=Al.mp h;have:=fI.mp (B4.mp h1).1;exact⟨this.1,this.2.1⟩
omit vN sJ wd ha in
theorem kr(h:D0 T≠[]):∃k,BJ T=Z k:=by
 cases hq:BJ T with
 |some k=>exact⟨k,rfl⟩
 |none=>refine absurd ?_ h;unfold BJ at hq;rw[aY]at hq;have:=Uu.mp hq;subst this;rfl
theorem YK:∀(tM n:Nat) (M:Tb) (k:Option Int) (found:List (List Int)) (o6 o7:Option B),Bj o6=Ab->Bj o7=Ab->(∀c∈found,c∈L/\ZH M c=Ab)->found.length<=128->M.length<=128*n->n<=(L.filter λc=>ZH M c).length->130<=n+tM->(found≠[]->∃i,k=Z i) ->∃R p4 p5 p6 p7,Dx (tV (sM xb (AJ (Zo 5)) (eC (.int 0)))) (LC ap) tM [Z (.pl w.d),Z (.pl (.dict (Zn (Zv wf L)))),Z (.pl (sV t cs)),Z (.ot (encM M)),Z (.pl (oI k)),Z (.ol (found.map sG)),o6,o7]=Z (.nx [Z (.pl w.d),Z (.pl (.dict (Zn (Zv wf L)))),Z (.pl (sV t cs)),Z (.ot (encM R)),p4,p5,p6,p7])/\Hq wf cb L M k found R
 |0,n,M,k,found,o6,o7,_,_,_,_,_,ht,hfu,_=>by have:=EE (λc=>ZH M c) L;omega
 |tM+1,n,M,k,found,o6,o7,h6,h7,hfo,uD,hM,ht,hfu,xP=>by
  have htl:=EE (λc=>ZH M c) L
  by_cases hf:found=[]
  .subst hf
   refine⟨M,Z (.pl (oI k)),Z (.ol []),o6,o7,?_,.done⟩;unfold Dx;have e:(tV (sM xb (AJ (Zo 5)) (eC (.int 0)))) [Z (.pl w.d),Z (.pl (.dict (Zn (Zv wf L)))),Z (.pl (sV t cs)),Z (.ot (encM M)),Z (.pl (oI k)),Z (.ol (([]:List (List Int)).map sG)),o6,o7]=Z Ab:=by simp
   rw[e];rfl
  .obtain⟨i,rfl⟩:=xP hf
   have e:(tV (sM xb (AJ (Zo 5)) (eC (.int 0)))) [Z (.pl w.d),Z (.pl (.dict (Zn (Zv wf L)))),Z (.pl (sV t cs)),Z (.ot (encM M)),Z (.pl (oI (Z i))),Z (.ol (found.map sG)),o6,o7]=Z Aa:=by have:0<found.length:=Uv.mpr hf;simp;omega
   obtain⟨p6,p7,g6,g7,ht1⟩:=lr vN sJ wd ha (w:=w) (M:=M) (k:=i) (found:=found) h6 h7 uD (by omega);have yn:(BN found i M).length<=M.length+found.length:=NK i found M;have ua:∀k,Zm (BN found i M) k=if k∈found then Z i else Zm M k:=λk=>NL i k found M
   have hcnt:(L.filter λc=>ZH M c).length<(L.filter λc=>ZH (BN found i M) c).length:=by
    refine Of (λx _ hx=>?_) ?_
    .unfold ZH at hx ⊢
     rw[ua];split
     .rfl
     .exact hx
    .obtain⟨c,cs,rfl⟩:=bp hf
     refine⟨c,(hfo c (Am ..)).1,?_,(hfo c (Am ..)).2⟩;unfold ZH;rw[ua,if_pos (Am ..)];rfl
   have zb:(D0 (AX wf cb L (BN found i M))).length<=128:=by
    have h1:(D0 (AX wf cb L (BN found i M))).length<=(AX wf cb L (BN found i M)).length:=by unfold D0;rw[Af];exact EE ..
    have h2:=Ww (wf:=wf) (cb:=cb) (L:=L) (M:=BN found i M);omega
   obtain⟨R,q4,q5,q6,q7,g,z0⟩:=YK tM (n+1) (BN found i M) (BJ (AX wf cb L (BN found i M))) (D0 (AX wf cb L (BN found i M))) p6 p7 g6 g7 (λc hc=>gh hc) zb (by omega) (by omega) (by omega) kr;refine⟨R,q4,q5,q6,q7,?_,.step hf z0⟩;unfold Dx;rw[e];dsimp only;show(match LC ap [Z (.pl w.d),Z (.pl (.dict (Zn (Zv wf L)))),Z (.pl (sV t cs)),Z (.ot (encM M)),Z (.pl (dI i)),Z (.ol (found.map sG)),o6,o7]with|some (.nx r')=>_|some (.ct r')=>_|some (.bk r')=>_|some (.rt d)=>_|none=>_)=_;rw[ht1];exact g
include hv wB
theorem l5:∃R,Lh ap [w.d,.dict (Zn (Zv wf L)),sV t cs]=Z (.dict (Zn (encM R)))/\Hq wf cb L [] (Z 0) (L.filter λc=>Z7 w c) R:=by
 have hlb:L.length<1000000:=by omega
 have uD:(L.filter λc=>Z7 w c).length<=128:=Bf (EE _ _) sJ;obtain⟨R,p4,p5,p6,p7,g,z0⟩:=YK vN sJ wd ha (w:=w) 100000 0 [] (Z 0) (L.filter λc=>Z7 w c) J J rfl rfl (λc hc=>⟨(B4.mp hc).1,rfl⟩) uD (by simp) (BY _) (by omega) λ_=>⟨0,rfl⟩;refine⟨R,?_,z0⟩;have hw:BM 1 [Z (.pl w.d),Z (.hd (Zn (Zv wf L))),Z (.pl (sV t cs)),Z (.ot (encM [])),Z (.pl (dI 0)),J,J,J]=Z (L.map sG):=by show(ER (Zn (Zv wf L))).map _=_;rw[sY,<-Ya wf L];rfl
 have uy:∀r:HM.Env,r[0]?=Z (Z (.pl w.d))->Bc (tV (Zj G9 (Zb (Za 1) (Zb (Za 0) Zh)))) (Za 0) r (L.map sG)=Z ((L.filter λc=>Z7 w c).map sG):=λr r0=>by
  rw[D7 sG (λc=>Z7 w c) sG]
  .intro c hc
   have:=lW (w:=w) (c:=c) (by have:=(wB c hc).len;have:=hv.m2;omega);simp[r0,this]
  .intro c _ _
   simp
 have hc:ZA (BM 1) (tV (Zj G9 (Zb (Za 1) (Zb (Za 0) Zh)))) (Za 0) [Z (.pl w.d),Z (.hd (Zn (Zv wf L))),Z (.pl (sV t cs)),Z (.ot (encM [])),Z (.pl (dI 0)),J,J,J]=Z (.ol ((L.filter λc=>Z7 w c).map sG)):=by unfold ZA;rw[hw];dsimp only;rw[if_pos (by rw[Af];exact hlb),uy _ rfl];rfl
 have hh:GD 1 (ZJ 5 (ZA (BM 1) (tV (Zj G9 (Zb (Za 1) (Zb (Za 0) Zh)))) (Za 0))) [Z (.pl w.d),Z (.pl (.dict (Zn (Zv wf L)))),Z (.pl (sV t cs)),Z (.ot (encM [])),Z (.pl (dI 0)),J,J,J]=Z (.nx [Z (.pl w.d),Z (.pl (.dict (Zn (Zv wf L)))),Z (.pl (sV t cs)),Z (.ot (encM [])),Z (.pl (dI 0)),Z (.ol ((L.filter λc=>Z7 w c).map sG)),J,J]):=by show(match ZJ 5 _ [Z (.pl w.d),Z (.hd (Zn (Zv wf L))),Z (.pl (sV t cs)),Z (.ot (encM [])),Z (.pl (dI 0)),J,J,J]with|some (.nx r')=>_|some (.rt d)=>_|_=>J)=_;unfold ZJ;rw[hc];rfl
 show Av (Oa ap [Z (.pl w.d),Z (.pl (.dict (Zn (Zv wf L)))),Z (.pl (sV t cs)),J,J,J,J,J])=_;have e:Oa ap [Z (.pl w.d),Z (.pl (.dict (Zn (Zv wf L)))),Z (.pl (sV t cs)),J,J,J,J,J]=Z (.rt (.dict (Zn (encM R)))):=by unfold Oa;refine ZX (P:=λq=>q=_) (r':=[Z (.pl w.d),Z (.pl (.dict (Zn (Zv wf L)))),Z (.pl (sV t cs)),Z (.ot (encM [])),J,J,J,J]) rfl ?_;refine ZX (P:=λq=>q=_) (r':=[Z (.pl w.d),Z (.pl (.dict (Zn (Zv wf L)))),Z (.pl (sV t cs)),Z (.ot (encM [])),Z (.pl (dI 0)),J,J,J]) rfl ?_;refine ZX (P:=λq=>q=_) hh ?_;refine ZX (P:=λq=>q=_) g ?_;simp
 rw[e];rfl
end
end
end HG5
namespace HG5
open PySem HM HG
def ap:AP:=λt cs ds=>match t with
 |0=>if cs.isEmpty then Lg ds else J
 |1=>R5 1 2 (Zj FR (Zb (Za 1) (Zb (Za 2) (Zb (Za 0) Zh)))) cs ds
 |_=>J
end HG5
namespace HG5
open PySem HM HG HG4
section
variable{ps:List (List Int)}{b c:List Int}{M R:Tb}
inductive Kg(w:Wk)(ls b:List Int):List Int->Prop where
 |beg {p:List Int} (h:p∈Zu w ls b):Kg w ls b p
 |step {c p:List Int} {d:Nat} (r:Kg w ls b c) (hd:d<w.deeds.length) (hc:AH w c d=Aa) (h:p∈Zu w ls (ZM w c d)):Kg w ls b p
def Ke(w:Wk)(ls c:List Int)(d:Int):Wy:=(dI d,ZU w ls (ZM w c d))
def vb(w:Wk)(ls:List Int):Wf:=λc=>(wC w c).map (Ke w ls c)
abbrev Mv(w:Wk)(ls:List Int)(L:List (List Int)):List (List Ky×D):=Zv (vb w ls) L
theorem jw(w:Wk)(ls c:List Int):MM w ls c=.list ((vb w ls c).map uj):=by unfold MM vb;rw[Aw];rfl
abbrev OkC(w:Wk)(c:List Int):Prop:=Cr w.many c/\c≠[]
structure ApD(ap:AP):Prop where
 d0:∀ds,ap 0 [] ds=Lg ds
 l1:∀cs ds,ap 1 cs ds=R5 1 2 (Zj FR (Zb (Za 1) (Zb (Za 2) (Zb (Za 0) Zh)))) cs ds
section
variable{w:Wk}(hv:Wk.V w)(h7:w.many<=7){ls:List Int}(hl:Cr w.looks.length ls)
include hv h7
theorem cP:Mx (vb w ls) (OkC w):=by
 refine⟨λc hc y hy p hp=>?_,λc hc=>?_,λc hc y hy=>?_,λC hn hC=>?_⟩
 .obtain⟨d,hd,rfl⟩:=Al.mp hy
  obtain⟨d0,d1,_⟩:=Jq hd;have:=Jg (GL hv hc.1 d0 d1) (show p∈Zu w ls (ZM w c d) from hp);exact⟨this.1,this.2.1⟩
 .unfold vb
  rw[Af];have:=Qw w c;have:=hv.d2;omega
 .obtain⟨d,hd,rfl⟩:=Al.mp hy
  obtain⟨d0,d1,_⟩:=Jq hd;have:=split_len (w:=w) (ls:=ls) (c:=ZM w c d);have:=(GL hv hc.1 d0 d1).len;show(ZU w ls (ZM w c d)).length<=8;omega
 .have h1:=Yq hn λc hc=>(hC c hc).1
  have h2:2 ^ w.many<=2 ^ 7:=J5 (by decide) h7;have h3:2 ^ 7=128:=rfl;omega
omit hv h7 in
theorem bY(r:IY (vb w ls) (Zu w ls b) c):Kg w ls b c:=by
 induction r with
 |beg h=>exact .beg h
 | @step c p y _ hy hp ih=>obtain⟨d,hd,rfl⟩:=Al.mp hy;obtain⟨d0,d1,d2⟩:=Jq hd;have e:((d.toNat:Nat):Int)=d:=Int.toNat_of_nonneg d0;exact .step (d:=d.toNat) ih (by omega) (by rw[e];exact d2) (by rw[e];exact hp)
include hl
theorem az{ap:AP}(A:ApD ap)(hb:Cr w.many b):∃L,LQ ap [w.d,sG ls,sG b]=Z (.dict (Zn (Mv w ls L)))/\L.Nodup/\L.length<=128/\(∀c∈L,Cr w.many c/\c≠[])/\(∀c∈L,Kg w ls b c)/\D3 w ls L/\∀p∈Zu w ls b,p∈L:=by
 have hp:=Rz hv hl hb;have hsl:=split_len (w:=w) (ls:=ls) (c:=b);have zL:=hb.len;have zK:=R7 (ZU w ls b) (by omega);have hpl:(Zu w ls b).length<=100:=by unfold Zu;rw[Af];omega
 have O:=cP hv h7 (ls:=ls);have ha:∀c,OkC w c->ap 1 [w.d,sG ls] [sG c]=Z (.list ((vb w ls c).map uj)):=λc hc=>by rw[A.l1,<-jw];unfold R5;rw[if_pos ⟨rfl,rfl,by rw[Di,GK 19];rfl⟩];exact mn hv hl hc.1
 obtain⟨L,e,z0⟩:=lE O ha (B:=Zu w ls b) (λc h=>⟨(Jg hb h).1,(Jg hb h).2.1⟩) hpl;refine⟨L,?_,z0.nd,O.cs L z0.nd z0.cr,z0.cr,λc hc=>bY (z0.rc c hc),λc hc d hd vq p hp=>?_,λp hp=>?_⟩
 .show Av (Ta ap [Z (.pl w.d),Z (.pl (sG ls)),Z (.pl (sG b))])=_
  have h1:Zj ZY (Zb (Zj Ea (Zb (Za 0) (Zb (Za 1) (Zb (Za 2) Zh)))) Zh) [Z (.pl w.d),Z (.pl (sG ls)),Z (.pl (sG b))]=Z (.list ((Zu w ls b).map sG)):=by unfold Zj Zb;show(match(match Ea [w.d,sG ls,sG b]with|some x=>(Zh _).map (x::·)|none=>J)with|some ds=>ZY ds|none=>J)=_;rw[hp];exact zK
  have hn1:[w.d,sG ls].all (uT 20)=Aa:=by rw[Di,Di,cE,GK 19];rfl
  have hn2:uT 20 (.dict (Zn (Mv w ls L)))=Aa:=cH (n:=14) λc _ y hy=>by obtain⟨d,_,rfl⟩:=Al.mp hy;exact eK _ _
  unfold Ta ZF aD;rw[h1];show Av (DC vW.rt (if[w.d,sG ls].all (uT 20)=Aa then(match LL ap [.list ((Zu w ls b).map sG),sV 1 [w.d,sG ls]]with|some d=>if uT 20 d=Aa then Z d else J|none=>J)else J))=_;rw[if_pos hn1,e];dsimp only;rw[if_pos hn2];rfl
 .rcases z0.cl c hc (Ke w ls c d) (Al.mpr ⟨(d:Int),V4 hd vq,rfl⟩) p hp with h|h
  .exact h
  .simp at h
 .rcases z0.bg p hp with h|h
  .exact h
  .simp at h
end
def DL(ps:List (List Int))(M:Tb):Option Int:=if ps.all (ZH M)then(ps.filterMap λp=>Zm M p).max? else J
def vU:Cb:=λy M=>(DL (vB y) M).map (·+1)
theorem Y3{α β:Type}{f:α->Option β}:∀{xs:List α},((xs.filterMap f).length=xs.length↔xs.all (λx=>(f x).isSome)=Aa)
 |[]=>by simp
 |x::xs=>by
  have ih:=Y3 (f:=f) (xs:=xs);have hl:(xs.filterMap f).length<=xs.length:=bD f xs;rw[Gh,Di];cases h:f x with
  |none=>simp;omega
  |some y=>simpa using ih
theorem aH{g:Gs}(hg:g.length<1000)(h0:g≠[]):Gd [.list (g.map Bd),.dict (Zn (encM M))]=Z (oI (DL (g.map (·.2)) M)):=by
 have zK:=R7 g (by omega);have sJ:((g.map (·.2)).map sG).length<big:=by rw[Af,Af];show _<1000000;omega
 have h1:ZD (sU (Zj ZY (Zb (Za 0) Zh))) [Z (.pl (.list (g.map Bd))),Z (.pl (.dict (Zn (encM M)))),J]=Z ((g.map (·.2)).map sG):=by unfold ZD sU;show(match DC B.pl (ZY [.list (g.map Bd)])with|some x=>B8 x|none=>J)=_;rw[zK];rfl
 have h2:Bc (tV (Xb (Za 0) (Zo 2))) (B2 (Zo 2) (Za 0)) [Z (.pl (.list (g.map Bd))),Z (.pl (.dict (Zn (encM M)))),J] ((g.map (·.2)).map sG)=Z (((g.map (·.2)).filterMap λp=>Zm M p).map dI):=by
  rw[D7 sG (ZH M) (λp=>dI ((Zm M p).getD 0))]
  .congr 1
   generalize g.map (·.2)=ps
   induction ps with
   |nil=>rfl
   |cons p ps ih =>
    rw[Ez,Gh];unfold ZH at ih ⊢;cases hq:Zm M p with
    |none=>rw[if_neg (by simp)];exact ih
    |some k=>rw[if_pos (by rfl),Ak,Ak,ih,hq];rfl
  .intro p _
   have hk:Be (sG p)=Z (Az p):=Cp p;simp[sY,hk,GU,ZH]
  .intro p _ hp
   have hk:Be (sG p)=Z (Az p):=Cp p;unfold ZH at hp;obtain⟨k,hk'⟩:=EH.mp hp;have ua:=GU M p;rw[hk']at ua;simp[sY,hk,ua,hk']
 have uD:=Y3 (f:=λp=>Zm M p) (xs:=g.map (·.2));rw[Af]at uD;have ur:(g.map (·.2)).all (λx=>(Zm M x).isSome)=(g.map (·.2)).all (ZH M):=rfl;rw[ur]at uD;generalize hN:(g.map (·.2)).filterMap (λp=>Zm M p)=ns at *;show Av (Tq [Z (.pl (.list (g.map Bd))),Z (.pl (.dict (Zn (encM M)))),J])=_;unfold Tq;refine ZX (P:=λq=>Av q=_) (r':=[Z (.pl (.list (g.map Bd))),Z (.pl (.dict (Zn (encM M)))),Z (.ol (ns.map dI))]) ?_ ?_
 .unfold ZJ ZA
  rw[h1];dsimp only;rw[if_pos sJ,h2];rfl
 .have h3:sM tT (AJ (Zo 2)) (AJ (Zo 0)) [Z (.pl (.list (g.map Bd))),Z (.pl (.dict (Zn (encM M)))),Z (.ol (ns.map dI))]=Z (.bool (decide (ns.length=g.length))):=by
   show tT (.int ((ns.map dI).length:Int)) (.int ((g.map Bd).length:Int))=_;rw[Af,Af]
   by_cases e:ns.length=g.length
   .rw[e,GO (ES 1 _) (by decide)]
    simp
   .rw[Fy (ES 1 _) (ES 1 _) (by decide) (by decide) (λz=>e (by injection z with z;omega))]
    simp[e]
  have h4:KW (Zo 2) [Z (.pl (.list (g.map Bd))),Z (.pl (.dict (Zn (encM M)))),Z (.ol (ns.map dI))]=ns.max?.map λi=>AB i:=by show(match BP (ns.map dI)with|some ns=>ns.max?.map λi=>AB i|none=>J)=_;rw[CU]
  unfold ZF eIf tV;rw[h3];unfold DL;rw[hN]
  by_cases e:ns.length=g.length
  .rw[if_pos (uD.mp e),decide_eq_true e]
   show Av (DC vW.rt (KW (Zo 2) _))=_;rw[h4];have tX:ns≠[]:=λz=>by rw[z]at e;exact h0 (Mp e.symm)
   cases hq:ns.max? with
   |none=>rw[UA]at hq;exact absurd hq tX
   |some m=>rfl
  .rw[if_neg λz=>e (uD.mpr z),decide_eq_false e]
   rfl
theorem lP{y:Wy}(hy:y.2.length<1000)(h0:y.2≠[])(M:Tb):Lg [uj y,.dict (Zn (encM M))]=Z (oI (vU y M)):=by
 have h:=aH hy h0 (M:=M);have h':Gd [.list (y.2.map Bd),.dict (Zn (encM M))]=Z (oI (DL (vB y) M)):=h;show Av (Sm [Z (.pl (uj y)),Z (.pl (.dict (Zn (encM M)))),J])=_;unfold Sm vU;refine ZX (P:=λq=>Av q=_) (r':=[Z (.pl (uj y)),Z (.pl (.dict (Zn (encM M)))),Z (.pl (oI (DL (vB y) M)))]) ?_ ?_
 .unfold Z2 Zj
  show DC _ (Gd [.list (y.2.map Bd),.dict (Zn (encM M))])=_;rw[h'];rfl
 .cases DL (vB y) M<;>rfl
def Gq(w:Wk)(ls:List Int)(L:List (List Int))(M:Tb):Prop:=∃t,DY w ls L t M/\Bk w ls L M=[]
theorem Yl{m:Int}(h:DL ps M=Z m):(∀p∈ps,∃k,Zm M p=Z k/\k<=m)/\∃p∈ps,Zm M p=Z m:=by
 unfold DL at h;split at h
 .rename_i ha
  obtain⟨m1,m2⟩:=UC.mp h;refine⟨λp hp=>?_,?_⟩
  .have hh:=Au.mp ha p hp
   unfold ZH at hh;obtain⟨k,hk⟩:=EH.mp hh;exact⟨k,hk,m2 _ (Fg.mpr ⟨p,hp,hk⟩)⟩
  .obtain⟨p,hp,e⟩:=Fg.mp m1
   exact⟨p,hp,e⟩
 .cases h
theorem Yh(h0:ps≠[])(h:DL ps M=J):ps.all (ZH M)=Ab:=by
 cases hq:ps.all (ZH M)with
 |false=>rfl
 |true=>unfold DL at h;rw[hq,if_pos rfl,UA]at h;obtain⟨p,r,rfl⟩:=bp h0;have hh:=Au.mp hq p (Am ..);unfold ZH at hh;obtain⟨k,hk⟩:=EH.mp hh;rw[Gh,hk]at h;cases h
section
variable{w:Wk}{ls:List Int}{L:List (List Int)}(hL:D3 w ls L)(tX:∀c∈L,c≠[])
include hL tX
theorem j8{t:Nat}(T:DY w ls L t M)(hc:c∈L)(hn:ZH M c=Ab):DM vU (vb w ls c) M=if Cn w ls c M then Z ((t+1:Nat):Int)else J:=by
 have xk:∀{p:List Int} {k:Int},Zm M p=Z k->∃n:Nat,k=(n:Int)/\n<=t/\tm w ls n p=Aa:=λ{p k} h=>by
  rw[T.look]at h;split at h
  .obtain⟨n,h1,h2,h3,_⟩:=La h
   exact⟨n,h1,h2,h3⟩
  .cases h
 have val:∀y∈vb w ls c,∀k,vU y M=Z k->k=((t+1:Nat):Int)/\Cn w ls c M=Aa:=λy hy k hk=>by
  obtain⟨d,hd,rfl⟩:=Al.mp hy;obtain⟨d0,d1,d2⟩:=Jq hd;have e:((d.toNat:Nat):Int)=d:=Int.toNat_of_nonneg d0;obtain⟨m,h1,h2⟩:=Ai.mp hk;have h1:DL (Zu w ls (ZM w c d)) M=Z m:=h1;obtain⟨w1,p,hp,w2⟩:=Yl h1;obtain⟨n,rfl,hnt,_⟩:=xk w2;refine⟨?_,Ei.mpr ⟨d.toNat,AS.mpr (by omega),?_⟩⟩
  .subst h2
   by_cases tu:n<t
   ·-- then the crowd would be xk already
    have hw:tm w ls (n+1) c=Aa:=by show(Z7 w c||_)=Aa;rw[Gj];refine .inr (Ei.mpr ⟨d.toNat,AS.mpr (by omega),?_⟩);rw[e,d2,TC];refine Au.mpr λq hq=>?_;obtain⟨k,k1,k2⟩:=w1 q hq;obtain⟨n',rfl,_,hw'⟩:=xk k1;exact Gy (by omega) hw'
    have:ZH M c=Aa:=by unfold ZH;rw[T.look,if_pos hc,GQ];exact Gy (by omega) hw
    rw[hn]at this;cases this
   .show(n:Int)+1=_
    omega
  .rw[e,d2,TC]
   refine Au.mpr λq hq=>?_;obtain⟨k,k1,_⟩:=w1 q hq;unfold ZH;rw[k1];rfl
 have xr:∀k∈(vb w ls c).filterMap (λy=>vU y M),k=((t+1:Nat):Int)/\Cn w ls c M=Aa:=λk hk=>by obtain⟨y,hy,e⟩:=Fg.mp hk;exact val y hy k e
 unfold DM;cases v9:Cn w ls c M with
 |false =>
  have:(vb w ls c).filterMap (λy=>vU y M)=[]:=List.eq_nil_iff_forall_not_mem.mpr λk hk=>by have:=(xr k hk).2;rw[v9]at this;cases this
  rw[this];rfl
 |true =>
  obtain⟨d,hd,hq⟩:=Ei.mp v9;rw[AI]at hq;have hd':=AS.mp hd;have hy:Ke w ls c (d:Int)∈vb w ls c:=Al.mpr ⟨(d:Int),V4 hd' hq.1,rfl⟩;have za:Zu w ls (ZM w c d)≠[]:=K9 (Qa (tX c hc) hq.1);have hk:∃k,vU (Ke w ls c d) M=Z k:=by
   unfold vU;cases hw:DL (vB (Ke w ls c d)) M with
   |none=>have:=Yh za hw;rw[show(Zu w ls (ZM w c d)).all (ZH M)=Aa from hq.2]at this;cases this
   |some m=>exact⟨m+1,rfl⟩
  obtain⟨k,hk⟩:=hk;have hm:k∈(vb w ls c).filterMap (λy=>vU y M):=Fg.mpr ⟨_,hy,hk⟩;cases v7:((vb w ls c).filterMap λy=>vU y M).min? with
  |none=>rw[aY]at v7;rw[v7]at hm;simp at hm
  |some m=>have:=(UB.mp v7).1;rw[(xr m this).1];rfl
theorem iC{t:Nat}(T:DY w ls L t M):AX (vb w ls) vU L M=(Bk w ls L M).map λc=>(c,((t+1:Nat):Int)):=by
 unfold AX Bk;have key:∀K:List (List Int),(∀c∈K,c∈L)->(K.filterMap λc=>if ZH M c then J else(DM vU (vb w ls c) M).map λk=>(c,k))=(K.filter λc=>!ZH M c&&Cn w ls c M).map λc=>(c,((t+1:Nat):Int)):=by
  intro K
  induction K with
  |nil=>intro _;rfl
  |cons c K ih =>
   intro hK;have ih:=ih λx hx=>hK x (Ap _ hx);rw[Gh,Ez];cases hh:ZH M c with
   |true=>simpa using ih
   |false =>
    have we:=j8 hL tX T (hK c (Am ..)) hh;rw[we];cases v9:Cn w ls c M with
    |false=>simpa [v9]using ih
    |true=>simpa [v9]using ih
 exact key L λ_ h=>h
theorem eA{k:Option Int}{found:List (List Int)}(r:Hq (vb w ls) vU L M k found R):∀t:Nat,(found=[]->DY w ls L t M/\Bk w ls L M=[])->(found≠[]->k=Z (t:Int)/\DY w ls L t (BN found t M))->Gq w ls L R:=by
 induction r with
 |done=>intro t h _;exact⟨t,h rfl⟩
 | @step M R k found hf _ ih =>
  intro t _ h;obtain⟨hk,T⟩:=h hf;cases hk;have ho:=iC hL tX T;have v7:∀ms:List (List Int),D0 (ms.map λc=>(c,((t+1:Nat):Int)))=ms/\(ms≠[]->BJ (ms.map λc=>(c,((t+1:Nat):Int)))=Z ((t+1:Nat):Int)):=λms=>by
   cases ms with
   |nil=>exact⟨rfl,λz=>absurd rfl z⟩
   |cons c ms =>
    have hO:BJ ((c::ms).map λc=>(c,((t+1:Nat):Int)))=Z ((t+1:Nat):Int):=by unfold BJ;rw[Aw];refine UB.mpr ⟨Al.mpr ⟨c,Am ..,rfl⟩,λb hb=>?_⟩;obtain⟨c',_,rfl⟩:=Al.mp hb;exact Int.le_refl _
    refine⟨?_,λ_=>hO⟩;unfold D0;rw[hO];have:∀xs:List (List Int),((xs.map λc=>(c,((t+1:Nat):Int))).filter λp=>Z p.2==Z ((t+1:Nat):Int)).map (·.1)=xs:=by
     intro xs
     induction xs with
     |nil=>rfl
     |cons x xs ih=>simp at ih ⊢;exact ih
    exact this _
  obtain⟨m1,m2⟩:=v7 (Bk w ls L (BN found t M));rw[ho,m1]at ih;refine ih (if Bk w ls L (BN found t M)=[]then t else t+1) (λe=>?_) λe=>?_
  .rw[if_pos e]
   exact⟨T,e⟩
  .rw[if_neg e]
   exact⟨m2 e,QI hL T⟩
theorem jc(hv:Wk.V w)(r:Hq (vb w ls) vU L [] (Z 0) (L.filter λc=>Z7 w c) R):Gq w ls L R:=by
 refine eA hL tX r 0 (λe=>?_) λ_=>⟨rfl,Q3⟩;have T:DY w ls L 0 (M0 w L):=Q3;have e0:M0 w L=[]:=by unfold M0;rw[e];rfl
 rw[e0]at T;refine⟨T,bI.mpr λc hc h=>?_⟩;rw[AI]at h;obtain⟨d,hd,hq⟩:=Ei.mp h.2;rw[AI]at hq;obtain⟨p,hp⟩:=List.exists_mem_of_ne_nil _ (K9 (w:=w) (ls:=ls) (Qa (tX c hc) hq.1));have:=Au.mp hq.2 p hp;cases this
end
theorem mY{w:Wk}(hv:Wk.V w){ap:AP}(A:ApD ap){ls:List Int}{L:List (List Int)}(vN:L.Nodup)(wB:∀c∈L,Cr w.many c/\c≠[])(sJ:L.length<=128)(hL:D3 w ls L):∃M,Ot ap [w.d,.dict (Zn (Mv w ls L))]=Z (.dict (Zn (encM M)))/\Gq w ls L M:=by
 have wd:∀c∈L,(vb w ls c).length<1000:=λc hc=>by unfold vb;rw[Af];have:=Qw w c;have:=hv.d2;omega
 obtain⟨R,e,r⟩:=l5 hv (ap:=ap) (wf:=vb w ls) (t:=0) (cs:=[]) (cb:=vU) vN sJ (λc hc=>(wB c hc).1) wd λc hc y hy M=>by
  rw[A.d0];obtain⟨d,hd,rfl⟩:=Al.mp hy;obtain⟨d0,d1,d2⟩:=Jq hd;refine lP ?_ ?_ M
  .have:=split_len (w:=w) (ls:=ls) (c:=ZM w c d)
   have:=(GL hv (wB c hc).1 d0 d1).len;have:=hv.m2;show(ZU w ls (ZM w c d)).length<1000;omega
  .exact λz=>K9 (w:=w) (ls:=ls) (Qa (wB c hc).2 d2) (by unfold Zu;rw[show ZU w ls (ZM w c d)=[] from z];rfl)
 refine⟨R,?_,jc hL (λc hc=>(wB c hc).2) hv r⟩;show Av (SO ap [Z (.pl w.d),Z (.pl (.dict (Zn (Mv w ls L))))])=_;unfold SO ZF Zj;show Av (DC vW.rt (Lh ap [w.d,.dict (Zn (Zv (vb w ls) L)),sV 0 []]))=_;rw[e];rfl
end
section
variable{L:List (List Int)}{c ls:List Int}{M:Tb}
theorem Gq.cost{w:Wk}(F:Gq w ls L M){k:Int}(h:Zm M c=Z k):c∈L/\∃n:Nat,k=(n:Int)/\tm w ls n c=Aa/\∀m,m<n->tm w ls m c=Ab:=by
 obtain⟨t,T,_⟩:=F;rw[T.look]at h;split at h
 .rename_i hc
  obtain⟨n,h1,_,h2,h3⟩:=La h;exact⟨hc,n,h1,h2,h3⟩
 .cases h
theorem Gq.all{w:Wk}(hL:D3 w ls L)(F:Gq w ls L M)(hc:c∈L){n:Nat}(h:tm w ls n c=Aa):ZH M c=Aa:=by
 obtain⟨t,T,hm⟩:=F;have T':=QI hL T;rw[hm]at T';have st:∀c∈L,tm w ls (t+1) c=Aa->tm w ls t c=Aa:=λc hc q=>by have e1:=T.look c;have e2:=T'.look c;rw[if_pos hc]at e1 e2;have e3:CF w ls t c=CF w ls (t+1) c:=e1.symm.trans e2;rw[<-GQ,e3,GQ];exact q
 have:=RH hL st n c hc h;unfold ZH;rw[T.look,if_pos hc,GQ];exact this
def qe(w:Wk)(ls:List Int)(P:List (List Int))(d:D):Prop:=(∃n:Nat,d=.int n/\(∀p∈P,tm w ls n p=Aa)/\∀m,m<n->¬∀p∈P,tm w ls m p=Aa)\/(d=.none/\∀n,¬∀p∈P,tm w ls n p=Aa)
theorem ji{w:Wk}(hL:D3 w ls L)(F:Gq w ls L M){g:Gs}(hg:g.length<1000)(h0:g≠[])(hp:∀p∈g.map (·.2),p∈L):∃d,Gd [.list (g.map Bd),.dict (Zn (encM M))]=Z d/\qe w ls (g.map (·.2)) d:=by
 rw[aH hg h0];refine⟨_,rfl,?_⟩;have tX:g.map (·.2)≠[]:=λe=>h0 (Uu.mp e);cases hq:DL (g.map (·.2)) M with
 |none=>refine .inr ⟨rfl,λn hn=>?_⟩;have h1:=Yh tX hq;have:(g.map (·.2)).all (ZH M)=Aa:=Au.mpr λp h=>F.all hL (hp p h) (hn p h);rw[h1]at this;cases this
 |some m =>
  obtain⟨w1,p,yl,w2⟩:=Yl hq;obtain⟨_,n,rfl,k3,k4⟩:=F.cost w2;refine .inl ⟨n,rfl,λq hq'=>?_,λj hj hw=>?_⟩
  .obtain⟨k,a1,a2⟩:=w1 q hq'
   obtain⟨_,n',rfl,a3,_⟩:=F.cost a1;exact Gy (by omega) a3
  .have:=hw p yl
   rw[k4 j hj]at this;cases this
section
variable{w:Wk}(hv:Wk.V w)(h7:w.many<=7){ls:List Int}(hl:Cr w.looks.length ls)
include hv h7 hl
theorem jz{ap:AP}(A:ApD ap):∃d,E6 ap [w.d,sG ls]=Z d/\wZ w ls d:=by obtain⟨L,hco,vN,sJ,wB,_,hL,hbg⟩:=az hv h7 hl A hv.bc;obtain⟨M,hde,F⟩:=mY hv A vN wB sJ hL;have ym:=Rz hv hl hv.bc;have hsl:=split_len (w:=w) (ls:=ls) (c:=w.beg);have zL:=hv.bc.len;have hsn:ZU w ls w.beg≠[]:=λe=>K9 (w:=w) (ls:=ls) hv.b1 (by unfold Zu;rw[e];rfl);obtain⟨d,hm,fw⟩:=ji hL F (g:=ZU w ls w.beg) (by omega) hsn hbg;refine⟨d,?_,fw⟩;have yp:=Lb hv;have xE:=oY hv hl;have hb:=lL w;show Av (Rv ap [Z (.pl w.d),Z (.pl (sG ls)),J,J])=_;simp[Rv,yp,xE,hb,hco,hde,ym,hm,Av]
end
theorem UX:ApD ap:=⟨λ_=>rfl,λ_ _=>rfl⟩
end
end HG5
namespace HG22
open PySem HM HG4
open HG
open HG5
def pP(w:Wk):Wk:={w with looks:=[(Ah w.many).map λ(k:Nat)=>(k:Int)]}
abbrev Ti:=List (Int×Int)
end HG22
namespace HG17
open PySem HM
open HG
open HG4
open HG5
def Hd:SF :=
 (Ck 1 (ZJ 1 (Nk (Zo 1) (ZA (ZD (sU (Za 1))) ZK (Jm (Za 0) (Br (Zb (Za 3) Zh)))))))
def S9:SF :=
 (Zq (ZJ 1 (AY (Zb (Br Zh) Zh)))
  (Zq (AR 2 (ZD (sU (Zj Ii (Zb (Za 0) Zh)))) Hd)
  (ZF (uc (aI (Zo 1))))))
def Ip:List D->Option D:=fnOf 1 3 S9
def SN:SF :=
 (ZF (Hx (ZA (ZD (sU (Za 0))) ZK (M4 (Za 0) (Zo 2)))))
def FQ:List D->Option D:=fnOf 2 2 SN
def SM(ap:AP):SF :=
 (Zq (Z2 3 (Zj (E6 ap) (Zb (Za 0) (Zb (Za 1) Zh))))
  (ZF (Gr (sM CB (Za 3) (eC .none)) (sM wU (Za 3) (Za 2)))))
def FP(ap:AP):List D->Option D:=fnOf 3 4 (SM ap)
def Io(ap:AP):SF :=
 (tQ (U5 2 (Cm (Cj (tV (MT (ZA (ZD (sU (Za 2))) ZK (Zj FQ (Zb (Za 0) (Zb (Za 4) Zh))))))) (tV (Zj (FP ap) (Zb (Za 0) (Zb (Za 3) (Zb (Za 1) Zh))))))) (FJ 2 (Za 3)) AN)
def S8(ap:AP):SF :=
 (Zq (ZJ 2 (AY Zh))
  (Zq (AR 3 (ZD (sU (Zj Ip (Zb (Za 0) Zh)))) (Io ap))
  (Ck 2 (ZF (Za 2)))))
def JF(ap:AP):List D->Option D:=fnOf 2 4 (S8 ap)
def RW(ap:AP):SF :=
 (Zq (Kz (Zj DP (Zb (Za 0) Zh)))
  (ZF (Zj (JF ap) (Zb (Za 0) (Zb (eC (.int 999)) Zh)))))
def Jy(ap:AP):List D->Option D:=fnOf 1 1 (RW ap)
end HG17
namespace HG17
open PySem HM
open HG
open HG4
open HG5
open HG22 (pP)
theorem jD{w:Wk}(hv:Wk.V w)(h7:w.many<=7){ls:List Int}(hl:Cr w.looks.length ls){n:Nat}(f:wZ w ls (.int n)):n<=128:=by
 obtain⟨L,_,_,sJ,_,_,hL,hbg⟩:=az hv h7 hl UX hv.bc;rcases f with⟨m,e,hm,v7⟩|⟨e,_⟩
 .injection e with e
  obtain rfl:n=m:=by omega
  refine JV λq=>v7 L.length (by omega) λp hp=>Wa hL (hbg p hp) (hm p hp)
 .cases e
end HG17
namespace HG17
open PySem HM
open HG
open HG4
open HG5
def tp:Nat->List (List Int)
 |0=>[[]]
 |n+1=>tp n++(tp n).map (·++[(n:Int)])
theorem Kw:∀n,(tp n).length=2 ^ n
 |0=>rfl
 |n+1=>by show(tp n++(tp n).map (·++[(n:Int)])).length=_;rw[AK,Af,Kw n,Nat.pow_succ];omega
theorem Cr.up{n m:Nat}(h:n<=m){c:List Int}(hc:Cr n c):Cr m c:=⟨hc.1,λx hx=>by have:=hc.2 x hx;omega⟩
theorem MI:∀n,∀c∈tp n,Cr n c
 |0,c,h=>by rw[AW.mp h];exact⟨aN,λx hx=>by cases hx⟩
 |n+1,c,h=>by
  rcases Bg.mp (show c∈tp n++(tp n).map (·++[(n:Int)]) from h)with h|h
  .exact Cr.up (Nat.le_succ n) (MI n c h)
  .obtain⟨b,hb,rfl⟩:=Al.mp h
   have q:=MI n b hb;refine⟨Uz.mpr ⟨q.1,List.pairwise_singleton ..,λx hx y hy=>?_⟩,λx hx=>?_⟩
   .rw[AW.mp hy];exact(q.2 x hx).2
   .rcases Bg.mp hx with hx|hx
    .have:=q.2 x hx;omega
    .rw[AW.mp hx];omega
theorem l6(ts:List (List Int)):(Bs ts).Perm ts:=J9 ts _
theorem W3(l:Int)(e0 e1 e2:Option B):∀(cs:List (List Int)),(∀c∈cs,c.length<1000)->Bc ZK (Jm (Za 0) (Br (Zb (Za 3) Zh))) [e0,e1,Z (.pl (.int l))] (cs.map sG)=Z ((cs.map (·++[l])).map sG)
 |[],_=>rfl
 |c::cs,h=>by
  have hc:=h c (Am ..);have hb:(c.map λi=>AB i).length+[AB l].length<big:=by rw[Af];show c.length+1<1000000;omega
  have ih:=W3 l e0 e1 e2 cs λx hx=>h x (Ap _ hx);have e:Jm (Za 0) (Br (Zb (Za 3) Zh)) (Z (.pl (sG c))::[e0,e1,Z (.pl (.int l))])=Z (sG (c++[l])):=by show(if(c.map λi=>AB i).length+[AB l].length<big then Z (BZ ((c.map λi=>AB i)++[.int l]))else J)=_;rw[if_pos hb];unfold sG;rw[BI];rfl
  rw[Ak,Bc,e,ih];rfl
theorem P2(e0:Option B):∀(k n:Nat) (o:Option B),n+k<=5->∃o',ZN 2 Hd ((CN n k).map λ(j:Nat)=>AB (j:Int)) [e0,Z (.ol ((tp n).map sG)),o]=Z (.nx [e0,Z (.ol ((tp (n+k)).map sG)),o'])
 |0,n,o,_=>⟨o,rfl⟩
 |k+1,n,o,h=>by
  obtain⟨o',ih⟩:=P2 e0 k (n+1) (Z (.pl (.int n))) (by omega);refine⟨o',?_⟩;have hl:(tp n).length<=32:=by rw[Kw];exact Bf (J5 (by omega) (show n<=5 by omega)) (by decide)
  have tZ:∀c∈tp n,c.length<1000:=λc hc=>by have:=(MI n c hc).len;omega
  have hs:Hd [e0,Z (.ol ((tp n).map sG)),Z (.pl (.int n))]=Z (.nx [e0,Z (.ol ((tp (n+1)).map sG)),Z (.pl (.int n))]):=by
   have hc:ZA (ZD (sU (Za 1))) ZK (Jm (Za 0) (Br (Zb (Za 3) Zh))) [e0,Z (.pl (.list ((tp n).map sG))),Z (.pl (.int n))]=Z (.ol (((tp n).map (·++[(n:Int)])).map sG)):=by have hi:ZD (sU (Za 1)) [e0,Z (.pl (.list ((tp n).map sG))),Z (.pl (.int n))]=Z ((tp n).map sG):=rfl;unfold ZA;rw[hi];dsimp only;rw[if_pos (by rw[Af];show _<1000000;omega),W3 n e0 _ J _ tZ];rfl
   have hcat:Nk (Zo 1) (ZA (ZD (sU (Za 1))) ZK (Jm (Za 0) (Br (Zb (Za 3) Zh)))) [e0,Z (.pl (.list ((tp n).map sG))),Z (.pl (.int n))]=Z (.ol ((tp (n+1)).map sG)):=by have hb:Zo 1 [e0,Z (.pl (.list ((tp n).map sG))),Z (.pl (.int n))]=Z (.pl (.list ((tp n).map sG))):=rfl;unfold Nk;rw[hb,hc];show(if _<_ then _ else _)=_;rw[if_pos (by rw[Af,Af,Af];show _<1000000;omega)];show _=Z (B.ol ((tp n++(tp n).map (·++[(n:Int)])).map sG));rw[BI]
   unfold Hd;show ZJ 1 _ [e0,Z (.pl (.list ((tp n).map sG))),Z (.pl (.int n))]=_;unfold ZJ;rw[hcat];rfl
  show(match Hd [e0,Z (.ol ((tp n).map sG)),Z (.pl (.int n))]with
   |some (.nx r')=>ZN 2 Hd ((CN (n+1) k).map λ(j:Nat)=>AB (j:Int)) r'
   |some (.ct r')=>ZN 2 Hd ((CN (n+1) k).map λ(j:Nat)=>AB (j:Int)) r'
   |some (.bk r')=>Z (.nx r')
   |some (.rt d)=>Z (.rt d)
   |none=>J)=_
  rw[hs,show n+(k+1)=n+1+k by omega];exact ih
theorem oX{w:Wk}(hv:Wk.V w):Ip [w.d]=Z (.list ((Bs (tp w.looks.length)).map sG)):=by
 have l2:=hv.l2;have vO:=ng hv;obtain⟨o',uy⟩:=P2 (Z (.pl w.d)) w.looks.length 0 J (by omega);rw[L7]at uy;have hl:(tp w.looks.length).length<=16:=by rw[Kw];exact Bf (J5 (by omega) l2) (by decide)
 show Av (S9 [Z (.pl w.d),J,J])=_;unfold S9;refine ZX (P:=λq=>Av q=_) (r':=[Z (.pl w.d),Z (.ol ((tp 0).map sG)),J]) rfl ?_;refine ZX (P:=λq=>Av q=_) (r':=[Z (.pl w.d),Z (.ol ((tp w.looks.length).map sG)),o']) ?_ ?_
 .have hi:ZD (sU (Zj Ii (Zb (Za 0) Zh))) [Z (.pl w.d),Z (.ol ((tp 0).map sG)),J]=Z ((CN 0 w.looks.length).map λ(j:Nat)=>AB (j:Int)):=by
   have:Zj Ii (Zb (Za 0) Zh) [Z (.pl w.d),Z (.ol ((tp 0).map sG)),J]=Z (sG (zT w)):=vO;unfold ZD sU;rw[this];show Z ((zT w).map dI)=_;unfold zT;rw[Aw,List.range_eq_range'];rfl
  unfold AR;rw[hi];dsimp only;rw[if_pos (by rw[Af,Pa];show _<1000000;omega)];exact uy
 .have hs:aI (Zo 1) [Z (.pl w.d),Z (.ol ((tp w.looks.length).map sG)),o']=Z (.ol ((Bs (tp w.looks.length)).map sG)):=by
   show(match Jf ((tp w.looks.length).map sG)with
    |some ts=>if ts.length<64 then Z (B.ol (OP (Bs ts)))else J
    |none=>J)=_
   rw[Xa];show(if _<_ then _ else _)=_;rw[if_pos (by omega)];rfl
  unfold ZF uc;rw[hs];rfl
theorem ni{a b:List Int}(ha:a.length<1000):FQ [sG a,sG b]=Z (.bool (a.all λx=>b.contains x)):=by
 have hb:a.length<1000000:=by omega
 have e:∀r:HM.Env,r[1]?=Z (Z (.pl (sG b)))->Bc ZK (M4 (Za 0) (Zo 2)) r (a.map dI)=Z (a.map λs=>BX (b.contains s)):=λr r1=>by
  rw[CM dI (λs=>BX (b.contains s))]
  .intro s _
   simp[r1,Hr,CU,sG,-Fp]
 show Av (SN [Z (.pl (sG a)),Z (.pl (sG b))])=_;simp[SN,hb,e,QS,Av,sG,-Fp]
section
variable{w:Wk}(hv:Wk.V w)(h7:w.many<=7)
include hv h7
def BE(en:List Int->Bool)(T:List (List Int))(c:List Int):List (List Int):=if !(T.any λt=>t.all λx=>c.contains x)&&en c then T++[c]else T
omit hv h7 in
theorem WC{en:List Int->Bool}{m:Int}(wO:∀c,Cr w.looks.length c->FP ap [w.d,sG c,.int m]=Z (.bool (en c)))(hl:w.looks.length<=4):∀(cs T:List (List Int)) (o:Option B),(∀c∈cs,Cr w.looks.length c)->(∀c∈T,Cr w.looks.length c)->T.length+cs.length<1000 ->∃o',ZN 3 (Io ap) (cs.map sG) [Z (.pl w.d),Z (.pl (.int m)),Z (.ol (T.map sG)),o]=Z (.nx [Z (.pl w.d),Z (.pl (.int m)),Z (.ol ((cs.foldl (BE en) T).map sG)),o'])
 |[],T,o,_,_,_=>⟨o,rfl⟩
 |c::cs,T,o,h1,h2,h3=>by
  have hc:=h1 c (Am ..);rw[AD]at h3;have hT:∀t∈BE en T c,Cr w.looks.length t:=λt ht=>by
   unfold BE at ht;split at ht
   .rcases Bg.mp ht with q|q
    .exact h2 t q
    .rw[AW.mp q];exact hc
   .exact h2 t ht
  have zM:(BE en T c).length<=T.length+1:=by
   unfold BE;split
   .rw[AK];exact Aj _
   .omega
  obtain⟨o',ih⟩:=WC wO hl cs (BE en T c) (Z (.pl (sG c))) (λx hx=>h1 x (Ap _ hx)) hT (by omega);refine⟨o',?_⟩;have hs:Io ap [Z (.pl w.d),Z (.pl (.int m)),Z (.ol (T.map sG)),Z (.pl (sG c))]=Z (.nx [Z (.pl w.d),Z (.pl (.int m)),Z (.ol ((BE en T c).map sG)),Z (.pl (sG c))]):=by
   have ha:tV (MT (ZA (ZD (sU (Za 2))) ZK (Zj FQ (Zb (Za 0) (Zb (Za 4) Zh))))) [Z (.pl w.d),Z (.pl (.int m)),Z (.pl (.list (T.map sG))),Z (.pl (sG c))]=Z (T.any λt=>t.all λx=>c.contains x):=by
    have hi:ZD (sU (Za 2)) [Z (.pl w.d),Z (.pl (.int m)),Z (.pl (.list (T.map sG))),Z (.pl (sG c))]=Z (T.map sG):=rfl;have hg:Bc ZK (Zj FQ (Zb (Za 0) (Zb (Za 4) Zh))) [Z (.pl w.d),Z (.pl (.int m)),Z (.pl (.list (T.map sG))),Z (.pl (sG c))] (T.map sG)=Z (T.map λt=>BX (t.all λx=>c.contains x)):=by rw[CM sG (λt=>BX (t.all λx=>c.contains x))];intro t ht;have:=(h2 t ht).len;exact ni (by omega)
    have hf:ZA (ZD (sU (Za 2))) ZK (Zj FQ (Zb (Za 0) (Zb (Za 4) Zh))) [Z (.pl w.d),Z (.pl (.int m)),Z (.pl (.list (T.map sG))),Z (.pl (sG c))]=Z (.ol (T.map λt=>BX (t.all λx=>c.contains x))):=by unfold ZA;rw[hi];dsimp only;rw[if_pos (by rw[Af];show _<1000000;omega),hg];rfl
    generalize ZA (ZD (sU (Za 2))) ZK (Zj FQ (Zb (Za 0) (Zb (Za 4) Zh)))=E at hf ⊢;have hq:=QS T (λt=>t.all λx=>c.contains x);unfold tV MT;rw[hf];show(match DC (λbs=>BX (bs.any id)) (FA (T.map λt=>BX (t.all λx=>c.contains x)))with|some (.bool b)=>Z b|_=>J)=_;rw[hq];show Z ((T.map λt=>t.all λx=>c.contains x).any id)=_;rw[TB];rfl
   have he:tV (Zj (FP ap) (Zb (Za 0) (Zb (Za 3) (Zb (Za 1) Zh)))) [Z (.pl w.d),Z (.pl (.int m)),Z (.pl (.list (T.map sG))),Z (.pl (sG c))]=Z (en c):=by have:Zj (FP ap) (Zb (Za 0) (Zb (Za 3) (Zb (Za 1) Zh))) [Z (.pl w.d),Z (.pl (.int m)),Z (.pl (.list (T.map sG))),Z (.pl (sG c))]=Z (.bool (en c)):=wO c hc;unfold tV;rw[this]
   generalize hA:tV (MT (ZA (ZD (sU (Za 2))) ZK (Zj FQ (Zb (Za 0) (Zb (Za 4) Zh)))))=A at ha;generalize hB:tV (Zj (FP ap) (Zb (Za 0) (Zb (Za 3) (Zb (Za 1) Zh))))=E at he;have ht:U5 2 (Cm (Cj A) E) [Z (.pl w.d),Z (.pl (.int m)),Z (.ol (T.map sG)),Z (.pl (sG c))]=Z (!(T.any λt=>t.all λx=>c.contains x)&&en c):=by show Cm (Cj A) E [Z (.pl w.d),Z (.pl (.int m)),Z (.pl (.list (T.map sG))),Z (.pl (sG c))]=_;generalize (T.any λt=>t.all λx=>c.contains x)=b at ha;cases b<;>simp[ha,he]
   unfold Io;rw[hA,hB];unfold tQ;rw[ht];unfold BE;cases q:(!(T.any λt=>t.all λx=>c.contains x)&&en c)with
   |false=>rfl
   |true =>
    have hb:(T.map sG).length<big:=by rw[Af];show _<1000000;omega
    show(if(T.map sG).length<big then _ else _)=_;rw[if_pos hb,if_pos rfl,BI];rfl
  show(match Io ap [Z (.pl w.d),Z (.pl (.int m)),Z (.ol (T.map sG)),Z (.pl (sG c))]with
   |some (.nx r')=>ZN 3 (Io ap) (cs.map sG) r'
   |some (.ct r')=>ZN 3 (Io ap) (cs.map sG) r'
   |some (.bk r')=>Z (.nx r')
   |some (.rt d)=>Z (.rt d)
   |none=>J)=_
  rw[hs];exact ih
end
end HG17
namespace HG16
open PySem HM
open HG
open HG4
open HG5
open HG17
def Tx(ap:AP):SF :=
 (Zq (Kz (Zj DP (Zb (Za 0) Zh)))
  (Zq (tQ (Cj (tV (Zj DO (Zb (Za 1) (Zb (eC (.int 0)) (Zb (eC (.int 999)) Zh)))))) Qs AN)
  (ZF (Zj (JF ap) (Zb (Za 0) (Zb (Za 1) Zh))))))
def Gb(ap:AP):List D->Option D:=fnOf 2 2 (Tx ap)
def E7:List D->Option Str:=WV 2 2
 (VZ rNo (Kz (Zj DP (Zb (Za 0) Zh)))
  (rIf (Cj (tV (Zj DO (Zb (Za 1) (Zb (eC (.int 0)) (Zb (eC (.int 999)) Zh)))))) (oO "BadNumber" (Zb (eC (.str (C8 "this is no whole number from 0 to 999"))) Zh)) rNo))
def aG:SF :=
 (Ck 1 (ZJ 1 (Nk (Zo 1) (ZA (ZD (sU (Za 1))) ZK (Jm (Za 0) (Br (Zb (Za 3) Zh)))))))
def S7:SF :=
 (Zq (ZJ 1 (AY (Zb (Br Zh) Zh)))
  (Zq (AR 2 (ZD (sU (Za 0))) aG)
  (Ck 1 (ZF (uc (Oc (ZA (ZD (sU (Za 1))) ZK (Br (Zb (AJ (Zo 0)) (Zb (Za 0) Zh))))))))))
def JE:List D->Option D:=fnOf 1 3 S7
def Sl(ap:AP):SF :=
 (lx (nS E7 (Zb (Za 0) (Zb (Za 1) Zh))) (hdT "BadNumber") (ZF (Zj (Gb ap) (Zb (Za 0) (Zb (Za 1) Zh)))))
def Il(ap:AP):List D->Option D:=fnOf 2 3 (Sl ap)
def HU(ap:AP):SF :=
 (Zq (ZJ 8 (Yp 5 (ZA (ZD (sU (Za 5))) (tV (sM tT (uc (ZA (ZD (sU (Za 0))) (tV (Jz (Za 0) (Zo 9))) (Za 0))) (uc (AY Zh)))) (Za 0))))
  (Zq (Z2 9 (Zj Z6 (Zb (Za 1) (Zb (Za 7) Zh))))
  (Ck 8 (tQ (Cm (tV (sM tT (Za 8) (uc (AY Zh)))) (Cm (tV (sM CB (Za 9) (eC .none))) (wq (tV (sM Gu (Za 4) (eC .none))) (tV (sM wU (Za 9) (Za 4)))))) (FJ 5 (Za 7)) AN))))
def FD(ap:AP):SF :=
 (Zq (ZJ 5 (AY Zh))
  (Zq (Xr 6 7 (ZD (sU (Zj JE (Zb (uc (N0 (Ce (AJ (sU (tJ (Zo 1) (eC (.int 2)))))))) Zh)))) (HU ap))
  (Zq (Z2 10 (Zj (Jy ap) (Zb (Za 1) Zh)))
  (Zq (tQ (tV (sM CB (Za 4) (eC .none))) (Z2 10 (Zj (Gb ap) (Zb (Za 1) (Zb (Za 4) Zh)))) AN)
  (Ck 5 (tQ (wq (Cj (tV (K2 (Za 10) .list))) (tV (sM zO (Za 10) (Za 5)))) (ZF (eC (.bool Ab))) AN))))))
def Qj(ap:AP):SF :=
 (Zq (Z2 1 (Zj FT (Zb (Za 0) (Zb (eC (.int 2)) Zh))))
  (Zq (tQ (tV (sM tT (sM CQ (Zj ZE (Zb (Za 0) (Zb (eC (.int 0)) Zh))) (eC (.int 6))) (eC (.int 5)))) (Zq (Z2 2 (tJ (AY (Zb (eC .none) (Zb (eC (.int (-1))) (Zb (eC (.int 1000)) (Zb (eC (.bool Aa)) (Zb (eC (.str (C8 "3"))) (Zb (uc (AY (Zb (eC (.int 3)) Zh))) (Zb (sM A4 (eC (.int 1000)) (sM CQ (Zj ZE (Zb (Za 0) (Zb (eC (.int 1)) Zh))) (eC (.int 9)))) (Zb (eC (.bool Ab)) Zh))))))))) (sM CQ (Zj ZE (Zb (Za 0) (Zb (eC (.int 1)) Zh))) (eC (.int 8)))))
  (ZF (sM IZ (Zj (Il ap) (Zb (Za 1) (Zb (Za 2) Zh))) (uc (AY (Zb (eC (.bool Aa)) (Zb (eC (.bool Aa)) Zh))))))) AN)
  (Zq (Z2 3 (sM CQ (Zj ZE (Zb (Za 0) (Zb (eC (.int 1)) Zh))) (eC (.int 7))))
  (Zq (AR 4 (ZD (sU (Br (Zb (Za 3) (Zb (eC .none) Zh))))) (FD ap))
  (ZF (eC (.bool Aa)))))))
def HK(ap:AP):List D->Option D:=fnOf 1 11 (Qj ap)
section
variable{fd:List Int->D}
abbrev PK:Str:="BadNumber"
def vT(d:D)(m:Int):Bool:=match d with
 | .int n=>decide (n<=m)
 |_=>Ab
section
variable{w:Wk}(hv:Wk.V w)(h7:w.many<=7)
include hv h7
omit h7 in
omit hv in
theorem ic{c:List Int}{d:D}(e:E6 ap [w.d,sG c]=Z d)(f:wZ w c d)(m:Int):FP ap [w.d,sG c,.int m]=Z (.bool (vT d m)):=by
 show Av (SM ap [Z (.pl w.d),Z (.pl (sG c)),Z (.pl (.int m)),J])=_;unfold SM;refine ZX (P:=λq=>Av q=_) (r':=[Z (.pl w.d),Z (.pl (sG c)),Z (.pl (.int m)),Z (.pl d)]) (by simp[e]) ?_;rcases f with⟨n,rfl,hn,hm⟩|⟨rfl,hn⟩
 .simp[Av,vT]
 .simp[Av,vT]
theorem cy:∃fd:List Int->D,∀c,Cr w.looks.length c->E6 ap [w.d,sG c]=Z (fd c)/\Z6 [w.d,sG c]=Z (fd c)/\wZ w c (fd c):=by
 have wg:∀c,∃d,Cr w.looks.length c->E6 ap [w.d,sG c]=Z d/\Z6 [w.d,sG c]=Z d/\wZ w c d:=λc=>by
  by_cases h:Cr w.looks.length c
  .obtain⟨d,e,f⟩:=jz hv h7 h UX
   obtain⟨d',e',f'⟩:=nz hv h7 h;have:=f.unique f';subst this;exact⟨d,λ_=>⟨e,e',f⟩⟩
  .exact⟨.none,λq=>absurd q h⟩
 exact Classical.axiomOfChoice wg
end
section
variable{w:Wk}(hv:Wk.V w)
include hv
theorem U8:(∀c∈Bs (tp w.looks.length),Cr w.looks.length c)/\(Bs (tp w.looks.length)).length<=16:=by have l2:=hv.l2;have hp:=l6 (tp w.looks.length);refine⟨λc q=>MI _ c (hp.mem_iff.mp q),?_⟩;rw[hp.length_eq,Kw];exact Bf (J5 (by omega) l2) (by decide)
theorem Vr(wN:∀c,Cr w.looks.length c->E6 ap [w.d,sG c]=Z (fd c)/\Z6 [w.d,sG c]=Z (fd c)/\wZ w c (fd c))(m:Int):JF ap [w.d,.int m]=Z (.list (((Bs (tp w.looks.length)).foldl (BE λc=>vT (fd c) m) []).map sG)):=by
 have ha:=oX hv;have l2:=hv.l2;obtain⟨wB,sJ⟩:=U8 hv;have wO:∀c,Cr w.looks.length c->FP ap [w.d,sG c,.int m]=Z (.bool (vT (fd c) m)):=λc hc=>ic (wN c hc).1 (wN c hc).2.2 m;obtain⟨o',uy⟩:=WC (w:=w) (en:=λc=>vT (fd c) m) wO l2 (Bs (tp w.looks.length)) [] J wB (λc q=>by cases q) (by rw[Mn];omega);generalize (Bs (tp w.looks.length)).foldl (BE λc=>vT (fd c) m) []=T at uy ⊢;show Av (S8 ap [Z (.pl w.d),Z (.pl (.int m)),J,J])=_;unfold S8;refine ZX (P:=λq=>Av q=_) (r':=[Z (.pl w.d),Z (.pl (.int m)),Z (.ol []),J]) rfl ?_;refine ZX (P:=λq=>Av q=_) (r':=[Z (.pl w.d),Z (.pl (.int m)),Z (.ol (T.map sG)),o']) ?_ rfl;have hi:ZD (sU (Zj Ip (Zb (Za 0) Zh))) [Z (.pl w.d),Z (.pl (.int m)),Z (.ol []),J]=Z ((Bs (tp w.looks.length)).map sG):=by have:Zj Ip (Zb (Za 0) Zh) [Z (.pl w.d),Z (.pl (.int m)),Z (.ol []),J]=Z (.list ((Bs (tp w.looks.length)).map sG)):=ha;unfold ZD sU;rw[this];rfl
 unfold AR;rw[hi];dsimp only;rw[if_pos (by rw[Af];show _<1000000;omega)];exact uy
theorem Rg(wN:∀c,Cr w.looks.length c->E6 ap [w.d,sG c]=Z (fd c)/\Z6 [w.d,sG c]=Z (fd c)/\wZ w c (fd c)){m:Int}(h0:0<=m)(h1:m<=999):Gb ap [w.d,.int m]=Z (.list (((Bs (tp w.looks.length)).foldl (BE λc=>vT (fd c) m) []).map sG)):=by
 have hc:=Lb hv;have hf:=Vr hv wN m;have hn:=Lz (.int m) 0 999;rw[show DG (.int m) 0 999=Aa by show(decide (0<=m)&&decide (m<=999))=Aa;rw[decide_eq_true h0,decide_eq_true h1];rfl]at hn;show Av (Tx ap [Z (.pl w.d),Z (.pl (.int m))])=_;simp[Tx,hc,hn,hf,Av]
theorem lN(wN:∀c,Cr w.looks.length c->E6 ap [w.d,sG c]=Z (fd c)/\Z6 [w.d,sG c]=Z (fd c)/\wZ w c (fd c)):Jy ap [w.d]=Z (.list (((Bs (tp w.looks.length)).foldl (BE λc=>vT (fd c) 999) []).map sG)):=by
 have hc:=Lb hv;have hf:=Vr hv wN 999;show Av (RW ap [Z (.pl w.d)])=_;simp[RW,hc,hf,Av]
omit hv in
theorem cw(n:Nat)(g:RF)(a b:D):WV 2 n g [a,b]=g (OL n [a,b]):=if_pos rfl
theorem d7{b:D}(nd:w6 b)(h:DG b 0 999=Ab):Il ap [w.d,b]=Z (.list [.bool Aa,.bool Aa]):=by
 have hc:=Lb hv;have hn:=Lz b 0 999 nd;rw[h]at hn;have h1:E7 [w.d,b]=Z PK:=by unfold E7;rw[cw];show VZ _ _ _ [Z (.pl w.d),Z (.pl b)]=_;simp[hc,hn]
 have hd:hdT PK PK=Z (.list [.bool Aa,.bool Aa]):=rfl;show Av (Sl ap [Z (.pl w.d),Z (.pl b),J])=_;unfold Sl;simp[h1,hd,Av]
end
def pairD(c:List Int):D:=.tuple [.int (c.length:Int),sG c]
theorem ez:aG=Hd:=rfl
theorem Wi:∀cs:List (List Int),Kt (cs.map pairD)=Z (cs.map E1)
 |[]=>rfl
 |c::cs=>by show(match BP (c.map dI)with|some t=>(Kt (cs.map pairD)).map (((c.length:Int)::t)::·)|none=>J)=_;rw[CU,Wi cs];rfl
theorem kM(cs:List (List Int)):(CY (cs.map E1)).map unP=(Bs cs).map pairD:=by
 have:CY (cs.map E1)=(Bs cs).map E1:=by unfold CY Bs;exact(List.map_mergeSort (r:=λa b=>!HM.lexLt (E1 b) (E1 a)) (s:=λa b=>!HM.lexLt b a) (f:=E1) λ_ _ _ _=>rfl).symm
 rw[this,Aw];exact Fh λc _=>rfl
theorem kJ{n:Nat}(hn:n<=4):JE [.list ((CN 0 n).map λ(j:Nat)=>AB (j:Int))]=Z (.list ((Bs (tp n)).map pairD)):=by
 generalize hi0:(Z (.pl (.list ((CN 0 n).map λ(j:Nat)=>AB (j:Int)))):Option B)=s0;obtain⟨o',uy⟩:=P2 s0 n 0 J (by omega);rw[L7]at uy;have hl:(tp n).length<=16:=by rw[Kw];exact Bf (J5 (by omega) hn) (by decide)
 show Av (S7 [Z (.pl (.list ((CN 0 n).map λ(j:Nat)=>AB (j:Int)))),J,J])=_;rw[hi0];unfold S7;refine ZX (P:=λq=>Av q=_) (r':=[s0,Z (.ol ((tp 0).map sG)),J]) rfl ?_;refine ZX (P:=λq=>Av q=_) (r':=[s0,Z (.ol ((tp n).map sG)),o']) ?_ ?_
 .have hi:ZD (sU (Za 0)) [s0,Z (.ol ((tp 0).map sG)),J]=Z ((CN 0 n).map λ(j:Nat)=>AB (j:Int)):=by rw[<-hi0];rfl
  unfold AR;rw[hi,ez];dsimp only;rw[if_pos (by rw[Af,Pa];show _<1000000;omega)];exact uy
 .have hc:ZA (ZD (sU (Za 1))) ZK (Br (Zb (AJ (Zo 0)) (Zb (Za 0) Zh))) [s0,Z (.pl (.list ((tp n).map sG))),o']=Z (.ol ((tp n).map pairD)):=by
   have hi:ZD (sU (Za 1)) [s0,Z (.pl (.list ((tp n).map sG))),o']=Z ((tp n).map sG):=rfl;have hg:Bc ZK (Br (Zb (AJ (Zo 0)) (Zb (Za 0) Zh))) [s0,Z (.pl (.list ((tp n).map sG))),o'] ((tp n).map sG)=Z ((tp n).map pairD):=by refine CM sG pairD (tp n) λc _=>?_;simp[sG,pairD]
   unfold ZA;rw[hi];dsimp only;rw[if_pos (by rw[Af];show _<1000000;omega),hg];rfl
  have hs:Oc (ZA (ZD (sU (Za 1))) ZK (Br (Zb (AJ (Zo 0)) (Zb (Za 0) Zh)))) [s0,Z (.pl (.list ((tp n).map sG))),o']=Z (.ol ((Bs (tp n)).map pairD)):=by unfold Oc;rw[hc];show(match Kt ((tp n).map pairD)with|some ks=>if ks.length<64 then Z (B.ol ((CY ks).map unP))else J|none=>J)=_;rw[Wi];show(if((tp n).map E1).length<64 then _ else _)=_;rw[if_pos (by rw[Af];omega),kM]
  show Av (ZF (uc (Oc (ZA (ZD (sU (Za 1))) ZK (Br (Zb (AJ (Zo 0)) (Zb (Za 0) Zh)))))) [s0,Z (.pl (.list ((tp n).map sG))),o'])=_;unfold ZF uc;rw[hs];rfl
end
section
variable{r:HM.Env}{c:Int}{en:List Int->Bool}
theorem MJ{g:D->D->Option D}{e f:EF}{x y:D}{b:Bool}(h1:e r=Z x)(h2:f r=Z y)(h:g x y=Z (.bool b)):tV (sM g e f) r=Z b:=by unfold tV sM;rw[h1,h2];show(match g x y with|some (.bool b)=>Z b|_=>J)=_;rw[h]
theorem if_false{c:TF}{a:SF}(h:c r=Z Ab):tQ c a AN r=Z (.nx r):=by unfold tQ;rw[h];rfl
theorem gp(l:List Int):tT (.list (l.map dI)) (.list [])=Z (.bool l.isEmpty):=by
 cases l with
 |nil=>exact GO (Jj 0 []) (by decide)
 |cons x l=>exact Fy (Jj 0 (x::l)) (Jj 0 []) (by decide) (by decide) (by simp)
theorem Ni(L:List (List Int)):uf 2 (.list (L.map sG))=Aa:=Vy λd hd=>by obtain⟨c,_,rfl⟩:=Al.mp hd;exact FC 0 c
theorem Q1(L:List (List Int)):tT (.list (L.map sG)) (.list [])=Z (.bool L.isEmpty):=by
 cases L with
 |nil=>exact GO (Ni []) (by decide)
 |cons x l=>exact Fy (Ni (x::l)) (Ni []) (by decide) (by decide) (by simp)
theorem eZ(x y:Int):tT (.int x) (.int y)=Z (.bool (x==y)):=by
 by_cases e:x=y
 .subst e
  rw[beq_self_eq_true];exact GO (ES 0 x) (by decide)
 .rw[beq_eq_false_iff_ne.mpr e]
  exact Fy (ES 0 x) (ES 0 y) (by decide) (by decide) (by simpa using e)
theorem gZ(n:Nat)(ns:List Int):MV (n+1) (sG ns)=Aa:=Au.mpr λd hd=>by obtain⟨x,_,rfl⟩:=Al.mp hd;cases n<;>rfl
theorem WA(c:List Int):∀t:List Int,(t.filter λx=>!c.contains x).isEmpty=t.all λx=>c.contains x
 |[]=>rfl
 |x::t=>by rw[Ez,Di,<-WA c t];cases c.contains x<;>rfl
theorem VS(p:List Int->Bool):∀T:List (List Int),(T.filter p).isEmpty=!(T.any p)
 |[]=>rfl
 |x::t=>by
  rw[Ez,Ee];cases p x
  .exact VS p t
  .rfl
section
variable{w:Wk}{s0 s2 s3 s10:Option B}{bd:D}
theorem gW{T:List (List Int)}{c:List Int}{d:D}(s6 s8 s9:Option B)(hT:∀t∈T,t.length<1000)(zM:T.length<1000)(hf:Z6 [w.d,sG c]=Z d)(he:∀r:HM.Env,r[9]?=Z (Z (.pl d))->r[4]?=Z (Z (.pl bd))->Cm (tV (sM CB (Za 9) (eC .none))) (wq (tV (sM Gu (Za 4) (eC .none))) (tV (sM wU (Za 9) (Za 4)))) r=Z (en c)):∃s8',HU ap [s0,Z (.pl w.d),s2,s3,Z (.pl bd),Z (.ol (T.map sG)),s6,Z (.pl (sG c)),s8,s9,s10]=Z (.nx [s0,Z (.pl w.d),s2,s3,Z (.pl bd),Z (.ol ((BE en T c).map sG)),s6,Z (.pl (sG c)),s8',Z (.pl d),s10]):=by
 generalize hI:T.filter (λt=>t.all λx=>c.contains x)=I;refine⟨Z (.pl (.list (I.map sG))),?_⟩;unfold HU;refine ZX (P:=λq=>q=_) (r':=[s0,Z (.pl w.d),s2,s3,Z (.pl bd),Z (.ol (T.map sG)),s6,Z (.pl (sG c)),Z (.ol (I.map sG)),s9,s10]) ?_ ?_
 .have zf:∀t∈T,∀r:HM.Env,r[7]?=Z (Z (.pl (sG c)))->ZA (ZD (sU (Za 0))) (tV (Jz (Za 0) (Zo 9))) (Za 0) (Z (.pl (sG t))::r)=Z (.ol ((t.filter λx=>!c.contains x).map dI)):=λt ht r r7=>by
   have hi:ZD (sU (Za 0)) (Z (.pl (sG t))::r)=Z (t.map dI):=rfl;have htl:=hT t ht;have hg:Bc (tV (Jz (Za 0) (Zo 9))) (Za 0) (Z (.pl (sG t))::r) (t.map dI)=Z ((t.filter λx=>!c.contains x).map dI):=by refine D7 dI (λx=>!c.contains x) dI t (λx _=>?_) λx _ _=>rfl;simp[r7,Hr,CU,sG,-Fp]
   unfold ZA;rw[hi];dsimp only;rw[if_pos (by rw[Af];show _<1000000;omega),hg];rfl
  generalize ZA (ZD (sU (Za 0))) (tV (Jz (Za 0) (Zo 9))) (Za 0)=E at zf ⊢;have hg:Bc (tV (sM tT (uc E) (uc (AY Zh)))) (Za 0) [s0,Z (.pl w.d),s2,s3,Z (.pl bd),Z (.pl (.list (T.map sG))),s6,Z (.pl (sG c)),s8,s9,s10] (T.map sG)=Z (I.map sG):=by rw[<-hI];refine D7 sG (λt=>t.all λx=>c.contains x) sG T (λt ht=>?_) λt _ _=>rfl;rw[<-WA];refine MJ (x:=.list ((t.filter λx=>!c.contains x).map dI)) (y:=.list []) ?_ rfl (gp _);unfold uc;rw[zf t ht _ rfl];rfl
  generalize tV (sM tT (uc E) (uc (AY Zh)))=F at hg ⊢;have hc:ZA (ZD (sU (Za 5))) F (Za 0) [s0,Z (.pl w.d),s2,s3,Z (.pl bd),Z (.pl (.list (T.map sG))),s6,Z (.pl (sG c)),s8,s9,s10]=Z (.ol (I.map sG)):=by have hi:ZD (sU (Za 5)) [s0,Z (.pl w.d),s2,s3,Z (.pl bd),Z (.pl (.list (T.map sG))),s6,Z (.pl (sG c)),s8,s9,s10]=Z (T.map sG):=rfl;unfold ZA;rw[hi];dsimp only;rw[if_pos (by rw[Af];show _<1000000;omega),hg];rfl
  have ht:Yp 5 (ZA (ZD (sU (Za 5))) F (Za 0)) [s0,Z (.pl w.d),s2,s3,Z (.pl bd),Z (.ol (T.map sG)),s6,Z (.pl (sG c)),s8,s9,s10]=Z (.ol (I.map sG)):=by
   show(match ZA (ZD (sU (Za 5))) F (Za 0) [s0,Z (.pl w.d),s2,s3,Z (.pl bd),Z (.pl (.list (T.map sG))),s6,Z (.pl (sG c)),s8,s9,s10]with
    |some (.ol ds)=>if ds.all (MV 400)then Z (B.ol ds)else J
    |_=>J)=_
   rw[hc];exact if_pos (Au.mpr λd hd=>by obtain⟨x,_,rfl⟩:=Al.mp hd;exact gZ 399 x)
  unfold ZJ;rw[ht];rfl
 refine ZX (P:=λq=>q=_) (r':=[s0,Z (.pl w.d),s2,s3,Z (.pl bd),Z (.ol (T.map sG)),s6,Z (.pl (sG c)),Z (.ol (I.map sG)),Z (.pl d),s10]) ?_ ?_
 .have:Zj Z6 (Zb (Za 1) (Zb (Za 7) Zh)) [s0,Z (.pl w.d),s2,s3,Z (.pl bd),Z (.ol (T.map sG)),s6,Z (.pl (sG c)),Z (.ol (I.map sG)),s9,s10]=Z d:=hf
  unfold Z2;rw[this];rfl
 .generalize hA:Cm (tV (sM CB (Za 9) (eC .none))) (wq (tV (sM Gu (Za 4) (eC .none))) (tV (sM wU (Za 9) (Za 4))))=A at he ⊢
  show tQ (Cm (tV (sM tT (Za 8) (uc (AY Zh)))) A) (FJ 5 (Za 7)) AN [s0,Z (.pl w.d),s2,s3,Z (.pl bd),Z (.ol (T.map sG)),s6,Z (.pl (sG c)),Z (.pl (.list (I.map sG))),Z (.pl d),s10]=_;have h1:tV (sM tT (Za 8) (uc (AY Zh))) [s0,Z (.pl w.d),s2,s3,Z (.pl bd),Z (.ol (T.map sG)),s6,Z (.pl (sG c)),Z (.pl (.list (I.map sG))),Z (.pl d),s10]=Z (!(T.any λt=>t.all λx=>c.contains x)):=by rw[<-VS,hI];exact MJ rfl rfl (Q1 _)
  have h2:=he [s0,Z (.pl w.d),s2,s3,Z (.pl bd),Z (.ol (T.map sG)),s6,Z (.pl (sG c)),Z (.pl (.list (I.map sG))),Z (.pl d),s10] rfl rfl;generalize tV (sM tT (Za 8) (uc (AY Zh)))=B at h1 ⊢;have ht:Cm B A [s0,Z (.pl w.d),s2,s3,Z (.pl bd),Z (.ol (T.map sG)),s6,Z (.pl (sG c)),Z (.pl (.list (I.map sG))),Z (.pl d),s10]=Z (!(T.any λt=>t.all λx=>c.contains x)&&en c):=by
   unfold Cm;rw[h1];cases(T.any λt=>t.all λx=>c.contains x)
   .exact h2
   .rfl
  unfold tQ;rw[ht];unfold BE;cases q:(!(T.any λt=>t.all λx=>c.contains x)&&en c)with
  |false=>rfl
  |true =>
   have hb:(T.map sG).length<big:=by rw[Af];show _<1000000;omega
   show(if(T.map sG).length<big then _ else _)=_;rw[if_pos hb,if_pos rfl,BI];rfl
theorem yC{en:List Int->Bool}{fd:List Int->D}(hf:∀c,Cr w.looks.length c->Z6 [w.d,sG c]=Z (fd c))(hl:w.looks.length<=4)(he:∀c,Cr w.looks.length c->∀r:HM.Env,r[9]?=Z (Z (.pl (fd c)))->r[4]?=Z (Z (.pl bd))->Cm (tV (sM CB (Za 9) (eC .none))) (wq (tV (sM Gu (Za 4) (eC .none))) (tV (sM wU (Za 9) (Za 4)))) r=Z (en c)):∀(cs T:List (List Int)) (s6 s7 s8 s9:Option B),(∀c∈cs,Cr w.looks.length c)->(∀c∈T,Cr w.looks.length c)->T.length+cs.length<1000 ->∃s6' s7' s8' s9',Jr 6 7 (HU ap) (cs.map pairD) [s0,Z (.pl w.d),s2,s3,Z (.pl bd),Z (.ol (T.map sG)),s6,s7,s8,s9,s10]=Z (.nx [s0,Z (.pl w.d),s2,s3,Z (.pl bd),Z (.ol ((cs.foldl (BE en) T).map sG)),s6',s7',s8',s9',s10])
 |[],T,s6,s7,s8,s9,_,_,_=>⟨s6,s7,s8,s9,rfl⟩
 |c::cs,T,s6,s7,s8,s9,h1,h2,h3=>by
  have hc:=h1 c (Am ..);rw[AD]at h3;have hT:∀t∈BE en T c,Cr w.looks.length t:=λt ht=>by
   unfold BE at ht;split at ht
   .rcases Bg.mp ht with q|q
    .exact h2 t q
    .rw[AW.mp q];exact hc
   .exact h2 t ht
  have zM:(BE en T c).length<=T.length+1:=by
   unfold BE;split
   .rw[AK];exact Aj _
   .omega
  obtain⟨q8,hs⟩:=gW (w:=w) (s0:=s0) (s2:=s2) (s3:=s3) (s10:=s10) (en:=en) (Z (.pl (.int (c.length:Int)))) s8 s9 (λt ht=>by have:=(h2 t ht).len;omega) (by omega) (hf c hc) (he c hc);obtain⟨p6,p7,p8,p9,ih⟩:=yC hf hl he cs (BE en T c) (Z (.pl (.int (c.length:Int)))) (Z (.pl (sG c))) q8 (Z (.pl (fd c))) (λx hx=>h1 x (Ap _ hx)) hT (by omega);refine⟨p6,p7,p8,p9,?_⟩;show(match HU ap [s0,Z (.pl w.d),s2,s3,Z (.pl bd),Z (.ol (T.map sG)),Z (.pl (.int (c.length:Int))),Z (.pl (sG c)),s8,s9,s10]with
   |some (.nx r')=>Jr 6 7 (HU ap) (cs.map pairD) r'
   |some (.ct r')=>Jr 6 7 (HU ap) (cs.map pairD) r'
   |some (.bk r')=>Z (.nx r')
   |some (.rt d)=>Z (.rt d)
   |none=>J)=_
  rw[hs];exact ih
theorem Vq(hv:Wk.V w){fd:List Int->D}(hf:∀c,Cr w.looks.length c->Z6 [w.d,sG c]=Z (fd c))(he:∀c,Cr w.looks.length c->∀r:HM.Env,r[9]?=Z (Z (.pl (fd c)))->r[4]?=Z (Z (.pl bd))->Cm (tV (sM CB (Za 9) (eC .none))) (wq (tV (sM Gu (Za 4) (eC .none))) (tV (sM wU (Za 9) (Za 4)))) r=Z (en c)){X:List D}(hw:Jy ap [w.d]=Z (.list X))(hb:(bd=.none/\X=((Bs (tp w.looks.length)).foldl (BE en) []).map sG)\/∃m:Int,bd=.int m/\Gb ap [w.d,.int m]=Z (.list (((Bs (tp w.looks.length)).foldl (BE en) []).map sG)))(s5 s6 s7 s8 s9:Option B):∃s5' s6' s7' s8' s9' s10',FD ap [s0,Z (.pl w.d),s2,s3,Z (.pl bd),s5,s6,s7,s8,s9,s10]=Z (.nx [s0,Z (.pl w.d),s2,s3,Z (.pl bd),s5',s6',s7',s8',s9',s10']):=by
 obtain⟨wB,sJ⟩:=U8 hv;have l2:=hv.l2;obtain⟨p6,p7,p8,p9,uy⟩:=yC (s0:=s0) (s2:=s2) (s3:=s3) (s10:=s10) hf l2 he (Bs (tp w.looks.length)) [] s6 s7 s8 s9 wB (λc q=>by cases q) (by rw[Mn];omega);generalize (Bs (tp w.looks.length)).foldl (BE en) []=S at *;refine⟨Z (.pl (.list (S.map sG))),p6,p7,p8,p9,Z (.pl (.list (S.map sG))),?_⟩;unfold FD;refine ZX (P:=λq=>q=_) (r':=[s0,Z (.pl w.d),s2,s3,Z (.pl bd),Z (.ol []),s6,s7,s8,s9,s10]) rfl ?_;refine ZX (P:=λq=>q=_) (r':=[s0,Z (.pl w.d),s2,s3,Z (.pl bd),Z (.ol (S.map sG)),p6,p7,p8,p9,s10]) ?_ ?_
 .have hx:AJ (sU (tJ (Zo 1) (eC (.int 2)))) [s0,Z (.pl w.d),s2,s3,Z (.pl bd),Z (.ol []),s6,s7,s8,s9,s10]=Z (.int w.looks.length):=by
   have hx:tJ (Zo 1) (eC (.int 2)) [s0,Z (.pl w.d),s2,s3,Z (.pl bd),Z (.ol []),s6,s7,s8,s9,s10]=Z (.tuple (w.looks.map sG)):=rfl;generalize tJ (Zo 1) (eC (.int 2))=E at hx ⊢;simp[hx]
  generalize AJ (sU (tJ (Zo 1) (eC (.int 2))))=E at hx ⊢;have hr:uc (N0 (Ce E)) [s0,Z (.pl w.d),s2,s3,Z (.pl bd),Z (.ol []),s6,s7,s8,s9,s10]=Z (.list ((CN 0 w.looks.length).map λ(j:Nat)=>AB (j:Int))):=by
   have hok:vp (w.looks.length:Int)=Aa:=by unfold vp;rw[Hi,Int.natAbs_natCast];omega
   have hrd:D9 0 (w.looks.length:Int).toNat=(CN 0 w.looks.length).map λ(j:Nat)=>AB (j:Int):=by unfold D9;rw[Mi,List.range_eq_range'];exact Fh λk _=>by rw[Int.zero_add]
   have hi:Ce E [s0,Z (.pl w.d),s2,s3,Z (.pl bd),Z (.ol []),s6,s7,s8,s9,s10]=Z ((CN 0 w.looks.length).map λ(j:Nat)=>AB (j:Int)):=by unfold Ce;rw[hx];dsimp only;rw[if_pos hok,hrd]
   unfold uc N0;rw[hi];dsimp only;rw[if_pos (by rw[Af,Pa];show _<1000000;omega)];rfl
  generalize uc (N0 (Ce E))=E2 at hr ⊢;have hs:=kJ l2;have hi:ZD (sU (Zj JE (Zb E2 Zh))) [s0,Z (.pl w.d),s2,s3,Z (.pl bd),Z (.ol []),s6,s7,s8,s9,s10]=Z ((Bs (tp w.looks.length)).map pairD):=by
   have:Zj JE (Zb E2 Zh) [s0,Z (.pl w.d),s2,s3,Z (.pl bd),Z (.ol []),s6,s7,s8,s9,s10]=Z (.list ((Bs (tp w.looks.length)).map pairD)):=by unfold Zj Zb;rw[hr];exact hs
   unfold ZD sU;rw[this];rfl
  unfold Xr;rw[hi];dsimp only;rw[if_pos (by rw[Af];show _<1000000;omega)];exact uy
 refine ZX (P:=λq=>q=_) (r':=[s0,Z (.pl w.d),s2,s3,Z (.pl bd),Z (.ol (S.map sG)),p6,p7,p8,p9,Z (.pl (.list X))]) ?_ ?_
 .have:Zj (Jy ap) (Zb (Za 1) Zh) [s0,Z (.pl w.d),s2,s3,Z (.pl bd),Z (.ol (S.map sG)),p6,p7,p8,p9,s10]=Z (.list X):=hw
  unfold Z2;rw[this];rfl
 refine ZX (P:=λq=>q=_) (r':=[s0,Z (.pl w.d),s2,s3,Z (.pl bd),Z (.ol (S.map sG)),p6,p7,p8,p9,Z (.pl (.list (S.map sG)))]) ?_ ?_
 .rcases hb with⟨rfl,rfl⟩|⟨m,rfl,hm⟩
  .exact if_false rfl
  .have:Zj (Gb ap) (Zb (Za 1) (Zb (Za 4) Zh)) [s0,Z (.pl w.d),s2,s3,Z (.pl (.int m)),Z (.ol (S.map sG)),p6,p7,p8,p9,Z (.pl (.list X))]=Z (.list (S.map sG)):=hm
   show Z2 10 (Zj (Gb ap) (Zb (Za 1) (Zb (Za 4) Zh))) [s0,Z (.pl w.d),s2,s3,Z (.pl (.int m)),Z (.ol (S.map sG)),p6,p7,p8,p9,Z (.pl (.list X))]=_;unfold Z2;rw[this];rfl
 .show tQ _ _ AN [s0,Z (.pl w.d),s2,s3,Z (.pl bd),Z (.pl (.list (S.map sG))),p6,p7,p8,p9,Z (.pl (.list (S.map sG)))]=_
  refine if_false ?_;have h1:tV (sM zO (Za 10) (Za 5)) [s0,Z (.pl w.d),s2,s3,Z (.pl bd),Z (.pl (.list (S.map sG))),p6,p7,p8,p9,Z (.pl (.list (S.map sG)))]=Z Ab:=MJ rfl rfl (i8 (Ni S) (by decide));generalize tV (sM zO (Za 10) (Za 5))=E at h1 ⊢;show E [s0,Z (.pl w.d),s2,s3,Z (.pl bd),Z (.pl (.list (S.map sG))),p6,p7,p8,p9,Z (.pl (.list (S.map sG)))]=_;exact h1
end
def Fu(c:Int):List D:=[.none,.int (-1),.int 1000,.bool Aa,.str (C8 "3"),.list [.int 3],.int (1000+c%9),.bool Ab]
theorem i6:∀b∈Fu c,w6 b/\DG b 0 999=Ab:=by
 have h:=Pc c (b:=9) (by decide);intro b hb;simp only[Fu,AE,Ue,or_false]at hb;rcases hb with rfl|rfl|rfl|rfl|rfl|rfl|rfl|rfl
 .exact⟨trivial,rfl⟩
 .exact⟨trivial,by decide⟩
 .exact⟨trivial,by decide⟩
 .exact⟨trivial,rfl⟩
 .exact⟨trivial,rfl⟩
 .exact⟨trivial,rfl⟩
 .refine⟨trivial,?_⟩
  show(decide _&&decide _)=Ab;rw[decide_eq_false (show ¬(1000+c%9<=(999:Int)) by omega),TN]
 .exact⟨trivial,rfl⟩
theorem Ny{sc:Option B}{rest:HM.Env}{ns:List Int}{k j:Int}(xN:sc=Z (.pl (.list (ns.map dI))))(h:ZE [.list (ns.map dI),.int k]=Z (.int c))(hj:0<j):sM CQ (Zj ZE (Zb (Za 0) (Zb (eC (.int k)) Zh))) (eC (.int j)) (sc::rest)=Z (.int (c%j)):=by
 have hy:Zj ZE (Zb (Za 0) (Zb (eC (.int k)) Zh)) (sc::rest)=Z (.int c):=by rw[xN];exact h
 unfold sM;rw[hy];show(if(0:Int)<j then Z (AB (c%j))else J)=_;rw[if_pos hj]
theorem Yt(ns:List Int)(h:ns.length<=63):HK ap [.list (ns.map dI)]=Z (.bool Aa):=by
 have hok:=c5 ns 2;have hv:=Wk.Ok.v hok;have h5:(zq ns 2).many<=5:=(M6 ns 2).2;have hw:=ig ns 2 h;have hc0:=GI ns 0;have yp:=GI ns 1;generalize zq ns 2=w at *;have h7:w.many<=7:=by omega
 have l2:=hv.l2;have hw':FT [.list (ns.map dI),.int 2]=Z w.d:=hw;have hc0':ZE [.list (ns.map dI),.int 0]=Z (.int (Zx ns 0)):=hc0;have hc1':ZE [.list (ns.map dI),.int 1]=Z (.int (Zx ns 1)):=yp;generalize Zx ns 0=c0 at *;generalize Zx ns 1=c1 at *;show Av (Qj ap [Z (.pl (.list (ns.map dI))),J,J,J,J,J,J,J,J,J,J])=_;unfold Qj;refine ZX (P:=λq=>Av q=_) (r':=[Z (.pl (.list (ns.map dI))),Z (.pl w.d),J,J,J,J,J,J,J,J,J]) (by simp[hw']) ?_;generalize xN:(Z (.pl (.list (ns.map dI))):Option B)=sc;have m0:∀rest,sM CQ (Zj ZE (Zb (Za 0) (Zb (eC (.int 0)) Zh))) (eC (.int 6)) (sc::rest)=Z (.int (c0%6)):=λrest=>Ny xN.symm hc0' (by decide);have m1:∀rest,sM CQ (Zj ZE (Zb (Za 0) (Zb (eC (.int 1)) Zh))) (eC (.int 7)) (sc::rest)=Z (.int (c1%7)):=λrest=>Ny xN.symm hc1' (by decide);have m2:∀rest,sM CQ (Zj ZE (Zb (Za 0) (Zb (eC (.int 1)) Zh))) (eC (.int 8)) (sc::rest)=Z (.int (c1%8)):=λrest=>Ny xN.symm hc1' (by decide);have m3:∀rest,sM CQ (Zj ZE (Zb (Za 0) (Zb (eC (.int 1)) Zh))) (eC (.int 9)) (sc::rest)=Z (.int (c1%9)):=λrest=>Ny xN.symm hc1' (by decide);generalize sM CQ (Zj ZE (Zb (Za 0) (Zb (eC (.int 0)) Zh))) (eC (.int 6))=G0 at m0 ⊢;generalize sM CQ (Zj ZE (Zb (Za 0) (Zb (eC (.int 1)) Zh))) (eC (.int 7))=G1 at m1 ⊢;generalize sM CQ (Zj ZE (Zb (Za 0) (Zb (eC (.int 1)) Zh))) (eC (.int 8))=G2 at m2 ⊢;generalize sM CQ (Zj ZE (Zb (Za 0) (Zb (eC (.int 1)) Zh))) (eC (.int 9))=G3 at m3 ⊢;have ht:tV (sM tT G0 (eC (.int 5))) [sc,Z (.pl w.d),J,J,J,J,J,J,J,J,J]=Z (c0%6==5):=MJ (m0 _) rfl (eZ _ _);generalize tV (sM tT G0 (eC (.int 5)))=C0 at ht ⊢;cases hq:(c0%6==5)with
 |true =>
  rw[hq]at ht;generalize hG6:tJ (AY (Zb (eC .none) (Zb (eC (.int (-1))) (Zb (eC (.int 1000)) (Zb (eC (.bool Aa)) (Zb (eC (.str (C8 "3"))) (Zb (uc (AY (Zb (eC (.int 3)) Zh))) (Zb (sM A4 (eC (.int 1000)) G3) (Zb (eC (.bool Ab)) Zh))))))))) G2=G6;obtain⟨b,hb,zF⟩:∃b,b∈Fu c1/\G6 [sc,Z (.pl w.d),J,J,J,J,J,J,J,J,J]=Z b:=by
   have xA:0<=c1%8:=Pc _ (by decide);have hm1:c1%8<8:=T7 _ (by decide);have sJ:(Fu c1).length=8:=rfl;have hj:(c1%8).toNat<(Fu c1).length:=by rw[sJ];omega
   refine⟨(Fu c1)[(c1%8).toNat],Gk hj,?_⟩;rw[<-hG6];have ha:sM A4 (eC (.int 1000)) G3 [sc,Z (.pl w.d),J,J,J,J,J,J,J,J,J]=Z (.int (1000+c1%9)):=by unfold sM;rw[m3];rfl
   generalize sM A4 (eC (.int 1000)) G3=G4 at ha ⊢;have hf:AY (Zb (eC .none) (Zb (eC (.int (-1))) (Zb (eC (.int 1000)) (Zb (eC (.bool Aa)) (Zb (eC (.str (C8 "3"))) (Zb (uc (AY (Zb (eC (.int 3)) Zh))) (Zb G4 (Zb (eC (.bool Ab)) Zh)))))))) [sc,Z (.pl w.d),J,J,J,J,J,J,J,J,J]=Z (.ol (Fu c1)):=by simp[ha,Fu]
   generalize AY (Zb (eC .none) (Zb (eC (.int (-1))) (Zb (eC (.int 1000)) (Zb (eC (.bool Aa)) (Zb (eC (.str (C8 "3"))) (Zb (uc (AY (Zb (eC (.int 3)) Zh))) (Zb G4 (Zb (eC (.bool Ab)) Zh))))))))=G5 at hf ⊢;generalize Fu c1=BL at *;unfold tJ;rw[hf,m2];show vE BL (c1%8)=_;unfold vE wu;rw[if_pos xA,if_pos (by omega)];exact A2 hj
  obtain⟨nd,hn⟩:=i6 b hb;have htd:=d7 hv nd hn;have hg:IZ (.list [.bool Aa,.bool Aa]) (.list [.bool Aa,.bool Aa])=Z (.bool Aa):=by
   have hp:C2 (.list [.bool Aa,.bool Aa])=Aa:=by decide +kernel
   have hl:(PyData.list [.bool Aa,.bool Aa]).canLay0=Aa:=rfl;have he:BR (.list [.bool Aa,.bool Aa]) (.list [.bool Aa,.bool Aa])=Aa:=by decide +kernel
   unfold IZ;rw[hl,hp,he];rfl
  have h1:Z2 2 G6 [sc,Z (.pl w.d),J,J,J,J,J,J,J,J,J]=Z (.nx [sc,Z (.pl w.d),Z (.pl b),J,J,J,J,J,J,J,J]):=by unfold Z2;rw[zF];rfl
  have h2:Zj (Il ap) (Zb (Za 1) (Zb (Za 2) Zh)) [sc,Z (.pl w.d),Z (.pl b),J,J,J,J,J,J,J,J]=Z (.list [.bool Aa,.bool Aa]):=htd;have h3:ZF (sM IZ (Zj (Il ap) (Zb (Za 1) (Zb (Za 2) Zh))) (uc (AY (Zb (eC (.bool Aa)) (Zb (eC (.bool Aa)) Zh))))) [sc,Z (.pl w.d),Z (.pl b),J,J,J,J,J,J,J,J]=Z (.rt (.bool Aa)):=by unfold ZF sM;rw[h2];show DC vW.rt (IZ (.list [.bool Aa,.bool Aa]) (.list [.bool Aa,.bool Aa]))=_;rw[hg];rfl
  generalize ZF (sM IZ (Zj (Il ap) (Zb (Za 1) (Zb (Za 2) Zh))) (uc (AY (Zb (eC (.bool Aa)) (Zb (eC (.bool Aa)) Zh)))))=R3 at h3 ⊢;have h4:tQ C0 (Zq (Z2 2 G6) R3) AN [sc,Z (.pl w.d),J,J,J,J,J,J,J,J,J]=Z (.rt (.bool Aa)):=by unfold tQ;rw[ht];exact ZX (P:=λq=>q=_) h1 h3
  generalize tQ C0 (Zq (Z2 2 G6) R3) AN=R4 at h4 ⊢;unfold Zq;rw[h4];rfl
 |false =>
  rw[hq]at ht;refine ZX (P:=λq=>Av q=_) (if_false ht) ?_;have xA:0<=c1%7:=Pc _ (by decide);have hm1:c1%7<7:=T7 _ (by decide);generalize c1%7=m at *;refine ZX (P:=λq=>Av q=_) (r':=[sc,Z (.pl w.d),J,Z (.pl (.int m)),J,J,J,J,J,J,J]) (by unfold Z2;rw[m1];rfl) ?_;obtain⟨fd,wN⟩:=cy hv h7;have hf:∀c,Cr w.looks.length c->Z6 [w.d,sG c]=Z (fd c):=λc hc=>(wN c hc).2.1;have e1:∀c,Cr w.looks.length c->∀r:HM.Env,r[9]?=Z (Z (.pl (fd c)))->r[4]?=Z (Z (.pl (.int m)))->Cm (tV (sM CB (Za 9) (eC .none))) (wq (tV (sM Gu (Za 4) (eC .none))) (tV (sM wU (Za 9) (Za 4)))) r=Z (vT (fd c) m):=λc hc r r9 r4=>by
   have f:=(wN c hc).2.2;generalize fd c=d at *;rcases f with⟨n,rfl,hn,hm⟩|⟨rfl,hn⟩
   .simp[r9,r4,vT]
   .simp[r9,r4,vT]
  have e2:∀c,Cr w.looks.length c->∀r:HM.Env,r[9]?=Z (Z (.pl (fd c)))->r[4]?=Z (Z (.pl .none))->Cm (tV (sM CB (Za 9) (eC .none))) (wq (tV (sM Gu (Za 4) (eC .none))) (tV (sM wU (Za 9) (Za 4)))) r=Z (vT (fd c) 999):=λc hc r r9 r4=>by
   have f:=(wN c hc).2.2;generalize fd c=d at *;rcases f with⟨n,rfl,hn,hm⟩|⟨rfl,hn⟩
   .have hs:=jD hv h7 hc (n:=n) (.inl ⟨n,rfl,hn,hm⟩)
    have e:decide ((n:Int)<=999)=Aa:=decide_eq_true (by omega);simp[r9,r4,vT];omega
   .simp[r9,r4,vT]
  have hwa:=lN hv wN;have hwm:=Rg hv wN xA (show m<=999 by omega);obtain⟨a5,a6,a7,a8,a9,a10,t1⟩:=Vq (s0:=sc) (s2:=J) (s3:=Z (.pl (.int m))) (s10:=J) hv hf e1 hwa (.inr ⟨m,rfl,hwm⟩) J J J J J;obtain⟨b5,b6,b7,b8,b9,b10,t2⟩:=Vq (s0:=sc) (s2:=J) (s3:=Z (.pl (.int m))) (s10:=a10) hv hf e2 hwa (.inl ⟨rfl,rfl⟩) a5 a6 a7 a8 a9;refine ZX (P:=λq=>Av q=_) (r':=[sc,Z (.pl w.d),J,Z (.pl (.int m)),Z (.pl .none),b5,b6,b7,b8,b9,b10]) ?_ rfl;have hi:ZD (sU (Br (Zb (Za 3) (Zb (eC .none) Zh)))) [sc,Z (.pl w.d),J,Z (.pl (.int m)),J,J,J,J,J,J,J]=Z [.int m,.none]:=rfl;unfold AR;rw[hi];dsimp only;rw[if_pos (by show(2:Nat)<1000000;decide)];show(match FD ap [sc,Z (.pl w.d),J,Z (.pl (.int m)),Z (.pl (.int m)),J,J,J,J,J,J]with
   |some (.nx r')=>ZN 4 (FD ap) [.none] r'
   |some (.ct r')=>ZN 4 (FD ap) [.none] r'
   |some (.bk r')=>Z (.nx r')
   |some (.rt d)=>Z (.rt d)
   |none=>J)=_
  rw[t1];show(match FD ap [sc,Z (.pl w.d),J,Z (.pl (.int m)),Z (.pl .none),a5,a6,a7,a8,a9,a10]with
   |some (.nx r')=>ZN 4 (FD ap) [] r'
   |some (.ct r')=>ZN 4 (FD ap) [] r'
   |some (.bk r')=>Z (.nx r')
   |some (.rt d)=>Z (.rt d)
   |none=>J)=_
  rw[t2];rfl
end
end HG16
namespace HT
open PySem PySem.Spec PyProof.Rows L2 HP HM
open HG
open HG4
open HG5
open HG17
open HG16
variable{Tl c f:Addr}{vo:Array (Option Value)}{fd:FuncData}{h:Heap}{ps:List Str}{an od:Option Addr}{x:Str}{sO ct ui oc pm:Value}
def tH(i:Nat):Stmt:=PySem.Challenge.pw_halfseen_k16_weakest_looks.main.body.getD i (.Pass ⟨0,0,0,0⟩)
abbrev SK:Stmt:=tH 10
abbrev Ru:Stmt:=tH 11
abbrev SJ:Stmt:=tH 12
abbrev NX:Stmt:=tH 13
abbrev NW:Stmt:=tH 14
abbrev Oq:Stmt:=tH 15
abbrev Oo:Stmt:=tH 16
abbrev Sk:Stmt:=tH 17
abbrev SI:Stmt:=tH 18
abbrev Sj:Stmt:=tH 19
abbrev Si:Stmt:=tH 20
abbrev Sh:Stmt:=tH 21
abbrev RV:Stmt:=tH 22
abbrev RU:Stmt:=tH 23
abbrev Tp:Stmt:=tH 24
abbrev SH:Stmt:=tH 25
abbrev NV:Stmt:=tH 26
abbrev OJ:Stmt:=tH 28
abbrev Oj:Stmt:=tH 29
abbrev Rt:Stmt:=tH 30
abbrev NA:Stmt:=tH 31
abbrev N9:Stmt:=tH 32
abbrev JI:Stmt:=tH 34
abbrev Tr:Stmt:=tH 35
abbrev Lv:Stmt:=tH 36
abbrev Th:Stmt:=tH 37
abbrev Ju:Stmt:=tH 38
abbrev OG:Stmt:=tH 39
abbrev Om:Stmt:=tH 40
abbrev Z1:Stmt:=tH 41
abbrev N8:Stmt:=tH 42
abbrev SG:Stmt:=tH 43
abbrev Rr:Stmt:=tH 44
abbrev ZO:Stmt:=tH 47
abbrev OC:Stmt:=tH 48
abbrev SE:Stmt:=tH 49
abbrev OI:Stmt:=tH 50
abbrev RT:Stmt:=tH 51
abbrev ON:Stmt:=tH 52
abbrev Sg:Stmt:=tH 54
abbrev RS:Stmt:=tH 55
abbrev OB:Stmt:=tH 56
abbrev Sf:Stmt:=tH 57
abbrev Se:Stmt:=tH 58
abbrev OA:Stmt:=tH 59
abbrev RR:Stmt:=tH 60
abbrev LB:Stmt:=tH 61
abbrev Jx:Stmt:=tH 62
abbrev Oz:Stmt:=tH 63
abbrev SD:Stmt:=tH 64
abbrev OM:Stmt:=tH 65
abbrev Oi:Stmt:=tH 66
abbrev LP:Stmt:=tH 67
abbrev Sd:Stmt:=tH 68
abbrev Gz:Stmt:=tH 69
structure sR(K:Ae)(mg:Str->Option Value)(x:Str)(st:Stmt)(ps:List Str):Prop where
 ex:∃f fd,vF K x x st f fd/\mg x=Z (.ref f)/\Binds K fd ps []
structure tw(K:Ae)(mg:Str->Option Value):Prop where
 n_len:mg "len"=J
 n_tuple:mg "tuple"=J
 n_list:mg "list"=J
 n_set:mg "set"=J
 n_sorted:mg "sorted"=J
 n_range:mg "range"=J
 n_all:mg "all"=J
 n_any:mg "any"=J
 n_isinstance:mg "isinstance"=J
 n_int:mg "int"=J
 n_bool:mg "bool"=J
 n_max:mg "max"=J
 n_min:mg "min"=J
 c_MOST_STATES:∃t,mg "MOST_STATES"=Z (.int 8 t)
 c_MOST_DEEDS:∃t,mg "MOST_DEEDS"=Z (.int 5 t)
 c_MOST_LOOKS:∃t,mg "MOST_LOOKS"=Z (.int 4 t)
 c_MOST_SEEN:∃t,mg "MOST_SEEN"=Z (.int 9 t)
 c_MOST_NUMBER:∃t,mg "MOST_NUMBER"=Z (.int 999 t)
 n_ValueError:mg "ValueError"=J
 x_BadNumber:MB K mg "SeenError" "BadNumber"
section
variable[FX]{P:Program}{w:World}{K:Ae}{mg:Str->Option Value}{base:Heap}{k:Nat}
set_option maxHeartbeats 8000000
theorem tI{N:List Str}{sc:Scope}(a:sc.kind=.function:=by rfl)(b:sc.isCoroutine=Ab:=by rfl)(c:sc.isGenerator=Ab:=by rfl)(d:N.Nodup:=by decide +kernel)(e:N.take ps.length=ps:=by rfl)(f:∀x∈ps,sc.names.lookup x=Z .local\/sc.names.lookup x=Z .cell:=by decide +kernel)(g:∀y∈sc.names,y.2≠.free:=by decide +kernel):Zs N ps sc:=⟨a,b,c,d,e,f,g⟩
theorem sR.ok{x:Str}{st:Stmt}{N ps:List Str}{g:HM.SF}(D:sR K mg x st ps)(S:Zs N ps (Ze st))(body:∀(f:Addr) (sO:Value) (A:Around) (outer:List PySem.Env) (s:Shared) (H:Hp) (E:XK),ZP k (A.deeper (envOfC x (Ze st) s.heap.objs.size f sO))->vV (CO vd P w K mg base N x (Ze st) f sO A outer s H E).nox (BU st) g):Callee P w K mg base (k+1) x (HM.fnOf ps.length N.length g):=by obtain⟨f,fd,F,m,b⟩:=D.ex;exact jQ F S m b (body f)
theorem sX{j:Nat}{M:List PyData->Option PyData}(C:Callee P w K mg base j x M)(h:j<=k:=by decide):Callee P w K mg base k x M:=C.mono h
theorem dF:Jp (DW ZO) "choice" []:=⟨rfl,rfl,rfl,by decide +kernel,rfl,by decide +kernel,by decide +kernel⟩
theorem dG(T:tw K mg)(qual:Str)(f:Addr)(cd:Value)(sN:List (Str×Addr))(A:Around)(outer:List PySem.Env)(s:Shared)(H:Hp)(hr:ZP k (A.deeper (Ge qual (DW ZO) s.heap.objs.size f cd sN))):XE (Hz P w K mg base ["choice"] qual (DW ZO) f cd sN A outer s H) (IV ZO) (Br (Zb (AJ (Zo 0)) (Zb (Za 0) Zh))):=by
 have hu:=DI hr;exact(CT (Zd (B1 T.n_len (Zr 0)) (Zd (Zc 0) Zg)))
theorem nQ:Zs ["_law_script","_law_k"] ["_law_script","_law_k"] (Ze Sg):=tI
theorem nO(T:tw K mg)(D:sR K mg "_law_cell" Sg ["_law_script","_law_k"]):Callee P w K mg base (k+1) "_law_cell" ZE :=
 D.ok nQ λ_ sO A outer s H E hr=>by
  exact(Zf (A5 (Ba zR (Zc 1) (B1 T.n_len (Zr 0))) (Zi (Zw (AL (Zr 0) (Zc 1)))) Z0)
  (Zi (Zw Zl)))
theorem mG:Zs ["_law_cell_here","_law_prime","_law_many"] ["_law_cell_here","_law_prime","_law_many"] (Ze RS):=tI
theorem mF(T:tw K mg)(D:sR K mg "_law_mix" RS ["_law_cell_here","_law_prime","_law_many"]):Callee P w K mg base (k+1) "_law_mix" ZV :=
 D.ok mG λ_ sO A outer s H E hr=>by exact(Zi (Zw (ZI wF (ZI wF (ZI DZ (Zc 0) Zl) (Zc 1)) (Zc 2))))
abbrev SR:List Str:=["_law_cell_here","_law_many","_law_least","_law_found"]
theorem Tg:Zs SR ["_law_cell_here","_law_many","_law_least"] (Ze OB):=tI
theorem ou(T:tw K mg)(ZW:Callee P w K mg base k "_law_mix" ZV)(D:sR K mg "_law_crowd" OB ["_law_cell_here","_law_many","_law_least"]):Callee P w K mg base (k+1) "_law_crowd" Ik :=
 D.ok Tg λ_ sO A outer s H E hr=>by
  exact(Zf (Lr 3 Tg.nd rfl rfl (N:="_law_state" :: SR) (ZC (sc:=Ze OB) (XN:=SR)) (FH T.n_range (Zc 1)) (λ_ _ _ _ _=>(Et (Ba zR (Zk ZW hr (Zd (ZI Bq (ZI Bq (Zc 1) (ZI DZ (ZI DZ Zl (Zc 0)) (Zc 0))) (ZI DZ Zl (Zc 0))) (Zd Zl (Zd Zl Zg)))) Zl))) (λ_ _ _ _ _=>(Zc 0)))
  (Zf (A5 (Ba zR (B1 T.n_len (Zr 3)) (Zc 2)) (Zi (Z8 3 Tg.nd (BH (Zd (Zk ZW hr (Zd (Zc 0) (Zd Zl (Zd (Zc 1) Zg)))) Zg)))) Z0)
  (Zi (Zw (CZ T.n_tuple (Zr 3))))))
theorem JH:Zs ["_law_cell_here","_law_many","_law_found","_law_state","_law_seed","_law_way","_law_row"] ["_law_cell_here","_law_many"] (Ze Sf):=tI
theorem nN(T:tw K mg)(ZW:Callee P w K mg base k "_law_mix" ZV)(D:sR K mg "_law_deed" Sf ["_law_cell_here","_law_many"]):Callee P w K mg base (k+1) "_law_deed" Lk :=
 D.ok JH λ_ sO A outer s H E hr=>by
  have hu:=DI hr;exact(Zf (Z8 2 JH.nd (BH Zg))
  (Zf (BG 3 JH.nd rfl rfl (FH T.n_range (Zc 1)) (Zf (ZS 4 JH.nd (ZI Bq (ZI Bq (Zc 0) (ZI DZ (ZI DZ Zl (Zc 3)) (Zc 3))) (ZI DZ Zl (Zc 3))))
  (Zf (ZS 5 JH.nd (Zk ZW hr (Zd (Zc 4) (Zd Zl (Zd Zl Zg)))))
  (Zf (Z8 6 JH.nd (jW (Zk ZW hr (Zd (Zc 4) (Zd Zl (Zd (Zc 1) Zg)))) Co))
  (Zf (A5 (Ba zR (Zc 5) Zl) (Zi (HL hu 6 (Zk ZW hr (Zd (Zc 4) (Zd Zl (Zd (Zc 1) Zg)))) Co)) Z0)
  (Zf (GV 2 (CZ T.n_tuple (A7 (NC T.n_sorted rfl (Zr 6)))))
  (Zi (A5 (Ba (wD hr) (Zc 5) Zl) (Zi (gR 2 VI (CT Zg))) Z0))))))))
  (Zi (Zw (CZ T.n_tuple (Zr 2))))))
theorem Ih:Zs ["_law_cell_here","_law_many","_law_left","_law_right","_law_state","_law_ahead","_law_behind","_law_slips"] ["_law_cell_here","_law_many"] (Ze Se):=tI
theorem nM(T:tw K mg)(ZW:Callee P w K mg base k "_law_mix" ZV)(D:sR K mg "_law_walk" Se ["_law_cell_here","_law_many"]):Callee P w K mg base (k+1) "_law_walk" Lj :=
 D.ok Ih λ_ sO A outer s H E hr=>by
  exact(Zf (Z8 2 Ih.nd (BH Zg))
  (Zf (Z8 3 Ih.nd (BH Zg))
  (Zf (BG 4 Ih.nd rfl rfl (FH T.n_range (Zc 1)) (Zf (ZS 5 Ih.nd (fD T.n_max rfl (ZI PU (Zc 4) Zl) Zl))
  (Zf (ZS 6 Ih.nd (fC T.n_min rfl (ZI Bq (Zc 4) Zl) (ZI PU (Zc 1) Zl)))
  (Zf (ZS 7 Ih.nd (HQ (wD hr) (Zk ZW hr (Zd (ZI Bq (Zc 0) (ZI DZ Zl (Zc 4))) (Zd Zl (Zd Zl Zg)))) Zl))
  (Zf (GV 2 (CZ T.n_tuple (A7 (av T.n_sorted T.n_set rfl (A7 (MZ (A7 (BH (Zd (Zc 5) Zg))) (A7 (fB (A7 (BH (Zd (Zc 4) Zg))) (jX T.n_int (Zc 7))))))))))
  (Zi (GV 3 (CT (Zd (Zc 6) Zg)))))))))
  (Zi (Zw (CT (Zd (CZ T.n_tuple (Zr 2)) (Zd (CZ T.n_tuple (Zr 3)) Zg))))))))
abbrev R8:List Str:=["_law_script","_law_at","_law_cell_here","_law_many","_law_deeds","_law_k","_law_looks","_law_seed","_law_most","_law_begin","_law_goal"]
theorem Dw:Zs R8 ["_law_script","_law_at"] (Ze OA):=tI
theorem oq(T:tw K mg)(Du:Callee P w K mg base k "_law_cell" ZE)(Oy:Callee P w K mg base k "_law_crowd" Ik)(ZW:Callee P w K mg base k "_law_mix" ZV)(Sb:Callee P w K mg base k "_law_deed" Lk)(Sa:Callee P w K mg base k "_law_walk" Lj)(D:sR K mg "_law_works" OA ["_law_script","_law_at"]):Callee P w K mg base (k+1) "_law_works" FT :=
 D.ok Dw λ_ sO A outer s H E hr=>by
  exact(Zf (ZS 2 Dw.nd (Zk Du hr (Zd (Zc 0) (Zd (Zc 1) Zg))))
  (Zf (ZS 3 Dw.nd (ZI Bq Zl (Zk ZW hr (Zd (Zc 2) (Zd Zl (Zd Zl Zg))))))
  (Zf (A5 (Ba zS (B1 T.n_len (Zr 0)) Zl) (Zi (ZS 3 Dw.nd (ZI Bq Zl (Zk ZW hr (Zd (Zc 2) (Zd Zl (Zd Zl Zg))))))) Z0)
  (Zf (Z8 4 Dw.nd (BH Zg))
  (Zf (BG 5 Dw.nd rfl rfl (FH T.n_range (ZI Bq Zl (Zk ZW hr (Zd (Zc 2) (Zd Zl (Zd Zl Zg)))))) (Zi (GV 4 (Zk Sb hr (Zd (ZI Bq (Zk Du hr (Zd (Zc 0) (Zd (ZI Bq (ZI Bq (Zc 1) Zl) (Zc 5)) Zg))) (ZI DZ Zl (Zc 5))) (Zd (Zc 3) Zg))))))
  (Zf (A5 (Ba (wD hr) (Zk ZW hr (Zd (Zc 2) (Zd Zl (Zd Zl Zg)))) Zl) (Zi (Z8 4 Dw.nd (MZ (A7 (Rw T.n_list (BW (Zk Sa hr (Zd (Zk Du hr (Zd (Zc 0) (Zd (ZI Bq (Zc 1) Zl) Zg))) (Zd (Zc 3) Zg)))))) (A7 (fA (Zr 4) eS (gY Zl)))))) Z0)
  (Zf (Z8 6 Dw.nd (BH Zg))
  (Zf (BG 5 Dw.nd rfl rfl (FH T.n_range (Zk ZW hr (Zd (Zc 2) (Zd Zl (Zd Zl Zg))))) (Zf (ZS 7 Dw.nd (ZI Bq (Zk Du hr (Zd (Zc 0) (Zd (ZI Bq (ZI Bq (Zc 1) Zl) (Zc 5)) Zg))) (ZI DZ Zl (Zc 5))))
  (Zf (ZS 8 Dw.nd (ZI Bq Zl (Zk ZW hr (Zd (Zc 7) (Zd Zl (Zd Zl Zg))))))
  (Zi (GV 6 (CZ T.n_tuple (A7 (Bt rfl rfl (N:="_law_state" :: R8) (ZC (sc:=Ze OA) (XN:=R8)) (FH T.n_range (Zc 3)) (λ_ _ _ _ _=>By) (λ_ _ _ _ _=>(Zk ZW hr (Zd (ZI Bq (Zc 8) (ZI DZ (ZI DZ Zl (Zc 0)) (Zc 0))) (Zd Zl (Zd (Zc 9) Zg)))))))))))))
  (Zf (ZS 9 Dw.nd (Zk Oy hr (Zd (Zk Du hr (Zd (Zc 0) (Zd (ZI Bq (Zc 1) Zl) Zg))) (Zd (Zc 3) (Zd Zl Zg)))))
  (Zf (A5 (Ba (wD hr) (Zk ZW hr (Zd (Zc 2) (Zd Zl (Zd Zl Zg)))) Zl) (Zi (ZS 9 Dw.nd (YX T.n_tuple T.n_range rfl (Zc 3)))) Z0)
  (Zf (ZS 10 Dw.nd (Zk Oy hr (Zd (Zk Du hr (Zd (Zc 0) (Zd (ZI Bq (Zc 1) Zl) Zg))) (Zd (Zc 3) (Zd Zl Zg)))))
  (Zi (Zw (CT (Zd (Zc 3) (Zd (CZ T.n_tuple (Zr 4)) (Zd (CZ T.n_tuple (Zr 6)) (Zd (Zc 9) (Zd (Zc 10) Zg)))))))))))))))))))
abbrev LS:List Str:=["_law_some","_law_found","_law_one"]
theorem OE:Zs LS ["_law_some"] (Ze LP):=tI
theorem pk(T:tw K mg)(D:sR K mg "_law_subsets" LP ["_law_some"]):Callee P w K mg base (k+1) "_law_subsets" JE :=
 D.ok OE λ_ sO A outer s H E hr=>by
  exact(Zf (Z8 1 OE.nd (BH (Zd (CT Zg) Zg)))
  (Zf (BG 2 OE.nd rfl rfl (ZG (Zc 0)) (Zi (CK 1 (Z8 1 OE.nd (V1 (Zr 1) (A7 (Bt rfl rfl (N:="_law_row" :: LS) (ZC (sc:=Ze LP) (XN:=LS)) (ZG (Zc 1)) (λ_ _ _ _ _=>By) (λ_ _ _ _ _=>(Xs (Zc 0) (CT (Zd (Zc 3) Zg)))))))))))
  (Zi (CK 1 (Zw (B9 (kU T.n_sorted rfl hr.units (A7 (Bt rfl rfl (N:="_law_row" :: LS) (ZC (sc:=Ze LP) (XN:=LS)) (ZG (Zc 1)) (λ_ _ _ _ _=>By) (λ_ _ _ _ _=>(CT (Zd (B1 T.n_len (Zr 0)) (Zd (Zc 0) Zg)))))))))))))
theorem oo:Zs ["thing","least","most"] ["thing","least","most"] (Ze SK):=tI
theorem om(T:tw K mg)(D:sR K mg "is_number" SK ["thing","least","most"]):Callee P w K mg base (k+1) "is_number" DO :=
 D.ok oo λ_ sO A outer s H E hr=>by
  exact(Zf (A5 (Gn (Ko (B7 (mL T.n_isinstance T.n_bool (Zc 0))) (KA (DK (B7 (l7 T.n_isinstance T.n_int (Zc 0))))))) (Zi (Zw Co)) Z0)
  (Zi (Zw (Xx zm zm (Zc 1) (Zc 0) (Zc 2)))))
theorem Oh:Zs ["thing","many","least","number"] ["thing","many"] (Ze SJ):=tI
theorem oj(T:tw K mg)(C3:Callee P w K mg base k "is_number" DO)(D:sR K mg "is_rising" SJ ["thing","many"]):Callee P w K mg base (k+1) "is_rising" Dv :=
 D.ok Oh λ_ sO A outer s H E hr=>by
  exact(Zf (A5 (DK (B7 (aw T.n_isinstance T.n_tuple (Zc 0)))) (Zi (Zw Co)) Z0)
  (Zf (ZS 2 Oh.nd Zl)
  (Zf (BG 3 Oh.nd rfl rfl (ZG (Zc 0)) (Zf (A5 (DK (B7 (Zk C3 hr (Zd (Zc 3) (Zd (Zc 2) (Zd (ZI PU (Zc 1) Zl) Zg)))))) (Zi (Zw Co)) Z0)
  (Zi (ZS 2 Oh.nd (ZI Bq (Zc 3) Zl)))))
  (Zi (Zw Co)))))
theorem nL:Zs ["thing","many"] ["thing","many"] (Ze Sk):=tI
theorem nK(T:tw K mg)(Ec:Callee P w K mg base k "is_rising" Dv)(D:sR K mg "is_crowd" Sk ["thing","many"]):Callee P w K mg base (k+1) "is_crowd" Ll :=
 D.ok nL λ_ sO A outer s H E hr=>by exact(Zi (Zw (GA (Zk Ec hr (Zd (Zc 0) (Zd (Zc 1) Zg))) (GB (HQ zS (B1 T.n_len (Zr 0)) Zl)))))
theorem kR:Zs ["thing","least","most"] ["thing","least","most"] (Ze Ru):=tI
theorem kQ(T:tw K mg)(D:sR K mg "is_row" Ru ["thing","least","most"]):Callee P w K mg base (k+1) "is_row" DN :=
 D.ok kR λ_ sO A outer s H E hr=>by exact(Zi (Zw (GA (aw T.n_isinstance T.n_tuple (Zc 0)) (GB (Xx zm zm (Zc 1) (B1 T.n_len (Zr 0)) (Zc 2))))))
theorem mE:Zs ["thing","many"] ["thing","many"] (Ze NX):=tI
theorem mD(T:tw K mg)(C5:Callee P w K mg base k "is_row" DN)(Ec:Callee P w K mg base k "is_rising" Dv)(D:sR K mg "is_deed" NX ["thing","many"]):Callee P w K mg base (k+1) "is_deed" Im :=
 D.ok mE λ_ sO A outer s H E hr=>by exact(Zi (Zw (GA (Zk C5 hr (Zd (Zc 0) (Zd (Zc 1) (Zd (Zc 1) Zg)))) (GB (HN T.n_all rfl (A7 (Bt rfl rfl (N:=["crowd","thing","many"]) (ZC (sc:=Ze NX) (XN:=["thing","many"])) (ZG (Zc 0)) (λ_ _ _ _ _=>By) (λ_ _ _ _ _=>(Zk Ec hr (Zd (Zc 0) (Zd (Zc 2) Zg)))))))))))
theorem oh:Zs ["thing","many"] ["thing","many"] (Ze Oq):=tI
theorem og(T:tw K mg)(C5:Callee P w K mg base k "is_row" DN)(RQ:Callee P w K mg base k "is_deed" Im)(D:sR K mg "are_deeds" Oq ["thing","many"]):Callee P w K mg base (k+1) "are_deeds" LK :=
 D.ok oh λ_ sO A outer s H E hr=>by exact(Zi (Zw (GA (Zk C5 hr (Zd (Zc 0) (Zd Zl (Zd (HV T.c_MOST_DEEDS) Zg)))) (GB (HN T.n_all rfl (A7 (Bt rfl rfl (N:=["deed","thing","many"]) (ZC (sc:=Ze Oq) (XN:=["thing","many"])) (ZG (Zc 0)) (λ_ _ _ _ _=>By) (λ_ _ _ _ _=>(Zk RQ hr (Zd (Zc 0) (Zd (Zc 2) Zg)))))))))))
theorem mC:Zs ["thing","many"] ["thing","many"] (Ze NW):=tI
theorem mB(T:tw K mg)(C5:Callee P w K mg base k "is_row" DN)(C3:Callee P w K mg base k "is_number" DO)(D:sR K mg "is_look" NW ["thing","many"]):Callee P w K mg base (k+1) "is_look" Ig :=
 D.ok mC λ_ sO A outer s H E hr=>by exact(Zi (Zw (GA (Zk C5 hr (Zd (Zc 0) (Zd (Zc 1) (Zd (Zc 1) Zg)))) (GB (HN T.n_all rfl (A7 (Bt rfl rfl (N:=["told","thing","many"]) (ZC (sc:=Ze NW) (XN:=["thing","many"])) (ZG (Zc 0)) (λ_ _ _ _ _=>By) (λ_ _ _ _ _=>(Zk C3 hr (Zd (Zc 0) (Zd Zl (Zd (HV T.c_MOST_SEEN) Zg))))))))))))
theorem n9:Zs ["thing","many"] ["thing","many"] (Ze Oo):=tI
theorem n8(T:tw K mg)(C5:Callee P w K mg base k "is_row" DN)(RP:Callee P w K mg base k "is_look" Ig)(D:sR K mg "are_looks" Oo ["thing","many"]):Callee P w K mg base (k+1) "are_looks" LJ :=
 D.ok n9 λ_ sO A outer s H E hr=>by exact(Zi (Zw (GA (Zk C5 hr (Zd (Zc 0) (Zd Zl (Zd (HV T.c_MOST_LOOKS) Zg)))) (GB (HN T.n_all rfl (A7 (Bt rfl rfl (N:=["look","thing","many"]) (ZC (sc:=Ze Oo) (XN:=["thing","many"])) (ZG (Zc 0)) (λ_ _ _ _ _=>By) (λ_ _ _ _ _=>(Zk RP hr (Zd (Zc 0) (Zd (Zc 2) Zg)))))))))))
theorem Y6:Zs ["thing","many"] ["thing"] (Ze SI):=tI
theorem n6(T:tw K mg)(R9:Callee P w K mg base k "is_crowd" Ll)(Ec:Callee P w K mg base k "is_rising" Dv)(C5:Callee P w K mg base k "is_row" DN)(C3:Callee P w K mg base k "is_number" DO)(SA:Callee P w K mg base k "are_deeds" LK)(Sz:Callee P w K mg base k "are_looks" LJ)(D:sR K mg "are_works" SI ["thing"]):Callee P w K mg base (k+1) "are_works" LI :=
 D.ok Y6 λ_ sO A outer s H E hr=>by
  exact(Zf (A5 (Gn (Ko (DK (B7 (Zk C5 hr (Zd (Zc 0) (Zd Zl (Zd Zl Zg)))))) (KA (DK (B7 (Zk C3 hr (Zd (AL (Zr 0) Zl) (Zd Zl (Zd (HV T.c_MOST_STATES) Zg))))))))) (Zi (Zw Co)) Z0)
  (Zf (ZS 1 Y6.nd (AL (Zr 0) Zl))
  (Zf (A5 (Gn (Ko (DK (B7 (Zk SA hr (Zd (AL (Zr 0) Zl) (Zd (Zc 1) Zg))))) (KA (DK (B7 (Zk Sz hr (Zd (AL (Zr 0) Zl) (Zd (Zc 1) Zg)))))))) (Zi (Zw Co)) Z0)
  (Zi (Zw (GA (Zk R9 hr (Zd (AL (Zr 0) Zl) (Zd (Zc 1) Zg))) (GB (Zk Ec hr (Zd (AL (Zr 0) Zl) (Zd (Zc 1) Zg))))))))))
theorem mz:Zs ["works"] ["works"] (Ze RU):=tI
theorem my(T:tw K mg)(Sy:Callee P w K mg base k "are_works" LI)(D:sR K mg "checked" RU ["works"]):Callee P w K mg base (k+1) "checked" DP :=
 D.ok mz λ_ sO A outer s H E hr=>by
  exact(Zf (A5 (DK (B7 (Zk Sy hr (Zd (Zc 0) Zg)))) (Zi QP) Z0)
  (Zi (Zw (Zc 0))))
theorem nJ:Zs ["works"] ["works"] (Ze Si):=tI
theorem nI(T:tw K mg)(D:sR K mg "looks_of" Si ["works"]):Callee P w K mg base (k+1) "looks_of" FY :=
 D.ok nJ λ_ sO A outer s H E hr=>by exact(Zi (Zw (AL (Zr 0) Zl)))
theorem n5:Zs ["works"] ["works"] (Ze SH):=tI
theorem n4(T:tw K mg)(FW:Callee P w K mg base k "looks_of" FY)(C7:Callee P w K mg base k "checked" DP)(D:sR K mg "all_looks" SH ["works"]):Callee P w K mg base (k+1) "all_looks" Ii :=
 D.ok n5 λ_ sO A outer s H E hr=>by exact(Zi (Zw (YX T.n_tuple T.n_range rfl (B1 T.n_len (BW (Zk FW hr (Zd (Zk C7 hr (Zd (Zc 0) Zg)) Zg)))))))
theorem OD:Zs ["works","found","look"] ["works"] (Ze ZO):=tI
theorem fW:MH ["works","found","look"] (Ze ZO) (DW ZO) [] []=Aa:=by decide +kernel
theorem pj(T:tw K mg)(S1:Callee P w K mg base k "all_looks" Ii)(hc:Fc K c Tl=Aa)(ht:(Tl,("all_choices.<locals>.<lambda>":Str))∈FX.tl)(hq:∀q,(Tl,q)∈FX.tl->q=("all_choices.<locals>.<lambda>":Str))(bm:BMod base mg)(good:∀F p cs,vm K F p (MC ZO) (IV ZO) (DW ZO) [] cs->FX.fv 8 cs F p)(hk:3<=k)(Fn:Ki K "all_choices" "all_choices" ZO f fd c)(hm:mg "all_choices"=Z (.ref f))(hb:Binds K fd ["works"] []):Callee P w K mg base (k+1) "all_choices" Ip :=
 Yo Fn OD hm hb λA outer s H E hr=>by
  exact(Zf (Z8 1 OD.nd (BH (Zd (CT Zg) Zg)))
  (Zf (BG 2 OD.nd rfl rfl (ZG (Zk S1 hr (Zd (Zc 0) Zg))) (Zi (CK 1 (Z8 1 OD.nd (V1 (Zr 1) (A7 (Bt rfl rfl (N:=["choice","works","found","look"]) (ZC (sc:=Ze ZO) (XN:=["works","found","look"])) (ZG (Zc 1)) (λ_ _ _ _ _=>By) (λ_ _ _ _ _=>(Xs (Zc 0) (CT (Zd (Zc 3) Zg)))))))))))
  (Zi (Zw (B9 (mJ (k:=0) T.n_sorted rfl (hr.mono hk) (W8 fW hc ht hq bm good) dF (λ_ _ _ _ _ _=>rfl) (dG T) (by decide +kernel) rfl (Zr 1)))))))
theorem pB:Zs ["works","looks"] ["works","looks"] (Ze Tp):=tI
theorem pA(T:tw K mg)(Ec:Callee P w K mg base k "is_rising" Dv)(FW:Callee P w K mg base k "looks_of" FY)(D:sR K mg "checked_looks" Tp ["works","looks"]):Callee P w K mg base (k+1) "checked_looks" LO :=
 D.ok pB λ_ sO A outer s H E hr=>by
  exact(Zf (A5 (DK (B7 (Zk Ec hr (Zd (Zc 1) (Zd (B1 T.n_len (BW (Zk FW hr (Zd (Zc 0) Zg)))) Zg))))) (Zi QP) Z0)
  (Zi (Zw (Zc 1))))
theorem nH:Zs ["works"] ["works"] (Ze Sh):=tI
theorem nG(T:tw K mg)(D:sR K mg "begin_of" Sh ["works"]):Callee P w K mg base (k+1) "begin_of" Ob :=
 D.ok nH λ_ sO A outer s H E hr=>by exact(Zi (Zw (AL (Zr 0) Zl)))
theorem Y5:Zs ["rows"] ["rows"] (Ze JI):=tI
theorem oV(T:tw K mg)(Fn:vF K "crowds_in" "crowds_in" JI f fd)(hm:mg "crowds_in"=Z (.ref f))(hb:Binds K fd ["rows"] []):GH P w K mg base (k+1) "crowds_in" ZY :=
 j6 Fn Y5 hm hb rfl (λr b h=>iW _ _ _ r b h) λsO A outer s H E hr=>by exact(Bt rfl rfl (N:=["row","rows"]) (ZC (sc:=Ze JI) (XN:=["rows"])) (ZG (Zc 0)) (λ_ _ _ _ _=>By) (λ_ _ _ _ _=>(AL (Zr 0) Zl)))
theorem n0(T:tw K mg)(D:sR K mg "crowds_in" JI ["rows"]):Callee P w K mg base (k+1) "crowds_in" ZY :=
 D.ok Y5 λ_ sO A outer s H E hr=>by exact(Zi (Zw (B9 (Bt rfl rfl (N:=["row","rows"]) (ZC (sc:=Ze JI) (XN:=["rows"])) (ZG (Zc 0)) (λ_ _ _ _ _=>By) (λ_ _ _ _ _=>(AL (Zr 0) Zl))))))
theorem aK:Zs ["rows","costs","known"] ["rows","costs"] (Ze OG):=tI
theorem pz(T:tw K mg)(GX:Callee P w K mg base k "crowds_in" ZY)(D:sR K mg "cost_at_worst" OG ["rows","costs"]):Callee P w K mg base (k+1) "cost_at_worst" Gd :=
 D.ok aK λ_ sO A outer s H E hr=>by
  have hu:=DI hr;exact(Zf (Lr 2 aK.nd rfl rfl (N:=["part","rows","costs","known"]) (ZC (sc:=Ze OG) (XN:=["rows","costs","known"])) (ZG (Zk GX hr (Zd (Zc 0) Zg))) (λ_ _ _ _ _=>(Et (fz hu (Zc 0) (Zr 2)))) (λ_ _ _ _ _=>(KS hu (Zr 2) (Zc 0))))
  (Zi (Zw (U4 (Ba (wD hr) (B1 T.n_len (Zr 2)) (B1 T.n_len (Zr 0))) (Qz T.n_max rfl (Zr 2)) CW))))
theorem Y9:Zs ["way","depths","most"] ["way","depths"] (Ze N8):=tI
theorem nF(T:tw K mg)(JM:Callee P w K mg base k "cost_at_worst" Gd)(D:sR K mg "deeds_by" N8 ["way","depths"]):Callee P w K mg base (k+1) "deeds_by" Lg :=
 D.ok Y9 λ_ sO A outer s H E hr=>by
  exact(Zf (ZS 2 Y9.nd (Zk JM hr (Zd (AL (Zr 0) Zl) (Zd (Zc 1) Zg))))
  (Zi (Zw (U4 (Ba UY (Zc 2) CW) CW (ZI Bq (Zc 2) Zl)))))
theorem mx:Zs ["works","looks","state"] ["works","looks","state"] (Ze NV):=tI
theorem mr(T:tw K mg)(FW:Callee P w K mg base k "looks_of" FY)(D:sR K mg "seen_in" NV ["works","looks","state"]):Callee P w K mg base (k+1) "seen_in" Lq :=
 D.ok mx λ_ sO A outer s H E hr=>by exact(Zi (Zw (CZ T.n_tuple (A7 (Bt rfl rfl (N:=["look","works","looks","state"]) (ZC (sc:=Ze NV) (XN:=["works","looks","state"])) (ZG (Zc 1)) (λ_ _ _ _ _=>By) (λ_ _ _ _ _=>(AL (BW (AL (BW (Zk FW hr (Zd (Zc 1) Zg))) (Zc 0))) (Zc 3))))))))
abbrev Q9:List Str:=["works","looks","crowd","found","state"]
theorem RO:Zs Q9 ["works","looks","crowd"] (Ze NA):=tI
theorem kP(T:tw K mg)(RN:Callee P w K mg base k "seen_in" Lq)(D:sR K mg "parted" NA ["works","looks","crowd"]):Callee P w K mg base (k+1) "parted" Ea :=
 D.ok RO λ_ sO A outer s H E hr=>by
  have hu:=DI hr;exact(Zf (Z8 3 RO.nd VH)
  (Zf (BG 4 RO.nd rfl rfl (ZG (Zc 2)) (Zi (jT hu 3 (Zk RN hr (Zd (Zc 0) (Zd (Zc 1) (Zd (Zc 4) Zg)))) (Zc 4) ⟨rfl,rfl,rfl,rfl⟩)))
  (Zi (Zw (B9 (Bt rfl rfl (N:="seen" :: Q9) (ZC (sc:=Ze NA) (XN:=Q9)) (ZG (B9 (NC T.n_sorted rfl (Zr 3)))) (λ_ _ _ _ _=>By) (λ_ _ _ _ _=>(CT (Zd (Zc 0) (Zd (CZ T.n_tuple (VG hu 4 (Zc 0))) Zg))))))))))
theorem nE:Zs ["works"] ["works"] (Ze Sj):=tI
theorem nX(T:tw K mg)(D:sR K mg "deeds_of" Sj ["works"]):Callee P w K mg base (k+1) "deeds_of" F6 :=
 D.ok nE λ_ sO A outer s H E hr=>by exact(Zi (Zw (AL (Zr 0) Zl)))
theorem aF:Zs ["works","crowd","deed","leads"] ["works","crowd","deed"] (Ze OJ):=tI
theorem ph(T:tw K mg)(FV:Callee P w K mg base k "deeds_of" F6)(D:sR K mg "can_be_done" OJ ["works","crowd","deed"]):Callee P w K mg base (k+1) "can_be_done" LR :=
 D.ok aF λ_ sO A outer s H E hr=>by
  exact(Zf (ZS 3 aF.nd (AL (BW (Zk FV hr (Zd (Zc 0) Zg))) (Zc 2)))
  (Zi (Zw (HN T.n_all rfl (A7 (Bt rfl rfl (N:=["state","works","crowd","deed","leads"]) (ZC (sc:=Ze OJ) (XN:=["works","crowd","deed","leads"])) (ZG (Zc 1)) (λ_ _ _ _ _=>By) (λ_ _ _ _ _=>(HQ zS (B1 T.n_len (BW (AL (Zr 4) (Zc 0)))) Zl))))))))
theorem oU:Zs ["works","crowd"] ["works","crowd"] (Ze Oj):=tI
theorem oT(T:tw K mg)(S6:Callee P w K mg base k "can_be_done" LR)(FV:Callee P w K mg base k "deeds_of" F6)(D:sR K mg "deeds_with" Oj ["works","crowd"]):Callee P w K mg base (k+1) "deeds_with" Ly :=
 D.ok oU λ_ sO A outer s H E hr=>by exact(Zi (Zw (B9 (Bt rfl rfl (N:=["deed","works","crowd"]) (ZC (sc:=Ze Oj) (XN:=["works","crowd"])) (FH T.n_range (B1 T.n_len (BW (Zk FV hr (Zd (Zc 0) Zg))))) (λ_ _ _ _ _=>(Et (B7 (Zk S6 hr (Zd (Zc 1) (Zd (Zc 2) (Zd (Zc 0) Zg))))))) (λ_ _ _ _ _=>(Zc 0))))))
theorem Ls:Zs ["works","crowd","deed","leads","found","state","target"] ["works","crowd","deed"] (Ze Rt):=tI
theorem kO(T:tw K mg)(FV:Callee P w K mg base k "deeds_of" F6)(D:sR K mg "led_to" Rt ["works","crowd","deed"]):Callee P w K mg base (k+1) "led_to" Jt :=
 D.ok Ls λ_ sO A outer s H E hr=>by
  have hu:=DI hr;exact(Zf (ZS 3 Ls.nd (AL (BW (Zk FV hr (Zd (Zc 0) Zg))) (Zc 2)))
  (Zf (Z8 4 Ls.nd bX)
  (Zf (BG 5 Ls.nd rfl rfl (ZG (Zc 1)) (Zi (BG 6 Ls.nd rfl rfl (ZG (AL (Zr 3) (Zc 5))) (Zi (HL hu 4 (Zc 6) Co)))))
  (Zi (Zw (CZ T.n_tuple (A7 (NC T.n_sorted rfl (Zr 4)))))))))
theorem oH:Zs ["works","looks","crowd"] ["works","looks","crowd"] (Ze Om):=tI
theorem oG(T:tw K mg)(FG:Callee P w K mg base k "parted" Ea)(Tf:Callee P w K mg base k "deeds_with" Ly)(Rq:Callee P w K mg base k "led_to" Jt)(D:sR K mg "ways_with" Om ["works","looks","crowd"]):Callee P w K mg base (k+1) "ways_with" FR :=
 D.ok oH λ_ sO A outer s H E hr=>by exact(Zi (Zw (B9 (Bt rfl rfl (N:=["deed","works","looks","crowd"]) (ZC (sc:=Ze Om) (XN:=["works","looks","crowd"])) (ZG (Zk Tf hr (Zd (Zc 0) (Zd (Zc 2) Zg)))) (λ_ _ _ _ _=>By) (λ_ _ _ _ _=>(CT (Zd (Zc 0) (Zd (Zk FG hr (Zd (Zc 1) (Zd (Zc 2) (Zd (Zk Rq hr (Zd (Zc 1) (Zd (Zc 3) (Zd (Zc 0) Zg)))) Zg)))) Zg))))))))
abbrev Lu:List Str:=["ways","costs","cost_by","told"]
theorem aB:Zs Lu ["ways","costs","cost_by"] (Ze Lv):=tI
theorem oR(T:tw K mg)(CV:GG P w K mg base k ap)(D:sR K mg "least_cost" Lv ["ways","costs","cost_by"]):Callee P w K mg base (k+1) "least_cost" (JA ap) :=
 D.ok aB λ_ sO A outer s H E hr=>by
  exact(Zf (Lr 3 aB.nd rfl rfl (N:="way" :: Lu) (ZC (sc:=Ze Lv) (XN:=Lu)) (ZG (Zc 0)) (λ_ _ _ _ _=>By) (λ_ _ _ _ _=>(Xt CV hr 3 (Zd (Zc 0) (Zd (Zc 2) Zg)))))
  (Zi (CK 3 (Zw (V2 T.n_min rfl (A7 (Bt rfl rfl (N:="cost" :: Lu) (ZC (sc:=Ze Lv) (XN:=Lu)) (ZG (Zc 3)) (λ_ _ _ _ _=>(Et (Ba HB (Zc 0) CW))) (λ_ _ _ _ _=>(Zc 0)))))))))
theorem OH:Zs ["reach","costs","cost_by","found","crowd","cost"] ["reach","costs","cost_by"] (Ze Th):=tI
theorem oM(T:tw K mg)(Te:Callee P w K mg base k "least_cost" (JA ap))(Fn:vF K "next_costs" "next_costs" Th f fd)(hm:mg "next_costs"=Z (.ref f))(hb:Binds K fd ["reach","costs","cost_by"] []):GJ P w K mg base (k+1) "next_costs" (GY ap) :=
 lH Fn OH hm hb λsO A outer s H E hr=>by
  have hu:=DI hr;exact(W0 (Z8 3 OH.nd ML)
  (W0 (Nm 0 (BG 4 OH.nd rfl rfl (Nl 0) (Zi (A5 (NB hu (Zc 4) (Zr 1)) (Zf (ZS 5 OH.nd (Zk Te hr (Zd (KS hu (Zr 0) (Zc 4)) (Zd (Zc 1) (Zd (Zc 2) Zg)))))
  (Zi (A5 (Ba HB (Zc 5) CW) (Zi (HL hu 3 (Zc 4) (Zc 5))) Z0))) Z0))))
  (fJ 3)))
theorem mU:Zs ["works"] ["works"] (Ze RV):=tI
theorem mT(T:tw K mg)(D:sR K mg "goal_of" RV ["works"]):Callee P w K mg base (k+1) "goal_of" Lm :=
 D.ok mU λ_ sO A outer s H E hr=>by exact(Zi (Zw (AL (Zr 0) Zl)))
theorem nW:Zs ["works","crowd"] ["works","crowd"] (Ze N9):=tI
theorem nV(T:tw K mg)(RM:Callee P w K mg base k "goal_of" Lm)(D:sR K mg "is_there" N9 ["works","crowd"]):Callee P w K mg base (k+1) "is_there" G9 :=
 D.ok nW λ_ sO A outer s H E hr=>by exact(Zi (Zw (HN T.n_all rfl (A7 (Bt rfl rfl (N:=["state","works","crowd"]) (ZC (sc:=Ze N9) (XN:=["works","crowd"])) (ZG (Zc 1)) (λ_ _ _ _ _=>By) (λ_ _ _ _ _=>(VF (Zc 0) (BW (Zk RM hr (Zd (Zc 1) Zg))))))))))
abbrev N5:List Str:=["works","reach","cost_by","costs","cost","found","crowd","offered"]
theorem GW:Zs N5 ["works","reach","cost_by"] (Ze Ju):=tI
theorem nU(T:tw K mg)(Sw:Callee P w K mg base k "is_there" G9)(Gf_next_costs:GJ P w K mg base k "next_costs" (GY ap))(D:sR K mg "costs_of" Ju ["works","reach","cost_by"]):Callee P w K mg base (k+1) "costs_of" (Lh ap) :=
 D.ok GW λ_ sO A outer s H E hr=>by
  have hu:=DI hr;exact(Zf (Z8 3 GW.nd ML)
  (Zf (ZS 4 GW.nd Zl)
  (Zf (Nm 1 (Lr 5 GW.nd rfl rfl (N:=["crowd","works","reach","cost_by","costs","cost","found"," ","offered"]) (ZC (sc:=Ze Ju) (XN:=N5)) (Nl 1) (λ_ _ _ _ _=>(Et (B7 (Zk Sw hr (Zd (Zc 1) (Zd (Zc 0) Zg)))))) (λ_ _ _ _ _=>(Zc 0))))
  (Zf (QO 100000 rfl (Ba zS (B1 T.n_len (Zr 5)) Zl) (Zf (CK 5 (BG 6 GW.nd rfl rfl (ZG (Zc 5)) (Zi (HL hu 3 (Zc 6) (Zc 4)))))
  (Zf (Z8 7 GW.nd (iE Gf_next_costs hr (K8 (Zc 1) (Xu (Zr 3) (K8 (Zc 2) (VE Zg))))))
  (Zf (CK 7 (Nm 7 (ZS 4 GW.nd (V2 T.n_min rfl (A7 (Bt rfl rfl (N:=["crowd","works","reach","cost_by","costs","cost","found"," ","offered"]) (ZC (sc:=Ze Ju) (XN:=N5)) (Nl 7) (λ_ _ _ _ _=>By) (λ_ _ _ _ _=>(KS hu (Zr 8) (Zc 0)))))))))
  (Zi (CK 7 (Nm 7 (Lr 5 GW.nd rfl rfl (N:=["crowd","works","reach","cost_by","costs","cost","found"," ","offered"]) (ZC (sc:=Ze Ju) (XN:=N5)) (Nl 7) (λ_ _ _ _ _=>(Et (Ba (wD hr) (KS hu (Zr 8) (Zc 0)) (Zc 5)))) (λ_ _ _ _ _=>(Zc 0))))))))))
  (Zi (CK 3 (Zw (Zc 3))))))))
theorem oF:Zs ["works","coming"] ["works","coming"] (Ze SG):=tI
theorem oE(T:tw K mg)(Sv:Callee P w K mg base k "costs_of" (Lh ap))(Vff_deeds_by:GFn mg "deeds_by" 0)(D:sR K mg "depths_of" SG ["works","coming"]):Callee P w K mg base (k+1) "depths_of" (Ot ap) :=
 D.ok oF λ_ sO A outer s H E hr=>by exact(Zi (Zw (Zk Sv hr (Zd (Zc 0) (Zd (Zc 1) (Zd (ft Vff_deeds_by) Zg))))))
theorem LM:Zs ["crowds","ways_for","reach","waiting","crowd","way"] ["crowds","ways_for"] (Ze Tr):=tI
theorem oZ(T:tw K mg)(GX:Callee P w K mg base k "crowds_in" ZY)(S0:GH P w K mg base k "crowds_in" ZY)(CV:GG P w K mg base k ap)(D:sR K mg "reached_from" Tr ["crowds","ways_for"]):Callee P w K mg base (k+1) "reached_from" (LL ap) :=
 D.ok LM λ_ sO A outer s H E hr=>by
  have hu:=DI hr;exact(Zf (Z8 2 LM.nd ML)
  (Zf (Z8 3 LM.nd (Rw T.n_list (Zr 0)))
  (Zf (QO 100000 rfl (Ba zS (B1 T.n_len (Zr 3)) Zl) (Zf (fu 4 3 LM.nd)
  (Zi (A5 (NB hu (Zc 4) (Zr 2)) (Zf (HL hu 2 (Zc 4) (Xt CV hr 1 (Zd (Zc 4) Zg)))
  (Zi (BG 5 LM.nd rfl rfl (ZG (KS hu (Zr 2) (Zc 4))) (Zi (jZ 3 (A7 (iF S0 hr (Zd (AL (Zr 5) Zl) Zg)))))))) Z0))))
  (Zi (CK 2 (Zw (Zc 2)))))))
theorem pg:Zs ["works","looks","crowd"] ["works","looks","crowd"] (Ze Z1):=tI
theorem cW:MH ["works","looks","crowd"] (Ze Z1) (DW Z1) ["works","looks"] [0,1]=Aa:=by decide +kernel
theorem pf(T:tw K mg)(Tt:Callee P w K mg base k "reached_from" (LL ap))(GX:Callee P w K mg base k "crowds_in" ZY)(FG:Callee P w K mg base k "parted" Ea)(LA:Callee P w K mg base k "ways_with" FR)(hc:Fc K c Tl=Aa)(ht:(Tl,("coming_from.<locals>.<lambda>":Str))∈FX.tl)(hq:∀q,(Tl,q)∈FX.tl->q=("coming_from.<locals>.<lambda>":Str))(bm:BMod base mg)(good:∀F p cs,vm K F p (MC Z1) (IV Z1) (DW Z1) ["works","looks"] cs->FX.fv 1 cs F p)(Fn:Ki K "coming_from" "coming_from" Z1 f fd c)(hm:mg "coming_from"=Z (.ref f))(hb:Binds K fd ["works","looks","crowd"] []):Callee P w K mg base (k+1) "coming_from" (LQ ap) :=
 Yo Fn pg hm hb λA outer s H E hr=>by exact(Zi (Zw (kW Tt hr (W8 cW hc ht hq bm good) (Zk GX hr (Zd (Zk FG hr (Zd (Zc 0) (Zd (Zc 1) (Zd (Zc 2) Zg)))) Zg)))))
theorem RL:Zs ["works","looks","begin","depths"] ["works","looks"] (Ze Rr):=tI
theorem kN(T:tw K mg)(C7:Callee P w K mg base k "checked" DP)(To:Callee P w K mg base k "checked_looks" LO)(Su:Callee P w K mg base k "begin_of" Ob)(SY:Callee P w K mg base k "depths_of" (Ot ap))(JM:Callee P w K mg base k "cost_at_worst" Gd)(S5:Callee P w K mg base k "coming_from" (LQ ap))(FG:Callee P w K mg base k "parted" Ea)(D:sR K mg "fewest" Rr ["works","looks"]):Callee P w K mg base (k+1) "fewest" (E6 ap) :=
 D.ok RL λ_ sO A outer s H E hr=>by
  exact(Zf (KU (Zk C7 hr (Zd (Zc 0) Zg)))
  (Zf (KU (Zk To hr (Zd (Zc 0) (Zd (Zc 1) Zg))))
  (Zf (ZS 2 RL.nd (Zk Su hr (Zd (Zc 0) Zg)))
  (Zf (ZS 3 RL.nd (Zk SY hr (Zd (Zc 0) (Zd (Zk S5 hr (Zd (Zc 0) (Zd (Zc 1) (Zd (Zc 2) Zg)))) Zg))))
  (Zi (Zw (Zk JM hr (Zd (Zk FG hr (Zd (Zc 0) (Zd (Zc 1) (Zd (Zc 2) Zg)))) (Zd (Zc 3) Zg)))))))))
theorem Y4:Zs ["works","choice","most","deeds"] ["works","choice","most"] (Ze SE):=tI
theorem oD(T:tw K mg)(Rp:Callee P w K mg base k "fewest" (E6 ap))(D:sR K mg "is_enough" SE ["works","choice","most"]):Callee P w K mg base (k+1) "is_enough" (FP ap) :=
 D.ok Y4 λ_ sO A outer s H E hr=>by
  exact(Zf (ZS 3 Y4.nd (Zk Rp hr (Zd (Zc 0) (Zd (Zc 1) Zg))))
  (Zi (Zw (GA (HQ HB (Zc 3) CW) (GB (HQ zm (Zc 3) (Zc 2)))))))
theorem oC:Zs ["fewer","more"] ["fewer","more"] (Ze OC):=tI
theorem oB(T:tw K mg)(D:sR K mg "is_within" OC ["fewer","more"]):Callee P w K mg base (k+1) "is_within" FQ :=
 D.ok oC λ_ sO A outer s H E hr=>by exact(Zi (Zw (HN T.n_all rfl (A7 (Bt rfl rfl (N:=["look","fewer","more"]) (ZC (sc:=Ze OC) (XN:=["fewer","more"])) (ZG (Zc 0)) (λ_ _ _ _ _=>By) (λ_ _ _ _ _=>(VF (Zc 0) (Zr 2))))))))
theorem Ts:Zs ["works","most","told","choice"] ["works","most"] (Ze OI):=tI
theorem pe(T:tw K mg)(S4:Callee P w K mg base k "all_choices" Ip)(SX:Callee P w K mg base k "is_enough" (FP ap))(SW:Callee P w K mg base k "is_within" FQ)(D:sR K mg "weakest_for" OI ["works","most"]):Callee P w K mg base (k+1) "weakest_for" (JF ap) :=
 D.ok Ts λ_ sO A outer s H E hr=>by
  exact(Zf (Z8 2 Ts.nd (BH Zg))
  (Zf (BG 3 Ts.nd rfl rfl (ZG (Zk S4 hr (Zd (Zc 0) Zg))) (Zi (A5 (fm 2 (Gn (M3 (DK (B7 (fE T.n_any rfl (A7 (Bt rfl rfl (N:=["weaker","works","most","told","choice"]) (ZC (sc:=Ze OI) (XN:=["works","most","told","choice"])) (ZG (Zc 2)) (λ_ _ _ _ _=>By) (λ_ _ _ _ _=>(Zk SW hr (Zd (Zc 0) (Zd (Zc 4) Zg))))))))) (QA (B7 (Zk SX hr (Zd (Zc 0) (Zd (Zc 3) (Zd (Zc 1) Zg))))))))) (Zi (GV 2 (Zc 3))) Z0)))
  (Zi (CK 2 (Zw (Zc 2))))))
theorem mS:Zs ["works"] ["works"] (Ze RT):=tI
theorem mR(T:tw K mg)(C7:Callee P w K mg base k "checked" DP)(JD:Callee P w K mg base k "weakest_for" (JF ap))(D:sR K mg "weakest" RT ["works"]):Callee P w K mg base (k+1) "weakest" (Jy ap) :=
 D.ok mS λ_ sO A outer s H E hr=>by
  exact(Zf (KU (Zk C7 hr (Zd (Zc 0) Zg)))
  (Zi (Zw (Zk JD hr (Zd (Zc 0) (Zd (HV T.c_MOST_NUMBER) Zg))))))
theorem aM:Zs ["works","most"] ["works","most"] (Ze ON):=tI
theorem pC(T:tw K mg)(C7:Callee P w K mg base k "checked" DP)(C3:Callee P w K mg base k "is_number" DO)(Fn:vF K "weakest_within" "weakest_within" ON f fd)(hm:mg "weakest_within"=Z (.ref f))(hb:Binds K fd ["works","most"] []):FE P w K mg base (k+1) "weakest_within" E7 :=
 kY Fn aM hm hb λsO A outer s H E hr=>by
  exact(ir bW (KU (Zk C7 hr (Zd (Zc 0) Zg)))
  (QJ (cR (DK (B7 (Zk C3 hr (Zd (Zc 1) (Zd Zl (Zd (HV T.c_MOST_NUMBER) Zg)))))) (QJ (km gf rfl T.x_BadNumber (Zd VJ Zg))) dU)))
theorem pF(T:tw K mg)(C7:Callee P w K mg base k "checked" DP)(JD:Callee P w K mg base k "weakest_for" (JF ap))(C3:Callee P w K mg base k "is_number" DO)(D:sR K mg "weakest_within" ON ["works","most"]):Callee P w K mg base (k+1) "weakest_within" (Gb ap) :=
 D.ok aM λ_ sO A outer s H E hr=>by
  exact(Zf (KU (Zk C7 hr (Zd (Zc 0) Zg)))
  (Zf (A5 (DK (B7 (Zk C3 hr (Zd (Zc 1) (Zd Zl (Zd (HV T.c_MOST_NUMBER) Zg)))))) (Zi QP) Z0)
  (Zi (Zw (Zk JD hr (Zd (Zc 0) (Zd (Zc 1) Zg)))))))
theorem Y8:Zs ["_law_works_here","_law_most","e"] ["_law_works_here","_law_most"] (Ze Sd):=tI
theorem nT(T:tw K mg)(JJ:Callee P w K mg base k "weakest_within" (Gb ap))(E7:FE P w K mg base k "weakest_within" E7)(D:sR K mg "_law_told" Sd ["_law_works_here","_law_most"]):Callee P w K mg base (k+1) "_law_told" (Il ap) :=
 D.ok Y8 λ_ sO A outer s H E hr=>by exact(Zi (gO (j:=2) T.x_BadNumber T.n_ValueError T.n_isinstance rfl rfl rfl Y8.nd (Zi (Zw (Zk JJ hr (Zd (Zc 0) (Zd (Zc 1) Zg))))) λpn Eh E0 hp=>(QJ (de hp E7 hr (Zd (Zc 0) (Zd (Zc 1) Zg))))))
abbrev N4:List Str:=["_law_works_here","_law_looks","_law_crowd_here","_law_found","_law_state","_law_seen"]
theorem Og:Zs N4 ["_law_works_here","_law_looks","_law_crowd_here"] (Ze LB):=tI
theorem oA(T:tw K mg)(D:sR K mg "_law_split" LB ["_law_works_here","_law_looks","_law_crowd_here"]):Callee P w K mg base (k+1) "_law_split" E9 :=
 D.ok Og λ_ sO A outer s H E hr=>by
  have hu:=DI hr;exact(Zf (Z8 3 Og.nd VH)
  (Zf (BG 4 Og.nd rfl rfl (ZG (Zc 2)) (Zf (ZS 5 Og.nd (CZ T.n_tuple (A7 (Bt rfl rfl (N:="_law_look" :: N4) (ZC (sc:=Ze LB) (XN:=N4)) (ZG (Zc 1)) (λ_ _ _ _ _=>By) (λ_ _ _ _ _=>(AL (BW (AL (BW (AL (Zr 1) Zl)) (Zc 0))) (Zc 5)))))))
  (Zf (A5 (jV hu (Zc 5) (Zr 3)) (Zi (j3 hu 3 (Zc 5))) Z0)
  (Zi (jU hu 3 (Zc 5) (Zc 4))))))
  (Zi (Zw (B9 (Bt rfl rfl (N:=["_law_seen","_law_works_here","_law_looks","_law_crowd_here","_law_found","_law_state"," "]) (ZC (sc:=Ze LB) (XN:=N4)) (ZG (B9 (NC T.n_sorted rfl (Zr 3)))) (λ_ _ _ _ _=>By) (λ_ _ _ _ _=>(CT (Zd (Zc 0) (Zd (CZ T.n_tuple (VG hu 4 (Zc 0))) Zg))))))))))
theorem N7:Zs ["_law_works_here","_law_crowd_here","_law_deed_here","_law_found","_law_state"] ["_law_works_here","_law_crowd_here","_law_deed_here"] (Ze RR):=tI
theorem mQ(T:tw K mg)(D:sR K mg "_law_led" RR ["_law_works_here","_law_crowd_here","_law_deed_here"]):Callee P w K mg base (k+1) "_law_led" GP :=
 D.ok N7 λ_ sO A outer s H E hr=>by
  exact(Zf (Z8 3 N7.nd (BH Zg))
  (Zf (BG 4 N7.nd rfl rfl (ZG (Zc 1)) (Zf (A5 (Ba (wD hr) (AL (BW (AL (BW (AL (Zr 0) Zl)) (Zc 2))) (Zc 4)) (CT Zg)) (Zi (Zw CW)) Z0)
  (Zi (Z8 3 N7.nd (MZ (Zr 3) (A7 (Rw T.n_list (BW (AL (BW (AL (BW (AL (Zr 0) Zl)) (Zc 2))) (Zc 4))))))))))
  (Zi (Zw (CZ T.n_tuple (A7 (av T.n_sorted T.n_set rfl (Zr 3))))))))
abbrev Ie:List Str:=["_law_works_here","_law_looks","_law_found","_law_at","_law_deed_here","_law_other","_law_some"]
theorem G8:Zs Ie ["_law_works_here","_law_looks"] (Ze Jx):=tI
theorem mP(T:tw K mg)(E8:Callee P w K mg base k "_law_split" E9)(Jw:Callee P w K mg base k "_law_led" GP)(D:sR K mg "_law_all" Jx ["_law_works_here","_law_looks"]):Callee P w K mg base (k+1) "_law_all" NY :=
 D.ok G8 λ_ sO A outer s H E hr=>by
  exact(Zf (Z8 2 G8.nd (Xv rfl rfl (N:="_law_seen" :: "_law_part" :: Ie) (ZC (sc:=Ze Jx) (XN:=Ie)) (ZG (Zk E8 hr (Zd (Zc 0) (Zd (Zc 1) (Zd (AL (Zr 0) Zl) Zg))))) (λ_ _ _ _ _=>By) (λ_ _ _ _ _=>(Zc 1))))
  (Zf (ZS 3 G8.nd Zl)
  (Zf (QO 100000 rfl (Ba zR (Zc 3) (B1 T.n_len (Zr 2))) (Zf (BG 4 G8.nd rfl rfl (FH T.n_range (B1 T.n_len (BW (AL (Zr 0) Zl)))) (Zf (ZS 5 G8.nd (Zk Jw hr (Zd (Zc 0) (Zd (AL (Zr 2) (Zc 3)) (Zd (Zc 4) Zg)))))
  (Zi (A5 (Ba HB (Zc 5) CW) (Zf (YY 6 G8.nd rfl rfl (N:="_law_seen" :: "_law_part" :: Ie) (ZC (sc:=Ze Jx) (XN:=Ie)) (ZG (Zk E8 hr (Zd (Zc 0) (Zd (Zc 1) (Zd (Zc 5) Zg))))) (λ_ _ _ _ _=>By) (λ_ _ _ _ _=>(Zc 1)))
  (Zi (CK 6 (Z8 2 G8.nd (MZ (Zr 2) (A7 (Bt rfl rfl (N:="_law_part" :: Ie) (ZC (sc:=Ze Jx) (XN:=Ie)) (ZG (Zc 6)) (λ_ _ _ _ _=>(Et (j0 hr (Zc 0) (Zr 3)))) (λ_ _ _ _ _=>(Zc 0))))))))) Z0))))
  (Zi (ZS 3 G8.nd (ZI Bq (Zc 3) Zl)))))
  (Zi (CK 2 (Zw (Zc 2)))))))
abbrev R6:List Str:=["_law_works_here","_law_crowd_here"]
theorem oz:Zs R6 ["_law_works_here","_law_crowd_here"] (Ze Oz):=tI
theorem ow(T:tw K mg)(D:sR K mg "_law_there" Oz ["_law_works_here","_law_crowd_here"]):Callee P w K mg base (k+1) "_law_there" LF :=
 D.ok oz λ_ sO A outer s H E hr=>by exact(Zi (Zw (HQ (wD hr) (B9 (Bt rfl rfl (N:="_law_state" :: R6) (ZC (sc:=Ze Oz) (XN:=R6)) (ZG (Zc 1)) (λ_ _ _ _ _=>(Et (XZ (Zc 0) (BW (AL (Zr 1) Zl))))) (λ_ _ _ _ _=>(Zc 0)))) (B9 (BH Zg)))))
abbrev Tv:List Str:=["_law_works_here","_law_looks","_law_crowd_here","_law_costs_here","_law_deed_here","_law_other"]
theorem Tu:Zs Tv ["_law_works_here","_law_looks","_law_crowd_here","_law_costs_here"] (Ze OM):=tI
theorem pE(T:tw K mg)(Jw:Callee P w K mg base k "_law_led" GP)(E8:Callee P w K mg base k "_law_split" E9)(D:sR K mg "_law_can_within" OM ["_law_works_here","_law_looks","_law_crowd_here","_law_costs_here"]):Callee P w K mg base (k+1) "_law_can_within" OO :=
 D.ok Tu λ_ sO A outer s H E hr=>by
  have hu:=DI hr;exact(Zf (BG 4 Tu.nd rfl rfl (FH T.n_range (B1 T.n_len (BW (AL (Zr 0) Zl)))) (Zf (ZS 5 Tu.nd (Zk Jw hr (Zd (Zc 0) (Zd (Zc 2) (Zd (Zc 4) Zg)))))
  (Zi (A5 (Ba HB (Zc 5) CW) (Zi (A5 (Ba (wD hr) (B9 (Xv rfl rfl (N:="_law_seen" :: "_law_part" :: Tv) (ZC (sc:=Ze OM) (XN:=Tv)) (ZG (Zk E8 hr (Zd (Zc 0) (Zd (Zc 1) (Zd (Zc 5) Zg))))) (λ_ _ _ _ _=>(Et (NB hu (Zc 1) (Zr 5)))) (λ_ _ _ _ _=>(Zc 1)))) (B9 (BH Zg))) (Zi (Zw Co)) Z0)) Z0))))
  (Zi (Zw Co)))
theorem GZ:Zs ["_law_works_here","_law_looks","_law_crowds","_law_costs_here","_law_crowd_here","_law_turn","_law_more"] ["_law_works_here","_law_looks"] (Ze SD):=tI
theorem nD(T:tw K mg)(RK:Callee P w K mg base k "_law_all" NY)(SV:Callee P w K mg base k "_law_there" LF)(Tw:Callee P w K mg base k "_law_can_within" OO)(D:sR K mg "_law_costs" SD ["_law_works_here","_law_looks"]):Callee P w K mg base (k+1) "_law_costs" Ou :=
 D.ok GZ λ_ sO A outer s H E hr=>by
  have hu:=DI hr;exact(Zf (ZS 2 GZ.nd (Zk RK hr (Zd (Zc 0) (Zd (Zc 1) Zg))))
  (Zf (Z8 3 GZ.nd ML)
  (Zf (BG 4 GZ.nd rfl rfl (ZG (Zc 2)) (Zi (A5 (B7 (Zk SV hr (Zd (Zc 0) (Zd (Zc 4) Zg)))) (Zi (HL hu 3 (Zc 4) Zl)) Z0)))
  (Zf (BG 5 GZ.nd rfl rfl (j4 T.n_range Zl (ZI Bq (B1 T.n_len (Zr 2)) Zl)) (Zf (Z8 6 GZ.nd (BH Zg))
  (Zf (BG 4 GZ.nd rfl rfl (ZG (Zc 2)) (Zi (A5 (Gn (M3 (NB hu (Zc 4) (Zr 3)) (QA (B7 (iG Tw hr (K8 (Zc 0) (K8 (Zc 1) (K8 (Zc 4) (Xu (Zr 3) (VE Zg)))))))))) (Zi (GV 6 (Zc 4))) Z0)))
  (Zi (CK 6 (BG 4 GZ.nd rfl rfl (ZG (Zc 6)) (Zi (HL hu 3 (Zc 4) (Zc 5)))))))))
  (Zi (CK 3 (Zw (Zc 3))))))))
abbrev Sx:List Str:=["_law_works_here","_law_looks","_law_costs_here","_law_some"]
theorem S3:Zs Sx ["_law_works_here","_law_looks"] (Ze Oi):=tI
theorem oQ(T:tw K mg)(SU:Callee P w K mg base k "_law_costs" Ou)(E8:Callee P w K mg base k "_law_split" E9)(D:sR K mg "_law_fewest" Oi ["_law_works_here","_law_looks"]):Callee P w K mg base (k+1) "_law_fewest" Z6 :=
 D.ok S3 λ_ sO A outer s H E hr=>by
  have hu:=DI hr;exact(Zf (ZS 2 S3.nd (Zk SU hr (Zd (Zc 0) (Zd (Zc 1) Zg))))
  (Zf (YY 3 S3.nd rfl rfl (N:="_law_seen" :: "_law_part" :: Sx) (ZC (sc:=Ze Oi) (XN:=Sx)) (ZG (Zk E8 hr (Zd (Zc 0) (Zd (Zc 1) (Zd (AL (Zr 0) Zl) Zg))))) (λ_ _ _ _ _=>By) (λ_ _ _ _ _=>(jS hu (Zr 4) (Zc 1) Zl ⟨rfl,rfl,rfl,rfl⟩)))
  (Zf (A5 (Ba (wD hr) (Qz T.n_max rfl (Zr 3)) Zl) (Zi (Zw CW)) Z0)
  (Zi (Zw (Qz T.n_max rfl (Zr 3)))))))
abbrev Kv:List Str:=["_law_script","_law_works_here","_law_odd","_law_most","_law_bound","_law_due","_law_many","_law_choice","_law_inner","_law_least","_law_found"]
theorem Es:Zs Kv ["_law_script"] (Ze Gz):=tI
theorem gN(T:tw K mg)(SS:Callee P w K mg base k "_law_works" FT)(Du:Callee P w K mg base k "_law_cell" ZE)(S2:Callee P w K mg base k "_law_subsets" JE)(RJ:Callee P w K mg base k "weakest" (Jy ap))(Ss:Callee P w K mg base k "_law_told" (Il ap))(Td:Callee P w K mg base k "_law_fewest" Z6)(JJ:Callee P w K mg base k "weakest_within" (Gb ap))(Fn:vF K "law" "law" Gz f fd):Cc P w K mg base vd (k+1) f fd ["_law_script"] (spD K 1 (HK ap)) :=
 V5 Fn Es λsO A outer s H E hr=>by
  exact(Zf (ZS 1 Es.nd (Zk SS hr (Zd (Zc 0) (Zd Zl Zg))))
  (Zf (A5 (Ba (wD hr) (ZI wF (Zk Du hr (Zd (Zc 0) (Zd Zl Zg))) Zl) Zl) (Zf (ZS 2 Es.nd (AL (A7 (BH (Zd CW (Zd VI (Zd Zl (Zd Co (Zd VJ (Zd (B9 (BH (Zd Zl Zg))) (Zd (ZI Bq Zl (ZI wF (Zk Du hr (Zd (Zc 0) (Zd Zl Zg))) Zl)) (Zd Co Zg)))))))))) (ZI wF (Zk Du hr (Zd (Zc 0) (Zd Zl Zg))) Zl)))
  (Zi (Zw (HQ (pY hr) (Zk Ss hr (Zd (Zc 1) (Zd (Zc 2) Zg))) (B9 (BH (Zd Co (Zd Co Zg)))))))) Z0)
  (Zf (ZS 3 Es.nd (ZI wF (Zk Du hr (Zd (Zc 0) (Zd Zl Zg))) Zl))
  (Zf (BG 4 Es.nd rfl rfl (ZG (CT (Zd (Zc 3) (Zd CW Zg)))) (Zf (Z8 5 Es.nd (BH Zg))
  (Zf (gQ 6 7 Es.nd rfl rfl (ZG (Zk S2 hr (Zd (B9 (kT T.n_list T.n_range rfl (B1 T.n_len (BW (AL (Zr 1) Zl))))) Zg))) (Zf (mI 5 8 Es.nd rfl rfl (N:="_law_one" :: Kv) (ZC (sc:=Ze Gz) (XN:=Kv)) (ZG (Zc 5)) (λ_ _ _ _ _=>(Et (Ba (wD hr) (B9 (Bt rfl rfl (N:="_law_look" :: "_law_one" :: Kv) (ZC (XN:="_law_one" :: Kv) rfl rfl rfl (by kernel_rfl)) (ZG (Zc 0)) (λ_ _ _ _ _=>(Et (XZ (Zc 0) (Zr 9)))) (λ_ _ _ _ _=>(Zc 0)))) (B9 (BH Zg))))) (λ_ _ _ _ _=>(Zc 0)))
  (Zf (ZS 9 Es.nd (Zk Td hr (Zd (Zc 1) (Zd (Zc 7) Zg))))
  (Zi (CK 8 (A5 (Gn (M3 (Ba (wD hr) (Zc 8) (B9 (BH Zg))) (M3 (Ba HB (Zc 9) CW) (QA (Gn (Ko (Ba UY (Zc 4) CW) (KA (Ba zm (Zc 9) (Zc 4))))))))) (Zi (GV 5 (Zc 7))) Z0))))))
  (Zf (ZS 10 Es.nd (Zk RJ hr (Zd (Zc 1) Zg)))
  (Zf (A5 (Ba HB (Zc 4) CW) (Zi (ZS 10 Es.nd (Zk JJ hr (Zd (Zc 1) (Zd (Zc 4) Zg))))) Z0)
  (Zi (CK 5 (A5 (Gn (Ko (DK (B7 (mK T.n_isinstance T.n_list (Zc 10)))) (KA (Ba (cNe hr) (Zc 10) (Zc 5))))) (Zi (Zw Co)) Z0))))))))
  (Zi (Zw Co))))))
def FvI(K:Ae)(t:Nat)(cs:List PyData)(F:Hp)(a:Addr):Prop :=
 (t=0/\cs=[]/\Fj K Bh "deeds_by"=Z (Z (.ref a)))\/(t=1/\vm K F a (MC Z1) (IV Z1) (DW Z1) ["works","looks"] cs)\/(t=8/\vm K F a (MC ZO) (IV ZO) (DW ZO) [] cs)
theorem cq:Jp (DW Z1) "part" ["works","looks"]:=⟨rfl,rfl,rfl,by decide +kernel,rfl,by decide +kernel,by decide +kernel⟩
theorem cX(T:tw K mg)(LA:Callee P w K mg base k "ways_with" FR)(qual:Str)(f:Addr)(cd:Value)(sN:List (Str×Addr))(A:Around)(outer:List PySem.Env)(s:Shared)(H:Hp)(hr:ZP k (A.deeper (Ge qual (DW Z1) s.heap.objs.size f cd sN))):XE (Hz P w K mg base ["part","works","looks"] qual (DW Z1) f cd sN A outer s H) (IV Z1) (Zj FR (Zb (Za 1) (Zb (Za 2) (Zb (Za 0) Zh)))):=by
 have hu:=DI hr;exact(Zk LA hr (Zd (Zc 1) (Zd (Zc 2) (Zd (Zc 0) Zg))))
theorem cC(T:tw K mg)(V:∀t cs F a,FX.fv t cs F a->FvI K t cs F a){f0:Addr}{fd0:FuncData}(Fn0:vF K "deeds_by" "deeds_by" N8 f0 fd0)(xA:mg "deeds_by"=Z (.ref f0))(hn0:∀a,Fj K Bh "deeds_by"=Z (Z (.ref a))->mg "deeds_by"=Z (.ref a))(Sr:Callee P w K mg base (k+1) "deeds_by" Lg)(Lf_ways_with:Callee P w K mg base k "ways_with" FR):GG P w K mg base (k+1) ap:=by
 constructor
 .intro t cs F a h A outer s H e0 sub
  rcases V t cs F a h with⟨rfl,rfl,hn⟩|⟨rfl,hC⟩|⟨rfl,hC⟩
  .exact fQ Fn0 xA (hn0 a hn) e0
  .exact Vg hC e0 sub
  .exact Vg hC e0 sub
 .intro t cs F a h A outer s H e0 sub us vs ds d Q hr tb nt rv rs yq kk
  rcases V t cs F a h with⟨rfl,rfl,hn⟩|⟨rfl,hC⟩|⟨rfl,hC⟩
  .exact hZ Sr (hn0 a hn) e0 sub hr tb nt rv rs yq kk
  .exact Wv cq (λ_ _ _ _ _ _=>rfl) (cX T Lf_ways_with) hC e0 sub hr tb nt rv rs yq kk
  .exact absurd (show(J:Option PyData)=Z d from yq) (by simp)
def zr:List (Addr×Str):=[(240,"coming_from.<locals>.<lambda>"),(268,"all_choices.<locals>.<lambda>")]
@[reducible] def zP(K:Ae):FX where
 tl:=zr
 fv:=FvI K
 sw:=λhF ux h=>by
  rcases h with h|h|h
  .exact AG (h)
  .exact An (AG (⟨h.1,h.2.sw hF ux⟩))
  .exact An (An ((⟨h.1,h.2.sw hF ux⟩)))
 drop:=λh=>by
  rcases h with h|h|h
  .exact AG (h)
  .exact An (AG (⟨h.1,h.2.drop⟩))
  .exact An (An ((⟨h.1,h.2.drop⟩)))
 mono:=λh s=>by
  rcases h with h|h|h
  .exact AG (h)
  .exact An (AG (⟨h.1,h.2.mono s⟩))
  .exact An (An ((⟨h.1,h.2.mono s⟩)))
theorem qC{st:Stmt}{kV:Value}(X:K.In h)(G:h.Ns Bh mg)(a:Fj K Bh x=Z (Z (.ref f)))(l:K.lookup f=Z ⟨oc,od,.func (Dz x x (D4 st) (BU st) (Ze st) .none kV ui pm an sO ct),vo⟩)(c:Ho K sO x=Aa)(kp:Ef K (.ref f)=Aa)(b:∀(kV ui pm:Value) (an:Option Addr) (sO ct:Value) (us:List Value),us.length=ps.length->Iw (Dz x x (D4 st) (BU st) (Ze st) .none kV ui pm an sO ct) ⟨us,[]⟩=pure (ps.zip us)):sR K mg x st ps :=
 ⟨f,_,Qg l c kp,Iy X G a,(Qg l c kp).binds b⟩
structure PV(K:Ae)(mg:Str->Option Value)(x:Str)(st:Stmt)(ps:List Str)(c T:Addr):Prop where
 ex:∃f fd,Ki K x x st f fd c/\mg x=Z (.ref f)/\Binds K fd ps []/\Fc K c T=Aa
theorem qE{st:Stmt}{T:Addr}{kV:Value}(X:K.In h)(G:h.Ns Bh mg)(a:Fj K Bh x=Z (Z (.ref f)))(l:K.lookup f=Z ⟨oc,od,.func (Dz x x (D4 st) (BU st) (Ze st) .none kV ui pm an sO ct),vo⟩)(cc:Ho K sO x=Aa)(kp:Ef K (.ref f)=Aa)(b:∀(kV ui pm:Value) (an:Option Addr) (sO ct:Value) (us:List Value),us.length=ps.length->Iw (Dz x x (D4 st) (BU st) (Ze st) .none kV ui pm an sO ct) ⟨us,[]⟩=pure (ps.zip us))(e:sO=.ref c)(hc:Fc K c T=Aa):PV K mg x st ps c T:=by
 subst e;exact⟨f,_,eW l cc kp,Iy X G a,.all (b kV ui pm an _ ct),hc⟩
def NsV(K:Ae)(mg:Str->Option Value)(x:Str):Prop:=(∀a,Fj K Bh x=Z (Z (.ref a))->mg x=Z (.ref a))/\∃f,Fj K Bh x=Z (Z (.ref f))
theorem qA(X:K.In h)(G:h.Ns Bh mg)(a:Fj K Bh x=Z (Z (.ref f))):NsV K mg x:=⟨λ_ e=>Iy X G e,f,a⟩
end
structure Ds(K:Ae)(mg:Str->Option Value):Prop where
 rf:sR K mg "_law_cell" Sg ["_law_script","_law_k"]
 qS:sR K mg "_law_mix" RS ["_law_cell_here","_law_prime","_law_many"]
 rP:sR K mg "_law_crowd" OB ["_law_cell_here","_law_many","_law_least"]
 rb:sR K mg "_law_deed" Sf ["_law_cell_here","_law_many"]
 ra:sR K mg "_law_walk" Se ["_law_cell_here","_law_many"]
 rO:sR K mg "_law_works" OA ["_law_script","_law_at"]
 rU:sR K mg "_law_subsets" LP ["_law_some"]
 rN:sR K mg "is_number" SK ["thing","least","most"]
 rM:sR K mg "is_rising" SJ ["thing","many"]
 q9:sR K mg "is_crowd" Sk ["thing","many"]
 qJ:sR K mg "is_row" Ru ["thing","least","most"]
 qR:sR K mg "is_deed" NX ["thing","many"]
 rL:sR K mg "are_deeds" Oq ["thing","many"]
 qQ:sR K mg "is_look" NW ["thing","many"]
 rF:sR K mg "are_looks" Oo ["thing","many"]
 rE:sR K mg "are_works" SI ["thing"]
 qP:sR K mg "checked" RU ["works"]
 qZ:sR K mg "looks_of" Si ["works"]
 rD:sR K mg "all_looks" SH ["works"]
 rT:PV K mg "all_choices" ZO ["works"] 270 268
 rW:sR K mg "checked_looks" Tp ["works","looks"]
 qY:sR K mg "begin_of" Sh ["works"]
 sd:sR K mg "crowds_in" JI ["rows"]
 rV:sR K mg "cost_at_worst" OG ["rows","costs"]
 rX:sR K mg "deeds_by" N8 ["way","depths"]
 qO:sR K mg "seen_in" NV ["works","looks","state"]
 qI:sR K mg "parted" NA ["works","looks","crowd"]
 qX:sR K mg "deeds_of" Sj ["works"]
 rS:sR K mg "can_be_done" OJ ["works","crowd","deed"]
 rK:sR K mg "deeds_with" Oj ["works","crowd"]
 qH:sR K mg "led_to" Rt ["works","crowd","deed"]
 rC:sR K mg "ways_with" Om ["works","looks","crowd"]
 rJ:sR K mg "least_cost" Lv ["ways","costs","cost_by"]
 rH:sR K mg "next_costs" Th ["reach","costs","cost_by"]
 qN:sR K mg "goal_of" RV ["works"]
 qW:sR K mg "is_there" N9 ["works","crowd"]
 qV:sR K mg "costs_of" Ju ["works","reach","cost_by"]
 rB:sR K mg "depths_of" SG ["works","coming"]
 rY:sR K mg "reached_from" Tr ["crowds","ways_for"]
 rR:PV K mg "coming_from" Z1 ["works","looks","crowd"] 244 240
 qG:sR K mg "fewest" Rr ["works","looks"]
 rA:sR K mg "is_enough" SE ["works","choice","most"]
 rn:sR K mg "is_within" OC ["fewer","more"]
 rQ:sR K mg "weakest_for" OI ["works","most"]
 qM:sR K mg "weakest" RT ["works"]
 se:sR K mg "weakest_within" ON ["works","most"]
 qU:sR K mg "_law_told" Sd ["_law_works_here","_law_most"]
 rm:sR K mg "_law_split" LB ["_law_works_here","_law_looks","_law_crowd_here"]
 qL:sR K mg "_law_led" RR ["_law_works_here","_law_crowd_here","_law_deed_here"]
 qK:sR K mg "_law_all" Jx ["_law_works_here","_law_looks"]
 rh:sR K mg "_law_there" Oz ["_law_works_here","_law_crowd_here"]
 rZ:sR K mg "_law_can_within" OM ["_law_works_here","_law_looks","_law_crowd_here","_law_costs_here"]
 rg:sR K mg "_law_costs" SD ["_law_works_here","_law_looks"]
 rG:sR K mg "_law_fewest" Oi ["_law_works_here","_law_looks"]
 Nf_deeds_by:NsV K mg "deeds_by"
section
variable[FX]{P:Program}{w:World}{K:Ae}{mg:Str->Option Value}{base:Heap}{k:Nat}
theorem qi(T:tw K mg)(hV:∀t cs F a,FX.fv t cs F a↔FvI K t cs F a)(hTL:FX.tl=zr)(Dd:Ds K mg)(bm:BMod base mg){f:Addr}{fd:FuncData}(Fn:vF K "law" "law" Gz f fd):Cc P w K mg base vd 15 f fd ["_law_script"] (spD K 1 (HK ap)):=by
 have Vff_deeds_by:GFn mg "deeds_by" 0:=by obtain⟨h1,g,h2⟩:=Dd.Nf_deeds_by;exact⟨g,h1 g h2,λF=>(hV _ _ _ _).mpr (AG (⟨rfl,rfl,h2⟩))⟩
 have Du:Callee P w K mg base 1 _ _:=nO T Dd.rf;have ZW:Callee P w K mg base 1 _ _:=mF T Dd.qS;have Oy:Callee P w K mg base 2 _ _:=ou T (sX ZW) Dd.rP;have Sb:Callee P w K mg base 2 _ _:=nN T (sX ZW) Dd.rb;have Sa:Callee P w K mg base 2 _ _:=nM T (sX ZW) Dd.ra;have SS:Callee P w K mg base 3 _ _:=oq T (sX Du) (sX Oy) (sX ZW) (sX Sb) (sX Sa) Dd.rO;have S2:Callee P w K mg base 1 _ _:=pk T Dd.rU;have C3:Callee P w K mg base 1 _ _:=om T Dd.rN;have Ec:Callee P w K mg base 2 _ _:=oj T (sX C3) Dd.rM;have R9:Callee P w K mg base 3 _ _:=nK T (sX Ec) Dd.q9;have C5:Callee P w K mg base 1 _ _:=kQ T Dd.qJ;have RQ:Callee P w K mg base 3 _ _:=mD T (sX C5) (sX Ec) Dd.qR;have SA:Callee P w K mg base 4 _ _:=og T (sX C5) (sX RQ) Dd.rL;have RP:Callee P w K mg base 2 _ _:=mB T (sX C5) (sX C3) Dd.qQ;have Sz:Callee P w K mg base 3 _ _:=n8 T (sX C5) (sX RP) Dd.rF;have Sy:Callee P w K mg base 5 _ _:=n6 T (sX R9) (sX Ec) (sX C5) (sX C3) (sX SA) (sX Sz) Dd.rE;have C7:Callee P w K mg base 6 _ _:=my T (sX Sy) Dd.qP;have FW:Callee P w K mg base 1 _ _:=nI T Dd.qZ;have S1:Callee P w K mg base 7 _ _:=n4 T (sX FW) (sX C7) Dd.rD;have S4:Callee P w K mg base 8 "all_choices" Ip:=by obtain⟨f,fd,F,m,b,hc⟩:=Dd.rT.ex;exact pj T (sX S1) hc (by rw[hTL];decide) (by rw[hTL];intro q h;simpa [zr]using h) bm (λF p cs h=>(hV _ _ _ _).mpr (An (An ((⟨rfl,h⟩))))) (by decide) F m b
 have To:Callee P w K mg base 3 _ _:=pA T (sX Ec) (sX FW) Dd.rW;have Su:Callee P w K mg base 1 _ _:=nG T Dd.qY;have GX:Callee P w K mg base 1 _ _:=n0 T Dd.sd;have S0:GH P w K mg base 1 "crowds_in" ZY:=by obtain⟨f,fd,F,m,b⟩:=Dd.sd.ex;exact oV T  F m b
 have JM:Callee P w K mg base 2 _ _:=pz T (sX GX) Dd.rV;have Sr:Callee P w K mg base 3 _ _:=nF T (sX JM) Dd.rX;have RN:Callee P w K mg base 2 _ _:=mr T (sX FW) Dd.qO;have FG:Callee P w K mg base 3 _ _:=kP T (sX RN) Dd.qI;have FV:Callee P w K mg base 1 _ _:=nX T Dd.qX;have S6:Callee P w K mg base 2 _ _:=ph T (sX FV) Dd.rS;have Tf:Callee P w K mg base 3 _ _:=oT T (sX S6) (sX FV) Dd.rK;have Rq:Callee P w K mg base 2 _ _:=kO T (sX FV) Dd.qH;have LA:Callee P w K mg base 4 _ _:=oG T (sX FG) (sX Tf) (sX Rq) Dd.rC;obtain⟨f0,fd0,F0,m0,b0⟩:=Dd.rX.ex;have CV:GG P w K mg base 5 ap:=cC (k:=4) T (λt cs F a h=>(hV t cs F a).mp h) F0 m0 Dd.Nf_deeds_by.1 (sX Sr) (sX LA);have Te:Callee P w K mg base 6 _ _:=oR T (CV.mono (by decide)) Dd.rJ;have Gf_next_costs:GJ P w K mg base 7 "next_costs" (GY ap):=by obtain⟨f,fd,F,m,b⟩:=Dd.rH.ex;exact oM T (sX Te) F m b
 have RM:Callee P w K mg base 1 _ _:=mT T Dd.qN;have Sw:Callee P w K mg base 2 _ _:=nV T (sX RM) Dd.qW;have Sv:Callee P w K mg base 8 _ _:=nU T (sX Sw) (Gf_next_costs.mono (by decide)) Dd.qV;have SY:Callee P w K mg base 9 _ _:=oE T (sX Sv) Vff_deeds_by Dd.rB;have Tt:Callee P w K mg base 6 _ _:=oZ T (sX GX) (S0.mono (by decide)) (CV.mono (by decide)) Dd.rY;have S5:Callee P w K mg base 7 "coming_from" (LQ ap):=by obtain⟨f,fd,F,m,b,hc⟩:=Dd.rR.ex;exact pf T (sX Tt) (sX GX) (sX FG) (sX LA) hc (by rw[hTL];decide) (by rw[hTL];intro q h;simpa [zr]using h) bm (λF p cs h=>(hV _ _ _ _).mpr (An (AG (⟨rfl,h⟩)))) F m b
 have Rp:Callee P w K mg base 10 _ _:=kN T (sX C7) (sX To) (sX Su) (sX SY) (sX JM) (sX S5) (sX FG) Dd.qG;have SX:Callee P w K mg base 11 _ _:=oD T (sX Rp) Dd.rA;have SW:Callee P w K mg base 1 _ _:=oB T Dd.rn;have JD:Callee P w K mg base 12 _ _:=pe T (sX S4) (sX SX) (sX SW) Dd.rQ;have RJ:Callee P w K mg base 13 _ _:=mR T (sX C7) (sX JD) Dd.qM;have JJ:Callee P w K mg base 13 _ _:=pF T (sX C7) (sX JD) (sX C3) Dd.se;have E7:FE P w K mg base 13 "weakest_within" E7:=by obtain⟨f,fd,F,m,b⟩:=Dd.se.ex;exact pC T (sX C7) (sX C3) F m b
 have Ss:Callee P w K mg base 14 _ _:=nT T (sX JJ) (E7.mono (by decide)) Dd.qU;have E8:Callee P w K mg base 1 _ _:=oA T Dd.rm;have Jw:Callee P w K mg base 1 _ _:=mQ T Dd.qL;have RK:Callee P w K mg base 2 _ _:=mP T (sX E8) (sX Jw) Dd.qK;have SV:Callee P w K mg base 1 _ _:=ow T Dd.rh;have Tw:Callee P w K mg base 2 _ _:=pE T (sX Jw) (sX E8) Dd.rZ;have SU:Callee P w K mg base 3 _ _:=nD T (sX RK) (sX SV) (sX Tw) Dd.rg;have Td:Callee P w K mg base 4 _ _:=oQ T (sX SU) (sX E8) Dd.rG;exact gN (k:=14) T (sX SS) (sX Du) (sX S2) (sX RJ) (sX Ss) (sX Td) (sX JJ) Fn
end
theorem all_mk{l:Ui}{w:World}{K:Ae}{mg:Str->Option Value}{fa f4:Addr}{od4 an4:Option Addr}{sl4:Array (Option Value)}{oc4 kV4 dc4 pm4 cd4 ct4:Value}(X:K.In h)(G:h.Ns Bh mg)(hfa:mg "law"=Z (.ref fa))(T:tw K mg)(Dd:Ds K mg)(a4:Fj K Bh "law"=Z (Z (.ref f4)))(l4:K.lookup f4=Z ⟨oc4,od4,.func (Dz "law" "law" (D4 Gz) (BU Gz) (Ze Gz) .none kV4 dc4 pm4 an4 cd4 ct4),sl4⟩)(c4:Ho K cd4 "law"=Aa)(k4:Ef K (.ref f4)=Aa):∃fd:FuncData,(∀(s:Shared) (v:Value),BindsTo s fd ⟨[v],[]⟩ [("_law_script",v)])/\∀base:Heap,K.In base->base.Ns Bh mg->BMod base mg->Cc l.prog w K mg base vd 15 fa fd ["_law_script"] (@spD (zP K) K 1 (HK ap)):=by
 have e:=hfa.symm.trans (Iy X G a4);cases e;have fx0:FX:=uR;exact⟨_,λs v=>.of_eq rfl,λbase _ _ bm=>@qi (zP K) _ _ _ _ _ T (λ_ _ _ _=>Iff.rfl) rfl Dd bm _ _ (Qg (st:=Gz) l4 c4 k4)⟩
theorem walk{l:Ui}{q:Program}{vn:List Str}{XP:(Str->Option Value)->Heap->Prop}{YP:World->Heap->Prop}{d:DefRec}{K:Params->Ae}(hn:l.most=Z 63)(zI:d.params.defaults=[])(Yt:∀ns:List Int,ns.length<=63->(HK ap) [.list (HM.uQ ns)]=Z (.bool Aa))(hY:∀(w:World) (h:Heap),YP w h->(K w.params).In h)(hYT:∀(w:World) (h:Heap),YP w h->∀q∈([(244,240),(270,268)]:List (Addr×Addr)),h.get? q.2=Z (J3 #[]))(hT:∀(w:World),∀q∈([(244,240),(270,268)]:List (Addr×Addr)),Fc (K w.params) q.1 q.2=Aa/\(K w.params).lookup q.2=J)
  (F:∀(w:World) (mg:Str->Option Value) (fa:Addr) (h:Heap),(K w.params).In h->h.Ns Bh mg->mg d.name=Z (.ref fa) ->
   ∃fd:FuncData,(∀(s:Shared) (u:Value),BindsTo s fd ⟨[u],[]⟩ [("_law_script",u)])/\∀base:Heap,(K w.params).In base->base.Ns Bh mg->BMod base mg->Cc l.prog w (K w.params) mg base vd 15 fa fd ["_law_script"] (@spD (zP (K w.params)) (K w.params) 1 (HK ap))):
  PySem.W.WalkO q vn XP YP l.row.toRowW d [] (λf vs=>PySem.call f vs) :=
 iR (n:=63) (k:=15) (x:="_law_script") (sp:=λw=>@spD (zP (K w.params)) (K w.params) 1 (HK ap)) (tabs:=[(244,240),(270,268)]) hn (by decide) zI ⟨rfl,by decide,by decide⟩ hY hYT hT F λw H a ns hl hO hS=>@qB (zP (K w.params)) _ _ _ _ _ _ hO (λT q h=>by
  have:∀p∈zr,p.1∈([(244,240),(270,268)]:List (Addr×Addr)).map (·.2):=by decide
  exact this _ h) hS (Yt ns hl)
section
variable{P:Program}{w:World}{K:Ae}{mg:Str->Option Value}{base:Heap}{k:Nat}
abbrev sk{K:Ae}(_:K.In h)(mg:Str->Option Value):Prop:=Ds K mg
abbrev ql{K:Ae}(_:K.In h)(mg:Str->Option Value):Prop:=tw K mg
theorem int_mk{mg:Str->Option Value}{n:Str}{v:Value}{k:Int}(h:mg n=Z v)(e:∃t,v=.int k t):∃t,mg n=Z (.int k t):=by obtain⟨t,rfl⟩:=e;exact⟨t,h⟩
end
end HT
namespace PySem.W.Fast
theorem tw11131370468190364443:1=1:=rfl
theorem tw12530251818528919581:1=1:=rfl
theorem tw12627440110933453492:1=1:=rfl
theorem tw13094248101812087580:1=1:=rfl
theorem tw13203931816936889410:1=1:=rfl
theorem tw13991744960439627788:1=1:=rfl
theorem tw14245607892871880977:1=1:=rfl
theorem tw15304503291293441577:1=1:=rfl
theorem tw15791873975888897891:1=1:=rfl
theorem tw16264955367123598785:1=1:=rfl
theorem tw17417607203416144700:1=1:=rfl
theorem tw1751196768471231220:1=1:=rfl
theorem tw18309573521618435046:1=1:=rfl
theorem tw18338367822342931742:1=1:=rfl
theorem tw1912451263612633120:1=1:=rfl
theorem tw2842232493682330793:1=1:=rfl
theorem tw3144658771421671829:1=1:=rfl
theorem tw3393877515157635236:1=1:=rfl
theorem tw4283724391557536534:1=1:=rfl
theorem tw4563478406468146897:1=1:=rfl
theorem tw6891013642935770647:1=1:=rfl
theorem tw6897639133363432962:1=1:=rfl
theorem tw7229657910269283112:1=1:=rfl
theorem tw7871753133080887867:1=1:=rfl
theorem tw8904020294739918550:1=1:=rfl
theorem tw9876162160843057153:1=1:=rfl
theorem tw17530768706034010252:1=1:=rfl
theorem tw934031036601883538:1=1:=rfl
theorem tw14414733651062455490:1=1:=rfl
theorem tw231235444997778341:1=1:=rfl
theorem tw12344853422839947316:1=1:=rfl
theorem tw10590667568211918358:1=1:=rfl
theorem tw7208665782438157932:1=1:=rfl
theorem tw16957053640815219667:1=1:=rfl
theorem tw12734593079747190873:1=1:=rfl
theorem tw9592174840008172292:1=1:=rfl
theorem tw11711342931546774206:1=1:=rfl
theorem tw2477039662674328053:1=1:=rfl
theorem tw4110434744337406510:1=1:=rfl
theorem tw15705866494381655786:1=1:=rfl
theorem tw4626667625044758869:1=1:=rfl
theorem tw10957062963267098428:1=1:=rfl
theorem tw4561481747176856641:1=1:=rfl
theorem tw694842695802971692:1=1:=rfl
end PySem.W.Fast
open PySem PySem.W PyProof.Rows
set_option maxRecDepth 100000 in
set_option maxHeartbeats 0 in
theorem PySem.Challenge.cw_halfseen_k16_weakest_looks_holds : PySem.Challenge.rw_halfseen_k16_weakest_looks.Holds := by
 w_on;o_law;k_head;(case hw=>w_witness2)
 k_fill
 refine HT.walk (l:=PySem.Challenge.rw_halfseen_k16_weakest_looks) rfl rfl HG16.Yt (λw h zZ=>PySem.W.km_in_of zZ) (λw h zZ q hq=>PySem.W.km_tabs_of zZ _ (by clear zZ;revert q;decide)) ?Tab ?F
 case Tab =>
  intro w q hq;rcases AE.mp hq with e|hq
  .cases e
   exact⟨by kernel_rfl,by kernel_rfl⟩
  cases AW.mp hq;exact⟨by kernel_rfl,by kernel_rfl⟩
 case F =>
  intro w mg fa h KX G yo;have fx0:HP.FX:=HP.uR;have T:HT.ql KX mg:=by
   refine⟨?_,?_,?_,?_,?_,?_,?_,?_,?_,?_,?_,?_,?_,?_,?_,?_,?_,?_,?_,?_⟩
   all_goals first
    |(refine PySem.W.mg_none_of KX G ?z;(case z=>k_is))
    |(refine' HT.int_mk (Iy KX G ?z) ?e;(case z=>k_is);(case e=>exact⟨_,rfl⟩))
    |(refine' HP.qz KX G ?a ?b ?c ?d ?e;(case a=>k_is);(case b=>k_is);(case c=>k_exc);(case d=>kernel_rfl);(case e=>kernel_rfl))
  have Dd:HT.sk KX mg:=by
   refine⟨?_,?_,?_,?_,?_,?_,?_,?_,?_,?_,?_,?_,?_,?_,?_,?_,?_,?_,?_,?_,?_,?_,?_,?_,?_,?_,?_,?_,?_,?_,?_,?_,?_,?_,?_,?_,?_,?_,?_,?_,?_,?_,?_,?_,?_,?_,?_,?_,?_,?_,?_,?_,?_,?_,?_⟩
   all_goals first
    |(refine' HT.qC KX G ?a ?l ?c ?k ?b;(case a=>k_is);(case l=>k_is);(case c=>k_is);(case k=>k_is);(case b=>first|exact λ_ _ _ _ _ _ us hl=>(match us,hl with|[_],_=>rfl)|exact λ_ _ _ _ _ _ us hl=>(match us,hl with|[_,_],_=>rfl)|exact λ_ _ _ _ _ _ us hl=>(match us,hl with|[_,_,_],_=>rfl)|exact λ_ _ _ _ _ _ us hl=>(match us,hl with|[_,_,_,_],_=>rfl)))
    |(refine' HT.qE KX G ?a ?l ?c ?k ?b ?e ?h;(case a=>k_is);(case l=>k_is);(case c=>k_is);(case k=>k_is);(case h=>kernel_rfl);(case e=>exact rfl);(case b=>first|exact λ_ _ _ _ _ _ us hl=>(match us,hl with|[_],_=>rfl)|exact λ_ _ _ _ _ _ us hl=>(match us,hl with|[_,_],_=>rfl)|exact λ_ _ _ _ _ _ us hl=>(match us,hl with|[_,_,_],_=>rfl)|exact λ_ _ _ _ _ _ us hl=>(match us,hl with|[_,_,_,_],_=>rfl)))
    |(refine' HT.qA KX G ?z;(case z=>k_is))
  refine' HT.all_mk KX G yo T Dd ?a4 ?l4 ?c4 ?k4
  (case a4=>k_is);(case l4=>k_is);(case c4=>k_is);(case k4=>k_is)