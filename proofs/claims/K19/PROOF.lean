import PyProof.Rows.All
import Wide.All
import OpenK.AllK
import PySem.Challenge.RW_halfseen_k19_patience
set_option Elab.async false
set_option linter.all false
set_option maxRecDepth 100000
set_option bootstrap.genMatcherCode false
abbrev zZ:=List Int
abbrev z0:=List (List Int)
abbrev z4:=PySem.Value->PySem.Shared->Prop
abbrev z5:=List PySem.PyData
abbrev z6:=PySem.Str->Option PySem.Value
abbrev z7:=List (PySem.Addr×PySem.Obj)
abbrev z8:=List PySem.Value
abbrev z9:=List PySem.Str
open Option renaming some->Z,none->Z_
open Bool renaming true->Aa,false->Ab
open PySem renaming wpAny_bind->Ac,wpAny_pure->Ae,starEach->Ag,mainGlobals->BD,wpAny_holding->Cd,sizeLine_eq->BR,behindInMarks->CY,bootBuiltins->CD,compareOp->BL,codeAny_builtin->DW,wpAny_newObj_type->Ey,wpAny_truthy_bool->E8,sysModules->CB,wpAny_call_entry->E7,wpAny_mono->CQ,foldedSetIterable->GN,wpAny_setState_of->GJ,mem_of_lookup->HH,codeAny_mono->Fc,lookup_relabel_local->KC,plainId_quiet->Gz,wpAny_typeNameOfWhole_keyiter->PB,assignEach->E1,swapsWith->Et,wpAny_Call_Name_kw->Kp,wpAny_passesOwn->IZ,wpAny_ite_split->IY,attributeBase->Hu,wpAny_typeNameOf_keyiter->PQ,tupleKind_room_in1->MG,wpAny_dictEntries->ME,wpAny_askSetting->MC,sliceBounds->Jf,putSet_of->Hw,wpAny_setField->Mv,wpAny_seqItems->Mu,wpAny_tryCatch->Mt,wpAny_pyIter_list->Pb,wpAny_storeSet_of->O8,ofAClassStatement->O4,keywordEach->Kl,binaryOp->Ho,tupleKind->IW,wpAny_execs_nil->Pn,letOwnedTupleGo->Pl,wpAny_newFunctionEnv->Ud,intKind_is->Km,wpAny_setEntries_of->Ua,wpAny_runValue->Px,wpAny_fieldsOf->Pw,firstArgMember->Pu,carriedByValue->Pq,wpAny_letGo->Mz,codeAmong->Kj,wpAny_attempt->OW,wpAny_newList->OV,setSearchFrom->OU,wpAny_pyIter_slot->Tt,builtinsNs->Mo,wpAny_call->Mn,call_meets->Mm,backToKw->Kk,setAddHashed->OZ,wpAny_isInstance->TL,wpAny_forIn_list->TJ,wpAny_specialOf->TC,codeAny_of_tree->TZ,pickOrder->Mp,wpAny_dictEpoch->TY,wpAny_updateSeq->TX,subscripted->O1,wpAny_of_eq->OR,unsupported->OQ,hashByValue->OP
open List renaming length_map->Ad,mem_cons_self->An,mem_cons_of_mem->Ao,map_cons->Ai,getElem?_eq_getElem->AK,mem_map->Al,range->Ah,mem_singleton->Ax,length_cons->Av,getElem?_eq_some_iff->Bf,length_append->AE,all_eq_true->Ay,getElem?_map->AD,mem_cons->As,map_map->Aq,any_eq_true->AJ,size_toArray->AR,mem_of_getElem?->Bo,mem_filter->AO,mem_range->AI,mem_append->Bb,append_nil->Ba,mem_append_right->Cc,map_append->BB,getElem?_append_left->DU,mem_append_left->CW,getElem?_set_ne->CU,append_assoc->B8,replicate->BJ,mem_filterMap->CT,getElem?_append_right->Fh,all_cons->BS,contains_eq_mem->DV,getElem?_cons_succ->EB,length->BC,nodup_cons->CC,length_range->DC,length_replicate->EA,getElem?_set_self->Fg,find?_cons->Di,pairwise_cons->Ed,nodup_append->Ee,foldl_cons->DX,map_congr_left->E9,length_take->Ec,getD_eq_getElem?_getD->HA,length_set->Ex,filterMap_cons->GD,length_singleton->Hz,min?_eq_some_iff->Hy,length_filter_le->Hx,nodup_nil->Ff,getD->CS,getElem_mem->GI,any_cons->Fe,nil_append->GH,replicate_succ->Jl,getElem_of_mem->Jk,lookup_cons->HD,filter_cons->HC,getElem?_eq_none->KA,min?_eq_none_iff->KD,map_nil->F6,all_nil->FW,filter_eq_self->Kr,length_drop->Jd,mem_flatMap->Jb,flatten_cons->Ko,pairwise_map->Kn,getElem?_replicate->PM,getElem?_cons_zero->PL,pairwise_mergeSort->PJ,set_getElem_self->PF,mergeSort_perm->PV,drop_eq_getElem_cons->Ul,mem_of_find?_eq_some->Uk,map->GC,find?_isSome->O3,pairwise_lt_range->T4,filter_eq_nil_iff->T3,not_mem_nil->O2,contains_iff_mem->Ue,set_set->My,mem_of_mem_take->Uc,eq_nil_of_length_eq_zero->bS,getElem?_range->Ub,length_pos_iff->T9,ne_nil_of_mem->Tx,map_take->OY,map_drop->OX,perm_ext_iff_of_nodup->bw,nodup_iff_pairwise_ne->bu,find?_append->Tu,foldl_append->Tq,flatMap_cons->TR,pairwise_iff_getElem->bO,getElem?_zip_eq_some->bN,getElem?_take_of_lt->bM,set_eq_of_length_le->bK,drop_length->TN,cons_append->TK,find?_range_eq_some->bI,filter_cons_of_pos->bG,filter_cons_of_neg->bF,of_mem_zip->TH,find?_some->TU,dropLast_eq_take->ba,take_append_drop->a8
open Option renaming map_eq_some_iff->Ak,isSome_iff_exists->DB,isSome_map->GL,isSome->Ks,bind_eq_some_iff->T8,map->Mj
open PySem.W renaming Frag->Af,fnOf->DT,codeHdIn->FT,keepIn->E6,codeIn->Hv,nsIn->Gy,envX->Jg,tabObj->Kw,mg_of->Mq,kla_obj->Ph,methodObj->Tw,OpenLaw->TV,cellsFrom_some->bQ,codeHd_of_K->aU,callWith_K->bq,FnAt->Tp
open PySem.Heap renaming get?_push_of_some->Au,lt_size->Ar,get?_push_size->A1,get?_update_self->Fi,get?_update_other->Jn,SameBut->Fd,size_push->GP,get?_push_ne->O5,size_update->Po
open PySem.SetTable renaming below->Am,insertAt->AQ,bits->A9,runEnd->Cp,leap->Co,Probe->Dz,insertAt_perm->GF,turns->Eu,toList_insertAt->MH,tooFull->Ja,fill->Hq,fits->Ku,sizeAbove->PU,layClean->O9,fresh->Pc,grown->Tn,slot->Tj,laid->Ti
open Nat renaming le_refl->Aj,ne_of_lt->Aw,lt_of_lt_of_le->BP,le_trans->Bp,zero_le->BQ,lt_irrefl->FU,le_of_lt->F8,lt_trans->FZ,lt_succ_of_lt->Je,lt_succ_self->Jc,le_of_not_lt->Kz,le_of_lt_succ->MD,ne_of_gt->Jh,pow_le_pow_right->PD,blt_eq->IU,le_of_eq->Mx,succ_pos->Mw,not_lt_zero->Pg,lt_of_le_of_lt->Tz,lt_trichotomy->Tr,min_le_left->T2,mod_lt->ON
open List.Nodup renaming length_le_of_subset->BW
open Array renaming length_toList->Bk,getElem?_toList->Ca,getElem?_eq_getElem->Ga,getElem?_eq_some_iff->HB,getD->Dh,toList_push->GK,getD_eq_getD_getElem?->Pz,getElem?_eq_none->T6,replicate->Pf,perm_iff_toList_perm->bx,toList_inj->TM,toList_filterMap->bP,mem_toList_iff->aX
open Bool renaming and_eq_true->Bn,false_eq_true->B9,false_ne_true->DD,or_eq_true->Ew,eq_iff_iff->GG,not_false->GO,and_self->GA,false_or->Kv,true_and->Kt,not_true->Ms,and_false->Pd,eq_false_iff->TQ
open Or renaming inr->Ap,inl->AB
open PySem.PyData renaming tuple->Bj,bool->Bq,int->BK,eqv->BN,canLayAll0->MF,depthAll->Pe,eqvAll->OS,dict->To
open PySem.F renaming called_set->Dj,plain_min_loop->Jm,plainAttrs_list->MB,plain_list_iadd->PK,slot_list_append->Uj,type_list_append->Ui,entry_min_loop->T5,slot_dict_setdefault->bR,plain_proto_collect->bD,sub_list_frozenset->bz,entry_type_call->bH,typeCall_set_1->bp,entry_set_init->bo,plain_set_new->bj,slot_set_iter->bh,sub_list_set->aY
open PySem.Value renaming ref->Bl,none->By,int->DA,type->GB
open PySem.Around renaming under_plainId->Ez,frames_deeper->a7
open PySem.Heap.SameBut renaming update->EC,refl->Tv
open Option.some renaming inj->DE
open Ne renaming symm->Bi
open False renaming elim->B7
open Classical renaming byContradiction->Jj
open PySem.Obj renaming putSet->Dg,data_mapFields->HF,mapSeq->Ji,isFreed_of_fields->Ug,cls_mapFields->Ts,mapFields->Tg
open PySem.SetTable.probe renaming go->HE
open Sum renaming inl->Cn,inr->IT
open PySem.Paired renaming length->FV
open PySem.Str renaming ofString->FY
open Int renaming toNat_of_nonneg->Kq,toNat_natCast->O7
open PyProof.Rows.KeyOrd renaming kle_of_not_klt->MA,kle_refl->Kx,kle_of_klt->O6,kle_trans->Pp,kle_antisymm->aW
open PySem.NameKind renaming free->Hr
open PySem.Calls renaming call_function_entry->Py,callWith_builtin->T7,spliced_cons->TB,Name_function_global->bB,evalArgs_plain->aZ
open PySem.Builtin.List renaming listTooLong->PR,listLengthHint->bE,listExtendWith->bC
open PySem.Builtin.Range renaming rangeSize->PN,small->aV
open PySem.SetTable.layClean renaming free->PH
open List.Pairwise renaming imp_of_mem->Uh
open True renaming intro->IV
open PySem.SetTable.below renaming go->Pa
open Function renaming comp->Mr
open ForInStep renaming yield->Pk
open PyProof.Rows renaming entry_list_sort->Pj,slot_list_sort->Pt,args_list_sort->Pr,callWith_type1->bT,sortedHeap->Ml
open PySem.Builtin.Frozenset renaming updateFrom->bV
open PySem.Builtin.Dict_items renaming ownsTuple->bU
open PySem.Expr renaming Call->Ki
open PySem.Builtin.Tuple renaming tupleExact->bJ
open PySem.Builtin.Dict renaming showsAll->bf
open PySem.Walks renaming list->OO
open PySem.Shared renaming TypeIs->Th
open PySem.SeqAt.EqAt renaming int_str->aT,str_int->br
noncomputable section
namespace L2
open PySem PySem.Spec PyProof.Rows
abbrev sL:=Sum Int Str
def HW:sL->Value->Bool
 | .inl k,v=>Value.isInt k v
 | .inr x,v=>Value.isStrOf x v
def cU(w:World):sL->Int
 | .inl k=>hashInt k
 | .inr x=>hashStr w x
theorem FJ:∀{k:sL} {v:Value},HW k v=Aa->(∃i t,k=Cn i/\v=DA i t)\/(∃x t,k=IT x/\v=Value.str x t)
 | .inl i,v,h=>by obtain⟨t,e⟩:=Value.isInt_shape (k:=i) (v:=v) h;exact .inl ⟨i,t,rfl,e⟩
 | .inr x,v,h=>by obtain⟨t,e⟩:=Value.isStrOf_shape (x:=x) (v:=v) h;exact .inr ⟨x,t,rfl,e⟩
theorem kA(i:Int)(t:Tok):HW (.inl i) (.int i t)=Aa:=by simp[HW,Value.isInt]
theorem kT(x:Str)(t:Tok):HW (.inr x) (.str x t)=Aa:=by simp[HW,Value.isStrOf]
theorem d7(a b:Int):decide ((Cn a:sL)=Cn b)=(a==b):=by
 by_cases e:a=b
 .subst e;simp
 .have h:¬(Cn a:sL)=Cn b:=λq=>e (Sum.inl.inj q)
  rw[decide_eq_false h];exact(beq_eq_false_iff_ne.mpr e).symm
theorem fD(a b:Str):decide ((IT a:sL)=IT b)=decide (a=b):=by
 by_cases e:a=b
 .subst e;simp
 .have h:¬(IT a:sL)=IT b:=λq=>e (Sum.inr.inj q)
  rw[decide_eq_false h,decide_eq_false e]
theorem dW(a:Int)(b:Str):decide ((Cn a:sL)=IT b)=Ab:=decide_eq_false (λq=>nomatch q)
theorem da(a:Str)(b:Int):decide ((IT a:sL)=Cn b)=Ab:=decide_eq_false (λq=>nomatch q)
def BV(prog:Program)(w:World):PySem.KeyKind prog w sL where
 is:=HW
 hash:=cU w
 inj:=λv a b ha hb=>by
  rcases FJ ha with⟨i,t,rfl,rfl⟩|⟨x,t,rfl,rfl⟩
  .rcases FJ hb with⟨j,u,rfl,e⟩|⟨y,u,rfl,e⟩
   .injection e with e1 _;rw[e1]
   .exact nomatch e
  .rcases FJ hb with⟨j,u,rfl,e⟩|⟨y,u,rfl,e⟩
   .exact nomatch e
   .injection e with e1 _;rw[e1]
 byValue:=λk v h=>by rcases FJ h with⟨i,t,rfl,rfl⟩|⟨x,t,rfl,rfl⟩<;>rfl
 pyHash:=λhv h=>by
  rcases FJ hv with⟨i,t,rfl,rfl⟩|⟨x,t,rfl,rfl⟩
  .exact wpAny_pyHash_int h
  .exact wpAny_pyHash_str h
 eqBool:=λhu hv h=>by
  rcases FJ hu with⟨i,t,rfl,rfl⟩|⟨x,t,rfl,rfl⟩
  .rcases FJ hv with⟨j,u,rfl,rfl⟩|⟨y,u,rfl,rfl⟩
   .rw[d7]at h;exact wpAny_eqBool_int h
   .rw[dW]at h;exact aT i t y u _ _ _ _ h
  .rcases FJ hv with⟨j,u,rfl,rfl⟩|⟨y,u,rfl,rfl⟩
   .rw[da]at h;exact br x t j u _ _ _ _ h
   .rw[fD]at h;exact wpAny_eqBool_str h
 «strs»:=λk x t v h=>by
  rcases FJ h with⟨i,u,rfl,e⟩|⟨y,u,rfl,e⟩
  .exact nomatch e
  .injection e with e1 _
   subst e1;cases v<;>rfl
theorem k5(prog:Program)(w:World)(k:sL)(v:Value):(BV prog w).is k v=HW k v:=rfl
theorem mh(prog:Program)(w:World)(i:Int)(t:Tok):(BV prog w).is (.inl i) (.int i t)=Aa:=kA i t
theorem l6(prog:Program)(w:World)(x:Str)(t:Tok):(BV prog w).is (.inr x) (.str x t)=Aa:=kT x t
section
variable{a b:Addr}{o:HO}{h:Heap}{H:Hp}
inductive V where
 |non|bl (b:Bool)|int (i:Int)|str (x:Str)|byt (b:Array UInt8)|flt (b:UInt64)|ref (a:Addr)|ty (n:String)
 deriving DecidableEq
def RelV:V->Value->Prop
 | .non,u=>u=By
 | .bl b,u=>u=Value.bool b
 | .int i,u=>∃t,u=DA i t
 | .str x,u=>∃t,u=Value.str x t
 | .byt b,u=>∃t,u=Value.bytes b t
 | .flt b,u=>∃t,u=Value.float b t
 | .ref a,u=>u=Bl a
 | .ty n,u=>u=GB n
abbrev sC:List V->z8->Prop:=Paired RelV
theorem sC.length{xs:List V}{us:z8}(r:sC xs us):BC xs=us.length:=FV r
theorem sC.get:∀{xs:List V} {us:z8} {i:Nat} {x:V},sC xs us->xs[i]?=Z x->∃u,us[i]?=Z u/\RelV x u
 |_,_,_,_,.nil,e=>by simp at e
 |_,_,0,_,.cons r _,e=>by simp at e;subst e;exact⟨_,rfl,r⟩
 |_,_,i+1,x,.cons _ t,e=>by obtain⟨u,h1,h2⟩:=sC.get (i:=i) (x:=x) t (by simpa using e);exact⟨u,by simpa using h1,h2⟩
theorem sC.set{x:V}{u:Value}(r:RelV x u):∀{xs:List V} {us:z8} (i:Nat),sC xs us->sC (xs.set i x) (us.set i u)
 |_,_,_,.nil=>.nil
 |_,_,0,.cons _ t=>.cons r t
 |_,_,i+1,.cons q t=>.cons q (sC.set r i t)
theorem sC.append:∀{xs ys:List V} {us ws:z8},sC xs us->sC ys ws->sC (xs++ys) (us++ws)
 |_,_,_,_,.nil,s=>s
 |_,_,_,_,.cons r t,s=>.cons r (sC.append t s)
theorem sC.take:∀{xs:List V} {us:z8} (n:Nat),sC xs us->sC (xs.take n) (us.take n)
 |_,_,0,_=>.nil
 |_,_,_+1,.nil=>.nil
 |_,_,n+1,.cons r t=>.cons r (sC.take n t)
theorem sC.drop:∀{xs:List V} {us:z8} (n:Nat),sC xs us->sC (xs.drop n) (us.drop n)
 |_,_,0,r=>r
 |_,_,_+1,.nil=>.nil
 |_,_,n+1,.cons _ t=>sC.drop n t
def Fm:Option V->Option Value->Prop
 |some v,Z u=>RelV v u
 |none,Z_=>True
 |_,_=>False
def KV{κ:Type}:List (κ×V)->List (κ×Value)->Prop:=Paired λ(p:κ×V) (q:κ×Value)=>p.1=q.1/\RelV p.2 q.2
def kV:sL->V
 | .inl i=>.int i
 | .inr x=>.str x
inductive HO where
 |lst (xs:List V)
 |tup (xs:List V)
 |dK (kvs:List (sL×V))|dT (kvs:List (List sL×V))
 |set (S:Int->Bool) (n:Nat)
 |ins (C dx:Addr) (fs:List (Str×V))
 |own (x:Addr)
 |xd (fs:List (Str×V))
 |met (f x:Addr)
 |rng (lo hi:Int)
 |frz (o:Obj) (u:HO)
 |tbl (ps:Array Value)
 |ext (φ:Heap->Prop)
abbrev Hp:=Addr->Option HO
def upd(H:Hp)(a:Addr)(o:HO):Hp:=λb=>if b=a then Z o else H b
theorem ZJ:upd H a o a=Z o:=by unfold upd;rw[if_pos rfl]
theorem ZE(h:b≠a):upd H a o b=H b:=by unfold upd;rw[if_neg h]
theorem UL{u:HO}(h:H a=Z o)(h':H b=Z u)(d:o≠u):a≠b:=by intro e;subst e;rw[h]at h';exact d (DE h')
theorem Dy(h:H a=Z o)(h':H b=Z_):a≠b:=by intro e;subst e;rw[h]at h';cases h'
section
variable(P:Program)(w:World)
def Z6(H:Hp)(h:Heap)(a:Addr):HO->Prop
 | .lst xs=>xs.length<=sizeLine/\∃(sy:z8) (n:Nat),sC xs sy/\h.get? a=Z {cls:=.type "list",data:=.seq sy.toArray n}
 | .tup xs=>xs.length<=sizeLine/\∃sy:z8,sC xs sy/\IsTup h a sy.toArray
 | .dK kvs=>kvs.length<=sizeLine/\(a==CB)=Ab/\∃vs,KV kvs vs/\h.DictOf (BV P w) a vs
 | .dT kvs=>kvs.length<=sizeLine/\(a==CB)=Ab/\∃xs:List (List sL×Addr×Value),
   Paired (λ(p:List sL×V) (q:List sL×Addr×Value)=>p.1=q.1/\H q.2.1=Z (.tup (p.1.map kV))/\RelV p.2 q.2.2) kvs xs /\
   ∃o es ep,h.get? a=Z o/\o.ExactDict/\o.data=.dict es ep/\es.toList=xs.map (entryOfKey (IW (BV P w)))/\(xs.map (·.1)).Nodup
 | .set S n=>h.SetOf (intKind P w) a S n
 | .ins C dx fs=>H dx=Z (.own a)/\fs.length<=1000/\dx≠a/\h.get? a=Z (PySem.W.instObj C dx) /\
   ∃mA,h.Ns1 dx mA/\(∀f,Fm (fs.lookup f) (mA f))/\PySem.Within mA (fs.map (·.1))
 | .own _=>∃o,h.get? a=Z o
 | .xd fs=>∃mA,h.Ns1 a mA/\∀f,Fm (fs.lookup f) (mA f)
 | .rng lo hi=>∃t u v,h.get? a=Z {cls:=.type "range",data:=.fields #[.int lo t,.int hi u,.int 1 v]}
 | .frz o u=>h.get? a=Z o/\Z6 H h a u
 | .tbl ps=>h.get? a=Z {cls:=.none,data:=.fields ps}
 | .met f x=>h.get? a=Z (Tw (.ref f) (.ref x))
 | .ext φ=>φ h/\(∃o,h.get? a=Z o)/\∀h1 h2:Heap,φ h1->(∀o,h1.get? a=Z o->h2.get? a=Z o)->φ h2
def tR(H:Hp)(h:Heap):Prop:=∀a o,H a=Z o->Z6 P w H h a o
end
section
variable{P:Program}{w:World}{H H':Hp}{h h':Heap}{a:Addr}{o:HO}
theorem Z6.lt(x:Z6 P w H h a o):a<h.objs.size:=by
 cases o with
 |lst xs=>obtain⟨_,_,_,_,e⟩:=x;exact Ar e
 |tup xs=>obtain⟨_,_,_,p⟩:=x;exact p.lt
 |dK kvs=>obtain⟨_,_,_,_,o,_,_,e,_⟩:=x;exact Ar e
 |dT kvs=>obtain⟨_,_,_,_,o,_,_,e,_⟩:=x;exact Ar e
 |set S n=>obtain⟨o,_,_,_,e,_⟩:=x;exact Ar e
 |ins C dx fs=>obtain⟨_,_,_,e,_⟩:=x;exact Ar e
 |own y=>obtain⟨_,e⟩:=x;exact Ar e
 |xd fs=>obtain⟨_,⟨_,_,_,e,_⟩,_⟩:=x;exact Ar e
 |rng lo hi=>obtain⟨_,_,_,e⟩:=x;exact Ar e
 |frz ob u=>obtain⟨e,_⟩:=x;exact Ar e
 |tbl ps=>exact Ar (show h.get? a=Z _ from x)
 |met f y=>exact Ar (show h.get? a=Z _ from x)
 |ext φ=>obtain⟨_,⟨_,e⟩,_⟩:=x;exact Ar e
theorem Paired.mapP{α β:Type}{F G:α->β->Prop}:∀{l₁:List α} {l₂:List β},Paired F l₁ l₂->(∀a b,F a b->G a b)->Paired G l₁ l₂
 |_,_,.nil,_=>.nil
 |_,_,.cons r t,f=>.cons (f _ _ r) (Paired.mapP t f)
theorem Z6.stay(x:Z6 P w H h a o)(k:∀b u,(b=a\/H b=Z (.own a))->h.get? b=Z u->h'.get? b=Z u)(ho:∀b,H b=Z (.own a)->H' b=Z (.own a))(ht:∀b xs,H b=Z (.tup xs)->H' b=Z (.tup xs)):Z6 P w H' h' a o:=by
 induction o with
 |lst xs=>obtain⟨z,sy,n,r,e⟩:=x;exact⟨z,sy,n,r,k _ _ (.inl rfl) e⟩
 |tup xs=>obtain⟨z,sy,r,ob,e,c⟩:=x;exact⟨z,sy,r,ob,k _ _ (.inl rfl) e,c⟩
 |dK kvs=>obtain⟨z,y,vs,r,ob,es,ep,e,c⟩:=x;exact⟨z,y,vs,r,ob,es,ep,k _ _ (.inl rfl) e,c⟩
 |dT kvs=>obtain⟨z,y,xs,r,ob,es,ep,e,c⟩:=x;exact⟨z,y,xs,Paired.mapP r λp q z=>⟨z.1,ht _ _ z.2.1,z.2.2⟩,ob,es,ep,k _ _ (.inl rfl) e,c⟩
 |set S n=>obtain⟨ob,es,ep,t,e,c⟩:=x;exact⟨ob,es,ep,t,k _ _ (.inl rfl) e,c⟩
 |ins C dx fs=>obtain⟨d,z,ne,e,mA,⟨od,es,ep,e2,c⟩,r⟩:=x;exact⟨ho _ d,z,ne,k _ _ (.inl rfl) e,mA,⟨od,es,ep,k _ _ (.inr d) e2,c⟩,r⟩
 |own y=>obtain⟨ob,e⟩:=x;exact⟨ob,k _ _ (.inl rfl) e⟩
 |xd fs=>obtain⟨mA,⟨od,es,ep,e,c⟩,r⟩:=x;exact⟨mA,⟨od,es,ep,k _ _ (.inl rfl) e,c⟩,r⟩
 |rng lo hi=>obtain⟨t,u,v,e⟩:=x;exact⟨t,u,v,k _ _ (.inl rfl) e⟩
 |frz ob u ih=>obtain⟨e,q⟩:=x;exact⟨k _ _ (.inl rfl) e,ih q⟩
 |tbl ps=>have e:h.get? a=Z {cls:=.none,data:=.fields ps}:=x;show h'.get? a=Z {cls:=.none,data:=.fields ps};exact k a _ (.inl rfl) e
 |met f y=>have e:h.get? a=Z (Tw (.ref f) (.ref y)):=x;show h'.get? a=Z (Tw (.ref f) (.ref y));exact k a _ (.inl rfl) e
 |ext φ=>obtain⟨p,⟨o,e⟩,st⟩:=x;exact⟨st _ _ p λo q=>k _ _ (.inl rfl) q,⟨o,k _ _ (.inl rfl) e⟩,st⟩
theorem tR.lt(x:tR P w H h)(e:H a=Z o):a<h.objs.size:=(x a o e).lt
theorem tR.fresh(x:tR P w H h)(e:h.objs.size<=a):H a=Z_:=by
 cases q:H a with
 |none=>rfl
 |some u=>exact absurd (BP (x.lt q) e) (FU _)
theorem tR.kept(x:tR P w H h)(k:∀b u,h.get? b=Z u->h'.get? b=Z u):tR P w H h':=λa o e=>(x a o e).stay (λb u _ q=>k b u q) (λ_ q=>q) λ_ _ q=>q
theorem tR.laid(x:tR P w H h)(k:∀b u,h.get? b=Z u->h'.get? b=Z u)(hp:h.objs.size<=a)(new:Z6 P w (upd H a o) h' a o):tR P w (upd H a o) h':=λb u e=>by
 have hn:=x.fresh hp
 by_cases hb:b=a
 .subst hb;rw[ZJ]at e;cases e;exact new
 .rw[ZE hb]at e
  exact(x b u e).stay (λc v _ q=>k c v q) (λc q=>by rw[ZE (Dy q hn)];exact q) λc xs q=>by rw[ZE (Dy q hn)];exact q
end
def Rd(H:Hp)(a:Addr)(u:HO):Prop:=H a=Z u\/∃o,H a=Z (.frz o u)
theorem Rd.ok{P:Program}{w:World}{H:Hp}{h:Heap}{a:Addr}{u:HO}(r:Rd H a u)(x:tR P w H h):Z6 P w H h a u:=by
 rcases r with r|⟨o,r⟩
 .exact x a u r
 .obtain⟨_,q⟩:=x a _ r
  exact q
def zR:Option HO->Prop
 |some (.lst _)=>True
 |some (.dK _)=>True
 |some (.dT _)=>True
 |some (.set _ _)=>True
 |some (.ins _ _ _)=>True
 |some (.ext _)=>True
 |_=>False
section
variable{P:Program}{w:World}{H:Hp}{h h':Heap}{x e:Addr}{o':HO}
theorem tR.write(ok:tR P w H h)(mu:zR (H x))(he:e=x\/H e=Z (.own x))(k:∀b u,b≠e->h.get? b=Z u->h'.get? b=Z u)(y9:∃u,h'.get? e=Z u)(new:Z6 P w (upd H x o') h' x o'):tR P w (upd H x o') h':=λb u q=>by
 have zX:∀c y,H c=Z (.own y)->c≠x:=λc y r z=>by subst z;rw[r]at mu;exact mu
 have ntup:∀c xs,H c=Z (.tup xs)->c≠x:=λc xs r z=>by subst z;rw[r]at mu;exact mu
 by_cases hb:b=x
 .subst hb;rw[ZJ]at q;cases q;exact new
 .rw[ZE hb]at q
  by_cases hbe:b=e
  .have q':H b=Z (.own x):=by
    rcases he with z|z
    .exact absurd (hbe.trans z) hb
    .rw[hbe];exact z
   rw[q]at q';cases q';obtain⟨v,hv⟩:=y9;exact⟨v,by rw[hbe];exact hv⟩
  .refine(ok b u q).stay (λc v hc r=>k c v ?_ r) (λc r=>by rw[ZE (zX c b r)];exact r) λc xs r=>by rw[ZE (ntup c xs r)];exact r
   rcases hc with rfl|hc
   .exact hbe
   .rintro rfl
    rcases he with z|z
    .exact zX c b hc z
    .rw[hc]at z;cases z;exact hb rfl
end
structure Un(fs ex:List Addr)(H H':Hp)(h h':Heap):Prop where
 keep:∀b o,h.get? b=Z o->H b=Z_->b∉fs->b∉ex->h'.get? b=Z o
 slot:∀b o,h.get? b=Z o->H b=Z_->b∈fs->b∉ex->∃sl,h'.get? b=Z {o with slots:=sl}
 free:∀b o,h.get? b=Z o->H b=Z_->b∉ex->H' b=Z_
 there:∀b o,h.get? b=Z o->b∉ex->∃o',h'.get? b=Z o'
 tups:∀b xs,H b=Z (.tup xs)->H' b=Z (.tup xs)
 frzs:∀b o u,H b=Z (.frz o u)->H' b=Z (.frz o u)
 tbls:∀b ps,H b=Z (.tbl ps)->∃more,H' b=Z (.tbl (ps++more))
section
variable{fs fs' ex ex':List Addr}{H H1 H2:Hp}{h h1 h2 h':Heap}{a x e:Addr}{o:HO}
theorem Un.any(u:Un fs ex H H1 h h1){ob:Obj}(q:h.get? b=Z ob)(n:H b=Z_)(hx:b∉ex):∃sl,h1.get? b=Z {ob with slots:=sl}:=by
 by_cases hb:b∈fs
 .exact u.slot b ob q n hb hx
 .exact⟨ob.slots,u.keep b ob q n hb hx⟩
theorem Un.kept(k:∀b u,h.get? b=Z u->h'.get? b=Z u):Un fs ex H H h h' :=
 ⟨λb ob q _ _ _=>k b ob q,λb ob q _ _ _=>⟨ob.slots,k b ob q⟩,λ_ _ _ n _=>n,λb ob q _=>⟨ob,k b ob q⟩,λ_ _ q=>q,λ_ _ _ q=>q,λ_ ps q=>⟨#[],by rw[q];simp⟩⟩
theorem Un.refl:Un fs ex H H h h:=Un.kept λ_ _ q=>q
theorem Un.laid(k:∀b u,h.get? b=Z u->h'.get? b=Z u)(hp:h.objs.size<=a)(hn:H a=Z_):Un fs ex H (upd H a o) h h' where
 keep:=λb u q _ _ _=>k b u q
 slot:=λb u q _ _ _=>⟨u.slots,k b u q⟩
 free:=λb u q n _=>by rw[ZE (Aw (BP (Ar q) hp))];exact n
 there:=λb u q _=>⟨u,k b u q⟩
 tups:=λb xs q=>by rw[ZE (Dy q hn)];exact q
 frzs:=λb u xs q=>by rw[ZE (Dy q hn)];exact q
 tbls:=λb ps q=>⟨#[],by rw[ZE (Dy q hn),q];simp⟩
theorem Un.write(mu:zR (H x))(he:e=x\/H e=Z (.own x))(k:∀b u,b≠e->h.get? b=Z u->h'.get? b=Z u)(y9:∃u,h'.get? e=Z u):Un fs ex H (upd H x o) h h':=by
 have hx:∀b,H b=Z_->b≠x:=λb n z=>by subst z;rw[n]at mu;exact mu
 have hb:∀b,H b=Z_->b≠e:=λb n z=>by
  subst z;rcases he with r|r
  .exact hx b n r
  .rw[n]at r;cases r
 have hm:∀b u,H b=Z u->¬zR (Z u)->b≠x:=λb u q nm z=>by subst z;rw[q]at mu;exact nm mu
 refine⟨λb u q n _ _=>k b u (hb b n) q,λb u q n _ _=>⟨u.slots,k b u (hb b n) q⟩,λb u q n _=>by rw[ZE (hx b n)];exact n,λb u q _=>?_,
  λb xs q=>by rw[ZE (hm b _ q λz=>z)];exact q,λb u xs q=>by rw[ZE (hm b _ q λz=>z)];exact q,λb ps q=>⟨#[],by rw[ZE (hm b _ q λz=>z),q];simp⟩⟩
 by_cases hbe:b=e
 .subst hbe;exact y9
 .exact⟨u,k b u hbe q⟩
end
def trk(h:Heap)(H:Hp):List Addr:=(Ah h.objs.size).filter λa=>(H a).isSome
def Fl(h:Heap)(H:Hp):Heap:=PySem.W.hideAll h (trk h H)
theorem kK(h:Heap)(H:Hp):(Fl h H).objs.size=h.objs.size:=PySem.W.hideAll_size _ _
theorem iO{o:Obj}(e:h.get? b=Z o)(n:H b=Z_):(Fl h H).get? b=Z o :=
 PySem.W.hideAll_get _ e λhm=>by have q:(H b).isSome=Aa:=(AO.mp hm).2;rw[n]at q;simp at q
theorem ez{o:Obj}(e:(Fl h H).get? b=Z o):h.get? b=Z o/\H b=Z_:=by
 have e':h.get? b=Z o:=PySem.W.of_hideAll (trk h H) e;refine⟨e',?_⟩;cases q:H b with
 |none=>rfl
 |some x=>have hm:b∈trk h H:=AO.mpr ⟨AI.mpr (Ar e'),by simp[q]⟩;have z:(Fl h H).get? b=Z_:=PySem.W.hideAll_none (trk h H) hm;rw[z]at e;cases e
end
section
variable{A:Around}{ch:List Addr}{i t':Nat}{x:Str}{u:Value}{E:z4}
structure Mod(K:Af)(mg:z6)(base:Heap):Prop where
 kin:K.In base
 glob:base.Ns BD mg
 blt:∃mb,base.Ns Mo mb/\∀x:Str,x ≠ "__name__"->mb x=CD x
 nolimit:base.NoLimit
structure Cx where
 prog:Program
 w:World
 K:Af
 mg:z6
 base:Heap
 A:Around
 N:z9
 s₀:Shared
 H₀:Hp
 env:Env
 outer:List Env
 stack:List Env
 ex:List Addr
 fn:Str->Bool
 calm:Bool
 pn:z7
 xe:Value->Shared->Prop
def vP(l:List Env):List Addr:=l.filterMap (·.frame)
abbrev Cx.fs(X:Cx):List Addr:=vP X.outer
def vd(sc:Scope)(x:Str):Prop:=sc.names.lookup x=Z .local\/sc.names.lookup x=Z .cell\/sc.names.lookup x=Z .free
def Loc(sc:Scope)(x:Str):Prop:=sc.names.lookup x=Z .local\/sc.names.lookup x=Z .cell
def Look(env:Env)(h:Heap)(m:z6)(x:Str)(u:Value):Prop :=
 (env.kindOf x=Z .local/\m x=Z u)\/((env.kindOf x=Z .cell\/env.kindOf x=Z .free)/\∃c,env.cells.lookup x=Z c/\h.IsCell c (Z u))
structure Cx.Ok(X:Cx):Prop where
 mod:Mod X.K X.mg X.base
 kind:X.env.scope.kind=.function
 glob:X.env.globals=BD
 blt:X.env.builtins=Mo
 above:X.s₀.heap.objs.size<=X.env.locals
 inj:∀x y c,X.env.cells.lookup x=Z c->X.env.cells.lookup y=Z c->x=y
 has:∀x,(X.env.kindOf x=Z .cell\/X.env.kindOf x=Z .free)->∃c,X.env.cells.lookup x=Z c
 cab:∀x c,X.fn x=Aa->X.env.cells.lookup x=Z c->X.s₀.heap.objs.size<=c
 hd:X.calm=Aa->X.A.handled=Z_
 frames:X.A.frames=Z X.stack
 stk:X.stack=X.outer\/(X.stack=X.env::X.outer/\X.env.frame=Z X.env.locals)
 exf:∀b∈X.ex,b≠X.env.locals/\∀x c,X.env.cells.lookup x=Z c->c≠b
 bs:∀b o,X.base.get? b=Z o->X.s₀.heap.get? b=Z o/\X.H₀ b=Z_
 bsz:X.base.objs.size<=X.s₀.heap.objs.size
 noex:∀b o,X.base.get? b=Z o->b∉X.ex
 exfs:∀b∈X.ex,b∉X.fs
 funs:X.s₀.heap.FunFrames X.base X.outer
 frf:∀b∈X.fs,X.H₀ b=Z_
structure Inv(X:Cx)(su:z7)(σ:List (Option V))(H:Hp)(s:Shared):Prop where
 ok:X.Ok
 os:s.os=X.s₀.os
 bare:AllBare s.gens
 base:Un X.fs X.ex X.H₀ H X.s₀.heap s.heap
 loc:∃m,s.heap.Ns X.env.locals m/\∀(i:Nat) (x:Str) (v:V),X.N[i]?=Z x->σ[i]?=Z (Z v)->vd X.env.scope x->∃u,RelV v u/\Look X.env s.heap m x u
 cell:∀x c,X.env.cells.lookup x=Z c->∃v,s.heap.IsCell c v
 free:H X.env.locals=Z_
 freeC:∀x c,X.env.cells.lookup x=Z c->H c=Z_
 pin:∀p∈X.pn++su,s.heap.get? p.1=Z p.2/\H p.1=Z_/\p.1≠X.env.locals/\p.1∉X.fs/\∀v,p.2.data≠.cell v
 hok:tR X.prog X.w H s.heap
 len:σ.length=X.N.length
section
variable{X:Cx}{su:z7}{σ:List (Option V)}{H H':Hp}{s:Shared}{h':Heap}
theorem Cx.Ok.nofr(ok:X.Ok){b:Addr}{o:Obj}(e:X.base.get? b=Z o):b∉X.fs:=λhb=>by have:=(ok.funs.mem hb).1;rw[e]at this;cases this
theorem Inv.bs(I:Inv X su σ H s):∀b o,X.base.get? b=Z o->s.heap.get? b=Z o/\H b=Z_:=λb o e=>⟨I.base.keep b o (I.ok.bs b o e).1 (I.ok.bs b o e).2 (I.ok.nofr e) (I.ok.noex b o e),I.base.free b o (I.ok.bs b o e).1 (I.ok.bs b o e).2 (I.ok.noex b o e)⟩
theorem Inv.bk(I:Inv X su σ H s):∀b o,X.base.get? b=Z o->s.heap.get? b=Z o:=λb o e=>(I.bs b o e).1
theorem Inv.mod(I:Inv X su σ H s):Mod X.K X.mg X.base:=I.ok.mod
theorem Inv.kIn(I:Inv X su σ H s):X.K.In s.heap:=I.ok.mod.kin.keeps I.bk
theorem Inv.lt(I:Inv X su σ H s):X.env.locals<s.heap.objs.size:=let ⟨_,hn,_⟩:=I.loc;hn.lt
theorem Inv.sz(I:Inv X su σ H s):X.s₀.heap.objs.size<=s.heap.objs.size:=Bp I.ok.above (F8 I.lt)
theorem Inv.nofs(I:Inv X su σ H s){a:Addr}(h:s.heap.objs.size<=a):a∉X.fs:=λhb=>by obtain⟨_,o,ho,_⟩:=I.ok.funs.mem hb;exact absurd (BP (Ar ho) (Bp I.sz h)) (FU _)
theorem Inv.cne(I:Inv X su σ H s):∀x c,X.env.cells.lookup x=Z c->c≠X.env.locals:=λx c e z=>by obtain⟨v,o,ho,hd⟩:=I.cell x c e;obtain⟨m,⟨o',es,ep,ho',hd',_⟩,_⟩:=I.loc;rw[z,ho']at ho;cases ho;rw[hd']at hd;cases hd
theorem Inv.funs(I:Inv X su σ H s):s.heap.FunFrames X.base X.outer:=by
 have all:∀(l:List Env),(∀b∈vP l,b∈X.fs)->X.s₀.heap.FunFrames X.base l->s.heap.FunFrames X.base l:=by
  intro l
  induction l with
  |nil=>intro _ _;trivial
  |cons env r ih=>intro hs hl;obtain⟨hk,⟨L,o,hf,hn,ho,hd⟩,hr⟩:=hl;have hL:L∈X.fs:=hs L (by unfold vP;rw[GD,hf];exact An);obtain⟨sl,e⟩:=I.base.slot L o ho (I.ok.frf L hL) hL λz=>I.ok.exfs L z hL;exact⟨hk,⟨L,_,hf,hn,e,hd⟩,ih (λb hb=>hs b (by unfold vP;rw[GD,hf];exact Ao _ hb)) hr⟩
 exact all X.outer (λ_ hb=>hb) I.ok.funs
theorem Inv.stack(I:Inv X su σ H s):s.heap.FunFrames X.base X.stack:=by
 rcases I.ok.stk with e|⟨e,hf⟩
 .rw[e];exact I.funs
 .rw[e]
  obtain⟨m,hn,_⟩:=I.loc;refine .cons (by rw[I.ok.kind];decide) hf hn ?_ I.funs;exact Heap.get?_none_of_le (Bp I.ok.bsz I.ok.above)
theorem Inv.stkSub(I:Inv X su σ H s):∀b∈vP X.stack,b∈X.env.locals::X.fs:=λb hb=>by
 rcases I.ok.stk with e|⟨e,hf⟩
 .rw[e]at hb;exact Ao _ hb
 .rw[e]at hb
  unfold vP at hb;rw[GD,hf]at hb;exact hb
theorem Inv.stkFree(I:Inv X su σ H s):∀b∈vP X.stack,H b=Z_:=λb hb=>by
 rcases As.mp (I.stkSub b hb)with e|hb
 .rw[e];exact I.free
 .obtain⟨_,o,ho,_⟩:=I.ok.funs.mem hb
  exact I.base.free b o ho (I.ok.frf b hb) λz=>I.ok.exfs b z hb
theorem Inv.step{g':Array GenState}{t':Nat}{d':Drawn}{ch:List Addr}(I:Inv X su σ H s)(wB:∀b∈ch,(b∈X.ex\/X.s₀.heap.objs.size<=b)/\b≠X.env.locals/\(∀x c,X.env.cells.lookup x=Z c->c≠b)/\∀p∈X.pn++su,p.1≠b)(keep:∀b o,b≠X.env.locals->b∉X.fs->b∉ch->s.heap.get? b=Z o->H b=Z_->h'.get? b=Z o)(slot:∀b o,b≠X.env.locals->b∈X.fs->b∉ch->s.heap.get? b=Z o->H b=Z_->∃sl,h'.get? b=Z {o with slots:=sl})(free:∀b o,b∉ch->s.heap.get? b=Z o->H b=Z_->H' b=Z_)(there:∀b o,b∉ch->s.heap.get? b=Z o->∃o',h'.get? b=Z o')(tups:∀b xs,H b=Z (.tup xs)->H' b=Z (.tup xs))(frzs:∀b o u,H b=Z (.frz o u)->H' b=Z (.frz o u))(tbls:∀b ps,H b=Z (.tbl ps)->∃more,H' b=Z (.tbl (ps++more)))(ns:∀m,s.heap.Ns X.env.locals m->h'.Ns X.env.locals m)(hok:tR X.prog X.w H' h')(hg:AllBare g'):Inv X su σ H' {s with heap:=h',gens:=g',drawn:=d',toks:=t'}:=by
 have zu:∀b o,X.s₀.heap.get? b=Z o->b≠X.env.locals:=λb o e=>Aw (BP (Ar e) I.ok.above);have yw:∀b o,X.s₀.heap.get? b=Z o->b∉X.ex->b∉ch:=λb o e hx hb=>by
  rcases(wB b hb).1 with z|z
  .exact hx z
  .exact absurd (BP (Ar e) z) (FU _)
 have yr:∀x c,X.env.cells.lookup x=Z c->∀v,s.heap.IsCell c v->h'.IsCell c v:=λx c e v ⟨o,ho,hd⟩=>by
  have zv:c∉ch:=λz=>(wB c z).2.2.1 x c e rfl
  by_cases hc:c∈X.fs
  .obtain⟨sl,q⟩:=slot c o (I.cne x c e) hc zv ho (I.freeC x c e)
   exact⟨_,q,hd⟩
  .exact⟨o,keep c o (I.cne x c e) hc zv ho (I.freeC x c e),hd⟩
 refine⟨I.ok,I.os,hg,⟨λb o e n hb hx=>?_,λb o e n hb hx=>?_,λb o e n hx=>?_,λb o e hx=>?_,λb xs e=>tups b xs (I.base.tups b xs e),λb o xs e=>frzs b o xs (I.base.frzs b o xs e),λb ps e=>?_⟩,?_,λx c e=>?_,?_,λx c e=>?_,λp hp=>?_,hok,I.len⟩
 .exact keep b o (zu b o e) hb (yw b o e hx) (I.base.keep b o e n hb hx) (I.base.free b o e n hx)
 .obtain⟨sl,e1⟩:=I.base.slot b o e n hb hx
  obtain⟨sl',e2⟩:=slot b _ (zu b o e) hb (yw b o e hx) e1 (I.base.free b o e n hx);exact⟨sl',e2⟩
 .obtain⟨o',e1⟩:=I.base.there b o e hx
  exact free b o' (yw b o e hx) e1 (I.base.free b o e n hx)
 .obtain⟨o',e1⟩:=I.base.there b o e hx
  exact there b o' (yw b o e hx) e1
 .obtain⟨m1,e1⟩:=I.base.tbls b ps e
  obtain⟨m2,e2⟩:=tbls b _ e1;exact⟨m1++m2,by rw[e2,Array.append_assoc]⟩
 .obtain⟨m,hn,hl⟩:=I.loc
  refine⟨m,ns m hn,λi x v e1 e2 e3=>?_⟩;obtain⟨u,r,l⟩:=hl i x v e1 e2 e3;refine⟨u,r,?_⟩;rcases l with l|⟨k,c,e,z⟩
  .exact .inl l
  .exact .inr ⟨k,c,e,yr x c e _ z⟩
 .obtain⟨v,z⟩:=I.cell x c e
  exact⟨v,yr x c e v z⟩
 .obtain⟨m,⟨o,_,_,ho,_⟩,_⟩:=I.loc
  exact free _ o (λz=>(wB _ z).2.1 rfl) ho I.free
 .obtain⟨v,o,ho,hd⟩:=I.cell x c e
  exact free c o (λz=>(wB c z).2.2.1 x c e rfl) ho (I.freeC x c e)
 .obtain⟨e,n,ne,nf,d⟩:=I.pin p hp
  have zv:p.1∉ch:=λz=>(wB p.1 z).2.2.2 p hp rfl;exact⟨keep p.1 p.2 ne nf zv e n,free p.1 p.2 zv e n,ne,nf,d⟩
theorem Inv.un(I:Inv X su σ H s)(u:Un X.fs [] H H' s.heap h')(hok:tR X.prog X.w H' h'):Inv X su σ H' {s with heap:=h',toks:=t'}:=by obtain⟨m,⟨o,es,ep,ho,r⟩,_⟩:=id I.loc;obtain⟨sl,hL⟩:=u.any ho I.free (by simp);exact I.step (g':=s.gens) (d':=s.drawn) (ch:=[]) (λ_ z=>nomatch z) (λb o _ hb _ e n=>u.keep b o e n hb (by simp)) (λb o _ hb _ e n=>u.slot b o e n hb (by simp)) (λb o _ e n=>u.free b o e n (by simp)) (λb o _ e=>u.there b o e (by simp)) u.tups u.frzs u.tbls (λm' hm=>by obtain⟨o',es',ep',ho',r'⟩:=hm;rw[ho]at ho';cases ho';exact⟨_,es',ep',hL,r'⟩) hok I.bare
theorem Inv.call{g':Array GenState}{d':Drawn}(I:Inv X su σ H s)(u:Un (vP X.stack) ch H H' s.heap h')(hok:tR X.prog X.w H' h')(hg:AllBare g')(wB:∀b∈ch,(b∈X.ex\/X.s₀.heap.objs.size<=b)/\b≠X.env.locals/\(∀x c,X.env.cells.lookup x=Z c->c≠b)/\∀p∈X.pn++su,p.1≠b):Inv X su σ H' {s with heap:=h',gens:=g',drawn:=d',toks:=t'}:=by
 obtain⟨m,⟨o,es,ep,ho,r⟩,_⟩:=id I.loc;obtain⟨sl,hL⟩:=u.any ho I.free λz=>(wB _ z).2.1 rfl;exact I.step (ch:=ch) wB (λb o hL hb hc e n=>u.keep b o e n (λz=>(As.mp (I.stkSub b z)).elim hL hb) hc) (λb o _ _ hc e n=>u.any e n hc) (λb o hc e n=>u.free b o e n hc) (λb o hc e=>u.there b o e hc) u.tups u.frzs u.tbls (λm' hm=>by obtain⟨o',es',ep',ho',r'⟩:=hm;rw[ho]at ho';cases ho';exact⟨_,es',ep',hL,r'⟩) hok hg
theorem Inv.turned{it:Addr}(I:Inv X su σ H s)(k:∀b o,b≠it->s.heap.get? b=Z o->h'.get? b=Z o)(hn:H it=Z_)(hL:it≠X.env.locals)(h1:it∈X.ex\/X.s₀.heap.objs.size<=it)(h2:∀x c,X.env.cells.lookup x=Z c->c≠it)(h3:∀p∈X.pn++su,p.1≠it):Inv X su σ H {s with heap:=h',toks:=t'}:=by
 have nit:∀b u,H b=Z u->b≠it:=λb u e z=>by rw[z,hn]at e;cases e
 refine I.step (g':=s.gens) (d':=s.drawn) (ch:=[it]) (λb hb=>?_) (λb o _ _ hc e _=>k b o (λz=>hc (by simp[z])) e) (λb o _ _ hc e _=>⟨o.slots,k b o (λz=>hc (by simp[z])) e⟩) (λ_ _ _ _ n=>n)
  (λb o hc e=>⟨o,k b o (λz=>hc (by simp[z])) e⟩) (λ_ _ e=>e) (λ_ _ _ e=>e) (λb ps e=>⟨#[],by rw[e];simp⟩) (λm hm=>?_) (λb u e=>?_) I.bare
 .have e:b=it:=by simpa using hb
  subst e;exact⟨h1,hL,h2,h3⟩
 .obtain⟨o,es,ep,ho,r⟩:=hm
  exact⟨o,es,ep,k _ o (Bi hL) ho,r⟩
 .refine(I.hok b u e).stay (λc v hc q=>k c v ?_ q) (λ_ q=>q) λ_ _ q=>q
  rcases hc with z|z
  .rw[z];exact nit b u e
  .exact nit c _ z
theorem Inv.tok(I:Inv X su σ H s)(t:Nat):Inv X su σ H {s with toks:=t}:=I.un (h':=s.heap) (t':=t) Un.refl I.hok
theorem Inv.kept{t':Nat}(I:Inv X su σ H s)(k:∀b u,s.heap.get? b=Z u->h'.get? b=Z u):Inv X su σ H {s with heap:=h',toks:=t'}:=I.un (Un.kept k) (I.hok.kept k)
theorem Inv.laid{a:Addr}{o:HO}{t':Nat}(I:Inv X su σ H s)(k:∀b u,s.heap.get? b=Z u->h'.get? b=Z u)(hp:s.heap.objs.size<=a)(new:Z6 X.prog X.w (upd H a o) h' a o):Inv X su σ (upd H a o) {s with heap:=h',toks:=t'}:=I.un (Un.laid k hp (I.hok.fresh hp)) (I.hok.laid k hp new)
theorem Inv.write{x e:Addr}{o:HO}{t':Nat}(I:Inv X su σ H s)(mu:zR (H x))(he:e=x\/H e=Z (.own x))(k:∀b u,b≠e->s.heap.get? b=Z u->h'.get? b=Z u)(y9:∃u,h'.get? e=Z u)(new:Z6 X.prog X.w (upd H x o) h' x o):Inv X su σ (upd H x o) {s with heap:=h',toks:=t'}:=I.un (Un.write mu he k y9) (I.hok.write mu he k y9 new)
theorem Inv.weak{σ':List (Option V)}(I:Inv X su σ H s)(hl:σ'.length=σ.length)(w:∀(i:Nat) v,σ'[i]?=Z (Z v)->σ[i]?=Z (Z v)):Inv X su σ' H s :=
 ⟨I.ok,I.os,I.bare,I.base,let ⟨m,hn,hl'⟩:=I.loc;⟨m,hn,λi x v e1 e2 e3=>hl' i x v e1 (w i v e2) e3⟩,I.cell,I.free,I.freeC,I.pin,I.hok,hl.trans I.len⟩
theorem Inv.pins_of{pins':z7}(I:Inv X su σ H s)(h:∀p∈pins',s.heap.get? p.1=Z p.2/\H p.1=Z_/\p.1≠X.env.locals/\p.1∉X.fs/\∀v,p.2.data≠.cell v):Inv X pins' σ H s :=
 ⟨I.ok,I.os,I.bare,I.base,I.loc,I.cell,I.free,I.freeC,λp hp=>(Bb.mp hp).elim (λz=>I.pin p (CW _ z)) (h p),I.hok,I.len⟩
theorem WC{N:z9}(hN:N.Nodup){j:Nat}(a:N[i]?=Z x)(b:N[j]?=Z x):i=j:=by obtain⟨h1,e1⟩:=Bf.mp a;obtain⟨h2,e2⟩:=Bf.mp b;exact(List.getElem_inj hN).mp (e1.trans e2.symm)
theorem X1{M:Model}{v:V}{Q:Unit->Shared->Prop}(I:Inv X su σ H s)(hN:X.N.Nodup)(hi:X.N[i]?=Z x)(hx:Loc X.env.scope x)(r:RelV v u)(h:∀s',Inv X su (σ.set i (Z v)) H s'->(∃a,Fd a s.heap s'.heap/\(a=X.env.locals\/X.env.cells.lookup x=Z a))->Q () s')(hf:X.fn x=Aa\/X.env.scope.names.lookup x=Z .local:=by first|exact .inl rfl|exact .inr rfl|assumption):wpAny M A (storeName X.env x u) Q E s:=by
 obtain⟨m,hn,hl⟩:=id I.loc;have hcls:(X.env.scope.kind==.class||(X.env.scope.kind==.module&&X.env.locals != X.env.globals))=Ab:=by rw[I.ok.kind];rfl
 have hiσ:i<σ.length:=by rw[I.len];exact(Bf.mp hi).1
 have cne:=I.cne;have ve:∀{a:Addr} {h':Heap},(∃o,s.heap.get? a=Z o/\H a=Z_)->Fd a s.heap h'->tR X.prog X.w H h':=λ{a h'} ha hs b ob e=>by
  obtain⟨_,_,ud⟩:=ha;refine(I.hok b ob e).stay (λc w' hc q=>(hs.2 c ?_).trans q) (λ_ q=>q) λ_ _ q=>q
  rintro rfl
  rcases hc with rfl|hc
  .rw[ud]at e;cases e
  .rw[ud]at hc;cases hc
 rcases hx with hk|hk
 .refine wpAny_storeName_local hk hn (λh' hn' hs=>?_) hcls
  obtain⟨oL,_,_,vN,_⟩:=id hn;refine h _ ⟨I.ok,I.os,I.bare,⟨λb o e n hb hx=>?_,λb o e n hb hx=>?_,I.base.free,λb o e hx=>?_,I.base.tups,I.base.frzs,I.base.tbls⟩,⟨_,hn',λj y v' e1 e2 e3=>?_⟩,λy c e=>?_,I.free,I.freeC,λp hp=>?_,ve ⟨oL,vN,I.free⟩ hs,by simpa using I.len⟩ ⟨_,hs,.inl rfl⟩
  .exact(hs.2 b (Aw (BP (Ar e) I.ok.above))).trans (I.base.keep b o e n hb hx)
  .obtain⟨sl,e1⟩:=I.base.slot b o e n hb hx
   exact⟨sl,(hs.2 b (Aw (BP (Ar e) I.ok.above))).trans e1⟩
  .obtain⟨o',e1⟩:=I.base.there b o e hx
   exact⟨o',(hs.2 b (Aw (BP (Ar e) I.ok.above))).trans e1⟩
  .by_cases hj:j=i
   .subst hj
    rw[hi]at e1;cases e1;rw[Fg hiσ]at e2;cases e2;exact⟨u,r,.inl ⟨hk,by simp⟩⟩
   .rw[CU (Bi hj)]at e2
    obtain⟨u',r',q⟩:=hl j y v' e1 e2 e3;refine⟨u',r',?_⟩;rcases q with⟨k,e⟩|⟨k,c,e,z⟩
    .refine .inl ⟨k,?_⟩
     have:y≠x:=λe=>hj (WC hN e1 (e▸hi));simp[this,e]
    .exact .inr ⟨k,c,e,z.sameBut hs (cne y c e)⟩
  .obtain⟨w',z⟩:=I.cell y c e
   exact⟨w',z.sameBut hs (cne y c e)⟩
  .obtain⟨e,n,ne,nf,d⟩:=I.pin p hp
   exact⟨(hs.2 p.1 ne).trans e,n,ne,nf,d⟩
 .have hfn:X.fn x=Aa:=by
   rcases hf with z|z
   .exact z
   .rw[z]at hk;cases hk
  obtain⟨c,hc⟩:=I.ok.has x (.inl hk);obtain⟨w',z⟩:=I.cell x c hc;refine wpAny_storeName_cell I.ok.kind hk hc z (λh' hc' hs=>?_);obtain⟨oc,hoc,hocd⟩:=id z;refine h {s with heap:=h'} ⟨I.ok,I.os,I.bare,⟨λb o e n hb hx=>?_,λb o e n hb hx=>?_,I.base.free,λb o e hx=>?_,I.base.tups,I.base.frzs,I.base.tbls⟩,⟨m,hn.sameBut hs (Bi (cne x c hc)),λj y v' e1 e2 e3=>?_⟩,λy c' e=>?_,I.free,I.freeC,λp hp=>?_,ve ⟨oc,hoc,I.freeC x c hc⟩ hs,by simpa using I.len⟩ ⟨c,hs,.inr hc⟩
  .exact(hs.2 b (Aw (BP (Ar e) (I.ok.cab x c hfn hc)))).trans (I.base.keep b o e n hb hx)
  .obtain⟨sl,e1⟩:=I.base.slot b o e n hb hx
   exact⟨sl,(hs.2 b (Aw (BP (Ar e) (I.ok.cab x c hfn hc)))).trans e1⟩
  .obtain⟨o',e1⟩:=I.base.there b o e hx
   exact⟨o',(hs.2 b (Aw (BP (Ar e) (I.ok.cab x c hfn hc)))).trans e1⟩
  .by_cases hj:j=i
   .subst hj
    rw[hi]at e1;cases e1;rw[Fg hiσ]at e2;cases e2;exact⟨u,r,.inr ⟨.inl hk,c,hc,hc'⟩⟩
   .rw[CU (Bi hj)]at e2
    obtain⟨u',r',q⟩:=hl j y v' e1 e2 e3;refine⟨u',r',?_⟩;rcases q with q|⟨k,c',e,z'⟩
    .exact .inl q
    .refine .inr ⟨k,c',e,z'.sameBut hs ?_⟩
     rintro rfl
     exact hj (WC hN e1 (I.ok.inj _ _ _ e hc▸hi))
  .by_cases xo:c'=c
   .subst xo;exact⟨_,hc'⟩
   .obtain⟨w2,z2⟩:=I.cell y c' e
    exact⟨w2,z2.sameBut hs xo⟩
  .obtain⟨e,n,ne,nf,d⟩:=I.pin p hp
   refine⟨(hs.2 p.1 ?_).trans e,n,ne,nf,d⟩;intro q;rw[q,hoc]at e;have q':oc=p.2:=DE e;exact d w' (by rw[<-q'];exact hocd)
theorem Xc{M:Model}{v:V}{Q:Unit->Shared->Prop}(I:Inv X su σ H s)(hN:X.N.Nodup)(hi:X.N[i]?=Z x)(hx:Loc X.env.scope x)(r:RelV v u)(h:∀s',Inv X su (σ.set i (Z v)) H s'->Q () s')(hf:X.fn x=Aa\/X.env.scope.names.lookup x=Z .local:=by first|exact .inl rfl|exact .inr rfl|assumption):wpAny M A (storeName X.env x u) Q E s :=
 X1 I hN hi hx r (λs' I' _=>h s' I') hf
theorem Inv.call'{s':Shared}(I:Inv X su σ H s)(ho:s'.os=s.os)(u:Un (vP X.stack) ch H H' s.heap s'.heap)(hok:tR X.prog X.w H' s'.heap)(hg:AllBare s'.gens)(wB:∀b∈ch,(b∈X.ex\/X.s₀.heap.objs.size<=b)/\b≠X.env.locals/\(∀x c,X.env.cells.lookup x=Z c->c≠b)/\∀p∈X.pn++su,p.1≠b):Inv X su σ H' s':=by
 obtain⟨h',g',d',t',o'⟩:=s';have e:o'=s.os:=ho;subst e;exact I.call (g':=g') (t':=t') (d':=d') u hok hg wB
end
abbrev XK:=Value->Option Addr->Hp->Prop
abbrev St:=List (Option V)
abbrev VK:=V->Hp->Prop
abbrev TE:=St->Hp->VK->Prop
abbrev TT:=St->Hp->(Bool->Hp->Prop)->Prop
abbrev TA:=St->Hp->(List V->Hp->Prop)->Prop
structure wu where
 nx:St->Hp->Prop
 rt:VK
 bk:St->Hp->Prop:=λ_ _=>False
 ct:St->Hp->Prop:=λ_ _=>False
abbrev TS:=wu->St->Hp->Prop
inductive EP(X:Cx)(su:z7)(σ:St)(Q:VK)(u:Value)(s':Shared):Prop
 |mk (v:V) (H':Hp) (I:Inv X su σ H' s') (r:RelV v u) (q:Q v H'):EP X su σ Q u s'
inductive TP(X:Cx)(su:z7)(σ:St)(Q:Bool->Hp->Prop)(b:Bool)(s':Shared):Prop
 |mk (H':Hp) (I:Inv X su σ H' s') (q:Q b H'):TP X su σ Q b s'
inductive AP(X:Cx)(su:z7)(σ:St)(Q:List V->Hp->Prop)(us:z8)(s':Shared):Prop
 |mk (vs:List V) (H':Hp) (I:Inv X su σ H' s') (r:sC vs us) (q:Q vs H'):AP X su σ Q us s'
inductive SPn(X:Cx)(su:z7)(N:St->Hp->Prop)(s':Shared):Prop
 |mk (σ':St) (H':Hp) (I:Inv X su σ' H' s') (q:N σ' H'):SPn X su N s'
inductive SPr(X:Cx)(su:z7)(R:V->Hp->Prop)(u:Value)(s':Shared):Prop
 |mk (v:V) (σ':St) (H':Hp) (I:Inv X su σ' H' s') (r:RelV v u) (q:R v H'):SPr X su R u s'
def SP(X:Cx)(su:z7)(D:wu)(f:Flow)(s':Shared):Prop :=
 match f with
 | .next=>SPn X su D.nx s'
 | .brk=>SPn X su D.bk s'
 | .cont=>SPn X su D.ct s'
 | .ret u=>SPr X su D.rt u s'
def PE(X:Cx)(e:Expr)(t:TE):Prop :=
 ∀(su:z7) (s:Shared) (σ:St) (H:Hp) (Q:VK),Inv X su σ H s->t σ H Q->wpAny (model X.prog X.w) X.A (eval e X.env) (EP X su σ Q) X.xe s
def PT(X:Cx)(e:Expr)(t:TT):Prop :=
 ∀(su:z7) (s:Shared) (σ:St) (H:Hp) (Q:Bool->Hp->Prop),Inv X su σ H s->t σ H Q->wpAny (model X.prog X.w) X.A (isTrue e X.env (eval e X.env)) (TP X su σ Q) X.xe s
def PW(X:Cx)(e:Expr)(t:TT):Prop :=
 ∀(tU:Sem Value) (su:z7) (s:Shared) (σ:St) (H:Hp) (Q:Bool->Hp->Prop),Inv X su σ H s->t σ H Q->wpAny (model X.prog X.w) X.A (isTrue e X.env tU) (TP X su σ Q) X.xe s
theorem PW.pt{X:Cx}{e:Expr}{t:TT}(h:PW X e t):PT X e t:=h _
def PA(X:Cx)(es:List Expr)(t:TA):Prop :=
 ∀(pos:Pos) (su:z7) (s:Shared) (σ:St) (H:Hp) (Q:List V->Hp->Prop),Inv X su σ H s->t σ H Q->wpAny (model X.prog X.w) X.A (spliced (backTo pos (Ag es X.env))) (AP X su σ Q) X.xe s
def PS(X:Cx)(st:Stmt)(t:TS):Prop :=
 ∀(su:z7) (s:Shared) (σ:St) (H:Hp) (D:wu),Inv X su σ H s->t D σ H->wpAny (model X.prog X.w) X.A (exec st X.env) (SP X su D) X.xe s
def uw(X:Cx)(st:List Stmt)(t:TS):Prop :=
 ∀(su:z7) (s:Shared) (σ:St) (H:Hp) (D:wu),Inv X su σ H s->t D σ H->wpAny (model X.prog X.w) X.A (execs st X.env) (SP X su D) X.xe s
theorem sO{α:Type}{t:Sem α}{Q Q':α->Shared->Prop}{M:Model}{s:Shared}(h:wpAny M A t Q E s)(hQ:∀a s,Q a s->Q' a s):wpAny M A t Q' E s:=CQ h hQ λ_ _ x=>x
end
section
variable{H:Hp}{su:z7}{pos:Pos}{s:Shared}{σ:St}{x:Str}{u:Value}{E Q:z4}
section
variable{X:Cx}
def pE(i:Nat):TE:=λσ H Q=>∃v,σ[i]?=Z (Z v)/\Q v H
noncomputable def tC (v:V):TE:=λ_ H Q=>Q v H
theorem Dt{i:Nat}(hN:X.N[i]?=Z x)(hv:vd X.env.scope x)(hd:(x==("__debug__":Str))=Ab:=by decide)(tF:(x==("__classdict__":Str))=Ab:=by decide):PE X (.Name x pos) (pE i):=by
 intro su s σ H Q I h;obtain⟨v,e,h⟩:=h;obtain⟨m,hn,hl⟩:=I.loc;obtain⟨u,r,l⟩:=hl i x v hN e hv;have tO:EP X su σ Q u s:=⟨v,H,I,r,h⟩;rcases l with⟨hk,hm⟩|⟨hk,c,hc,vF⟩
 .exact wpAny_Name (wpAny_loadName_local I.ok.kind hk hn hm tO) hd
 .rcases hk with hk|hk
  .exact wpAny_Name (wpAny_loadName_cell I.ok.kind hk hc vF tO) hd
  .exact wpAny_Name (wpAny_loadName_free I.ok.kind hk hc vF tO tF) hd
theorem Vl{i j pos}:PE X (.Constant (.int i) j pos) (tC (.int i)):=λ_ _ _ H _ I h=>wpAny_Constant_int ⟨.int i,H,I.tok _,⟨_,rfl⟩,h⟩
theorem cS{b j pos}:PE X (.Constant (.bool b) j pos) (tC (.bl b)):=λ_ _ _ H _ I h=>Constant_bool ⟨.bl b,H,I,rfl,h⟩
theorem Vj{j pos}:PE X (.Constant .none j pos) (tC .non):=λ_ _ _ H _ I h=>Constant_none ⟨.non,H,I,rfl,h⟩
def Gl(X:Cx)(x:Str):Prop:=X.env.kindOf x=Z .globalImplicit
theorem QE(I:Inv X su σ H s)(hg:Gl X x)(hm:X.mg x=Z u)(h:Q u s)(hd:(x==("__debug__":Str))=Ab:=by decide):wpAny (model X.prog X.w) X.A (eval (.Name x pos) X.env) Q E s :=
 bB I.ok.kind hg (Calls.loadGlobal_global (by rw[I.ok.glob];exact I.mod.glob.keeps I.bk) hm h) hd
theorem K8(I:Inv X su σ H s)(hg:Gl X x)(hm:X.mg x=Z_)(hv:CD x=Z u)(h:Q u s)(hn:x ≠ "__name__":=by decide)(hd:(x==("__debug__":Str))=Ab:=by decide):wpAny (model X.prog X.w) X.A (eval (.Name x pos) X.env) Q E s:=by
 obtain⟨mb,h1,h2⟩:=I.mod.blt;exact bB I.ok.kind hg (Calls.loadGlobal_builtin (by rw[I.ok.glob];exact I.mod.glob.keeps I.bk) hm (by rw[I.ok.blt];exact h1.keeps I.bk) ((h2 x hn).trans hv) h) hd
theorem V3{v:V}(hg:Gl X x)(hm:X.mg x=Z u)(r:RelV v u)(hd:(x==("__debug__":Str))=Ab:=by decide):PE X (.Name x pos) (tC v) :=
 λ_ _ _ H _ I h=>QE I hg hm ⟨v,H,I,r,h⟩ hd
theorem gJ{v:V}(hg:Gl X x)(hm:X.mg x=Z_)(hv:CD x=Z u)(r:RelV v u)(hn:x ≠ "__name__":=by decide)(hd:(x==("__debug__":Str))=Ab:=by decide):PE X (.Name x pos) (tC v) :=
 λ_ _ _ H _ I h=>K8 I hg hm hv ⟨v,H,I,r,h⟩ hn hd
variable{a b:Expr}{ta tb:TE}{pos:Pos}
def PC(X:Cx)(op:CmpOp)(a b:Expr)(t:TE):Prop :=
 ∀(su:z7) (s:Shared) (σ:St) (H:Hp) (Q:VK),Inv X su σ H s->t σ H Q ->
  wpAny (model X.prog X.w) X.A (eval a X.env) (λv s₁=>wpAny (model X.prog X.w) X.A (eval b X.env) (λu s₂=>wpAny (model X.prog X.w) X.A (BL op v u) (EP X su σ Q) X.xe s₂) X.xe s₁) X.xe s
theorem Nz(b:Expr){op:CmpOp}(h:op≠.In)(h2:op≠.NotIn):CY op b=Ab:=by
 have e1:(op==CmpOp.In)=Ab:=by cases op<;>first|rfl|exact absurd rfl h
 have e2:(op==CmpOp.NotIn)=Ab:=by cases op<;>first|rfl|exact absurd rfl h2
 cases b<;>simp[CY,e1,e2]
def tB(t:TE):TT:=λσ H Q=>t σ H λx H1=>∃c,x=.bl c/\Q c H1
theorem dn{op:CmpOp}{t:TE}(h:PC X op a b t)(h1:CY op b=Ab:=by first|exact Nz _ (by decide) (by decide)|rfl):PE X (.Compare a [op] [b] pos) t:=λsu s σ H Q I hw=>wpAny_Compare1 (h su s σ H Q I hw) h1
theorem Qh{op:CmpOp}{t:TE}(h:PC X op a b t)(h1:CY op b=Ab:=by first|exact Nz _ (by decide) (by decide)|rfl):PT X (.Compare a [op] [b] pos) (tB t):=by intro su s σ H Q I hw;refine wpAny_isTrue_Compare1 (sO (h su s σ H _ I hw) λv s1 h1=>sO h1 λu s2 h2=>sO h2 λc s3 ⟨x,H1,I1,r1,q1⟩=>?_) h1;obtain⟨d,rfl,q⟩:=q1;cases r1;exact E8 ⟨H1,I1,q⟩
theorem en{e:Expr}{t:TE}(h:PE X e t)(he:∀tU,isTrue e X.env tU=(do let v <-tU;standAt e.pos;holding [v] (truthy v)):=by intro _;rfl):PT X e (tB t):=by intro su s σ H Q I hw;refine isTrue_plain (sO (h su s σ H _ I hw) λv s1 ⟨x,H1,I1,r1,q1⟩=>?_) (he _);obtain⟨d,rfl,q⟩:=q1;cases r1;exact E8 ⟨H1,I1,q⟩
variable{tA tB':TT}{rest:List Expr}
def D7(t u:TT):TT:=λσ H Q=>t σ H λc H1=>if c=Aa then u σ H1 Q else Q Ab H1
def xW(t u:TT):TT:=λσ H Q=>t σ H λc H1=>if c=Aa then Q Aa H1 else u σ H1 Q
def BX(t:TT):TT:=λσ H Q=>t σ H λc H1=>Q (!c) H1
theorem ia(ha:PT X a tA):PW X (.BoolOp .And [a] pos) tA:=by
 intro wh su s σ H Q I h;refine isTrue_and (sO (ha su s σ H Q I h) λc s1 e=>?_);cases c with
 |true=>exact isTrue_and_nil e
 |false=>exact e
theorem dZ(ha:PT X a tA):PW X (.BoolOp .Or [a] pos) tA:=by
 intro wh su s σ H Q I h;refine isTrue_or (sO (ha su s σ H Q I h) λc s1 e=>?_);cases c with
 |false=>exact isTrue_or_nil e
 |true=>exact e
theorem Vu(ha:PT X a tA)(hb:PW X (.BoolOp .And (b::rest) pos) tB'):PW X (.BoolOp .And (a::b::rest) pos) (D7 tA tB'):=by
 intro wh su s σ H Q I h;refine isTrue_and (sO (ha su s σ H _ I h) λc s1 ⟨H1,I1,q1⟩=>?_);cases c with
 |true=>exact hb wh su s1 σ H1 Q I1 q1
 |false=>exact⟨H1,I1,q1⟩
theorem UE(ha:PT X a tA)(hb:PW X (.BoolOp .Or (b::rest) pos) tB'):PW X (.BoolOp .Or (a::b::rest) pos) (xW tA tB'):=by
 intro wh su s σ H Q I h;refine isTrue_or (sO (ha su s σ H _ I h) λc s1 ⟨H1,I1,q1⟩=>?_);cases c with
 |true=>exact⟨H1,I1,q1⟩
 |false=>exact hb wh su s1 σ H1 Q I1 q1
theorem dg(ha:PT X a tA):PT X (.UnaryOp .Not a pos) (BX tA):=by intro su s σ H Q I h;exact isTrue_not (sO (ha su s σ H (λc H1=>Q (!c) H1) I h) λ_ _ ⟨H',I',q'⟩=>⟨H',I',q'⟩)
def cp(ta tb:TE):TE:=λσ H Q=>ta σ H λx H1=>∃c,x=.bl c/\if c=Aa then tb σ H1 Q else Q (.bl Ab) H1
def cH(ta:TE):TE:=λσ H Q=>ta σ H λx H1=>∃c,x=.bl c/\Q (.bl (!c)) H1
theorem cY{op}{t:TE}(h:PE X a t):PE X (.BoolOp op [a] pos) t:=λsu s σ H Q I hw=>BoolOp_one (h su s σ H Q I hw)
theorem UX(ha:PE X a ta)(hb:PE X (.BoolOp .And (b::rest) pos) tb):PE X (.BoolOp .And (a::b::rest) pos) (cp ta tb):=by
 intro su s σ H Q I h;refine BoolOp_and (sO (ha su s σ H _ I h) λv s1 ⟨x,H1,I1,r1,q1⟩=>?_);obtain⟨c,rfl,q1⟩:=q1;cases r1;refine E8 ?_;cases c with
 |true=>exact hb su s1 σ H1 Q I1 q1
 |false=>exact⟨.bl Ab,H1,I1,rfl,q1⟩
theorem er(ha:PE X a ta):PE X (.UnaryOp .Not a pos) (cH ta):=by intro su s σ H Q I h;refine UnaryOp_ (sO (ha su s σ H _ I h) λv s1 ⟨x,H1,I1,r1,q1⟩=>?_);obtain⟨c,rfl,q1⟩:=q1;cases r1;exact not_of (E8 ⟨.bl (!c),H1,I1,rfl,q1⟩)
def tIf(t:TT)(ta tb:TE):TE:=λσ H Q=>t σ H λc H1=>if c=Aa then ta σ H1 Q else tb σ H1 Q
theorem W6{c:Expr}(hc:PT X c tA)(ha:PE X a ta)(hb:PE X b tb):PE X (.IfExp c a b pos) (tIf tA ta tb):=by
 intro su s σ H Q I h;refine wpAny_IfExp (sO (hc su s σ H _ I h) λd s1 ⟨H1,I1,q1⟩=>?_);cases d with
 |true=>exact ha su s1 σ H1 Q I1 q1
 |false=>exact hb su s1 σ H1 Q I1 q1
end
end
section
variable{X:Cx}{c tg:Expr}{H:Hp}{su:z7}{es:List Expr}{i:Nat}{P:Program}{K:Af}{s:Shared}{σ:St}{x:Str}{u:Value}{E:z4}
def tQ(K:Af)(H:Hp)(a:Addr)(xs:List V):Prop :=
 Rd H a (.lst xs) \/
  ∃(o:Obj) (sy:Array Value) (n:Nat),K.lookup a=Z o/\o.cls=.type "list"/\o.dict=Z_/\o.data=.seq sy n/\sy.size<=sizeLine/\sC xs sy.toList
def uH(K:Af)(H:Hp)(a:Addr)(xs:List V):Prop :=
 Rd H a (.tup xs) \/
  ∃(o:Obj) (sy:Array Value) (n:Nat),K.lookup a=Z o/\o.cls=.type "tuple"/\o.data=.seq sy n/\sy.size<=sizeLine/\sC xs sy.toList
def pA:Value->Option V
 | .none=>Z .non
 | .bool b=>Z (.bl b)
 | .int i _=>Z (.int i)
 | .str x _=>Z (.str x)
 | .bytes b _=>Z (.byt b)
 | .float b _=>Z (.flt b)
 | .ref a=>Z (.ref a)
 | .type n=>Z (.ty n)
 |_=>Z_
theorem RelV.abs{x:V}(r:RelV x u):pA u=Z x:=by
 cases x with
 |non=>cases r;rfl
 |bl _=>cases r;rfl
 |int _=>obtain⟨t,rfl⟩:=r;rfl
 |str _=>obtain⟨t,rfl⟩:=r;rfl
 |byt _=>obtain⟨t,rfl⟩:=r;rfl
 |flt _=>obtain⟨t,rfl⟩:=r;rfl
 |ref _=>cases r;rfl
 |ty _=>cases r;rfl
theorem RelV.inj{x y:V}{u:Value}(r:RelV x u)(q:RelV y u):x=y:=DE (r.abs.symm.trans q.abs)
theorem sC.inj:∀{xs ys:List V} {us:z8},sC xs us->sC ys us->xs=ys
 |_,_,_,.nil,.nil=>rfl
 |_,_,_,.cons r t,.cons r' t'=>by rw[r.inj r',sC.inj t t']
section
variable{X:Cx}{su:z7}{σ:St}{H:Hp}{s:Shared}{a:Addr}{xs ys:List V}
theorem tQ.of(h:H a=Z (.lst xs)):tQ K H a xs:=.inl (.inl h)
theorem uH.of(h:H a=Z (.tup xs)):uH K H a xs:=.inl (.inl h)
theorem Inv.list(I:Inv X su σ H s)(h:tQ X.K H a xs):∃sy:z8,sC xs sy/\PlainL s.heap a sy.toArray/\xs.length<=sizeLine:=by
 rcases h with h|⟨o,sy,n,hk,hc,hd,hs,hz,r⟩
 .obtain⟨z,sy,n,r,e⟩:=h.ok I.hok
  exact⟨sy,r,⟨_,n,e,rfl,rfl,rfl⟩,z⟩
 .refine⟨sy.toList,r,⟨o,n,I.kIn a o hk,hc,hd,by simpa using hs⟩,?_⟩
  have e:=r.length;simp only[Bk]at e;omega
theorem Inv.tuple(I:Inv X su σ H s)(h:uH X.K H a xs):∃sy:z8,sC xs sy/\IsTup s.heap a sy.toArray/\xs.length<=sizeLine:=by
 rcases h with h|⟨o,sy,n,hk,hc,hs,hz,r⟩
 .obtain⟨z,sy,r,p⟩:=h.ok I.hok
  exact⟨sy,r,p,z⟩
 .refine⟨sy.toList,r,⟨o,I.kIn a o hk,hc,n,by simpa using hs⟩,?_⟩
  have e:=r.length;simp only[Bk]at e;omega
theorem Inv.list_inj(I:Inv X su σ H s)(h:tQ X.K H a xs)(h':tQ X.K H a ys):xs=ys:=by
 obtain⟨sy,r,⟨o,n,e,_,_,d⟩,_⟩:=I.list h;obtain⟨its',r',⟨o',n',e',_,_,d'⟩,_⟩:=I.list h';rw[e]at e';cases e';rw[d]at d';injection d' with d1 _
 have:sy=its':=by simpa using congrArg Array.toList d1
 subst this;exact r.inj r'
theorem Inv.tuple_inj(I:Inv X su σ H s)(h:uH X.K H a xs)(h':uH X.K H a ys):xs=ys:=by
 obtain⟨sy,r,⟨o,e,_,n,d⟩,_⟩:=I.tuple h;obtain⟨its',r',⟨o',e',_,n',d'⟩,_⟩:=I.tuple h';rw[e]at e';cases e';rw[d]at d';injection d' with d1 _
 have:sy=its':=by simpa using congrArg Array.toList d1
 subst this;exact r.inj r'
end
abbrev Cx.wish(X:Cx)(E:z4):Cx:={X with xe:=E}
abbrev Cx.nox(X:Cx):Cx:=X.wish λ_ _=>False
theorem Cx.Ok.wish{X:Cx}(ok:X.Ok)(E:z4):(X.wish E).Ok :=
 ⟨ok.mod,ok.kind,ok.glob,ok.blt,ok.above,ok.inj,ok.has,ok.cab,ok.hd,ok.frames,ok.stk,ok.exf,ok.bs,ok.bsz,ok.noex,ok.exfs,ok.funs,ok.frf⟩
theorem Cx.Ok.unwish(ok:(X.wish E).Ok):X.Ok :=
 ⟨ok.mod,ok.kind,ok.glob,ok.blt,ok.above,ok.inj,ok.has,ok.cab,ok.hd,ok.frames,ok.stk,ok.exf,ok.bs,ok.bsz,ok.noex,ok.exfs,ok.funs,ok.frf⟩
section
variable{X:Cx}{su:z7}{σ:St}{H:Hp}{s:Shared}{E:z4}
theorem Inv.wish(I:Inv X su σ H s)(E:z4):Inv (X.wish E) su σ H s:=⟨I.ok.wish E,I.os,I.bare,I.base,I.loc,I.cell,I.free,I.freeC,I.pin,I.hok,I.len⟩
theorem Inv.unwish(I:Inv (X.wish E) su σ H s):Inv X su σ H s:=⟨I.ok.unwish,I.os,I.bare,I.base,I.loc,I.cell,I.free,I.freeC,I.pin,I.hok,I.len⟩
theorem SP.unwish{D:wu}{f:Flow}{s':Shared}(h:SP (X.wish E) su D f s'):SP X su D f s':=by
 cases f with
 |next=>obtain⟨σ',H',I,q⟩:=h;exact⟨σ',H',I.unwish,q⟩
 |brk=>obtain⟨σ',H',I,q⟩:=h;exact⟨σ',H',I.unwish,q⟩
 |cont=>obtain⟨σ',H',I,q⟩:=h;exact⟨σ',H',I.unwish,q⟩
 |ret u=>obtain⟨v,σ',H',I,r,q⟩:=h;exact⟨v,σ',H',I.unwish,r,q⟩
theorem uw.nox{st:List Stmt}{t:TS}(h:uw X.nox st t):uw X st t:=λsu s σ H D I hw=>CQ (h su s σ H D (I.wish _) hw) (λ_ _ q=>q.unwish) λ_ _ z=>B7 z
end
section
variable{X:Cx}{st:Stmt}{rest:List Stmt}{t u:TS}{e:Expr}{te:TE}{pos:Pos}
noncomputable def bY:TS:=λD σ H=>D.nx σ H
noncomputable def pI (t u:TS):TS:=λD σ H=>t {D with nx:=u D} σ H
theorem ip:uw X [] bY:=λ_ _ σ H _ I h=>Pn ⟨σ,H,I,h⟩
theorem Nw(h1:PS X st t)(h2:uw X rest u):uw X (st::rest) (pI t u):=by
 intro su s σ H D I h;refine wpAny_execs_cons (sO (h1 su s σ H {D with nx:=u D} I h) λf s1 q=>?_);cases f with
 |next=>obtain⟨σ',H',I',q⟩:=q;exact h2 su s1 σ' H' D I' q
 |ret v=>exact q
 |brk=>exact q
 |cont=>exact q
theorem VM(h1:PS X st t):uw X [st] t:=by
 intro su s σ H D I h;refine wpAny_execs_cons (sO (h1 su s σ H D I h) λf s1 q=>?_);cases f with
 |next=>exact Pn q
 |ret v=>exact q
 |brk=>exact q
 |cont=>exact q
def dO:TS:=λD σ H=>D.bk σ H
theorem gB:PS X (.Break pos) dO:=λ_ _ σ H _ I h=>wpAny_Break ⟨σ,H,I,h⟩
theorem Inv.quiet(I:Inv X su σ H s):interactive X.env=Ab:=by simp[interactive,I.ok.kind]
def cO(te:TE):TS:=λD σ H=>te σ H λ_ H1=>D.nx σ H1
theorem Lg(he:PE X e te)(hs:Et e Z_ pos.line X.env=pure Ab:=by rfl):PS X (.Expr e pos) (cO te):=by intro su s σ H D I h;exact wpAny_Expr_any (sO (he su s σ H _ I h) λv s1 ⟨x,H1,I1,r1,q1⟩=>⟨σ,H1,I1,q1⟩) I.quiet hs
def pD(te:TE):TS:=λD σ H=>te σ H D.rt
theorem Qg(he:PE X e te):PS X (.Return (Z e) pos) (pD te):=by intro su s σ H D I h;exact wpAny_Return_some (sO (he su s σ H _ I h) λv s1 ⟨x,H1,I1,r1,q1⟩=>⟨x,σ,H1,I1,r1,q1⟩)
def pP(c:TT)(t u:TS):TS:=λD σ H=>c σ H λb H1=>if b=Aa then t D σ H1 else u D σ H1
theorem UN{a b:List Stmt}{tc:TT}(hc:PT X c tc)(ha:uw X a t)(hb:uw X b u):PS X (.If c a b pos) (pP tc t u):=by
 intro su s σ H D I h;refine wpAny_If (sO (hc su s σ H _ I h) λd s1 ⟨H1,I1,q1⟩=>?_);cases d with
 |true=>exact ha su s1 σ H1 D I1 q1
 |false=>exact hb su s1 σ H1 D I1 q1
def dB:TS:=λ_ _ _=>False
theorem NO{xX:List Stmt}:uw X xX dB:=λ_ _ _ _ _ _ h=>h.elim
end
abbrev TG:=V->St->Hp->(St->Hp->Prop)->Prop
abbrev yM:=List V->St->Hp->(St->Hp->Prop)->Prop
def PG(X:Cx)(ux:Expr)(t:TG):Prop :=
 ∀(su:z7) (s:Shared) (σ:St) (H:Hp) (v:V) (u:Value) (Q:St->Hp->Prop),Inv X su σ H s->RelV v u->t v σ H Q ->
  wpAny (model X.prog X.w) X.A (assign ux X.env u) (λ_ s'=>∃σ' H',Inv X su σ' H' s'/\Q σ' H') X.xe s
def PGs(X:Cx)(ts:List Expr)(t:yM):Prop :=
 ∀(su:z7) (s:Shared) (σ:St) (H:Hp) (vs:List V) (us:z8) (Q:St->Hp->Prop),Inv X su σ H s->sC vs us->t vs σ H Q ->
  wpAny (model X.prog X.w) X.A (assignInOrder ((E1 ts X.env).map (·.2)) us) (λ_ s'=>∃σ' H',Inv X su σ' H' s'/\Q σ' H') X.xe s
abbrev P6:=V->V->V->Hp->(Hp->Prop)->Prop
def Ut(X:Cx)(t:P6):Prop :=
 ∀(su:z7) (s:Shared) (σ:St) (H:Hp) (o i v:V) (ov iv u:Value) (Q:Hp->Prop),Inv X su σ H s->RelV o ov->RelV i iv->RelV v u->t o i v H Q ->
  wpAny (model X.prog X.w) X.A (setItem ov iv u) (λ_ s'=>∃H',Inv X su σ H' s'/\Q H') X.xe s
section
variable{X:Cx}{pos:Pos}
def MN(i:Nat):TG:=λv σ H Q=>Q (σ.set i (Z v)) H
theorem JD(hN:X.N.Nodup)(hi:X.N[i]?=Z x)(hx:Loc X.env.scope x)(hf:X.fn x=Aa\/X.env.scope.names.lookup x=Z .local:=by first|exact .inl rfl|exact .inr rfl|assumption):PG X (.Name x pos) (MN i):=by intro su s σ H v u Q I r h;exact wpAny_assign_Name (Xc I hN hi hx r (λs' I'=>⟨_,H,I',h⟩) hf)
def Um:yM:=λvs σ H Q=>vs=[]/\Q σ H
def P7(t:TG)(u:yM):yM:=λvs σ H Q=>∃v r,vs=v::r/\t v σ H λσ' H'=>u r σ' H' Q
theorem V2:PGs X [] Um:=by intro su s σ H vs us Q I r h;obtain⟨e,h⟩:=h;subst e;cases r;exact assignInOrder_nil ⟨σ,H,I,h⟩
theorem Nx{e:Expr}{t:TG}{u:yM}(h1:PG X e t)(h2:PGs X es u)(hs:(E1 (e::es) X.env).map (·.2)=assign e X.env::(E1 es X.env).map (·.2):=by rfl):PGs X (e::es) (P7 t u):=by
 intro su s σ H vs us Q I r h;obtain⟨v,vr,e1,h⟩:=h;subst e1;cases r with
 |cons r rr=>rw[hs];refine assignInOrder_cons (sO (h1 su s σ H _ _ _ I r h) λ_ s1 ⟨σ1,H1,I1,q1⟩=>?_);exact h2 su s1 σ1 H1 _ _ Q I1 rr q1
def Uz(K:Af)(n:Nat)(t:yM):TG:=λv σ H Q=>∃a xs,v=.ref a/\uH K H a xs/\xs.length=n/\t xs σ H Q
theorem U1{k:Nat}{t:yM}{n:Nat}(hc:X.calm=Aa)(h:PGs X es t)(hn:(E1 es X.env).length=n:=by rfl)(vj:(E1 es X.env).findIdx? (·.1)=Z_:=by rfl):PG X (.Tuple es k pos) (Uz X.K n t):=by
 intro su s σ H v u Q I r hw;obtain⟨a,xs,e1,hq,hl,hw⟩:=hw;subst e1;cases r;obtain⟨sy,rv,ht,hz⟩:=I.tuple hq;refine assign_Tuple_tuple (I.ok.hd hc) ht (by simp[hn,<-hl,rv.length]) vj λh' hx=>?_;have I1:Inv X su σ H {s with heap:=h'}:=I.kept (t':=s.toks) λb o e=>hx b o (Aw (Ar e)) e;exact h su _ σ H xs _ Q I1 (by simpa using rv) hw
def KY(to ti:TE)(t:P6):TG:=λv σ H Q=>to σ H λo H1=>ti σ H1 λi H2=>t o i v H2 λH3=>Q σ H3
theorem dR{o i:Expr}{to ti:TE}{t:P6}(ho:PE X o to)(hi:PE X i ti)(hs:Ut X t)
  (ha:∀v,assign (.Subscript o i pos) X.env v=(do
   let ov <-holding [v] (eval o X.env)
   let iv <-holding [v,ov] (eval i X.env)
   standAt pos
   holding [v,ov,iv] (setItem ov iv v)
   release [v,ov,iv] []):=by intro _;rfl):PG X (.Subscript o i pos) (KY to ti t):=by
 intro su s σ H v u Q I r h;rw[ha];refine Ac (Cd (sO (ho su s σ H _ I h) λov s1 ⟨x,H1,I1,r1,q1⟩=>?_));refine Ac (Cd (sO (hi su s1 σ H1 _ I1 q1) λiv s2 ⟨y,H2,I2,r2,q2⟩=>?_));refine Ac (wpAny_standAt (Ac (Cd (sO (hs su s2 σ H2 x y v ov iv u _ I2 r1 r2 r q2) λ_ s3 ⟨H3,I3,q3⟩=>?_))));exact wpAny_release ⟨σ,H3,I3,q3⟩
def Uo(te:TE)(g:TG):TS:=λD σ H=>te σ H λx H1=>g x σ H1 D.nx
theorem cZ{e:Expr}{te:TE}{g:TG}(he:PE X e te)(hg:PG X tg g)(hs:swapsWithSole [tg] e pos.line X.env=pure Ab:=by rfl)(hw:swappedStores [tg] e X.env=pure Z_:=by rfl)(h1:(E1 [tg] X.env).map (·.2)=[assign tg X.env]:=by rfl):PS X (.Assign [tg] e pos) (Uo te g):=by
 intro su s σ H D I h;refine wpAny_Assign_stores (sO (he su s σ H _ I h) λv s1 ⟨x,H1,I1,r1,q1⟩=>?_) hs hw;rw[h1];exact sO (hg su s1 σ H1 x v _ I1 r1 q1) λ_ s2 ⟨σ',H',I',q'⟩=>⟨σ',H',I',q'⟩
theorem Qv{e:Expr}{te:TE}{pos':Pos}(hN:X.N.Nodup)(hi:X.N[i]?=Z x)(hx:Loc X.env.scope x)(he:PE X e te)(hs:Et e (Z (.Name x pos')) pos.line X.env=pure Ab:=by rfl)(hf:X.fn x=Aa\/X.env.scope.names.lookup x=Z .local:=by first|exact .inl rfl|exact .inr rfl|assumption):PS X (.Assign [.Name x pos'] e pos) (Uo te (MN i)):=by
 intro su s σ H D I h;refine wpAny_Assign_Name (sO (he su s σ H _ I h) λv s1 ⟨y,H1,I1,r1,q1⟩=>?_) hs;exact Xc I1 hN hi hx r1 (λs2 I2=>⟨_,H1,I2,q1⟩) hf
end
section
variable{X:Cx}{pos:Pos}
def gk(c:TT)(tb:TS):TS:=λD σ H=>∃W:Nat->St->Hp->Prop,(∃m,W m σ H)/\∀m σ H,W m σ H ->
 c σ H λb H1=>if b=Aa then ∃N:St->Hp->Prop,(∀σ' H',N σ' H'->∃m',m'<m/\W m' σ' H')/\tb {D with nx:=N,ct:=N,bk:=D.nx} σ H1 else D.nx σ H1
theorem iV{body:List Stmt}{tc:TT}{tb:TS}(hp:PassesOwn (model X.prog X.w) X.A X.env X.xe)(hc:PT X c tc)(hb:uw X body tb):PS X (.While c body [] pos) (gk tc tb):=by
 intro su s σ H D I h;obtain⟨W,⟨m0,w0⟩,vT⟩:=h;refine wpAny_While (codeAny_whileLoop (λn s'=>∃σ' H',Inv X su σ' H' s'/\W n σ' H') ?_ m0 ⟨σ,H,I,w0⟩)
 rintro n s1 ⟨σ1,H1,I1,w1⟩
 refine IZ hp (sO (hc su s1 σ1 H1 _ I1 (vT n σ1 H1 w1)) λb s2 ⟨H2,I2,q2⟩=>?_);cases b with
 |true =>
  obtain⟨N,hN,q2⟩:=q2;rw[if_pos rfl];refine IZ hp (sO (hb su s2 σ1 H2 _ I2 q2) λf s3 q3=>?_);cases f with
  |next=>obtain⟨σ3,H3,I3,n3⟩:=q3;obtain⟨m',hm,w3⟩:=hN σ3 H3 n3;exact⟨m',hm,σ3,H3,I3,w3⟩
  |cont=>obtain⟨σ3,H3,I3,n3⟩:=q3;obtain⟨m',hm,w3⟩:=hN σ3 H3 n3;exact⟨m',hm,σ3,H3,I3,w3⟩
  |brk=>exact q3
  |ret v=>exact q3
 |false=>rw[if_neg DD];exact Pn ⟨σ1,H2,I2,q2⟩
end
structure It where
 go:Nat->Hp->Prop
 yld:Nat->Hp->V->Hp->Prop
 stop:Nat->Hp->Prop
def ED(X:Cx)(su:z7)(H:Hp)(b:Addr):Prop :=
 H b=Z_/\b≠X.env.locals/\b∉X.fs/\(b∈X.ex\/X.s₀.heap.objs.size<=b)/\(∀x c,X.env.cells.lookup x=Z c->c≠b)/\∀p∈X.pn++su,p.1≠b
theorem Inv.fpOk{H':Hp}{b:Addr}(I:Inv X su σ H s)(hb:s.heap.objs.size<=b)(hn:H' b=Z_):ED X su H' b:=by
 refine⟨hn,Jh (BP I.lt hb),I.nofs hb,.inr (Bp I.sz hb),λx c e z=>?_,λp hp z=>?_⟩
 .obtain⟨v,q⟩:=I.cell x c e
  exact absurd (BP q.lt (by rw[z];exact hb)) (FU _)
 .exact absurd (BP (Ar (I.pin p hp).1) (by rw[z];exact hb)) (FU _)
structure wt(P:Program)(w:World)(K:Af)(tg:Expr)(J:It)(fp:List Addr)(it:Addr)(tn:Nat->Heap->Prop):Prop where
 mem:it∈fp
 obj:∀i h,tn i h->∀b∈fp,∃o,h.get? b=Z o/\∀v,o.data≠.cell v
 keep:∀i h h',tn i h->(∀b∈fp,∀o,h.get? b=Z o->h'.get? b=Z o)->tn i h'
 item:∀(X:Cx),X.prog=P->X.w=w->X.K=K->X.calm=Aa->∀(i:Nat) (su:z7) (s:Shared) (σ:St) (H:Hp) (E:z4),Inv X su σ H s->(∀b∈fp,ED X su H b)->tn i s.heap->J.go i H ->
  wpAny (model P w) X.A (pyNext (.ref it)) (λr s1=>∃u,r=Z u /\
   wpAny (model P w) X.A (Pl tg (.ref it) u) (λ_ s2=>∃x H',Inv X su σ H' s2/\RelV x u/\J.yld i H x H'/\tn (i+1) s2.heap/\∀b∈fp,H' b=Z_) E s1) E s
 done:∀(X:Cx),X.prog=P->X.w=w->X.K=K->X.calm=Aa->∀(i:Nat) (su:z7) (s:Shared) (σ:St) (H:Hp) (E:z4),Inv X su σ H s->(∀b∈fp,ED X su H b)->tn i s.heap->J.stop i H ->
  wpAny (model P w) X.A (pyNext (.ref it)) (λr s1=>r=Z_/\Inv X su σ H s1) E s
 self:∀(A:Around) (i:Nat) (s:Shared) (Q:z4) (E:z4),tn i s.heap->Q (.ref it) s->wpAny (model P w) A (pyIter (.ref it)) Q E s
abbrev TI:=St->Hp->(It->Hp->Prop)->Prop
def PIE(X:Cx)(su:z7)(σ:St)(tg:Expr)(R:It->Hp->Prop)(itv:Value)(s2:Shared):Prop :=
 ∃(it:Addr) (fp:List Addr) (tn:Nat->Heap->Prop) (J:It) (H':Hp),itv=.ref it/\Inv X su σ H' s2/\wt X.prog X.w X.K tg J fp it tn/\tn 0 s2.heap/\(∀b∈fp,ED X su H' b)/\R J H'
def PI(X:Cx)(tg iter:Expr)(wi:TI):Prop :=
 ∀(su:z7) (s:Shared) (σ:St) (H:Hp) (R:It->Hp->Prop),Inv X su σ H s->wi σ H R ->
  wpAny (model X.prog X.w) X.A (eval iter X.env) (λv s1=>wpAny (model X.prog X.w) X.A (pyIter v) (PIE X su σ tg R) X.xe s1) X.xe s
theorem MU{M:Model}{A:Around}{it:Addr}{o:Obj}{n:String}{vs:Array Value}{Q:Unit->Shared->Prop}(ho:s.heap.get? it=Z o)(hc:o.cls=.type n)(hd:o.data=.fields vs)(hn:["enumerate","zip","dict_itemiterator","dict_reverseitemiterator","odict_iterator","itertools.zip_longest","itertools.pairwise"].contains n=Ab)(hQ:Q () s):wpAny M A (Pl tg (.ref it) u) Q E s:=by
  unfold Pl
  cases tg<;>first
    | exact Ae hQ
    | (cases u<;>first
        | exact Ae hQ
        | (refine Ac (wpAny_load ho ?_)
           rw [hc, hd]
           show wpAny M A (if (["enumerate", "zip", "dict_itemiterator", "dict_reverseitemiterator", "odict_iterator", "itertools.zip_longest", "itertools.pairwise"].contains n && vs[0]? == Z (rawInt _)) = Aa then _ else _) Q E s
           rw [if_neg (by intro h; rw [hn, Bool.false_and] at h; cases h)]
           exact Ae hQ))
def Itl(K:Af)(a:Addr):It :=
 ⟨λi H=>∃xs x,tQ K H a xs/\xs[i]?=Z x,λi H x H'=>H'=H/\∀xs,tQ K H a xs->xs[i]?=Z x,λi H=>∃xs,tQ K H a xs/\xs.length<=i⟩
def Itt(K:Af)(a:Addr):It :=
 ⟨λi H=>∃xs x,uH K H a xs/\xs[i]?=Z x,λi H x H'=>H'=H/\∀xs,uH K H a xs->xs[i]?=Z x,λi H=>∃xs,uH K H a xs/\xs.length<=i⟩
def Itr(lo:Int)(n:Nat):It:=⟨λi _=>i<n,λi H x H'=>H'=H/\x=.int (lo+i),λi _=>n<=i⟩
theorem kX{w:World}(a it:Addr):wt P w K tg (Itl K a) [it] it (λi h=>h.IsListIter it a i) where
 mem:=by simp
 obj:=λi h st b hb=>by
  have e:b=it:=by simpa using hb
  subst e;obtain⟨o,e,c,d⟩:=st;exact⟨o,e,λv z=>by rw[d]at z;cases z⟩
 keep:=λi h h' st k=>st.at λo e=>k it (by simp) o e
 item:=by intro X hP hw hK hc i su s σ H E I hf st hg;subst hP hw hK;obtain⟨xs,x,hq,hx⟩:=hg;obtain⟨sy,rv,p,hz⟩:=I.list hq;obtain⟨u,hu,ru⟩:=rv.get hx;obtain⟨f0,f1,f2,f3,f4,f5⟩:=hf it (by simp);refine wpAny_pyNext_list_item st p.isList (x:=u) (by simpa using hu) λh' st' sb=>?_;have I1:Inv X su σ H {s with heap:=h'}:=I.turned (t':=s.toks) (λb o hb e=>(sb.2 b hb).trans e) f0 f1 f3 f4 f5;obtain⟨o,e,c,d⟩:=id st';exact⟨u,rfl,MU (s:={s with heap:=h'}) e c d (by decide) ⟨x,H,I1,ru,⟨rfl,λys hy=>by rw[I.list_inj hy hq];exact hx⟩,st',λb hb=>(hf b hb).1⟩⟩
 done:=by intro X hP hw hK hc i su s σ H E I hf st hg;subst hP hw hK;obtain⟨xs,hq,hx⟩:=hg;obtain⟨sy,rv,p,hz⟩:=I.list hq;obtain⟨f0,f1,f2,f3,f4,f5⟩:=hf it (by simp);have hl:=rv.length;exact wpAny_pyNext_list_end (I.ok.hd hc) st p.isList (by simp;omega) λh' eb=>⟨rfl,I.turned (t':=s.toks) (λb o hb e=>eb b o hb e) f0 f1 f3 f4 f5⟩
 self:=λ_ _ _ _ _ st h=>wpAny_pyIter_listiter st h
theorem lz{w:World}(a it:Addr):wt P w K tg (Itt K a) [it] it (λi h=>h.IsTupleIter it a i) where
 mem:=by simp
 obj:=λi h st b hb=>by
  have e:b=it:=by simpa using hb
  subst e;obtain⟨o,e,c,d⟩:=st;exact⟨o,e,λv z=>by rw[d]at z;cases z⟩
 keep:=λi h h' st k=>st.at λo e=>k it (by simp) o e
 item:=by intro X hP hw hK hc i su s σ H E I hf st hg;subst hP hw hK;obtain⟨xs,x,hq,hx⟩:=hg;obtain⟨sy,rv,p,hz⟩:=I.tuple hq;obtain⟨u,hu,ru⟩:=rv.get hx;obtain⟨f0,f1,f2,f3,f4,f5⟩:=hf it (by simp);refine wpAny_pyNext_tuple_item st (show s.heap.IsTuple a sy.toArray from p) (x:=u) (by simpa using hu) λh' st' sb=>?_;have I1:Inv X su σ H {s with heap:=h'}:=I.turned (t':=s.toks) (λb o hb e=>(sb.2 b hb).trans e) f0 f1 f3 f4 f5;obtain⟨o,e,c,d⟩:=id st';exact⟨u,rfl,MU (s:={s with heap:=h'}) e c d (by decide) ⟨x,H,I1,ru,⟨rfl,λys hy=>by rw[I.tuple_inj hy hq];exact hx⟩,st',λb hb=>(hf b hb).1⟩⟩
 done:=by intro X hP hw hK hc i su s σ H E I hf st hg;subst hP hw hK;obtain⟨xs,hq,hx⟩:=hg;obtain⟨sy,rv,p,hz⟩:=I.tuple hq;obtain⟨f0,f1,f2,f3,f4,f5⟩:=hf it (by simp);have hl:=rv.length;exact wpAny_pyNext_tuple_end (I.ok.hd hc) st (show s.heap.IsTuple a sy.toArray from p) (by simp;omega) λh' eb=>⟨rfl,I.turned (t':=s.toks) (λb o hb e=>eb b o hb e) f0 f1 f3 f4 f5⟩
 self:=λ_ _ _ _ _ st h=>wpAny_pyIter_tupleiter st h
theorem lO{w:World}(it:Addr)(lo:Int)(n:Nat):wt P w K tg (Itr lo n) [it] it (λi h=>IsRangeIter h it (lo+(i:Nat)*1) ((n:Int)-(i:Nat)) 1) where
 mem:=by simp
 obj:=λi h st b hb=>by
  have e:b=it:=by simpa using hb
  subst e;exact⟨_,st,λv z=>by have z':Data.fields _=Data.cell v:=z;cases z'⟩
 keep:=λi h h' st k=>k it (by simp) _ st
 item:=by intro X hP hw hK hc i su s σ H E I hf st hg;subst hP hw hK;obtain⟨f0,f1,f2,f3,f4,f5⟩:=hf it (by simp);have W:=Walks.range (prog:=X.prog) (w:=X.w) (I.ok.hd hc) it lo 1 n;refine W.item i s _ _ hg st λv h' tk hv st' kk=>?_;obtain⟨t,rfl⟩:=hv;have I1:Inv X su σ H {s with heap:=h',toks:=tk}:=I.turned (λb o hb e=>kk b o (by simpa using hb) e) f0 f1 f3 f4 f5;refine⟨_,rfl,MU (s:={s with heap:=h',toks:=tk}) (n:="range_iterator") st' rfl rfl (by decide) ⟨.int (lo+i),H,I1,⟨t,?_⟩,⟨rfl,rfl⟩,st',λb hb=>(hf b hb).1⟩⟩;rw[Int.mul_one]
 done:=by intro X hP hw hK hc i su s σ H E I hf st hg;subst hP hw hK;obtain⟨f0,f1,f2,f3,f4,f5⟩:=hf it (by simp);exact wpAny_pyNext_range_end (I.ok.hd hc) st (by have:n<=i:=hg;omega) λh' eb=>⟨rfl,I.turned (t':=s.toks) (λb o hb e=>eb b o hb e) f0 f1 f3 f4 f5⟩
 self:=λ_ _ _ _ _ st h=>wpAny_pyIter_rangeiter st h
end
section
variable{h:Heap}{H:Hp}{su:z7}{fp:List Addr}{pos:Pos}{s:Shared}{σ:St}
section
variable{X:Cx}{tg:Expr}
theorem iE{R:It->Hp->Prop}{E:z4}{lo hi:Int}{t u v:Tok}{tk:Nat}(I:Inv X su σ H s)(h1:-(2 ^ 62)<=lo)(h2:lo<2 ^ 62)(h3:-(2 ^ 62)<=hi)(h4:hi<2 ^ 62)(q:R (Itr lo (hi-lo).toNat) H):wpAny (model X.prog X.w) X.A (pyIter (.ref s.heap.objs.size)) (PIE X su σ tg R) E {s with heap:=s.heap.push {cls:=.type "range",data:=.fields #[.int lo t,.int hi u,.int 1 v]},toks:=tk}:=by
 refine wpAny_pyIter_range (IsRange.new ..) (small_one h1 h2 h3 h4) ?_;have I1:Inv X su σ H {s with heap:=s.heap.push {cls:=.type "range",data:=.fields #[.int lo t,.int hi u,.int 1 v]},toks:=tk}:=I.kept λb o e=>Au _ e;refine⟨(s.heap.push {cls:=.type "range",data:=.fields #[.int lo t,.int hi u,.int 1 v]}).objs.size,[(s.heap.push {cls:=.type "range",data:=.fields #[.int lo t,.int hi u,.int 1 v]}).objs.size],_,_,H,rfl,
  I1.kept (t':=tk) λb o e=>Au _ e,lO _ lo (hi-lo).toNat,?_,λb hb=>?_,q⟩
 .have e1:lo+((0:Nat):Int)*1=lo:=by simp
  have e2:(((hi-lo).toNat:Nat):Int)-((0:Nat):Int)=PN lo hi 1:=by rw[rangeSize_one];split<;>omega
  show IsRangeIter _ _ (lo+((0:Nat):Int)*1) ((((hi-lo).toNat:Nat):Int)-((0:Nat):Int)) 1;rw[e1,e2];exact A1 _ rfl
 .have e:b=(s.heap.push {cls:=.type "range",data:=.fields #[.int lo t,.int hi u,.int 1 v]}).objs.size:=by simpa using hb
  subst e;exact I1.fpOk (Aj _) (I1.hok.fresh (Aj _))
def CM(ta:TA):TI:=λσ H R=>ta σ H λvs H1=>∃j:Int,vs=[.int j]/\-(2 ^ 62)<=j/\j<2 ^ 62/\R (Itr 0 j.toNat) H1
theorem jM{a:Expr}{ta:TA}{p:Pos}(hg:Gl X "range")(hm:X.mg "range"=Z_)(ha:PA X [a] ta)(hs:Ag [a] X.env=[(Ab,eval a X.env)]:=by rfl):PI X tg (.Call (.Name "range" p) [a] [] pos) (CM ta):=by
 intro su s σ H R I h;refine Call_ (K8 I hg hm boot_range (bT (sO (ha pos su s σ H _ I h) λus s1 ⟨vs,H1,I1,r1,q1⟩=>?_) hs rfl));obtain⟨j,e,q1,q2,q⟩:=q1;subst e;cases r1 with
 |cons r rr=>cases rr;obtain⟨t,rfl⟩:=r;exact call_range_1 (iE I1 (by omega) (by omega) q1 q2 (by simpa using q))
def pH(wi:TI)(g:TG)(tb:TS):TS:=λD σ H=>wi σ H λJ H1=>∃W:Nat->Nat->St->Hp->Prop,(∃m,W 0 m σ H1)/\∀i m σ H,W i m σ H ->
 (J.stop i H/\D.nx σ H)\/(J.go i H/\∃N:St->Hp->Prop,(∀σ' H',N σ' H'->∃m',m'<m/\W (i+1) m' σ' H')/\∀x H',J.yld i H x H'->g x σ H' λσ2 H2=>tb {D with nx:=N,ct:=N,bk:=D.nx} σ2 H2)
def Lf(fp:List Addr)(h:Heap):z7:=fp.filterMap λb=>(h.get? b).map λo=>(b,o)
theorem N8{b:Addr}{o:Obj}(hb:b∈fp)(e:h.get? b=Z o):(b,o)∈Lf fp h:=CT.mpr ⟨b,hb,by rw[e];rfl⟩
theorem kF{p:Addr×Obj}(hp:p∈Lf fp h):p.1∈fp/\h.get? p.1=Z p.2:=by
 obtain⟨b,hb,e⟩:=CT.mp hp;cases q:h.get? b with
 |none=>rw[q]at e;cases e
 |some o=>rw[q]at e;have e':(b,o)=p:=DE e;subst e';exact⟨hb,q⟩
theorem Inv.pinned(I:Inv X su σ H s)(hf:∀b∈fp,ED X su H b)(ho:∀b∈fp,∃o,s.heap.get? b=Z o/\∀v,o.data≠.cell v):Inv X (su++Lf fp s.heap) σ H s :=
 I.pins_of λp hp=>(Bb.mp hp).elim (λz=>I.pin p (Cc _ z)) λz=>by obtain⟨hb,e⟩:=kF z;obtain⟨f0,f1,f2,_⟩:=hf p.1 hb;obtain⟨o,e',d⟩:=ho p.1 hb;rw[e]at e';cases e';exact⟨e,f0,f1,f2,d⟩
theorem Inv.unpinned{pl:z7}(I:Inv X (su++pl) σ H s):Inv X su σ H s:=I.pins_of λp hp=>I.pin p (Cc _ (CW _ hp))
theorem Vd{iter:Expr}{body:List Stmt}{wi:TI}{g:TG}{tb:TS}(hp:PassesOwn (model X.prog X.w) X.A X.env X.xe)(hc:X.calm=Aa)(hi:PI X tg iter wi)(hg:PG X tg g)(hb:uw X body tb)(hs:∀x,GN iter X.env x=pure x:=by intro _;rfl):PS X (.For tg iter body [] pos) (pH wi g tb):=by
 intro su s σ H D I h;refine wpAny_For (sO (hi su s σ H _ I h) λv s1 h1=>sO h1 λitv s2 h2=>?_) hs;obtain⟨it,fp,tn,J,H2,e,I2,T,xt,f2,W,⟨m0,w0⟩,vT⟩:=h2;subst e;have vU:∀{H':Hp},(∀b∈fp,H' b=Z_)->∀b∈fp,ED X su H' b:=λhn b hb=>⟨hn b hb,(f2 b hb).2⟩;refine codeAny_forLoop_any (λn s'=>∃i σ' H',Inv X su σ' H' s'/\tn i s'.heap/\(∀b∈fp,H' b=Z_)/\W i n σ' H') ?_ m0 ⟨0,σ,H2,I2,xt,λb hb=>(f2 b hb).1,w0⟩
 rintro n s3 ⟨i,σ3,H3,I3,st3,fr3,w3⟩
 rcases vT i n σ3 H3 w3 with⟨stop,qn⟩|⟨go,N,hN,step⟩
 .refine IZ hp (sO (T.done X rfl rfl rfl hc i su s3 σ3 H3 X.xe I3 (vU fr3) st3 stop) λr s4 ⟨hr,I4⟩=>?_)
  subst hr;exact Pn ⟨σ3,H3,I4,qn⟩
 .refine IZ hp (sO (T.item X rfl rfl rfl hc i su s3 σ3 H3 X.xe I3 (vU fr3) st3 go) λr s4 ⟨u,hr,h4⟩=>?_)
  subst hr;refine IZ hp (sO h4 λ_ s5 ⟨x,H5,I5,r5,y5,zq,fr5⟩=>?_);have I5':=I5.pinned (vU fr5) (T.obj _ _ zq);refine IZ hp (sO (hg _ s5 σ3 H5 x u _ I5' r5 (step x H5 y5)) λ_ s6 ⟨σ6,H6,I6,q6⟩=>?_);refine IZ hp (sO (hb _ s6 σ6 H6 _ I6 q6) λf s7 q7=>?_);have again:∀{σ7:St} {H7:Hp},Inv X (su++Lf fp s5.heap) σ7 H7 s7->N σ7 H7->∃m,m<n/\∃i σ' H',Inv X su σ' H' s7/\tn i s7.heap/\(∀b∈fp,H' b=Z_)/\W i m σ' H':=λ{σ7 H7} I7 n7=>by obtain⟨m',hm,w7⟩:=hN σ7 H7 n7;refine⟨m',hm,i+1,σ7,H7,I7.unpinned,T.keep _ _ _ zq λb hb o e=>(I7.pin (b,o) (Cc _ (Cc _ (N8 hb e)))).1,λb hb=>?_,w7⟩;obtain⟨o,e,d⟩:=T.obj _ _ zq b hb;exact(I7.pin (b,o) (Cc _ (Cc _ (N8 hb e)))).2.1
  cases f with
  |next=>obtain⟨σ7,H7,I7,n7⟩:=q7;exact again I7 n7
  |cont=>obtain⟨σ7,H7,I7,n7⟩:=q7;exact again I7 n7
  |brk=>obtain⟨σ7,H7,I7,q7⟩:=q7;exact⟨σ7,H7,I7.unpinned,q7⟩
  |ret v=>obtain⟨x7,σ7,H7,I7,r7,q7⟩:=q7;exact⟨x7,σ7,H7,I7.unpinned,r7,q7⟩
end
end
section
variable{H:Hp}{g:Int->Int->Int}{su:z7}{us:z8}{s:Shared}{σ:St}{x:V}
abbrev R2:=V->V->Hp->VK->Prop
def uc(X:Cx)(f:Value->Value->Sem Value)(r:R2):Prop :=
 ∀(su:z7) (s:Shared) (σ:St) (H:Hp) (x y:V) (v u:Value) (Q:VK),Inv X su σ H s->RelV x v->RelV y u->r x y H Q ->
  wpAny (model X.prog X.w) X.A (f v u) (EP X su σ Q) X.xe s
def A7(X:Cx)(f:Value)(r:List V->Hp->VK->Prop):Prop :=
 ∀(su:z7) (s:Shared) (σ:St) (H:Hp) (xs:List V) (us:z8) (Q:VK),Inv X su σ H s->sC xs us->r xs H Q ->
  wpAny (model X.prog X.w) X.A (call f us) (EP X su σ Q) X.xe s
def pz(X:Cx)(r:V->Hp->(Bool->Hp->Prop)->Prop):Prop :=
 ∀(su:z7) (s:Shared) (σ:St) (H:Hp) (x:V) (v:Value) (Q:Bool->Hp->Prop),Inv X su σ H s->RelV x v->r x H Q ->
  wpAny (model X.prog X.w) X.A (truthy v) (TP X su σ Q) X.xe s
def zp(r:R2)(ta tb:TE):TE:=λσ H Q=>ta σ H λx H1=>tb σ H1 λy H2=>r x y H2 Q
def rI(C:Int->Int->Prop)(g:Int->Int->V):R2:=λx y H Q=>∃i j,x=.int i/\y=.int j/\C i j/\Q (g i j) H
def x6(g:Int->Int->V):R2:=λx y H Q=>∃i j,x=.int i/\y=.int j/\Q (g i j) H
section
variable{X:Cx}{a b c:Expr}{ta tb tc:TE}{pos:Pos}
theorem PY(ha:PE X a ta)(hb:PE X b tb){R:V->V->Hp->Prop}(I:Inv X su σ H s)(h:ta σ H λx H1=>tb σ H1 λy H2=>R x y H2){Q:z4}{f:Value->Value->Sem Value}(hf:∀v u s2 x y H2,Inv X su σ H2 s2->RelV x v->RelV y u->R x y H2->wpAny (model X.prog X.w) X.A (f v u) Q X.xe s2):wpAny (model X.prog X.w) X.A (eval a X.env) (λv s₁=>wpAny (model X.prog X.w) X.A (eval b X.env) (λu s₂=>wpAny (model X.prog X.w) X.A (f v u) Q X.xe s₂) X.xe s₁) X.xe s:=by
 refine sO (ha su s σ H _ I h) λv s1 ⟨x,H1,I1,r1,q1⟩=>?_;refine sO (hb su s1 σ H1 _ I1 q1) λu s2 ⟨y,H2,I2,r2,q2⟩=>?_;exact hf v u s2 x y H2 I2 r1 r2 q2
theorem Qc{op:Operator}{r:R2}(ho:uc X (Ho op) r)(ha:PE X a ta)(hb:PE X b tb):PE X (.BinOp a op b pos) (zp r ta tb):=by intro su s σ H Q I h;exact wpAny_BinOp (PY ha hb I h λv u s2 x y H2 I2 rx ry q=>ho su s2 σ H2 x y v u Q I2 rx ry q)
theorem opI{f:Value->Value->Sem Value}{C:Int->Int->Prop}(rule:∀(i j:Int) (t u:Tok) (s:Shared) (Q:z4) (E:z4),C i j->Q (.int (g i j) s.toks) {s with toks:=s.toks+1}->wpAny (model X.prog X.w) X.A (f (.int i t) (.int j u)) Q E s):uc X f (rI C λi j=>.int (g i j)):=by
 intro su s σ H x y v u Q I rx ry h;obtain⟨i,j,rfl,rfl,hc,q⟩:=h;obtain⟨t,rfl⟩:=rx;obtain⟨t',rfl⟩:=ry;exact rule i j t t' s _ _ hc ⟨.int (g i j),H,I.tok _,⟨_,rfl⟩,q⟩
theorem Uu{f:Value->Value->Sem Value}(rule:∀(i j:Int) (t u:Tok) (s:Shared) (Q:z4) (E:z4),Q (.int (g i j) s.toks) {s with toks:=s.toks+1}->wpAny (model X.prog X.w) X.A (f (.int i t) (.int j u)) Q E s):uc X f (x6 λi j=>.int (g i j)):=by
 intro su s σ H x y v u Q I rx ry h;obtain⟨i,j,rfl,rfl,q⟩:=h;obtain⟨t,rfl⟩:=rx;obtain⟨t',rfl⟩:=ry;exact rule i j t t' s _ _ ⟨.int (g i j),H,I.tok _,⟨_,rfl⟩,q⟩
theorem PZ{f:Value->Value->Sem Value}{g:Int->Int->Bool}(rule:∀(i j:Int) (t u:Tok) (s:Shared) (Q:z4) (E:z4),Q (.bool (g i j)) s->wpAny (model X.prog X.w) X.A (f (.int i t) (.int j u)) Q E s):uc X f (x6 λi j=>.bl (g i j)):=by
 intro su s σ H x y v u Q I rx ry h;obtain⟨i,j,rfl,rfl,q⟩:=h;obtain⟨t,rfl⟩:=rx;obtain⟨t',rfl⟩:=ry;exact rule i j t t' s _ _ ⟨.bl (g i j),H,I,rfl,q⟩
def MM(i j:Int):Prop:=(-(2 ^ 64)<i/\i<2 ^ 64)\/(-(2 ^ 64)<j/\j<2 ^ 64)
theorem MM.ok{i j:Int}(h:MM i j):IntMulOk i j:=by
 rcases h with⟨h1,h2⟩|⟨h1,h2⟩
 .exact .of_left (intBits_le_64 h1 h2)
 .exact .of_right (intBits_le_64 h1 h2)
theorem dX:uc X (Ho .Add) (x6 λi j=>.int (i+j)):=Uu λ_ _ _ _ _ _ _ q=>add_int q
theorem fu:uc X (Ho .Sub) (x6 λi j=>.int (i-j)):=Uu λ_ _ _ _ _ _ _ q=>sub_int q
theorem cy:uc X (Ho .Mult) (rI MM λi j=>.int (i*j)):=opI λ_ _ _ _ _ _ _ hc q=>mul_int q hc.ok
theorem fE:uc X (Ho .Mod) (rI (λ_ j=>0<j) λi j=>.int (i%j)):=opI λi j _ _ _ _ _ hc q=>by have h1:(0:Int)<j:=hc;exact mod_int' (by omega) (by rw[Int.fmod_eq_emod_of_nonneg i (by omega)];exact q)
end
section
variable{X:Cx}{a b c:Expr}{ta tb tc:TE}{pos:Pos}
theorem Vo{Q:VK}{k k':Bool}(I:Inv X su σ H s)(q:Q (.bl k) H)(e:k=k'):EP X su σ Q (.bool k') s:=by subst e;exact⟨.bl k,H,I,rfl,q⟩
theorem cj:uc X (BL .Lt) (x6 λi j=>.bl (decide (i<j))):=PZ λ_ _ _ _ _ _ _ q=>lt_int q
theorem cE:uc X (BL .LtE) (x6 λi j=>.bl (decide (i<=j))):=PZ λ_ _ _ _ _ _ _ q=>le_int q
theorem bZ:uc X (BL .Gt) (x6 λi j=>.bl (decide (j<i))):=PZ λ_ _ _ _ _ _ _ q=>gt_int q
theorem gh:uc X (BL .Is) (λx y H Q=>y=.non/\Q (.bl (decide (x=.non))) H):=by
 intro su s σ H x y v u Q I rx ry h;obtain⟨rfl,q⟩:=h;cases ry;refine is_none_gen (Vo I q ?_);cases x<;>first
  |(cases rx;rfl)
  |(obtain⟨t,rfl⟩:=rx;rfl)
theorem fW:uc X (BL .IsNot) (λx y H Q=>y=.non/\Q (.bl (!decide (x=.non))) H):=by
 intro su s σ H x y v u Q I rx ry h;obtain⟨rfl,q⟩:=h;cases ry;refine isnot_none_gen (Vo I q ?_);cases x<;>first
  |(cases rx;rfl)
  |(obtain⟨t,rfl⟩:=rx;rfl)
theorem VP{op:CmpOp}{r:R2}(ho:uc X (BL op) r)(ha:PE X a ta)(hb:PE X b tb)(hm:CY op b=Ab):PE X (.Compare a [op] [b] pos) (zp r ta tb):=by intro su s σ H Q I h;exact wpAny_Compare1 (PY ha hb I h λv u s2 x y H2 I2 rx ry q=>ho su s2 σ H2 x y v u Q I2 rx ry q) hm
def UJ(t:TE):TT:=λσ H Q=>t σ H λx H'=>∃k,x=.bl k/\Q k H'
theorem QQ{op:CmpOp}{r:R2}(ho:uc X (BL op) r)(ha:PE X a ta)(hb:PE X b tb)(hm:CY op b=Ab):PT X (.Compare a [op] [b] pos) (UJ (zp r ta tb)):=by intro su s σ H Q I h;refine wpAny_isTrue_Compare1 (sO (ha su s σ H _ I h) λv s1 ⟨x,H1,I1,r1,q1⟩=>sO (hb su s1 σ H1 _ I1 q1) λu s2 ⟨y,H2,I2,r2,q2⟩=>sO (ho su s2 σ H2 x y v u _ I2 r1 r2 q2) λc s3 ⟨z,H3,I3,r3,k,e,q3⟩=>?_) hm;subst e;cases r3;exact E8 ⟨H3,I3,q3⟩
def Vk(r r':R2)(ta tb tc:TE):TE:=λσ H Q=>ta σ H λx H1=>tb σ H1 λy H2=>r x y H2 λz H3=>∃k,z=.bl k /\
 (if k=Aa then tc σ H3 λw' H4=>r' y w' H4 Q else Q (.bl Ab) H3)
theorem WT{op op':CmpOp}{r r':R2}(ho:uc X (BL op) r)(ho':uc X (BL op') r')(ha:PE X a ta)(hb:PE X b tb)(hc:PE X c tc)(hm:lastMarks [op,op'] [b,c]=Ab:=by with_unfolding_all rfl):PE X (.Compare a [op,op'] [b,c] pos) (Vk r r' ta tb tc):=by
 intro su s σ H Q I h;refine Compare_chain (sO (ha su s σ H _ I h) λv s1 ⟨x,H1,I1,r1,q1⟩=>chain_link (sO (hb su s1 σ H1 _ I1 q1) λu s2 ⟨y,H2,I2,r2,q2⟩=>sO (ho su s2 σ H2 x y v u _ I2 r1 r2 q2) λd s3 ⟨z,H3,I3,r3,k,e,q3⟩=>?_)) hm;subst e;cases r3;refine E8 ?_;cases k with
 |false=>exact ite_ff ⟨.bl Ab,H3,I3,rfl,q3⟩
 |true=>exact ite_tt (chain_last (sO (hc su s3 σ H3 _ I3 q3) λw' s4 ⟨z',H4,I4,r4,q4⟩=>ho' su s4 σ H4 y z' u w' Q I4 r2 r4 q4))
theorem W0{op op':CmpOp}{r r':R2}(ho:uc X (BL op) r)(ho':uc X (BL op') r')(ha:PE X a ta)(hb:PE X b tb)(hc:PE X c tc)(hm:lastMarks [op,op'] [b,c]=Ab:=by with_unfolding_all rfl):PT X (.Compare a [op,op'] [b,c] pos) (UJ (Vk r r' ta tb tc)):=by
 intro su s σ H Q I h;refine isTrue_chain (sO (ha su s σ H _ I h) λv s1 ⟨x,H1,I1,r1,q1⟩=>test_link (sO (hb su s1 σ H1 _ I1 q1) λu s2 ⟨y,H2,I2,r2,q2⟩=>sO (ho su s2 σ H2 x y v u _ I2 r1 r2 q2) λd s3 ⟨z,H3,I3,r3,k,e,q3⟩=>?_)) hm;subst e;cases r3;refine E8 ?_;cases k with
 |false=>obtain⟨k',e',q'⟩:=q3;cases e';exact ite_ff ⟨H3,I3,q'⟩
 |true=>refine ite_tt (test_last (sO (hc su s3 σ H3 _ I3 q3) λw' s4 ⟨z',H4,I4,r4,q4⟩=>sO (ho' su s4 σ H4 y z' u w' _ I4 r2 r4 q4) λd' s5 ⟨z2,H5,I5,r5,k2,e2,q5⟩=>?_));subst e2;cases r5;exact E8 ⟨H5,I5,q5⟩
def Us(K:Af)(x:V)(H:Hp)(k:Bool):Prop :=
 match x with
 | .non=>k=Ab
 | .bl b=>k=b
 | .int i=>k=(i != 0)
 | .str y=>y.length<=sizeLine/\k=((y.length:Int) != 0)
 | .byt y=>y.size<=sizeLine/\k=((y.size:Int) != 0)
 | .ref p=>(∃xs,tQ K H p xs/\k=!xs.isEmpty)\/(∃xs,uH K H p xs/\k=!xs.isEmpty)\/∃kvs,H p=Z (.dK kvs)/\k=!kvs.isEmpty
 |_=>False
theorem lQ{κ:Type}{kvs:List (κ×V)}{vs:List (κ×Value)}(r:KV kvs vs):(!vs.isEmpty)=!kvs.isEmpty:=by cases r<;>rfl
theorem Yl{xs:List V}{sy:z8}(r:sC xs sy):(!sy.toArray.isEmpty)=!xs.isEmpty:=by cases r<;>simp
theorem Jx:(sizeLine:Nat)<2 ^ 63:=by rw[BR];decide
theorem dS:pz X (λx H Q=>∃k,Us X.K x H k/\Q k H):=by
 intro su s σ H x v Q I rx h;obtain⟨k,e,q⟩:=h;have hl:=Jx;have hs:sizeLine=16777216:=BR;cases x with
 |non=>cases rx;have e':k=Ab:=e;subst e';exact truthy_none ⟨H,I,q⟩
 |bl b=>cases rx;have e':k=b:=e;subst e';exact E8 ⟨H,I,q⟩
 |int i=>obtain⟨t,rfl⟩:=rx;have e':k=(i != 0):=e;subst e';exact PySem.P.truthy_int ⟨H,I,q⟩
 |str y=>obtain⟨t,rfl⟩:=rx;obtain⟨hy,e'⟩:y.length<=sizeLine/\k=((y.length:Int) != 0):=e;subst e';exact PySem.P.truthy_str (by omega) ⟨H,I.tok _,q⟩
 |byt y=>obtain⟨t,rfl⟩:=rx;obtain⟨hy,e'⟩:y.size<=sizeLine/\k=((y.size:Int) != 0):=e;subst e';exact PySem.W.truthy_bytes (by omega) ⟨H,I.tok _,q⟩
 |ref p =>
  cases rx;have e':(∃xs,tQ X.K H p xs/\k=!xs.isEmpty)\/(∃xs,uH X.K H p xs/\k=!xs.isEmpty)\/∃kvs,H p=Z (.dK kvs)/\k=!kvs.isEmpty:=e;rcases e' with⟨xs,hx,e'⟩|⟨xs,hx,e'⟩|⟨kvs,hx,e'⟩
  .subst e'
   obtain⟨sy,r,pl,hz⟩:=I.list hx;have sA:=r.length;exact wpAny_truthy_list pl.isList (by simp only[AR];omega) ⟨H,I.tok _,by rw[Yl r];exact q⟩
  .subst e'
   obtain⟨sy,r,pl,hz⟩:=I.tuple hx;have sA:=r.length;exact truthy_tuple pl (by simp only[AR];omega) ⟨H,I.tok _,by rw[Yl r];exact q⟩
  .subst e'
   obtain⟨hz,hS,vs,r,m⟩:BC kvs<=sizeLine/\(p==CB)=Ab/\∃vs,KV kvs vs/\s.heap.DictOf (BV X.prog X.w) p vs:=I.hok p _ hx;have sA:BC kvs=vs.length:=FV r;exact wpAny_truthy_dict hS m (by omega) ⟨H,I.tok _,by rw[lQ r];exact q⟩
 |_=>exact(show False from e).elim
theorem gH(ha:PE X a ta)(he:∀tU,isTrue a X.env tU=(do let v <-tU;standAt a.pos;holding [v] (truthy v))):PT X a (λσ H Q=>ta σ H λx H'=>∃k,Us X.K x H' k/\Q k H'):=by
 intro su s σ H Q I h;exact isTrue_plain (sO (ha su s σ H _ I h) λv s1 ⟨x,H1,I1,r1,q1⟩=>dS su s1 σ H1 x v Q I1 r1 q1) (he _)
theorem vals1(r:sC [x] us):∃u,us=[u]/\RelV x u:=by
 cases r with
 |cons r1 r2=>cases r2;exact⟨_,rfl,r1⟩
theorem vals2{y:V}(r:sC [x,y] us):∃u w',us=[u,w']/\RelV x u/\RelV y w':=by
 cases r with
 |cons r1 r2 =>
  cases r2 with
  |cons r3 r4=>cases r4;exact⟨_,_,rfl,r1,r3⟩
theorem jY(hc:X.calm=Aa):A7 X (.builtin "max") (λxs H Q=>∃i j,xs=[.int i,.int j]/\Q (.int (if j > i then j else i)) H):=by
 intro su s σ H xs us Q I r h;obtain⟨i,j,rfl,q⟩:=h;obtain⟨u,w',rfl,⟨t,rfl⟩,⟨t',rfl⟩⟩:=vals2 r;refine max_two_ints (I.ok.hd hc) λh' tk k=>⟨_,H,I.kept k,?_,q⟩
 by_cases hj:j > i
 .rw[if_pos hj,if_pos hj];exact⟨_,rfl⟩
 .rw[if_neg hj,if_neg hj];exact⟨_,rfl⟩
theorem jH(hc:X.calm=Aa):A7 X (.builtin "min") (λxs H Q=>∃i j,xs=[.int i,.int j]/\Q (.int (if j<i then j else i)) H):=by
 intro su s σ H xs us Q I r h;obtain⟨i,j,rfl,q⟩:=h;obtain⟨u,w',rfl,⟨t,rfl⟩,⟨t',rfl⟩⟩:=vals2 r;refine min_two_ints (I.ok.hd hc) λh' tk k=>⟨_,H,I.kept k,?_,q⟩
 by_cases hj:j<i
 .rw[if_pos hj,if_pos hj];exact⟨_,rfl⟩
 .rw[if_neg hj,if_neg hj];exact⟨_,rfl⟩
theorem XM:A7 X (.type "int") (λxs H Q=>(∃i,xs=[.int i]/\Q (.int i) H)\/∃k,xs=[.bl k]/\Q (.int (if k then 1 else 0)) H):=by
 intro su s σ H xs us Q I r h;rcases h with⟨i,rfl,q⟩|⟨k,rfl,q⟩
 .obtain⟨u,rfl,t,rfl⟩:=vals1 r
  exact call_int_int ⟨.int i,H,I,⟨_,rfl⟩,q⟩
 .obtain⟨u,rfl,r1⟩:=vals1 r
  cases r1;exact call_int_bool ⟨.int (if k then 1 else 0),H,I.tok _,⟨_,rfl⟩,q⟩
end
end
theorem Fm.some_of{v:V}{o:Option Value}(r:Fm (Z v) o):∃u,o=Z u/\RelV v u:=by
 cases o with
 |none=>exact(show False from r).elim
 |some u=>exact⟨u,rfl,r⟩
section
variable{f:Addr}{base:Heap}{H:Hp}{ps:z9}{vs:List V}{us:z8}{P:Program}{K:Af}{scope:Scope}{s:Shared}{qual:Str}{mg:z6}
structure AA(k:Nat)(A:Around):Prop where
 hd:A.handled=Z_
 dp:A.depth+3*k+5<recursionLimit
 un:A.units+16*k+200<cLine
theorem AA.mono{j k:Nat}{A:Around}(r:AA k A)(h:j<=k):AA j A:=⟨r.hd,by have:=r.dp;omega,by have:=r.un;omega⟩
theorem AA.deeper{k:Nat}{A:Around}(r:AA (k+1) A)(env:Env):AA k (A.deeper env) :=
 ⟨r.hd,by have:=r.dp;show A.depth+1+3*k+5<_;omega,by have:=r.un;show A.units+3+16*k+200<_;omega⟩
theorem AA.depth{k:Nat}{A:Around}(r:AA k A):A.depth<recursionLimit:=by have:=r.dp;omega
theorem AA.units{k:Nat}{A:Around}(r:AA k A):A.units+64<cLine:=by have:=r.un;omega
def pC:TA:=λ_ H Q=>Q [] H
def cJ(ta:TE)(tr:TA):TA:=λσ H Q=>ta σ H λx H1=>tr σ H1 λxs H2=>Q (x::xs) H2
section
variable{X:Cx}{e:Expr}{es:List Expr}{te:TE}{t:TA}{pos:Pos}
theorem CL:PA X [] pC:=λ_ _ _ _ H Q I h=>Calls.spliced_nil ⟨[],H,I,.nil,h⟩
theorem BM(ha:PE X e te)(hr:PA X es t)(hs:Ag (e::es) X.env=(Ab,eval e X.env)::Ag es X.env:=by rfl):PA X (e::es) (cJ te t):=by intro pos su s σ H Q I h;rw[hs];show wpAny _ _ (spliced ((Ab,eval e X.env)::backTo pos (Ag es X.env))) _ _ s;refine TB (sO (ha su s σ H _ I h) λu s1 ⟨x,H1,I1,r1,q1⟩=>?_);exact sO (hr pos su s1 σ H1 _ I1 q1) λus s2 ⟨xs,H2,I2,r2,q2⟩=>⟨x::xs,H2,I2,.cons r1 r2,q2⟩
def pw(t:TA):TE:=λσ H Q=>t σ H λxs H1=>xs.length<=sizeLine/\∀p,H1 p=Z_->Q (.ref p) (upd H1 p (.tup xs))
def DH(t:TA):TE:=λσ H Q=>t σ H λxs H1=>xs.length<=sizeLine/\∀p,H1 p=Z_->Q (.ref p) (upd H1 p (.lst xs))
theorem d4{x1}(h:PA X es t):PE X (.Tuple es x1 pos) (pw t):=by intro su s σ H Q I hq;refine wpAny_Tuple_spliced (sO (h pos su s σ H _ I hq) λus s1 ⟨xs,H1,I1,r,z,q⟩=>⟨by rw[<-r.length];exact z,?_⟩);have hf:H1 s1.heap.objs.size=Z_:=I1.hok.fresh (Aj _);refine⟨.ref s1.heap.objs.size,upd H1 s1.heap.objs.size (.tup xs),I1.laid (t':=s1.toks) (λb u e=>Au _ e) (Aj _) ?_,rfl,q _ hf⟩;exact⟨z,us,r,⟨_,A1 _ rfl,rfl,_,rfl⟩⟩
theorem dQ(h:PA X es t):PE X (.List es pos) (DH t):=by intro su s σ H Q I hq;refine wpAny_List_spliced (sO (h pos su s σ H _ I hq) λus s1 ⟨xs,H1,I1,r,z,q⟩=>⟨by rw[<-r.length];exact z,?_⟩);have hf:H1 s1.heap.objs.size=Z_:=I1.hok.fresh (Aj _);refine⟨.ref s1.heap.objs.size,upd H1 s1.heap.objs.size (.lst xs),I1.laid (t':=s1.toks) (λb u e=>Au _ e) (Aj _) ?_,rfl,q _ hf⟩;exact⟨z,us,0,r,A1 _ rfl⟩
end
abbrev Sp:=List V->Hp->VK->XK->Prop
abbrev xJ:=List Env->Hp->Shared->XK->Value->Shared->Prop
structure DY(P:Program)(w:World)(K:Af)(mg:z6)(base:Heap)(A:Around)(outer:List Env)(s:Shared)(H:Hp):Prop where
 frames:A.frames=Z outer
 mod:Mod K mg base
 bs:∀b o,base.get? b=Z o->s.heap.get? b=Z o/\H b=Z_
 bsz:base.objs.size<=s.heap.objs.size
 funs:s.heap.FunFrames base outer
 frf:∀b∈vP outer,H b=Z_
 hok:tR P w H s.heap
 bare:AllBare s.gens
def CE(outer:List Env)(P:Program)(w:World)(H:Hp)(s:Shared)(Q:VK)(u:Value)(s':Shared):Prop :=
 ∃v H',s'.os=s.os/\AllBare s'.gens/\Un (vP outer) [] H H' s.heap s'.heap/\tR P w H' s'.heap/\RelV v u/\Q v H'
def CR(CX:xJ)(outer:List Env)(P:Program)(w:World)(H:Hp)(s:Shared)(Q:VK)(E:XK)(r:Result)(s':Shared):Prop :=
 match r with
 | .ok (.ret u)=>CE outer P w H s Q u s'
 | .ok _=>False
 | .error e=>CX outer H s E e s'
structure CF(P:Program)(w:World)(K:Af)(mg:z6)(base:Heap)(CX:xJ)(k:Nat)(f:Addr)(fd:FuncData)(ps:z9)(sp:Sp):Prop where
 len:∀vs H Q E,sp vs H Q E->vs.length=ps.length
 run:∀(A:Around) (outer:List Env) (s:Shared) (H:Hp) (args:Args) (us:z8) (vs:List V) (Q:VK) (E:XK),AA k A->DY P w K mg base A outer s H->BindsTo s fd args (ps.zip us)->sC vs us->sp vs H Q E ->
  codeAny (model P w) A (.call (.ref f) args) (CR CX outer P w H s Q E) s
theorem CF.mono{P:Program}{w:World}{K:Af}{mg:z6}{base:Heap}{CX:xJ}{j k:Nat}{f:Addr}{fd:FuncData}{ps:z9}{sp:Sp}(F:CF P w K mg base CX j f fd ps sp)(h:j<=k):CF P w K mg base CX k f fd ps sp:=⟨F.len,λA outer s H args us vs Q E hr=>F.run A outer s H args us vs Q E (hr.mono h)⟩
section
variable{X:Cx}{su:z7}{σ:St}{H:Hp}{s s':Shared}
theorem Inv.env0(I:Inv X su σ H s):DY X.prog X.w X.K X.mg X.base X.A X.stack s H :=
 ⟨I.ok.frames,I.ok.mod,I.bs,Bp I.ok.bsz I.sz,I.stack,I.stkFree,I.hok,I.bare⟩
theorem Inv.after{Q:VK}{u:Value}(I:Inv X su σ H s)(h:CE X.stack X.prog X.w H s Q u s'):EP X su σ Q u s':=by obtain⟨v,H',os,bare,un,hok,r,q⟩:=h;obtain⟨hh,g,d,t,os'⟩:=s';obtain rfl:os'=s.os:=os;exact⟨v,H',I.call (h':=hh) (g':=g) (d':=d) (t':=t) (ch:=[]) un hok bare (λb z=>absurd z (by simp)),r,q⟩
end
noncomputable def cT (sp:Sp) (yj:List V) (E:XK) (t:TA):TE:=λσ H Q=>t σ H λvs H1=>sp (vs++yj) H1 Q E
def Binds(K:Af)(fd:FuncData)(ps:z9)(ds:z8):Prop :=
 ∀(s:Shared) (us:z8),K.In s.heap->(us++ds).length=ps.length->BindsTo s fd ⟨us,[]⟩ (ps.zip (us++ds))
theorem Binds.all{fd:FuncData}(h:∀us:z8,BC us=ps.length->bindArgs fd ⟨us,[]⟩=pure (ps.zip us)):Binds K fd ps []:=λs us _ hl=>by rw[Ba]at hl ⊢;exact .of_eq (h us hl)
def v7(CX:xJ)(X:Cx)(E:XK):Prop:=∀(su:z7) (σ:St) (H:Hp) (s:Shared) (e:Value) (s':Shared),Inv X su σ H s->CX X.stack H s E e s'->X.xe e s'
section
variable{X:Cx}{CX:xJ}{k:Nat}{f C:Addr}{fd:FuncData}{ps:z9}{sp:Sp}{yj:List V}{ds:z8}{E:XK}{x m:Str}{p pos u4:Pos}{e o:Expr}{es:List Expr}{ta:TE}{t:TA}
theorem dC{su:z7}{σ:St}{Q:VK}(F:CF X.prog X.w X.K X.mg X.base CX k f fd ps sp)(hr:AA k X.A)(hb:Binds X.K fd ps ds)(hd:sC yj ds)(hx:v7 CX X E)(I:Inv X su σ H s)(r:sC vs us)(h:sp (vs++yj) H Q E):wpAny (model X.prog X.w) X.A (call (.ref f) us) (EP X su σ Q) X.xe s:=by
 have r2:sC (vs++yj) (us++ds):=r.append hd;have hl:(us++ds).length=ps.length:=by rw[<-r2.length];exact F.len _ _ _ _ h
 refine Mn (Fc (F.run X.A X.stack s H ⟨us,[]⟩ (us++ds) (vs++yj) Q E hr I.env0 (hb s us I.kIn hl) r2 h) λr s' hq=>?_);cases r with
 |error e=>exact hx su σ H s e s' I hq
 |ok fl =>
  cases fl with
  |ret u=>exact I.after hq
  |next=>exact B7 hq
  |brk=>exact B7 hq
  |cont=>exact B7 hq
theorem Na(F:CF X.prog X.w X.K X.mg X.base CX k f fd ps sp)(hr:AA k X.A)(hg:Gl X x)(hm:X.mg x=Z (.ref f))(hk:E6 X.K (.ref f)=Aa)(hb:Binds X.K fd ps ds)(hd:sC yj ds)(hx:v7 CX X E)(ha:PA X (e::es) t)(va:(x==("__debug__":Str))=Ab:=by decide)(he:Ag (e::es) X.env=(Ab,eval e X.env)::Ag es X.env:=by rfl)(hpl:(backTo pos (Ag es X.env)).any (·.1)=Ab:=by rfl):PE X (.Call (.Name x p) (e::es) [] pos) (cT sp yj E t):=by
 intro su s σ H Q I h;refine Kp (QE I hg hm ?_ va);refine bq (h₀:=X.base) I.ok.mod.kin hk (sO (ha pos su s σ H _ I h) λus s1 ⟨vs,H1,I1,r,q⟩=>⟨I1.kIn,?_⟩) he hpl;exact dC F hr hb hd hx I1 r q
end
structure Zv(N P:z9)(sc:Scope):Prop where
 kind:sc.kind=.function
 co:sc.isCoroutine=Ab
 gen:sc.isGenerator=Ab
 nd:N.Nodup
 pre:N.take P.length=P
 par:∀x∈P,sc.names.lookup x=Z .local\/sc.names.lookup x=Z .cell
 nofree:∀y∈sc.names,y.2≠.free
theorem Yb{kindOf:Str->Option NameKind}{x:Str}:∀{binds:List (Str×Value)} {m:z6},(∀v,(x,v)∉binds)->bindL kindOf binds m x=m x
 |[],_,_=>rfl
 |(n,v)::r,m,h=>by
  unfold bindL;rw[Yb λw hw=>h w (Ao _ hw)];split
  .have:x≠n:=by rintro rfl;exact h v An
   simp[this]
  .rfl
theorem Xx{kindOf:Str->Option NameKind}{x:Str}:∀{binds:List (Str×Value)} {m:z6},(∀v,(x,v)∉binds)->bindC kindOf binds m x=m x
 |[],_,_=>rfl
 |(n,v)::r,m,h=>by
  unfold bindC;rw[Xx λw hw=>h w (Ao _ hw)];split
  .rfl
  .have:x≠n:=by rintro rfl;exact h v An
   simp[this]
theorem Xz{kindOf:Str->Option NameKind}{x:Str}{v:Value}:∀{P:z9} {vs:z8} {i:Nat} {m:z6},P.Nodup->P[i]?=Z x->vs[i]?=Z v->kindOf x=Z .local ->bindL kindOf (P.zip vs) m x=Z v
 |[],_,_,_,_,h,_,_=>by simp at h
 |_::_,[],_,_,_,_,h,_=>by simp at h
 |p::P,w::vs,0,m,nd,h1,h2,hk=>by simp at h1 h2;subst h1;subst h2;show bindL kindOf ((p,w)::P.zip vs) m p=_;unfold bindL;rw[Yb λv hv=>(CC.mp nd).1 (TH hv).1,if_pos hk];simp
 |p::P,w::vs,i+1,m,nd,h1,h2,hk=>by show bindL kindOf ((p,w)::P.zip vs) m x=_;unfold bindL;exact Xz (i:=i) (CC.mp nd).2 (by simpa using h1) (by simpa using h2) hk
theorem XR{kindOf:Str->Option NameKind}{x:Str}{v:Value}:∀{P:z9} {vs:z8} {i:Nat} {m:z6},P.Nodup->P[i]?=Z x->vs[i]?=Z v->kindOf x≠Z .local ->bindC kindOf (P.zip vs) m x=Z v
 |[],_,_,_,_,h,_,_=>by simp at h
 |_::_,[],_,_,_,_,h,_=>by simp at h
 |p::P,w::vs,0,m,nd,h1,h2,hk=>by simp at h1 h2;subst h1;subst h2;show bindC kindOf ((p,w)::P.zip vs) m p=_;unfold bindC;rw[Xx λv hv=>(CC.mp nd).1 (TH hv).1,if_neg hk];simp
 |p::P,w::vs,i+1,m,nd,h1,h2,hk=>by show bindC kindOf ((p,w)::P.zip vs) m x=_;unfold bindC;exact XR (i:=i) (CC.mp nd).2 (by simpa using h1) (by simpa using h2) hk
def start(N:z9)(vs:List V):St:=vs.map Z++BJ (N.length-vs.length) Z_
def Eg(CX:xJ)(P:Program)(w:World)(K:Af)(mg:z6)(base:Heap)(N:z9)(qual:Str)(scope:Scope)(f:Addr)(cd:Value)(A:Around)(outer:List Env)(s:Shared)(H:Hp)(E:XK):Cx where
 prog:=P
 w:=w
 K:=K
 mg:=mg
 base:=base
 A:=A.deeper (envOfC qual scope s.heap.objs.size f cd)
 N:=N
 s₀:=s
 H₀:=H
 env:=envOfC qual scope s.heap.objs.size f cd
 outer:=outer
 stack:=envOfC qual scope s.heap.objs.size f cd::outer
 ex:=[]
 calm:=Aa
 fn:=λ_=>Aa
 pn:=[]
 xe:=λe s'=>wpAny (model P w) (A.deeper (envOfC qual scope s.heap.objs.size f cd)) (leaving (envOfC qual scope s.heap.objs.size f cd) e) (λ_ s''=>CX outer H s E e s'') (λe' s''=>CX outer H s E e' s'') s'
theorem WG{sc:Scope}{n:Nat}{x:Str}(h:sc.names.lookup x=Z .cell):∃c,(cellsFrom n sc.names []).lookup x=Z c:=by have q:=bQ sc.names n [] (.inl h);exact DB.mp q
theorem kn{CX:xJ}{w:World}{N:z9}{cd:Value}{A:Around}{outer:List Env}{s1:Shared}{E:XK}(S:Zv N ps scope)(hd:A.handled=Z_)(e0:DY P w K mg base A outer s H)(hl:BC vs=ps.length)(r:sC vs us)(x:InCallC s s.heap.objs.size (bindL (envOfC qual scope s.heap.objs.size f cd).kindOf (ps.zip us) λ_=>Z_) (cellsFrom (s.heap.objs.size+1) scope.names []) (bindC (envOfC qual scope s.heap.objs.size f cd).kindOf (ps.zip us) λ_=>Z_) s1):Inv (Eg CX P w K mg base N qual scope f cd A outer s H E) [] (start N vs) H s1:=by
 have hpl:BC ps<=BC N:=by have:=congrArg BC S.pre;rw[Ec]at this;omega
 obtain⟨h1,tk,rfl,hk⟩:=x.done;have xx:∀b:Addr,b∉(Eg CX P w K mg base N qual scope f cd A outer s H E).ex:=λb z=>absurd (show b∈([]:List Addr) from z) (by simp);refine⟨⟨e0.mod,S.kind,rfl,rfl,Aj _,λy z c h1 h2=>?_,λy hy=>?_,λy c _ h=>?_,λ_=>hd,a7 e0.frames,.inr ⟨rfl,rfl⟩,λb z=>absurd z (xx b),e0.bs,e0.bsz,λb _ _=>xx b,λb z=>absurd z (xx b),e0.funs,e0.frf⟩,
  rfl,e0.bare,Un.kept hk,⟨_,x.toInCall.ns,λi y v h1 h2 h3=>?_⟩,λy c h=>⟨_,x.cell y c h⟩,e0.hok.fresh (Aj _),λy c h=>?_,λp hp=>absurd (show p∈([]:z7) from hp) (by simp),e0.hok.kept hk,?_⟩
 .exact name_of_addr x.apart (HH h1) (HH h2)
 .have hy:scope.names.lookup y=Z .cell\/scope.names.lookup y=Z .free:=hy
  rcases hy with hy|hy
  .exact WG hy
  .exact absurd rfl (S.nofree _ (HH hy))
 .exact F8 (x.above y c (HH h))
 .have hi:i<BC vs:=by
   unfold start at h2
   by_cases hi:i<BC vs
   .exact hi
   .rw[Fh (by simpa using hi)]at h2
    rw[PM]at h2;split at h2<;>cases h2
  have ha:vs[i]?=Z v:=by
   unfold start at h2;rw[DU (by simpa using hi),AD]at h2;cases e:vs[i]? with
   |none=>rw[e]at h2;cases h2
   |some a=>rw[e]at h2;cases h2;rfl
  obtain⟨u,hu,rv⟩:=r.get ha;have hp:ps[i]?=Z y:=by rw[<-S.pre,bM (by omega)];exact h1
  have ndP:ps.Nodup:=by rw[<-S.pre];exact S.nd.sublist (List.take_sublist _ _)
  refine⟨u,rv,?_⟩;rcases S.par y (Bo hp)with k|k
  .exact .inl ⟨k,Xz ndP hp hu k⟩
  .obtain⟨c,e⟩:=WG (n:=s.heap.objs.size+1) k
   refine .inr ⟨.inl k,c,e,?_⟩;have q:=x.cell y c e;rw[XR ndP hp hu (by show scope.names.lookup y≠_;rw[k];decide)]at q;exact q
 .exact e0.hok.fresh (F8 (x.above y c (HH h)))
 .unfold start
  show _=N.length;rw[AE,Ad,EA];omega
theorem UG{CX:xJ}{w:World}{k:Nat}{name:Str}{params:Arguments}{body:List Stmt}{dV kV ub pm sN ct oc:Value}{an od:Option Addr}{vh:Array (Option Value)}{N ps:z9}{sp:Sp}(lk:K.lookup f=Z ⟨oc,od,.func (DT name qual params body scope dV kV ub pm an sN ct),vh⟩)(tF:Hv K sN qual=Aa)(S:Zv N ps scope)(len:∀vs H Q E,sp vs H Q E->vs.length=ps.length)
  (uD:∀(A:Around) (outer:List Env) (s:Shared) (H:Hp) (vs:List V) (Q:VK) (E:XK),AA k (A.deeper (envOfC qual scope s.heap.objs.size f sN))->sp vs H Q E ->
   ∃t,uw (Eg CX P w K mg base N qual scope f sN A outer s H E) body t/\t {nx:=λ_ H'=>Q .non H',rt:=Q} (start N vs) H):
  CF P w K mg base CX (k+1) f (DT name qual params body scope dV kV ub pm an sN ct) ps sp:=by
 refine⟨len,λA outer s H args us vs Q E hr e0 hb r ya=>?_⟩;have hl:=len _ _ _ _ ya;have KX:K.In s.heap:=e0.mod.kin.keeps λb o e=>(e0.bs b o e).1;have lim:s.heap.NoLimit:=e0.mod.nolimit.keeps λb o e=>(e0.bs b o e).1;have wa:∀y∈ps.zip us,scope.names.lookup y.1=Z .local\/(scope.names.lookup y.1=Z .cell/\((cellsFrom (s.heap.objs.size+1) scope.names []).lookup y.1).isSome=Aa):=λ⟨n,v⟩ hy=>by
  rcases S.par n (TH hy).1 with q|q
  .exact .inl q
  .exact .inr ⟨q,bQ _ _ _ (.inl q)⟩
 refine codeAny_call_function hr.depth (KX _ _ lk) rfl S.co S.gen rfl (PySem.W.codeRec_of KX tF) (hb _ _ _ _ ?_);refine wpAny_newFunctionEnv_cells S.kind wa λenv he s1 x=>?_;subst he;refine⟨lim.keeps x.toInCall.keep,codeAny_func ?_⟩;obtain⟨t,ht,hq⟩:=uD A outer s H vs Q E (hr.deeper _) ya;have I:Inv (Eg CX P w K mg base N qual scope f sN A outer s H E) [] (start N vs) H s1:=kn S hr.hd e0 hl r x;refine CQ (ht [] s1 (start N vs) H _ I hq) (λfl s' hs=>?_) λe s' hs=>hs;have tO:∀{σ':St} {H':Hp} {v:V} {u:Value},Inv (Eg CX P w K mg base N qual scope f sN A outer s H E) [] σ' H' s'->RelV v u->Q v H'->CE outer P w H s Q u s' :=
  λ{σ' H' v u} J rv q=>⟨v,H',J.os,J.bare,J.base,J.hok,rv,q⟩
 cases fl with
 |ret u=>obtain⟨v,σ',H',J,rv,q⟩:=hs;exact tO J rv q
 |next=>obtain⟨σ',H',J,q⟩:=hs;exact tO (v:=V.non) (u:=By) J rfl q
 |brk=>obtain⟨_,_,_,q⟩:=hs;exact B7 q
 |cont=>obtain⟨_,_,_,q⟩:=hs;exact B7 q
end
section
variable{X:Cx}{x:Str}{p pos:Pos}{e:Expr}{es:List Expr}{t:TA}{id T:String}{r:List V->Hp->VK->Prop}
def tCB(r:List V->Hp->VK->Prop)(t:TA):TE:=λσ H Q=>t σ H λvs H1=>r vs H1 Q
theorem FE(hc:A7 X (.builtin id) r)(hg:Gl X x)(hm:X.mg x=Z_)(hv:CD x=Z (.builtin id))(ha:PA X (e::es) t)(hn:x ≠ "__name__":=by decide)(va:(x==("__debug__":Str))=Ab:=by decide)(he:Ag (e::es) X.env=(Ab,eval e X.env)::Ag es X.env:=by rfl)(hpl:(backTo pos (Ag es X.env)).any (·.1)=Ab:=by rfl):PE X (.Call (.Name x p) (e::es) [] pos) (tCB r t):=by
 intro su s σ H Q I h;refine Kp (K8 I hg hm hv ?_ hn va);exact PyProof.Rows.callWith_builtin1 (sO (ha pos su s σ H _ I h) λus s1 ⟨vs,H1,I1,r1,q1⟩=>hc su s1 σ H1 vs us Q I1 r1 q1) he hpl
theorem G8(hc:A7 X (.type T) r)(hg:Gl X x)(hm:X.mg x=Z_)(hv:CD x=Z (.type T))(ha:PA X (e::es) t)(hn:x ≠ "__name__":=by decide)(va:(x==("__debug__":Str))=Ab:=by decide)(he:Ag (e::es) X.env=(Ab,eval e X.env)::Ag es X.env:=by rfl)(hpl:(backTo pos (Ag es X.env)).any (·.1)=Ab:=by rfl):PE X (.Call (.Name x p) (e::es) [] pos) (tCB r t):=by
 intro su s σ H Q I h;refine Kp (K8 I hg hm hv ?_ hn va);exact bT (sO (ha pos su s σ H _ I h) λus s1 ⟨vs,H1,I1,r1,q1⟩=>hc su s1 σ H1 vs us Q I1 r1 q1) he hpl
end
end L2
namespace HT
set_option maxHeartbeats 8000000
open PySem PyProof.Rows
section
open PySem.SeqAt
open PySem.MeetsSeq PySem.MeetsSeq2 PySem.MeetsSeq3
end
section
variable{prog:Program}{w:World}{A:Around}{E:z4}{s:Shared}
def zr(n d:Nat):Option Int->Nat
 |none=>d
 |some v=>if v<0 then(v+(n:Int)).toNat else min v.toNat n
end
end HT
namespace L2
open PySem PySem.Spec PyProof.Rows
abbrev TO:=St->Hp->(Option Int->Hp->Prop)->Prop
def PO(X:Cx)(e:Option Expr)(t:TO):Prop :=
 ∀(su:z7) (s:Shared) (σ:St) (H:Hp) (Q:Option Int->Hp->Prop),Inv X su σ H s->t σ H Q ->
  wpAny (model X.prog X.w) X.A (evalPart e X.env) (λu s'=>∃o H',Inv X su σ H' s'/\IsPart u o/\Q o H') X.xe s
def eJ:TO:=λ_ H Q=>Q Z_ H
def b9(t:TE):TO:=λσ H Q=>t σ H λx H1=>∃i,x=.int i/\Q (Z i) H1
section
variable{X:Cx}{e:Expr}{te:TE}{lo hi:Option Expr}{tl th:TO}{pos p2:Pos}
theorem gR:PO X Z_ eJ:=by intro su s σ H Q I h;rw[evalPart_none];exact Ae ⟨Z_,H,I,.none,h⟩
theorem eS(h:PE X e te):PO X (Z e) (b9 te):=by intro su s σ H Q I hw;rw[evalPart_some];refine sO (h su s σ H _ I hw) λu s1 ⟨x,H1,I1,r1,q1⟩=>?_;obtain⟨i,rfl,q⟩:=q1;obtain⟨t,rfl⟩:=r1;exact⟨Z i,H1,I1,.int i t,q⟩
def SlR(X:Cx)(r:V->Option Int->Option Int->Hp->VK->Prop):Prop :=
 ∀(su:z7) (s:Shared) (σ:St) (H:Hp) (x:V) (v vl vu:Value) (lo hi:Option Int) (sl:Addr) (Q:VK),Inv X su σ H s->RelV x v->s.heap.IsSliceOf sl vl vu .none->IsPart vl lo->IsPart vu hi->r x lo hi H Q ->
  ∃T id,typeLookup (.type T) "__getitem__"=pure (Z (.builtin id))/\s.TypeIs v T/\wpAny (model X.prog X.w) X.A (getItem v (.ref sl)) (EP X su σ Q) X.xe s
def tSl(r:V->Option Int->Option Int->Hp->VK->Prop)(te:TE)(tl th:TO):TE:=λσ H Q=>te σ H λx H1=>tl σ H1 λl H2=>th σ H2 λu H3=>r x l u H3 Q
theorem iu{r:V->Option Int->Option Int->Hp->VK->Prop}(hr:SlR X r)(he:PE X e te)(hl:PO X lo tl)(hu:PO X hi th):PE X (.Subscript e (.Slice lo hi Z_ p2) pos) (tSl r te tl th):=by intro su s σ H Q I h;refine Subscript_ (sO (he su s σ H _ I h) λv s1 ⟨x,H1,I1,r1,q1⟩=>?_);refine wpAny_Slice (sO (hl su s1 σ H1 _ I1 q1) λvl s2 ⟨l,H2,I2,pl,q2⟩=>sO (hu su s2 σ H2 _ I2 q2) λvu s3 ⟨u,H3,I3,pu,q3⟩=>?_);rw[evalPart_none];refine Ae ?_;have I4:Inv X su σ H3 {s3 with heap:=s3.heap.push {cls:=.type "slice",data:=.fields #[vl,vu,.none]}}:=I3.kept (t':=s3.toks) λb ob q=>Au _ q;obtain⟨T,id,hT,ht,hg⟩:=hr su {s3 with heap:=s3.heap.push {cls:=.type "slice",data:=.fields #[vl,vu,.none]}} σ H3 x v vl vu l u s3.heap.objs.size Q I4 r1 (Heap.IsSliceOf.new ..) pl pu q3;show wpAny (model X.prog X.w) X.A (subscriptTail e (.Slice lo hi Z_ p2) v (.ref s3.heap.objs.size)) (EP X su σ Q) X.xe {s3 with heap:=s3.heap.push {cls:=.type "slice",data:=.fields #[vl,vu,.none]}};exact tail_any (ops:=[.ref s3.heap.objs.size,v]) ht hT hg (by with_unfolding_all rfl)
def KP(xs:List V)(lo hi:Option Int):List V:=(xs.drop (HT.zr xs.length 0 lo)).take (HT.zr xs.length xs.length hi-HT.zr xs.length 0 lo)
theorem mi(xs:List V)(lo hi:Option Int):(KP xs lo hi).length<=BC xs:=by unfold KP;rw[Ec,Jd];omega
end
section
variable{H:Hp}{i:Int}{su:z7}{n:Nat}{s:Shared}{σ:St}{x y:V}{u:Value}
def wz(n:Nat)(i:Int):Option Nat:=if 0<=i then(if i<n then Z i.toNat else Z_)else if -(n:Int)<=i then Z (i+n).toNat else Z_
def yK{α:Type}(xs:List α)(i:Int):Option α:=(wz xs.length i).bind λj=>xs[j]?
theorem VU{j:Nat}(h:wz n i=Z j):seqIndex? i n=Z j/\j<n/\-(n:Int)<=i/\i<n:=by
 unfold wz at h
 by_cases h0:0<=i
 .rw[if_pos h0]at h
  by_cases h1:i<n
  .rw[if_pos h1]at h
   have e:i.toNat=j:=DE h;exact⟨by rw[seqIndex_of h0 h1,e],by omega,by omega,h1⟩
  .rw[if_neg h1]at h;cases h
 .rw[if_neg h0]at h
  by_cases h1:-(n:Int)<=i
  .rw[if_pos h1]at h
   have e:(i+n).toNat=j:=DE h;exact⟨by rw[seqIndex_neg (by omega) h1,e],by omega,h1,by omega⟩
  .rw[if_neg h1]at h;cases h
theorem QG{α:Type}{xs:List α}{v:α}(h:yK xs i=Z v):∃j,seqIndex? i xs.length=Z j/\xs[j]?=Z v/\j<BC xs/\-(xs.length:Int)<=i/\i<BC xs:=by
 unfold yK at h;cases e:wz xs.length i with
 |none=>rw[e]at h;cases h
 |some j=>rw[e]at h;obtain⟨h1,h2,h3,h4⟩:=VU e;exact⟨j,h1,h,h2,h3,h4⟩
def V5(b:Expr):Prop:=∀o i,O1 b Ab o i=operate [o,i] (getItem o i)
def xI(X:Cx)(r:R2):Prop :=
 ∀(value tW:Expr) (su:z7) (s:Shared) (σ:St) (H:Hp) (x y:V) (v u:Value) (Q:VK),Inv X su σ H s->RelV x v->RelV y u->r x y H Q ->
  O1 tW Ab v u=operate [v,u] (getItem v u)->wpAny (model X.prog X.w) X.A (subscriptTail value tW v u) (EP X su σ Q) X.xe s
def MtR(X:Cx)(id:String)(r:V->List V->Hp->VK->Prop):Prop :=
 ∀(su:z7) (s:Shared) (σ:St) (H:Hp) (x:V) (xs:List V) (v:Value) (us:z8) (Q:VK),Inv X su σ H s->RelV x v->sC xs us->r x xs H Q ->
  wpAny (model X.prog X.w) X.A (call (.builtin id) (v::us)) (EP X su σ Q) X.xe s
section
variable{X:Cx}{a b:Expr}{ta tb:TE}{pos:Pos}
theorem xI.or{r r':R2}(h:xI X r)(h':xI X r'):xI X (λx y H Q=>r x y H Q\/r' x y H Q):=by
 intro value tW su s σ H x y v u Q I rx ry q hs;rcases q with q|q
 .exact h value tW su s σ H x y v u Q I rx ry q hs
 .exact h' value tW su s σ H x y v u Q I rx ry q hs
theorem cR{r:R2}(hr:xI X r)(ha:PE X a ta)(hb:PE X b tb)(hs:V5 b):PE X (.Subscript a b pos) (zp r ta tb):=by intro su s σ H Q I h;exact Subscript_ (PY ha hb I h λv u s2 x y H2 I2 rx ry q=>hr a b su s2 σ H2 x y v u Q I2 rx ry q (hs _ _))
def Ur(K:Af):R2:=λx y H Q=>∃p xs i v,x=.ref p/\y=.int i/\tQ K H p xs/\yK xs i=Z v/\Q v H
def UB(K:Af):R2:=λx y H Q=>∃p xs i v,x=.ref p/\y=.int i/\uH K H p xs/\yK xs i=Z v/\Q v H
def Uy:R2:=λx y H Q=>∃z i c,x=.str z/\y=.int i/\z.length<=sizeLine/\yK z.cps.toList i=Z c/\Q (.str ⟨#[c]⟩) H
theorem ft:xI X (Ur X.K):=by
 intro value tW su s σ H x y v u Q I rx ry h hs;obtain⟨p,xs,i,z,rfl,rfl,hq,he,q⟩:=h;cases rx;obtain⟨t,rfl⟩:=ry;obtain⟨sy,r,pl,hz⟩:=I.list hq;obtain⟨j,h1,h2,h3,h4,h5⟩:=QG he;obtain⟨w,ew,rw'⟩:=r.get h2;have hl:=r.length;have hn:=Jx;have tO:EP X su σ Q w s:=⟨z,H,I,rw',q⟩
 by_cases h0:0<=i
 .have hj:i.toNat=j:=by
   rw[seqIndex_of h0 h5]at h1;exact DE h1
  exact item_listR pl.isList h0 (by omega) (by rw[hj];simpa using ew) tO hs
 .have hj:(i+(sy.toArray.size:Int)).toNat=j:=by
   rw[seqIndex_neg (by omega) h4]at h1;rw[AR,<-hl];exact DE h1
  exact subscriptTail_builtinR (x:=w) pl.isList.typeIs slot_list_getitem.lookup
   (wpAny_getItem_list_neg (Q:=λr s'=>r=w/\EP X su σ Q r s') pl.isList (by omega) (by rw[AR]<;>omega) (by omega) (by rw[hj];simpa using ew) ⟨rfl,tO⟩) hs
theorem cB:xI X (UB X.K):=by
 intro value tW su s σ H x y v u Q I rx ry h hs;obtain⟨p,xs,i,z,rfl,rfl,hq,he,q⟩:=h;cases rx;obtain⟨t,rfl⟩:=ry;obtain⟨sy,r,pl,hz⟩:=I.tuple hq;obtain⟨j,h1,h2,h3,h4,h5⟩:=QG he;obtain⟨w,ew,rw'⟩:=r.get h2;have hl:=r.length;have hn:=Jx;have tO:EP X su σ Q w s:=⟨z,H,I,rw',q⟩;exact subscriptTail_builtinR (x:=w) pl.typeIs slot_tuple_getitem.lookup
  (getItem_tuple (j:=j) (Q:=λr s'=>r=w/\EP X su σ Q r s') pl (by omega) (by omega) (by rw[AR,<-hl];exact h1) (by simpa using ew) ⟨rfl,tO⟩) hs
theorem fC:xI X Uy:=by
 intro value tW su s σ H x y v u Q I rx ry h hs;obtain⟨z,i,c,rfl,rfl,hz,he,q⟩:=h;obtain⟨t,rfl⟩:=rx;obtain⟨t',rfl⟩:=ry;obtain⟨j,h1,h2,h3,h4,h5⟩:=QG he;have hl:z.cps.toList.length=z.length:=by simp[Str.length]
 rw[hl]at h1 h4 h5;have hn:=Jx;exact tail_any (typeIs_str s z t) slot_str_getitem.lookup (getItem_str (c:=c) (by have e1:decide (i < -(2 ^ 63:Int))=Ab:=decide_eq_false (by omega);have e2:decide (i ≥ 2 ^ 63)=Ab:=decide_eq_false (by omega);rw[e1,e2,Bool.or_false]) (by rw[h1];simpa using h2) ⟨.str ⟨#[c]⟩,H,I.tok _,⟨_,rfl⟩,q⟩) hs
def rIx(K:Af):R2:=λx y H Q=>Ur K x y H Q\/UB K x y H Q\/Uy x y H Q
theorem dY:xI X (rIx X.K):=ft.or (cB.or fC)
theorem kZ(sy:z8)(n j:Nat)(u:Value):Ji (·.setIfInBounds j u) {cls:=.type "list",data:=.seq sy.toArray n}={cls:=.type "list",data:=.seq (sy.set j u).toArray n}:=by simp[Ji]
theorem Inv.lst{su:z7}{σ:St}{H:Hp}{s:Shared}{p:Addr}{xs:List V}(I:Inv X su σ H s)(h:H p=Z (.lst xs)):∃(sy:z8) (n:Nat),sC xs sy/\s.heap.get? p=Z {cls:=.type "list",data:=.seq sy.toArray n}/\xs.length<=sizeLine:=by
 obtain⟨z,sy,n,r,e⟩:=I.hok p _ h;exact⟨sy,n,r,e,z⟩
theorem Inv.lstUpd{p:Addr}{xs ys:List V}{sy its':z8}{n':Nat}{f:Obj->Obj}(I:Inv X su σ H s)(h:H p=Z (.lst xs))(ho:s.heap.get? p=Z {cls:=.type "list",data:=.seq sy.toArray n})(hf:f {cls:=.type "list",data:=.seq sy.toArray n}={cls:=.type "list",data:=.seq its'.toArray n'})(r:sC ys its')(hz:BC ys<=sizeLine)(t:Nat):Inv X su σ (upd H p (.lst ys)) {s with heap:=s.heap.update p f,toks:=t}:=by
 have e:(s.heap.update p f).get? p=Z {cls:=.type "list",data:=.seq its'.toArray n'}:=by rw[Fi f ho (by rw[hf]<;>rfl),hf]
 refine I.write (x:=p) (e:=p) (by rw[h];trivial) (.inl rfl) (λb u hb q=>(Jn _ _ (Bi hb)).trans q) ⟨_,e⟩ ?_;exact⟨hz,its',n',r,e⟩
def cN:V->V->V->Hp->(Hp->Prop)->Prop:=λo i v H Q=>∃p xs k j,o=.ref p/\i=.int k/\H p=Z (.lst xs)/\wz xs.length k=Z j/\Q (upd H p (.lst (xs.set j v)))
theorem xi:Ut X cN:=by
 intro su s σ H o i v ov iv u Q I ro ri rv h;obtain⟨p,xs,k,j,rfl,rfl,hp,hj,q⟩:=h;cases ro;obtain⟨t,rfl⟩:=ri;obtain⟨sy,n,r,ho,hz⟩:=I.lst hp;obtain⟨h1,h2,h3,h4⟩:=VU hj;have hl:=r.length;have hn:=Jx;have I':Inv X su σ (upd H p (.lst (xs.set j v))) {s with heap:=s.heap.update p (Ji (·.setIfInBounds j u))} :=
  I.lstUpd hp ho (kZ sy n j u) (r.set rv j) (by rw[Ex];exact hz) s.toks
 by_cases h0:0<=k
 .have hk:k.toNat=j:=by
   rw[seqIndex_of h0 h4]at h1;exact DE h1
  exact PySem.W.ki_setAt ho h0 (by omega) (by rw[AR,<-hl];exact h4) (by rw[hk];exact⟨_,I',q⟩)
 .have hk:(k+(sy.toArray.size:Int)).toNat=j:=by
   rw[seqIndex_neg (by omega) h3]at h1;rw[AR,<-hl];exact DE h1
  exact PySem.W.ki_setBack ho (by omega) (by rw[AR,<-hl];exact h3) (by omega) (by rw[hk];exact⟨_,I',q⟩)
theorem mU(lo hi:Option Int)(n:Nat):(Jf lo hi Z_ n).1=((HT.zr n 0 lo:Nat):Int)/\(Jf lo hi Z_ n).2.1=((HT.zr n n hi:Nat):Int)/\(Jf lo hi Z_ n).2.2=1:=by
 refine⟨?_,?_,rfl⟩
 .cases lo with
  |none=>simp[Jf,HT.zr]
  |some i =>
   simp only[Jf,HT.zr,Option.getD_none,show(1:Int) > 0 by decide,if_true]
   by_cases h:i<0
   .simp only[h,if_true]<;>omega
   .simp only[h,if_false]<;>omega
 .cases hi with
  |none=>simp[Jf,HT.zr]
  |some i =>
   simp only[Jf,HT.zr,Option.getD_none,show(1:Int) > 0 by decide,if_true]
   by_cases h:i<0
   .simp only[h,if_true]<;>omega
   .simp only[h,if_false]<;>omega
theorem n9(sy:z8)(lo hi:Option Int):slicePick sy.toArray lo hi Z_=((sy.drop (HT.zr sy.length 0 lo)).take (HT.zr sy.length sy.length hi-HT.zr sy.length 0 lo)).toArray:=by obtain⟨h1,h2,h3⟩:=mU lo hi sy.toArray.size;unfold slicePick;rw[h1,h2,h3];simp only[sliceRange_one,pick_run,AR]<;>rfl
def pG(K:Af):V->Option Int->Option Int->Hp->VK->Prop:=λx lo hi H Q=>∃a xs,x=.ref a/\tQ K H a xs/\∀p,H p=Z_->Q (.ref p) (upd H p (.lst (KP xs lo hi)))
theorem gY:SlR X (pG X.K):=by intro su s σ H x v vl vu lo hi sl Q I rx hs pl pu h;obtain⟨a,xs,rfl,hx,q⟩:=h;cases rx;obtain⟨sy,r,ht,hz⟩:=I.list hx;have sA:=r.length;refine⟨"list",_,slot_list_getitem.lookup,ht.isList.typeIs,?_⟩;refine wpAny_getItem_list_slice ht.isList hs pl pu .none (by simp) ?_ (by rw[AR]<;>omega);rw[n9,<-sA];refine⟨.ref s.heap.objs.size,_,I.laid (t':=s.toks) (o:=.lst (KP xs lo hi)) (λb ob q=>Au _ q) (Aj _) ?_,rfl,q _ (I.hok.fresh (Aj _))⟩;exact⟨Bp (mi xs lo hi) hz,_,0,(r.drop (HT.zr xs.length 0 lo)).take (HT.zr xs.length xs.length hi-HT.zr xs.length 0 lo),A1 _ rfl⟩
def Bz:V->Bool
 | .non=>Aa
 | .bl _=>Aa
 | .int _=>Aa
 | .str _=>Aa
 |_=>Ab
def yi:V->V->Bool
 | .non,.non=>Aa
 | .bl a,.bl b=>a==b
 | .bl a,.int b=>(if a then 1 else 0)==b
 | .int a,.bl b=>a==(if b then 1 else 0)
 | .int a,.int b=>a==b
 | .str a,.str b=>a==b
 |_,_=>Ab
theorem dH{A:Around}{v:Value}(ry:RelV y u)(rx:RelV x v)(fy:Bz y=Aa)(fx:Bz x=Aa):SeqAt.EqAt A s u v (yi y x):=by
 cases y with
 |non =>
  cases ry;cases x with
  |non=>cases rx;exact SeqAt.EqAt.same _
  |bl b=>cases rx;exact SeqAt.EqAt.none_bool b
  |int b=>obtain⟨t,rfl⟩:=rx;exact SeqAt.EqAt.none_int b t
  |str b=>obtain⟨t,rfl⟩:=rx;exact SeqAt.EqAt.none_str b t
  |_=>exact absurd (show Ab=Aa from fx) DD
 |bl a =>
  cases ry;cases x with
  |non=>cases rx;exact SeqAt.EqAt.bool_none a
  |bl b=>cases rx;exact SeqAt.EqAt.bool_bool a b
  |int b=>obtain⟨t,rfl⟩:=rx;exact SeqAt.EqAt.bool_int a b t
  |str b=>obtain⟨t,rfl⟩:=rx;exact SeqAt.EqAt.bool_str a b t
  |_=>exact absurd (show Ab=Aa from fx) DD
 |int a =>
  obtain⟨t',rfl⟩:=ry;cases x with
  |non=>cases rx;exact SeqAt.EqAt.int_none a t'
  |bl b=>cases rx;exact SeqAt.EqAt.int_bool a t' b
  |int b=>obtain⟨t,rfl⟩:=rx;exact SeqAt.EqAt.int_int a t' b t
  |str b=>obtain⟨t,rfl⟩:=rx;exact aT a t' b t
  |_=>exact absurd (show Ab=Aa from fx) DD
 |str a =>
  obtain⟨t',rfl⟩:=ry;cases x with
  |non=>cases rx;exact SeqAt.EqAt.str_none a t'
  |bl b=>cases rx;exact SeqAt.EqAt.str_bool a t' b
  |int b=>obtain⟨t,rfl⟩:=rx;exact br a t' b t
  |str b=>obtain⟨t,rfl⟩:=rx;exact SeqAt.EqAt.str_str a t' b t
  |_=>exact absurd (show Ab=Aa from fx) DD
 |_=>exact absurd (show Ab=Aa from fy) DD
def vQ(x:V)(u:Value):Bool:=match u with
 | .none=>yi .non x
 | .bool b=>yi (.bl b) x
 | .int i _=>yi (.int i) x
 | .str z _=>yi (.str z) x
 |_=>Ab
theorem UZ(r:RelV y u)(f:Bz y=Aa):vQ x u=yi y x:=by
 cases y with
 |non=>cases r;rfl
 |bl b=>cases r;rfl
 |int i=>obtain⟨t,rfl⟩:=r;rfl
 |str z=>obtain⟨t,rfl⟩:=r;rfl
 |_=>exact absurd (show Ab=Aa from f) DD
theorem Ll{x:V}:∀{xs:List V} {us:z8},sC xs us->xs.all Bz=Aa->us.any (vQ x)=xs.any λy=>yi y x
 |_,_,.nil,_=>rfl
 |y::xs,u::us,.cons r t,f=>by rw[BS,Bn]at f;rw[Fe,Fe,UZ r f.1,Ll t f.2]
theorem Lv{A:Around}{s:Shared}{x:V}{v:Value}(rx:RelV x v)(fx:Bz x=Aa):∀{xs:List V} {us:z8},sC xs us->xs.all Bz=Aa->∀u∈us,SeqAt.EqAt A s u v (vQ x u)
 |_,_,.nil,_=>λu hu=>by cases hu
 |y::xs,u::us,.cons r t,f=>λu' hu=>by
  rw[BS,Bn]at f;rcases As.mp hu with rfl|hu
  .rw[UZ r f.1];exact dH r rx f.1 fx
  .exact Lv rx fx t f.2 u' hu
def inV(x:V)(xs:List V):Bool:=xs.any λy=>yi y x
def rIn(K:Af)(wd:Bool):R2:=λx y H Q=>∃p xs,y=.ref p/\(tQ K H p xs\/uH K H p xs)/\Bz x=Aa/\xs.all Bz=Aa/\Q (.bl (if wd then !inV x xs else inV x xs)) H
theorem jJ:uc X (BL .In) (rIn X.K Ab):=by
 intro su s σ H x y v u Q I rx ry h;obtain⟨p,xs,rfl,hq,fx,fs,q⟩:=h;cases ry;rcases hq with hq|hq
 .obtain⟨sy,r,pl,hz⟩:=I.list hq
  refine SeqAt.in_listAt (vQ x) pl.isList (λw hw=>Lv rx fx r fs w (by simpa using hw)) ⟨.bl _,H,I,rfl,?_⟩;rw[show sy.toArray.any (vQ x)=sy.any (vQ x) by simp,Ll r fs];exact q
 .obtain⟨sy,r,pl,hz⟩:=I.tuple hq
  refine SeqAt.in_tupleAt (vQ x) pl (λw hw=>Lv rx fx r fs w (by simpa using hw)) ⟨.bl _,H,I,rfl,?_⟩;rw[show sy.toArray.any (vQ x)=sy.any (vQ x) by simp,Ll r fs];exact q
theorem mV:uc X (BL .NotIn) (rIn X.K Aa):=by
 intro su s σ H x y v u Q I rx ry h;obtain⟨p,xs,rfl,hq,fx,fs,q⟩:=h;cases ry;rcases hq with hq|hq
 .obtain⟨sy,r,pl,hz⟩:=I.list hq
  refine SeqAt.notIn_listAt (vQ x) pl.isList (λw hw=>Lv rx fx r fs w (by simpa using hw)) ⟨.bl _,H,I,rfl,?_⟩;rw[show sy.toArray.any (vQ x)=sy.any (vQ x) by simp,Ll r fs];exact q
 .obtain⟨sy,r,pl,hz⟩:=I.tuple hq
  refine SeqAt.notIn_tupleAt (vQ x) pl (λw hw=>Lv rx fx r fs w (by simpa using hw)) ⟨.bl _,H,I,rfl,?_⟩;rw[show sy.toArray.any (vQ x)=sy.any (vQ x) by simp,Ll r fs];exact q
theorem mr:A7 X (.builtin "len") (λxs H Q=>∃p ys,xs=[.ref p]/\(tQ X.K H p ys\/uH X.K H p ys)/\Q (.int ys.length) H):=by
 intro su s σ H xs us Q I r h;obtain⟨p,ys,rfl,hq,q⟩:=h;obtain⟨u,rfl,rx⟩:=vals1 r;cases rx;have hn:=Jx;rcases hq with hq|hq
 .obtain⟨sy,r',pl,hz⟩:=I.list hq
  have sA:=r'.length;exact Calls.call_len_list pl.isList (by simp only[AR]<;>omega) ⟨.int ys.length,H,I.tok _,⟨s.toks+1,by rw[AR,sA]⟩,q⟩
 .obtain⟨sy,r',pl,hz⟩:=I.tuple hq
  have sA:=r'.length;exact len_tuple pl (by simp only[AR]<;>omega) ⟨.int ys.length,H,I.tok _,⟨s.toks+1,by rw[AR,sA]⟩,q⟩
theorem A7.or{f:Value}{r r':List V->Hp->VK->Prop}(h:A7 X f r)(h':A7 X f r'):A7 X f (λxs H Q=>r xs H Q\/r' xs H Q):=by
 intro su s σ H xs us Q I rs q;rcases q with q|q
 .exact h su s σ H xs us Q I rs q
 .exact h' su s σ H xs us Q I rs q
theorem m9:A7 X (.type "list") (λxs H Q=>∃p ys,xs=[.ref p]/\(tQ X.K H p ys\/uH X.K H p ys)/\∀l,H l=Z_->Q (.ref l) (upd H l (.lst ys))):=by
 intro su s σ H xs us Q I r h;obtain⟨p,ys,rfl,hq,q⟩:=h;obtain⟨u,rfl,rx⟩:=vals1 r;cases rx;have tO:∀(sy:z8),sC ys sy->ys.length<=sizeLine->∀(h':Heap) (c':Nat),(∀b o',s.heap.get? b=Z o'->h'.get? b=Z o') ->
   h'.get? s.heap.objs.size=Z {cls:=.type "list",dict:=Z_,data:=.seq sy.toArray c',slots:=#[]}->EP X su σ Q (.ref s.heap.objs.size) {s with heap:=h'}:=λsy r' hz h' c' kp e =>
  ⟨.ref s.heap.objs.size,_,I.laid (t':=s.toks) kp (Aj _) (show Z6 X.prog X.w _ h' _ (.lst ys) from⟨hz,sy,c',r',e⟩),rfl,q _ (I.hok.fresh (Aj _))⟩
 rcases hq with hq|hq
 .obtain⟨sy,r',pl,hz⟩:=I.list hq
  have sA:=r'.length;obtain⟨o,ho,hc,n,hd⟩:=pl.isList;exact call_list_seq p (.inl rfl) ho hc hd (λh' c' kp e=>tO sy r' hz h' c' kp e) (by simp only[AR]<;>omega)
 .obtain⟨sy,r',pl,hz⟩:=I.tuple hq
  have sA:=r'.length;obtain⟨o,ho,hc,n,hd⟩:=pl;exact call_list_seq p (.inr rfl) ho hc hd (λh' c' kp e=>tO sy r' hz h' c' kp e) (by simp only[AR]<;>omega)
theorem oa:A7 X (.type "tuple") (λxs H Q=>∃p ys,xs=[.ref p]/\((tQ X.K H p ys/\∀l,H l=Z_->Q (.ref l) (upd H l (.tup ys)))\/(uH X.K H p ys/\Q (.ref p) H))):=by
 intro su s σ H xs us Q I r h;obtain⟨p,ys,rfl,h⟩:=h;obtain⟨u,rfl,rx⟩:=vals1 r;cases rx;rcases h with⟨hq,q⟩|⟨hq,q⟩
 .obtain⟨sy,r',pl,hz⟩:=I.list hq
  have sA:=r'.length;refine call_tuple_list pl.isList (λh' kp=>?_) (by simp only[AR]<;>omega);have I1:Inv X su σ H {s with heap:=h'}:=I.kept (t':=s.toks) kp;have I2:Inv X su σ (upd H h'.objs.size (.tup ys)) {s with heap:=h'.push {cls:=.type "tuple",data:=.seq sy.toArray}} :=
   I1.laid (t':=s.toks) (λb o e=>Au _ e) (Aj _) (show Z6 X.prog X.w _ _ _ (.tup ys) from⟨hz,sy,r',IsTup.new _ _⟩)
  exact⟨.ref h'.objs.size,_,I2,rfl,q _ (I1.hok.fresh (Aj _))⟩
 .obtain⟨sy,r',pl,hz⟩:=I.tuple hq
  exact call_tuple_same pl ⟨.ref p,H,I,rfl,q⟩
def tyV(K:Af)(T:String)(x:V)(H:Hp):Prop:=match x with
 | .str _=>T = "str"
 | .int _=>T = "int"
 | .ref p=>(T = "list"/\∃xs,tQ K H p xs)\/(T = "tuple"/\∃o,K.lookup p=Z o/\o.cls=.type "tuple"/\o.dict=Z_) \/
   (T = "dict"/\((∃kvs,H p=Z (.dK kvs))\/∃kvs,H p=Z (.dT kvs)))\/(T = "set"/\∃S n,H p=Z (.set S n))
 |_=>False
theorem Va{T:String}{v:Value}(I:Inv X su σ H s)(r:RelV x v)(ty:tyV X.K T x H):s.TypeIs v T/\∀a,v=.ref a->∃ob,s.heap.get? a=Z ob/\ob.dict=Z_:=by
 cases x with
 |str z=>obtain⟨t,rfl⟩:=r;cases(show T = "str" from ty);exact⟨typeIs_str s z t,λ_ e=>nomatch e⟩
 |int i=>obtain⟨t,rfl⟩:=r;cases(show T = "int" from ty);exact⟨typeIs_int s i t,λ_ e=>nomatch e⟩
 |ref p =>
  cases r;rcases ty with⟨rfl,xs,hq⟩|⟨rfl,o,hk,hc,hd⟩|⟨rfl,hk⟩|⟨rfl,S,n,hk⟩
  .obtain⟨sy,_,pl,_⟩:=I.list hq
   refine⟨pl.isList.typeIs,λa e=>?_⟩;cases e;obtain⟨o,n,e,c,hd,_⟩:=pl;exact⟨o,e,hd⟩
  .refine⟨⟨o,I.kIn p o hk,hc⟩,λa e=>?_⟩
   cases e;exact⟨o,I.kIn _ o hk,hd⟩
  .have z:∃o,s.heap.get? p=Z o/\o.ExactDict:=by
    rcases hk with⟨kvs,hk⟩|⟨kvs,hk⟩
    .obtain⟨_,_,_,_,o,_,_,e,ex,_⟩:=I.hok p _ hk
     exact⟨o,e,ex⟩
    .obtain⟨_,_,_,_,o,_,_,e,ex,_⟩:=I.hok p _ hk
     exact⟨o,e,ex⟩
   obtain⟨o,e,ex⟩:=z;refine⟨⟨o,e,ex.1⟩,λa e2=>?_⟩;cases e2;exact⟨o,e,ex.2.1⟩
  .obtain⟨o,_,_,_,e,ex,_⟩:=I.hok p _ hk
   refine⟨⟨o,e,ex.1⟩,λa e2=>?_⟩;cases e2;exact⟨o,e,ex.2.1⟩
 |_=>exact B7 ty
def pB(K:Af)(T:String)(r:V->List V->Hp->VK->Prop)(to:TE):TE:=λσ H Q=>to σ H λx H1=>tyV K T x H1/\r x [] H1 Q
def tBM(K:Af)(T:String)(r:V->List V->Hp->VK->Prop)(to:TE)(t:TA):TE:=λσ H Q=>to σ H λx H1=>tyV K T x H1/\t σ H1 λxs H2=>r x xs H2 Q
variable{o e:Expr}{es:List Expr}{to:TE}{t:TA}{name:Str}{u4 t8:Pos}{T id:String}{r:V->List V->Hp->VK->Prop}
theorem dD(pa:PlainAttrs T)(slot:Slot T name id)(hty:typeOf (.builtin id)=pure (.type "method_descriptor"))(hm:MtR X id r)(ho:PE X o to)(tZ:Hu o name X.env (eval o X.env)=eval o X.env:=by rfl)(tX:(u4.endLine==t8.line)=Aa:=by rfl):PE X (.Call (.Attribute o name u4) [] [] t8) (pB X.K T r to):=by
 intro su s σ H Q I h;refine wpAny_Call_method0_late tZ tX (sO (ho su s σ H _ I h) λv s1 ⟨x,H1,I1,r1,ty,q1⟩=>?_);obtain⟨h1,h2⟩:=Va I1 r1 ty;exact⟨T,id,pa,slot,hty,h1,h2,T7 rfl (PySem.evalArgs_none (hm su s1 σ H1 x [] v [] Q I1 r1 .nil q1))⟩
theorem MS(pa:PlainAttrs T)(slot:Slot T name id)(hty:typeOf (.builtin id)=pure (.type "method_descriptor"))(hm:MtR X id r)(ho:PE X o to)(ha:PA X (e::es) t)(tZ:Hu o name X.env (eval o X.env)=eval o X.env:=by rfl)
  (uf:((backTo t8 (Ag (e::es) X.env)).all (λx=>!x.1)&&(Kk t8 (Kl [] X.env)).all (λx=>x.1.isSome)
   && decide ((e::es).length+([]:List Keyword).length+(if([]:List Keyword).isEmpty then 0 else 1)<30))=Aa:=by rfl)
  (tX:(u4.endLine==t8.line)=Aa:=by rfl)(hs:Ag (e::es) X.env=(Ab,eval e X.env)::Ag es X.env:=by rfl)(yU:(backTo t8 (Ag es X.env)).any (·.1)=Ab:=by rfl):
  PE X (.Call (.Attribute o name u4) (e::es) [] t8) (tBM X.K T r to t):=by
 intro su s σ H Q I h;refine wpAny_Call_method_late tZ uf tX rfl (sO (ho su s σ H _ I h) λv s1 ⟨x,H1,I1,r1,ty,q1⟩=>?_);obtain⟨h1,h2⟩:=Va I1 r1 ty;refine⟨T,id,pa,slot,hty,h1,h2,?_⟩;have hA:=ha t8 su s1 σ H1 _ I1 q1;rw[hs]at hA ⊢;refine T7 (by show(Ab||(backTo t8 (Ag es X.env)).any (·.1))=Ab;rw[yU]<;>rfl) (aZ ?_);exact sO hA λus s2 ⟨vs,H2,I2,r2,q2⟩=>hm su s2 σ H2 x vs v us Q I2 r1 r2 q2
end
end
section
variable{sy:z8}{n t':Nat}
def MtM(X:Cx)(id:String)(r:V->List V->Hp->VK->Prop):Prop :=
 ∀(su:z7) (s:Shared) (σ:St) (H:Hp) (x:V) (xs:List V) (v:Value) (us:z8) (Q:VK),Inv X su σ H s->RelV x v->sC xs us->r x xs H Q ->
  wpAny (model X.prog X.w) X.A (call (.builtin id) (v::us)) (EP X su σ Q) X.xe s
theorem sC.one:∀{x:V} {us:z8},sC [x] us->∃u,us=[u]/\RelV x u
 |_,_,.cons r .nil=>⟨_,rfl,r⟩
theorem sC.zero:∀{us:z8},sC [] us->us=[]
 |_,.nil=>rfl
theorem sC.dropLast{xs:List V}{us:z8}(h:sC xs us):sC xs.dropLast us.dropLast:=by
 induction h with
 |nil=>exact .nil
 |cons r t ih =>
  cases t with
  |nil=>exact .nil
  |cons q t'=>exact .cons r ih
theorem sC.rep{xs:List V}{us:z8}(h:sC xs us):∀k:Nat,sC (BJ k xs).flatten (BJ k us).flatten
 |0=>.nil
 |k+1=>by rw[Jl,Jl,Ko,Ko];exact sC.append h (sC.rep h k)
theorem kz{α:Type}(l:List α):l.eraseIdx (l.length-1)=l.dropLast:=by
 induction l with
 |nil=>rfl
 |cons a r ih =>
  cases r with
  |nil=>rfl
  |cons b r =>
   have e:(a::b::r).length-1=((b::r).length-1)+1:=by have h1:(a::b::r).length=r.length+2:=rfl;have h2:(b::r).length=r.length+1:=rfl;omega
   rw[e,List.eraseIdx_cons_succ,ih]
   all_goals rfl
theorem foldl_rep(sy:z8):∀(k:Nat) (acc:z8),List.foldl (λx1 x2=>x1++x2) acc.toArray (BJ k sy.toArray)=(acc++(BJ k sy).flatten).toArray
 |0,acc=>by simp
 |k+1,acc=>by
  have e:acc.toArray++sy.toArray=(acc++sy).toArray:=by simp
  have e2:(acc++sy)++(BJ k sy).flatten=acc++(BJ (k+1) sy).flatten:=by rw[Jl,Ko,B8]
  rw[<-e2,<-foldl_rep sy k (acc++sy),<-e,Jl,DX]
section
variable{X:Cx}{su:z7}{σ:St}{H:Hp}{s:Shared}{l b:Addr}{xs ys zs:List V}
theorem Inv.lset{its':z8}{f:Array Value->Array Value}(I:Inv X su σ H s)(hH:H l=Z (.lst xs))(e:s.heap.get? l=Z {cls:=.type "list",data:=.seq sy.toArray n})(hf:f sy.toArray=its'.toArray)(hv:sC ys its')(hz:BC ys<=sizeLine):Inv X su σ (upd H l (.lst ys)) {s with heap:=s.heap.update l (Ji f),toks:=t'}:=by
 have q:=PySem.IsL.update e f;rw[hf]at q;refine I.write (x:=l) (e:=l) (by rw[hH];exact trivial) (.inl rfl) (λb' u hb hu=>(Jn s.heap (Ji f) (Bi hb)).trans hu) ⟨_,q⟩ ?_;exact⟨hz,its',_,hv,q⟩
theorem Inv.lnew(I:Inv X su σ H s)(hv:sC ys sy)(hz:BC ys<=sizeLine):Inv X su σ (upd H s.heap.objs.size (.lst ys)) {s with heap:=s.heap.push {cls:=.type "list",data:=.seq sy.toArray},toks:=t'} :=
 I.laid (λ_ _ q=>Au _ q) (Aj _) ⟨hz,sy,0,hv,A1 _ rfl⟩
theorem Inv.fresh(I:Inv X su σ H s):H s.heap.objs.size=Z_:=I.hok.fresh (Aj _)
theorem Inv.lstM(I:Inv X su σ H s)(hH:H l=Z (.lst xs)):BC xs<=sizeLine/\∃(sy:z8) (n:Nat),sC xs sy/\xs.length=sy.length/\s.heap.get? l=Z {cls:=.type "list",data:=.seq sy.toArray n}:=by obtain⟨z,sy,n,r,e⟩:=I.hok l _ hH;exact⟨z,sy,n,r,r.length,e⟩
theorem Wv(h:n<=sizeLine):PR n=Ab:=by unfold PR;exact decide_eq_false (by omega)
end
section
variable{X:Cx}
def VS:V->List V->Hp->VK->Prop:=λx vs H Q=>∃l xs y,x=.ref l/\vs=[y]/\H l=Z (.lst xs)/\xs.length<sizeLine/\Q .non (upd H l (.lst (xs++[y])))
theorem NH:MtM X "list.append" VS:=by intro su s σ H x vs v us Q I rx rv h;obtain⟨l,xs,y,rfl,rfl,hH,hz,q⟩:=h;cases rx;obtain⟨u,rfl,ru⟩:=rv.one;obtain⟨z,sy,n,r,hl,e⟩:=I.lstM hH;refine Mm F.slot_list_append ⟨_,e,rfl⟩ F.entry_list_append (F.args_list_append_2 _ _) (PySem.list_append l sy.toArray n u (by rw[AR];omega)) ⟨e,?_⟩;refine⟨.non,_,I.lset (its':=sy++[u]) hH e (by simp) (r.append (.cons ru .nil)) ?_,rfl,q⟩;rw[AE,Hz];omega
def gW:V->List V->Hp->VK->Prop:=λx vs H Q=>∃l b xs zs,x=.ref l/\vs=[.ref b]/\H l=Z (.lst xs)/\H b=Z (.lst zs)/\xs.length+BC zs<=sizeLine/\Q .non (upd H l (.lst (xs++zs)))
theorem jX:MtM X "list.extend" gW:=by
 intro su s σ H x vs v us Q I rx rv h;obtain⟨l,b,xs,zs,rfl,rfl,hH,hB,hz,q⟩:=h;cases rx;obtain⟨u,rfl,ru⟩:=rv.one;cases ru;obtain⟨z,sy,n,r,hl,e⟩:=I.lstM hH;obtain⟨z2,vW,n2,r2,vI,e2⟩:=I.lstM hB;have hsz:sy.toArray.size+vW.toArray.size<=sizeLine:=by rw[AR,AR];omega
 have xa:¬(!sy.toArray.isEmpty&&PR (sy.toArray.size+vW.toArray.size))=Aa:=by rw[Wv hsz,Pd];exact DD
 refine Mm F.slot_list_extend ⟨_,e,rfl⟩ F.entry_list_extend (F.args_list_extend_2 _ _)
  (AutoSeq1.list_extend_list_list_0 l sy.toArray n b vW.toArray n2 xa (by rw[AR];omega) (by omega)) ⟨e,e2,?_⟩
 refine⟨.non,_,I.lset (its':=sy++vW) hH e (by simp) (r.append r2) ?_,rfl,q⟩;rw[AE];omega
def pT:V->List V->Hp->VK->Prop:=λx vs H Q=>∃l xs y,x=.ref l/\vs=[]/\H l=Z (.lst xs)/\xs[xs.length-1]?=Z y/\Q y (upd H l (.lst xs.dropLast))
theorem de:MtM X "list.pop" pT:=by
 intro su s σ H x vs v us Q I rx rv h;obtain⟨l,xs,y,rfl,rfl,hH,hy,q⟩:=h;cases rx;have hus:=rv.zero;subst hus;obtain⟨z,sy,n,r,hl,e⟩:=I.lstM hH;obtain⟨u,hu,ru⟩:=r.get hy;have hy':sy.toArray[sy.toArray.size-1]?=Z u:=by show sy.toArray[sy.length-1]?=Z u;rw[<-Ca,<-hl];exact hu
 refine Mm F.slot_list_pop ⟨_,e,rfl⟩ F.entry_list_pop (F.args_list_pop_1 _) (MeetsSeq.list_pop_last l sy.toArray n u hy' (by rw[AR];omega)) ⟨e,?_⟩;refine⟨y,_,I.lset (its':=sy.dropLast) hH e ?_ r.dropLast ?_,ru,q⟩
 .show sy.toArray.eraseIdxIfInBounds (sy.toArray.size-1)=sy.dropLast.toArray
  rw[AR,List.eraseIdxIfInBounds_toArray,kz]
 .rw[List.length_dropLast]
  omega
def pF:R2:=λx y H Q=>∃l b xs zs,x=.ref l/\y=.ref b/\H l=Z (.lst xs)/\H b=Z (.lst zs)/\xs.length+BC zs<=sizeLine/\∀p,H p=Z_->Q (.ref p) (upd H p (.lst (xs++zs)))
theorem cW:uc X (Ho .Add) pF:=by
 intro su s σ H x y v u Q I rx ry h;obtain⟨l,b,xs,zs,rfl,rfl,hH,hB,hz,q⟩:=h;cases rx;cases ry;obtain⟨z,sy,n,r,hl,e⟩:=I.lstM hH;obtain⟨z2,vW,n2,r2,vI,e2⟩:=I.lstM hB;refine PySem.P.add_list e e2 ?_ (by rw[AR,AR];omega);have ea:sy.toArray++vW.toArray=(sy++vW).toArray:=by simp
 rw[ea];exact⟨.ref _,_,I.lnew (t':=s.toks) (r.append r2) (by rw[AE];omega),rfl,q _ I.fresh⟩
def pR:R2:=λx y H Q=>∃l k xs,x=.ref l/\y=.int k/\H l=Z (.lst xs)/\-(2 ^ 63)<=k/\k<2 ^ 63/\xs.length*k.toNat<=sizeLine /\
 ∀p,H p=Z_->Q (.ref p) (upd H p (.lst (BJ k.toNat xs).flatten))
theorem xV{α:Type}(xs:List α)(k:Nat):(BJ k xs).flatten.length=k*xs.length:=by
 induction k with
 |zero=>simp
 |succ k ih=>rw[Jl,Ko,AE,ih,Nat.succ_mul,Nat.add_comm]
theorem d6:uc X (Ho .Mult) pR:=by
 intro su s σ H x y v u Q I rx ry h;obtain⟨l,k,xs,rfl,rfl,hH,h1,h2,hz,q⟩:=h;cases rx;obtain⟨t,rfl⟩:=ry;obtain⟨z,sy,n,r,hl,e⟩:=I.lstM hH;have sA:sy.toArray.size*k.toNat<=sizeLine:=by rw[AR,<-hl];exact hz
 have wo:¬sy.toArray.size*k.toNat > (2 ^ 63-1) / 8:=by
  have:(sizeLine:Nat)<=(2 ^ 63-1) / 8:=by decide
  omega
 have uZ:¬(!Builtin.List.listFitsIndex k)=Aa:=by rw[fitsIndex_both h1 h2];exact DD
 have xa:¬PR (sy.toArray.size*k.toNat)=Aa:=by rw[Wv sA];exact DD
 have hnew:List.foldl (λx1 x2=>x1++x2) #[] (BJ (if sy.toArray.isEmpty=Aa then 0 else k.toNat) sy.toArray)=(BJ k.toNat sy).flatten.toArray:=by
  have f0:∀m:Nat,List.foldl (λx1 x2=>x1++x2) #[] (BJ m sy.toArray)=(BJ m sy).flatten.toArray:=λm=>by have:=foldl_rep sy m [];rw[GH]at this;exact this
  rw[f0];cases sy with
  |nil=>simp
  |cons a r'=>rw[if_neg (by simp)]
 refine wpAny_binaryOp_repeat_ref (T:="list") (U:="int") (by decide) ⟨_,e,rfl⟩ (λs'=>typeIs_int s' k t) noFill_list_mul F.fills_int_mul F.slot_int_rmul repeat_list F.slot_int_index.lookup
  (Mm F.slot_int_rmul (typeIs_int s k t) F.entry_int_rmul (F.args_int_rmul_2 _ _) (int___rmul___int_list k t l sy.toArray n)
   ⟨e,rfl,⟨_,e,rfl⟩,Mm F.slot_list_mul ⟨_,e,rfl⟩ F.entry_list_mul (F.args_list_mul_2 _ _) (AutoListH.list___mul___list_int_3 l sy.toArray n k t uZ wo xa) ⟨e,?_⟩⟩)
 rw[hnew];exact⟨.ref _,_,I.lnew (t':=s.toks) (r.rep k.toNat) (by rw[xV,Nat.mul_comm];exact hz),rfl,q _ I.fresh⟩
end
end
section
variable{a b:Addr}{X:Cx}{h':Heap}{H H':Hp}{su:z7}{xs:List (List sL×Addr×Value)}{kvs:List (List sL×V)}{o:Option V}{pos:Pos}{P:Program}{s:Shared}{σ:St}{y:V}{u:Value}{Q:z4}
section
variable{κ:Type}[DecidableEq κ]
def AW(kvs:List (κ×V))(k:κ):Option V:=(kvs.find? λkv=>decide (kv.1=k)).map (·.2)
def tJ(kvs:List (κ×V))(k:κ)(v:V):List (κ×V) :=
 if(kvs.any λkv=>decide (kv.1=k))=Aa then kvs.map (λkv=>if kv.1=k then(kv.1,v)else kv)else kvs++[(k,v)]
theorem Ip{p:κ×V}{r:List (κ×V)}{k:κ}(e:p.1=k):AW (p::r) k=Z p.2:=by simp[AW,Di,e]
theorem Iu{p:κ×V}{r:List (κ×V)}{k:κ}(e:¬p.1=k):AW (p::r) k=AW r k:=by simp[AW,Di,e]
theorem Nn(k:κ):∀kvs:List (κ×V),(kvs.any λkv=>decide (kv.1=k))=(AW kvs k).isSome
 |[]=>rfl
 |p::r=>by
  rw[Fe]
  by_cases e:p.1=k
  .simp only[Ip e,decide_eq_true e,Bool.true_or,Option.isSome_some]
  .rw[Iu e,decide_eq_false e,Kv];exact Nn k r
theorem Sn(kvs:List (κ×V))(k:κ)(v:V):(tJ kvs k v).length<=BC kvs+1:=by
 unfold tJ;split
 .rw[Ad];omega
 .rw[AE,Av,List.length_nil];omega
theorem Fm.isSome_eq{u:Option Value}(r:Fm o u):o.isSome=u.isSome:=by
 cases o with
 |none=>cases u with
  |none=>rfl
  |some _=>exact(show False from r).elim
 |some _=>cases u with
  |none=>exact(show False from r).elim
  |some _=>rfl
theorem KV.val{kvs:List (κ×V)}{vs:List (κ×Value)}(r:KV kvs vs)(k:κ):Fm (AW kvs k) (valueAt vs k):=by
 unfold KV at r
 induction r with
 |nil=>exact IV
 | @cons p q ps qs h t ih =>
  obtain⟨h1,h2⟩:=h
  by_cases e:p.1=k
  .have e':q.1=k:=h1.symm.trans e
   have b:valueAt (q::qs) k=Z q.2:=by simp[valueAt,Di,e']
   rw[Ip e,b];exact h2
  .have e':¬q.1=k:=λz=>e (h1.trans z)
   have b:valueAt (q::qs) k=valueAt qs k:=by simp[valueAt,Di,e']
   rw[Iu e,b];exact ih
theorem KV.any{kvs:List (κ×V)}{vs:List (κ×Value)}(r:KV kvs vs)(k:κ):(kvs.any λkv=>decide (kv.1=k))=vs.any λkv=>decide (kv.1=k):=by
 unfold KV at r
 induction r with
 |nil=>rfl
 |cons h t ih=>rw[Fe,Fe,ih,h.1]
theorem KV.repl{kvs:List (κ×V)}{vs:List (κ×Value)}(r:KV kvs vs)(k:κ)(ry:RelV y u):KV (kvs.map λkv=>if kv.1=k then(kv.1,y)else kv) (vs.map λkv=>if kv.1=k then(kv.1,u)else kv):=by
 unfold KV at r ⊢
 induction r with
 |nil=>exact .nil
 | @cons p q ps qs h t ih =>
  rw[Ai,Ai];refine .cons ?_ ih;obtain⟨h1,h2⟩:=h
  by_cases e:p.1=k
  .rw[if_pos e,if_pos (h1.symm.trans e)];exact⟨h1,ry⟩
  .rw[if_neg e,if_neg (λz=>e (h1.trans z))];exact⟨h1,h2⟩
theorem KV.put{kvs:List (κ×V)}{vs:List (κ×Value)}(r:KV kvs vs)(k:κ)(ry:RelV y u):KV (tJ kvs k y) (stored vs k u):=by
 unfold tJ stored;rw[r.any k]
 by_cases e:(vs.any λkv=>decide (kv.1=k))=Aa
 .rw[if_pos e,if_pos e];exact r.repl k ry
 .rw[if_neg e,if_neg e];exact Paired.snoc r ⟨rfl,ry⟩
theorem KV.length{kvs:List (κ×V)}{vs:List (κ×Value)}(r:KV kvs vs):BC kvs=vs.length:=FV r
end
theorem Jw{w:World}{k:sL}(r:RelV (kV k) u):(BV P w).is k u=Aa:=by
 cases k with
 |inl i=>obtain⟨t,e⟩:=(show ∃t,u=DA i t from r);subst e;exact mh P w i t
 |inr x=>obtain⟨t,e⟩:=(show ∃t,u=Value.str x t from r);subst e;exact l6 P w x t
theorem XD{P:Program}{w:World}:∀{ks:List sL} {us:z8},sC (ks.map kV) us->ItemsAre (BV P w) ks us
 |[],_,r=>by rw[F6]at r;cases r;exact .nil
 |k::ks,_,r=>by
  rw[Ai]at r;cases r with
  |cons h t=>exact .cons (Jw h) (XD t)
abbrev KT(H:Hp):List (List sL×V)->List (List sL×Addr×Value)->Prop:=Paired λp q=>p.1=q.1/\H q.2.1=Z (.tup (p.1.map kV))/\RelV p.2 q.2.2
theorem KT.val(r:KT H kvs xs)(k:List sL):Fm (AW kvs k) ((atKey xs k).map (·.2)):=by
 induction r with
 |nil=>exact IV
 | @cons p q ps qs h t ih =>
  obtain⟨h1,_,h2⟩:=h
  by_cases e:p.1=k
  .have e':q.1=k:=h1.symm.trans e
   have b:atKey (q::qs) k=Z q.2:=by simp[atKey,Di,e']
   rw[Ip e,b];exact h2
  .have e':¬q.1=k:=λz=>e (h1.trans z)
   have b:atKey (q::qs) k=atKey qs k:=by simp[atKey,Di,e']
   rw[Iu e,b];exact ih
theorem KT.repl(r:KT H kvs xs)(k:List sL)(ry:RelV y u):KT H (kvs.map λkv=>if kv.1=k then(kv.1,y)else kv) (xs.map (putAt k u)):=by
 induction r with
 |nil=>exact .nil
 | @cons p q ps qs h t ih =>
  rw[Ai,Ai];refine .cons ?_ ih;obtain⟨h1,h2,h3⟩:=h;unfold putAt
  by_cases e:p.1=k
  .rw[if_pos e,if_pos (h1.symm.trans e)];exact⟨h1,h2,ry⟩
  .rw[if_neg e,if_neg (λz=>e (h1.trans z))];exact⟨h1,h2,h3⟩
theorem KT.put(r:KT H kvs xs)(k:List sL)(hb:H b=Z (.tup (k.map kV)))(ry:RelV y u):KT H (tJ kvs k y) (storedH xs k b u):=by
 have e:(kvs.any λkv=>decide (kv.1=k))=(atKey xs k).isSome:=by rw[Nn,(r.val k).isSome_eq,GL]
 unfold tJ storedH;rw[e]
 by_cases q:(atKey xs k).isSome=Aa
 .rw[if_pos q,if_pos q];exact r.repl k ry
 .rw[if_neg q,if_neg q];exact Paired.snoc r ⟨rfl,hb,ry⟩
theorem KT.keeps(r:KT H kvs xs)(ht:∀b ys,H b=Z (.tup ys)->H' b=Z (.tup ys)):KT H' kvs xs :=
 Paired.mapP r λ_ _ z=>⟨z.1,ht _ _ z.2.1,z.2.2⟩
section
variable{P:Program}{w:World}{H:Hp}{h:Heap}{a:Addr}
theorem KU{u:HO}(ok:tR P w H h)(e:Rd H a u):Z6 P w H h a u:=e.ok ok
theorem HV{kvs:List (sL×V)}(ok:tR P w H h)(e:Rd H a (.dK kvs)):BC kvs<=sizeLine/\(a==CB)=Ab/\∃vs,KV kvs vs/\h.DictOf (BV P w) a vs :=
 show Z6 P w H h a (.dK kvs) from KU ok e
theorem Qd{kvs:List (sL×V)}(ok:tR P w H h)(e:H a=Z (.dK kvs)):BC kvs<=sizeLine/\(a==CB)=Ab/\∃vs,KV kvs vs/\h.DictOf (BV P w) a vs:=HV ok (.inl e)
theorem Jy{ks:List sL}(ok:tR P w H h)(e:H a=Z (.tup (ks.map kV))):(IW (BV P w)).is h ks a:=by obtain⟨_,sy,r,o,h1,h2,n,h3⟩:=(show Z6 P w H h a (.tup (ks.map kV)) from ok a _ e);exact⟨o,sy.toArray,n,h1,h2,h3,by simpa using XD r⟩
theorem Ju(ok:tR P w H h)(e:Rd H a (.dT kvs)):BC kvs<=sizeLine/\(a==CB)=Ab /\ ∃xs,KT H kvs xs/\h.DictOfH (IW (BV P w)) a xs:=by
 obtain⟨z,y,xs,r,o,es,ep,h1,h2,h3,h4,h5⟩:=(show Z6 P w H h a (.dT kvs) from KU ok e);refine⟨z,y,xs,r,o,es,ep,h1,h2,h3,h4,λx hx=>?_,h5⟩;have all:∀{l:List (List sL×V)} {m:List (List sL×Addr×Value)},KT H l m->∀x∈m,(IW (BV P w)).is h x.1 x.2.1:=by
  intro l m q
  induction q with
  |nil=>intro x hx;exact nomatch hx
  | @cons p q ps qs hq t ih =>
   intro x hx;rcases As.mp hx with e|hx
   .subst e
    exact Jy ok (by rw[<-hq.1];exact hq.2.1)
   .exact ih x hx
 exact all r x hx
theorem UC(ok:tR P w H h)(e:H a=Z (.dT kvs)):BC kvs<=sizeLine/\(a==CB)=Ab /\ ∃xs,KT H kvs xs/\h.DictOfH (IW (BV P w)) a xs:=Ju ok (.inl e)
end
def BZ(H:Hp)(a:Addr)(y:V)(r:Option V):Prop :=
 (∃kvs k,Rd H a (.dK kvs)/\y=kV k/\r=AW kvs k)\/∃kvs k b,Rd H a (.dT kvs)/\y=.ref b/\H b=Z (.tup (k.map kV))/\r=AW kvs k
def Gd(H:Hp)(a:Addr)(y v:V)(H':Hp):Prop :=
 (∃kvs k,H a=Z (.dK kvs)/\y=kV k/\kvs.length<sizeLine/\H'=upd H a (.dK (tJ kvs k v))) \/
 ∃kvs k b,H a=Z (.dT kvs)/\y=.ref b/\H b=Z (.tup (k.map kV))/\kvs.length<sizeLine/\H'=upd H a (.dT (tJ kvs k v))
theorem BZ.k{H:Hp}{a:Addr}{kvs:List (sL×V)}{k:sL}(e:H a=Z (.dK kvs)):BZ H a (kV k) (AW kvs k):=.inl ⟨kvs,k,.inl e,rfl,rfl⟩
theorem BZ.t{k:List sL}(e:H a=Z (.dT kvs))(eb:H b=Z (.tup (k.map kV))):BZ H a (.ref b) (AW kvs k):=.inr ⟨kvs,k,b,.inl e,rfl,eb,rfl⟩
theorem Gd.k{H:Hp}{a:Addr}{kvs:List (sL×V)}{k:sL}{v:V}(e:H a=Z (.dK kvs))(hl:BC kvs<sizeLine):Gd H a (kV k) v (upd H a (.dK (tJ kvs k v))):=.inl ⟨kvs,k,e,rfl,hl,rfl⟩
theorem Gd.t{k:List sL}{v:V}(e:H a=Z (.dT kvs))(eb:H b=Z (.tup (k.map kV)))(hl:BC kvs<sizeLine):Gd H a (.ref b) v (upd H a (.dT (tJ kvs k v))):=.inr ⟨kvs,k,b,e,rfl,eb,hl,rfl⟩
section
variable{X:Cx}{su:z7}{σ:St}{H:Hp}{s:Shared}{a:Addr}{y v:V}{u r:Value}{o:Option V}{A:Around}{E:z4}
theorem Inv.big(I:Inv X su σ H s):CB<s.heap.objs.size:=by have h:BD<s.heap.objs.size:=(I.mod.glob.keeps I.bk).lt;exact FZ (by decide) h
theorem kl(hu:A.units+1<cLine)(I:Inv X su σ H s)(g:BZ H a y (Z v))(ry:RelV y u)(h:∀w' s',Inv X su σ H s'->RelV v w'->Q w' s'):wpAny (model X.prog X.w) A (getItem (.ref a) u) Q E s:=by
 rcases g with⟨kvs,k,e,ey,l⟩|⟨kvs,k,b,e,ey,eb,l⟩
 .subst ey
  obtain⟨z,hd,vs,tH,dd⟩:=HV I.hok e;obtain⟨w',hw,rw'⟩:=Fm.some_of (v:=v) (o:=valueAt vs k) (by rw[l];exact tH.val k);exact wpAny_getItem_of (Jw ry) dd.mapOf hw (h w' _ (I.tok _) rw')
 .subst ey
  cases(show u=Bl b from ry);obtain⟨z,hd,xs,tH,dd⟩:=Ju I.hok e;obtain⟨w',hw,rw'⟩:=Fm.some_of (v:=v) (o:=(atKey xs k).map (·.2)) (by rw[l];exact tH.val k);obtain⟨p,hp,hp2⟩:=Ak.mp hw;refine wpAny_getItem_heap (MG hu) (Jy I.hok eb) dd hp ?_;rw[hp2];exact h w' _ (I.tok _) rw'
theorem pN(hu:A.units+1<cLine)(I:Inv X su σ H s)(g:BZ H a y o)(ry:RelV y u)(h:∀s',Inv X su σ H s'->Q (.bool o.isSome) s'):wpAny (model X.prog X.w) A (BL .In u (.ref a)) Q E s:=by
 rcases g with⟨kvs,k,e,ey,l⟩|⟨kvs,k,b,e,ey,eb,l⟩
 .subst ey
  obtain⟨z,hd,vs,tH,dd⟩:=HV I.hok e;refine wpAny_in_of (Jw ry) hd dd.mapOf ?_;rw[<-(tH.val k).isSome_eq,<-l];exact h _ (I.tok _)
 .subst ey
  cases(show u=Bl b from ry);obtain⟨z,hd,xs,tH,dd⟩:=Ju I.hok e;refine wpAny_in_heap (MG hu) (Jy I.hok eb) hd dd ?_;have q:=(tH.val k).isSome_eq;rw[GL]at q;rw[<-q,<-l];exact h _ (I.tok _)
theorem gZ(hu:A.units+1<cLine)(I:Inv X su σ H s)(g:BZ H a y o)(ry:RelV y u)(h:∀s',Inv X su σ H s'->Q (.bool (!o.isSome)) s'):wpAny (model X.prog X.w) A (BL .NotIn u (.ref a)) Q E s:=by
 rcases g with⟨kvs,k,e,ey,l⟩|⟨kvs,k,b,e,ey,eb,l⟩
 .subst ey
  obtain⟨z,hd,vs,tH,dd⟩:=HV I.hok e;refine wpAny_notIn_of (Jw ry) hd dd.mapOf ?_;rw[<-(tH.val k).isSome_eq,<-l];exact h _ (I.tok _)
 .subst ey
  cases(show u=Bl b from ry);obtain⟨z,hd,xs,tH,dd⟩:=Ju I.hok e;refine wpAny_notIn_heap (MG hu) (Jy I.hok eb) hd dd ?_;have q:=(tH.val k).isSome_eq;rw[GL]at q;rw[<-q,<-l];exact h _ (I.tok _)
theorem Nl{t':Nat}{ob:HO}(I:Inv X su σ H s)(mu:zR (H a))(hs:Fd a s.heap h')(he:∃q,h'.get? a=Z q)(new:Z6 X.prog X.w (upd H a ob) h' a ob):Inv X su σ (upd H a ob) {s with heap:=h',toks:=t'} :=
 I.write (x:=a) (e:=a) mu (.inl rfl) (λb q hb z=>(hs.2 b hb).trans z) he new
theorem Vb{w:World}{kvs:List (sL×V)}{vs:List (sL×Value)}(z:BC kvs<=sizeLine)(hd:(a==CB)=Ab)(tH:KV kvs vs)(dd:h'.DictOf (BV P w) a vs):Z6 P w H' h' a (.dK kvs):=⟨z,hd,vs,tH,dd⟩
theorem kI{Q:Unit->Shared->Prop}(hu:A.units+1<cLine)(I:Inv X su σ H s)(g:Gd H a y v H')(ry:RelV y u)(rv:RelV v r)(h:∀s',Inv X su σ H' s'->Q () s'):wpAny (model X.prog X.w) A (setItem (.ref a) u r) Q E s:=by
 rcases g with⟨kvs,k,e,ey,l,eH⟩|⟨kvs,k,b,e,ey,eb,l,eH⟩
 .subst ey eH
  obtain⟨z,hd,vs,tH,dd⟩:=Qd I.hok e;have hz:BC vs<=sizeLine:=by rw[<-tH.length];exact z
  have hl:(tJ kvs k v).length<=sizeLine:=by have:=Sn kvs k v;omega
  refine wpAny_setItem_pairs (hsz:=hz) (Jw ry) dd λh' dd' hs=>h _ ?_;have he:∃q,h'.get? a=Z q:=let ⟨q,_,_,hq,_⟩:=dd';⟨q,hq⟩
  exact Nl I (by rw[e];exact IV) hs he (Vb hl hd (tH.put k rv) dd')
 .subst ey eH
  cases(show u=Bl b from ry);obtain⟨z,hd,xs,tH,dd⟩:=UC I.hok e;have hz:BC xs<=sizeLine:=by rw[<-FV tH];exact z
  have hl:(tJ kvs k v).length<=sizeLine:=by have:=Sn kvs k v;omega
  refine wpAny_setItem_heap (hsz:=hz) (MG hu) (Jy I.hok eb) dd λh' dd' hs=>h _ ?_;obtain⟨q,es,ep,hq,h2,h3,h4,_,h5⟩:=dd';refine Nl I (by rw[e];exact IV) hs ⟨q,hq⟩ ⟨hl,hd,_,(tH.put k eb rv).keeps λc ys ec=>?_,q,es,ep,hq,h2,h3,h4,h5⟩;rw[ZE (UL ec e (λz=>nomatch z))];exact ec
end
section
variable{X:Cx}{su:z7}{σ:St}{H:Hp}{s:Shared}{a:Addr}{kvs:List (sL×V)}{k:sL}{u:Value}{A:Around}{E:z4}
theorem cM(I:Inv X su σ H s)(e:Rd H a (.dK kvs))(h:∀t s',Inv X su σ H s'->Q (.int kvs.length t) s'):wpAny (model X.prog X.w) A (call (.builtin "len") [.ref a]) Q E s:=by obtain⟨z,hd,vs,tH,dd⟩:=HV I.hok e;refine call_len_dict hd dd (by rw[<-tH.length];rw[BR]at z;omega) ?_;rw[<-tH.length];exact h _ _ (I.tok _)
end
def KH(i:Expr):Prop:=∀ov iv,O1 i Ab ov iv=operate [ov,iv] (getItem ov iv)
theorem gM{prog:Program}{w:World}{A:Around}{E:z4}{env:Env}{value tW:Expr}{T id:String}(hl:typeLookup (.type T) "__getitem__"=pure (Z (.builtin id)))(hs:KH tW)(h:wpAny (model prog w) A (eval value env) (λo s₁=>wpAny (model prog w) A (eval tW env) (λi s₂=>s₂.TypeIs o T/\wpAny (model prog w) A (getItem o i) Q E s₂) E s₁) E s):wpAny (model prog w) A (eval (.Subscript value tW pos) env) Q E s:=by
 refine Subscript_ (CQ h (λo s₁ h₁=>CQ h₁ (λi s₂ h₂=>?_) λ_ _ x=>x) λ_ _ x=>x);obtain⟨hT,h₂⟩:=h₂;unfold subscriptTail;refine Ac ?_;rw[getitemInPython_of_ne hT.not_modules];refine Ac (TC hT hl ?_);have tO:wpAny (model prog w) A (O1 tW Ab o i) (λr s₃=>wpAny (model prog w) A (letTemporaryGo value o r >>= λ_=>pure r) Q E s₃) E s₂:=by rw[hs o i];exact wpAny_operating (CQ h₂ (λr s₃ h₃=>Ac (wpAny_letTemporaryGo (Ae h₃))) λ_ _ x=>x)
 first
  |exact Ae (Ac tO)
  |exact Ac (Ae (Ac tO))
  |exact Ac tO
theorem mS(I:Inv X su σ H s)(g:BZ H a y o):s.TypeIs (.ref a) "dict":=by
 rcases g with⟨kvs,k,e,_,_⟩|⟨kvs,k,b,e,_,_,_⟩
 .obtain⟨_,_,vs,_,dd⟩:=HV I.hok e
  exact dd.typeIs
 .obtain⟨_,_,xs,_,dd⟩:=Ju I.hok e
  exact dd.typeIs
def cF(td ty:TE):TE:=λσ H Q=>td σ H λx H1=>ty σ H1 λy H2=>∃a v,x=.ref a/\BZ H2 a y (Z v)/\Q v H2
def cV(ty td:TE):TE:=λσ H Q=>ty σ H λy H1=>td σ H1 λx H2=>∃a o,x=.ref a/\BZ H2 a y o/\Q (.bl o.isSome) H2
def ie(ty td:TE):TE:=λσ H Q=>ty σ H λy H1=>td σ H1 λx H2=>∃a o,x=.ref a/\BZ H2 a y o/\Q (.bl (!o.isSome)) H2
def b8(td ty tv:TE):TS:=λD σ H=>tv σ H λv H1=>td σ H1 λx H2=>ty σ H2 λy H3=>∃a H4,x=.ref a/\Gd H3 a y v H4/\D.nx σ H4
section
variable{X:Cx}{o i e value:Expr}{pos pos' tpos:Pos}{td ty tv:TE}
theorem QV(hu:X.A.units+1<cLine)(ho:PE X o td)(hi:PE X i ty)(hs:KH i):PE X (.Subscript o i pos) (cF td ty):=by intro su s σ H Q I h;refine gM PySem.F.slot_dict_getitem.lookup hs (sO (ho su s σ H _ I h) λu s1 ⟨x,H1,I1,rx,q1⟩=>sO (hi su s1 σ H1 _ I1 q1) λiv s2 ⟨y,H2,I2,ry,a,v,ex,g,q2⟩=>?_);subst ex;obtain rfl:u=Bl a:=rx;exact⟨mS I2 g,kl hu I2 g ry λw' s3 I3 rw'=>⟨v,H2,I3,rw',q2⟩⟩
theorem Vn(hu:X.A.units+1<cLine)(hi:PE X i ty)(ho:PE X o td):PC X .In i o (cV ty td):=by intro su s σ H Q I h;refine sO (hi su s σ H _ I h) λiv s1 ⟨y,H1,I1,ry,q1⟩=>sO (ho su s1 σ H1 _ I1 q1) λu s2 ⟨x,H2,I2,rx,a,ov,ex,g,q2⟩=>?_;subst ex;obtain rfl:u=Bl a:=rx;exact pN hu I2 g ry λs3 I3=>⟨.bl ov.isSome,H2,I3,rfl,q2⟩
theorem XH(hu:X.A.units+1<cLine)(hi:PE X i ty)(ho:PE X o td):PC X .NotIn i o (ie ty td):=by intro su s σ H Q I h;refine sO (hi su s σ H _ I h) λiv s1 ⟨y,H1,I1,ry,q1⟩=>sO (ho su s1 σ H1 _ I1 q1) λu s2 ⟨x,H2,I2,rx,a,ov,ex,g,q2⟩=>?_;subst ex;obtain rfl:u=Bl a:=rx;exact gZ hu I2 g ry λs3 I3=>⟨.bl (!ov.isSome),H2,I3,rfl,q2⟩
theorem QR(hu:X.A.units+1<cLine)(ho:PE X o td)(hi:PE X i ty)(hv:PE X value tv)(hs:Et value (Z (.Subscript o i pos')) pos.line X.env=pure Ab):PS X (.Assign [.Subscript o i pos'] value pos) (b8 td ty tv):=by
 intro su s σ H D I h;refine wpAny_Assign_Subscript (sO (hv su s σ H _ I h) λr s1 ⟨v,H1,I1,rv,q1⟩=>sO (ho su s1 σ H1 _ I1 q1) λu s2 ⟨x,H2,I2,rx,q2⟩=>sO (hi su s2 σ H2 _ I2 q2) λiv s3 ⟨y,H3,I3,ry,a,H4,ex,g,q3⟩=>?_) hs;subst ex;obtain rfl:u=Bl a:=rx;exact kI hu I3 g ry rv λs4 I4=>⟨σ,H4,I4,q3⟩
end
theorem Xt{w:World}(h:Heap)(hb:CB<h.objs.size):Z6 P w H (h.push {cls:=.type "dict",data:=.dict #[]}) h.objs.size (.dK []) :=
 ⟨BQ _,beq_eq_false_iff_ne.mpr (Bi (Aw hb)),[],.nil,Heap.DictOf.new h⟩
theorem gx{w:World}(h:Heap)(hb:CB<h.objs.size):Z6 P w H (h.push {cls:=.type "dict",data:=.dict #[]}) h.objs.size (.dT []) :=
 ⟨BQ _,beq_eq_false_iff_ne.mpr (Bi (Aw hb)),[],.nil,_,#[],0,A1 _ rfl,⟨rfl,rfl,rfl⟩,rfl,rfl,Ff⟩
def dA:TE:=λ_ H Q=>∀p,H p=Z_->Q (.ref p) (upd H p (.dK []))
def dE:TE:=λ_ H Q=>∀p,H p=Z_->Q (.ref p) (upd H p (.dT []))
section
variable{X:Cx}{pos:Pos}
theorem jj:PE X (.Dict [] [] pos) dA:=λsu s σ H Q I h=>wpAny_Dict_empty ⟨.ref s.heap.objs.size,_,I.laid (a:=s.heap.objs.size) (o:=.dK []) (t':=s.toks) (λ_ _ q=>Au _ q) (Aj _) (Xt s.heap I.big),rfl,h _ (I.hok.fresh (Aj _))⟩
theorem WM:PE X (.Dict [] [] pos) dE:=λsu s σ H Q I h=>wpAny_Dict_empty ⟨.ref s.heap.objs.size,_,I.laid (a:=s.heap.objs.size) (o:=.dT []) (t':=s.toks) (λ_ _ q=>Au _ q) (Aj _) (gx s.heap I.big),rfl,h _ (I.hok.fresh (Aj _))⟩
end
def Qm:List (TE×TE)->St->Hp->(List (V×V)->Hp->Prop)->Prop
 |[],_,H,Q=>Q [] H
 |(tk,tv)::r,σ,H,Q=>tk σ H λx H1=>tv σ H1 λy H2=>Qm r σ H2 λps H3=>Q ((x,y)::ps) H3
abbrev VV:List (V×V)->List (Value×Value)->Prop:=Paired λp q=>RelV p.1 q.1/\RelV p.2 q.2
def PPs(X:Cx)(pos:Pos)(keys:List (Option Expr))(uP:List Expr)(xr:List (TE×TE)):Prop :=
 ∀(su:z7) (s:Shared) (σ:St) (H:Hp) (Q:List (V×V)->Hp->Prop),Inv X su σ H s->Qm xr σ H Q ->
  wpAny (model X.prog X.w) X.A (evalPairs (pairTrees keys uP X.env pos)) (λvs s'=>∃ps H',Inv X su σ H' s'/\VV ps vs/\Q ps H') X.xe s
theorem fY:PPs X pos [] [] []:=λsu s σ H Q I h=>pairTrees_nil_walk ⟨[],H,I,.nil,h⟩
theorem jl{k v:Expr}{ks:List (Option Expr)}{vs:List Expr}{tk tv:TE}{xr:List (TE×TE)}(hk:PE X k tk)(hv:PE X v tv)(hr:PPs X pos ks vs xr):PPs X pos (Z k::ks) (v::vs) ((tk,tv)::xr):=λsu s σ H Q I h =>
 pairTrees_cons_walk (sO (hk su s σ H _ I h) λu s1 ⟨x,H1,I1,rx,q1⟩=>sO (hv su s1 σ H1 _ I1 q1) λw2 s2 ⟨y,H2,I2,ry,q2⟩=>sO (hr su s2 σ H2 _ I2 q2) λws s3 ⟨ps,H3,I3,tH,q3⟩=>⟨(x,y)::ps,H3,I3,.cons ⟨rx,ry⟩ tH,q3⟩)
def Jz(kvs more:List (sL×V)):List (sL×V):=more.foldl (λacc kv=>tJ acc kv.1 kv.2) kvs
theorem KV.merge:∀{more:List (sL×V)} {rs:List (sL×Value)} {kvs:List (sL×V)} {vs:List (sL×Value)},KV more rs->KV kvs vs->KV (Jz kvs more) (merged vs rs):=by
 intro more rs kvs vs r;unfold KV at r
 induction r generalizing kvs vs with
 |nil=>intro q;exact q
 | @cons p q ps qs h t ih =>
  intro r0;have e:KV (tJ kvs p.1 p.2) (stored vs q.1 q.2):=by have:=r0.put p.1 h.2;rw[<-h.1];exact this
  exact ih e
theorem ae:∀(more kvs:List (sL×V)),(Jz kvs more).length<=BC kvs+BC more
 |[],kvs=>by show kvs.length<=BC kvs+0;omega
 |p::r,kvs=>by have h1:=ae r (tJ kvs p.1 p.2);have h2:=Sn kvs p.1 p.2;show(Jz (tJ kvs p.1 p.2) r).length<=_;rw[Av];omega
theorem YF{P:Program}{w:World}:∀{kvs:List (sL×V)} {ws:List (Value×Value)},VV (kvs.map λkv=>(kV kv.1,kv.2)) ws->∃rs,Carries (BV P w) ws rs/\KV kvs rs
 |[],_,r=>by rw[F6]at r;cases r;exact⟨[],IV,.nil⟩
 |p::kvs,_,r=>by
  rw[Ai]at r;cases r with
  | @cons a b as bs h t=>obtain⟨rs,c,q⟩:=YF (P:=P) (w:=w) t;obtain⟨b1,b2⟩:=b;exact⟨(p.1,b2)::rs,⟨Jw h.1,rfl,c⟩,.cons ⟨rfl,h.2⟩ q⟩
def cP(xr:List (TE×TE)):TE:=λσ H Q=>∀p,H p=Z_->Qm xr σ (upd H p (.dK [])) λps H2=>H2 p=Z (.dK [])/\∃kvs:List (sL×V),ps=kvs.map (λkv=>(kV kv.1,kv.2))/\kvs.length<=15/\Q (.ref p) (upd H2 p (.dK (Jz [] kvs)))
theorem eF{keys:List (Option Expr)}{uP:List Expr}{xr:List (TE×TE)}(h:PPs X pos keys uP xr)(tp:keys.all (·.isSome)=Aa)(hl:BC keys=uP.length)(h0:keys≠[])(h15:BC keys<=15):PE X (.Dict keys uP pos) (cP xr):=by
 intro su s σ H Q I q;have hn:=I.hok.fresh (Aj s.heap.objs.size);have I1:=I.laid (a:=s.heap.objs.size) (o:=.dK []) (h':=s.heap.push {cls:=.type "dict",data:=.dict #[]}) (t':=s.toks) (λ_ _ q=>Au _ q) (Aj _) (Xt s.heap I.big);refine wpAny_Dict_walk (knd:=BV X.prog X.w) tp hl h0 h15 (sO (h su _ σ _ _ I1 (q _ hn)) λws s2 ⟨ps,H2,I2,tH,e,kvs,ep,lk,q2⟩=>?_);subst ep;obtain⟨rs,c,rk⟩:=YF (P:=X.prog) (w:=X.w) tH;obtain⟨z,hd,vs0,r0,dd⟩:=Qd I2.hok e;cases r0;refine⟨rs,c,dd,λh' dd' hs=>⟨.ref s.heap.objs.size,_,?_,rfl,q2⟩⟩;have hz:(Jz [] kvs).length<=sizeLine:=by have h1:=ae kvs [];rw[List.length_nil]at h1;rw[BR];omega
 have he:∃q,h'.get? s.heap.objs.size=Z q:=let ⟨q,_,_,hq,_⟩:=dd';⟨q,hq⟩
 exact Nl I2 (by rw[e];exact IV) hs he (Vb hz hd (rk.merge .nil) dd')
structure M2(X:Cx)(o:Expr)(m:Str)(u4:Pos)(e f:Expr)(t8:Pos):Prop where
 base:Hu o m X.env (eval o X.env)=eval o X.env
 few:((backTo t8 (Ag [e,f] X.env)).all (λx=>!x.1)&&(Kk t8 (Kl [] X.env)).all (λx=>x.1.isSome)
  && decide (([e,f]:List Expr).length+([]:List Keyword).length+(if([]:List Keyword).isEmpty then 0 else 1)<30))=Aa
 line:(u4.endLine==t8.line)=Aa
 trees:backTo t8 (Ag [e,f] X.env)=[(Ab,eval e X.env),(Ab,eval f X.env)]
def IsD(H:Hp)(a:Addr):Prop:=(∃kvs,Rd H a (.dK kvs))\/∃kvs,Rd H a (.dT kvs)
theorem dh(I:Inv X su σ H s)(d:IsD H a):s.TypeIs (.ref a) "dict"/\(∀b,Bl a=.ref b->∃ob,s.heap.get? b=Z ob/\ob.dict=Z_)/\(a==CB)=Ab:=by
 rcases d with⟨kvs,e⟩|⟨kvs,e⟩
 .obtain⟨_,hd,vs,_,dd⟩:=HV I.hok e
  refine⟨dd.typeIs,λb q=>?_,hd⟩;cases q;obtain⟨ob,_,_,h1,h2,_⟩:=dd;exact⟨ob,h1,h2.2.1⟩
 .obtain⟨_,hd,xs,_,dd⟩:=Ju I.hok e
  refine⟨dd.typeIs,λb q=>?_,hd⟩;cases q;obtain⟨ob,_,_,h1,h2,_⟩:=dd;exact⟨ob,h1,h2.2.1⟩
end
end L2
namespace Att
open PySem PySem.W PySem.Calls PyProof.Rows
variable{h:Heap}{n:Nat}
theorem oU{P:Params}:∀(ns:zZ) (vs:z8),WellAll P h vs (ns.map WData.int)->IntsAre vs ns:=by
 intro ns
 induction ns with
 |nil=>intro vs w;rw[F6]at w;cases w;exact .nil
 |cons n ns ih =>
  intro vs w;rw[Ai]at w;cases w with
  |cons a b=>cases a;exact .cons _ _ (ih _ b)
theorem jF{l:OpenLaw}(hn:l.most=Z n){P:Params}{args:List WData}{yN:z8}(xN:l.row.toRowW.claim.pre args=Aa)(hwl:WellAll P h yN args):∃a vs ns,yN=[Bl a]/\args=[WData.list (ns.map WData.int)]/\h.get? a=Z {cls:=.type "list",data:=.seq vs.toArray}/\IntsAre vs ns/\ns.length<=n:=by
 have zA:WShape.hasAll [] args [.list .int]=Aa:=(pre_splitW xN).1;have hc:l.pre.holds [] {args:=args}=Aa:=(pre_splitW xN).2;obtain⟨d,r,rfl,h1,h2⟩:=hasAllW_cons zA;obtain rfl:=hasAllW_nil h2;obtain⟨xs,rfl,h3⟩:=hasW_list h1;obtain⟨ns,rfl⟩:=items_int h3;have sA:BC ns<=n:=by
  unfold OpenLaw.pre at hc;have h4:(WTm.not (.lt (.lit (.int (n:Int))) (.len (.arg 0)))).holds [] {args:=[.list (ns.map .int)]}=Aa:=by have h4:=(holds_andW hc).1;rw[hn]at h4;exact h4
  have h5:=condW_of h4 (w_not (w_lt w_lit (w_len_list (w_arg rfl))));rw[Ad]at h5;refine Kz λq=>?_;have q':(n:Int)<((ns.length:Nat):Int):=by omega
  first
   |(rw[decide_eq_true q']at h5;exact absurd h5 (by decide))
   |(simp at h5;omega)
 cases hwl with
 |cons w1 w2 =>
  cases w2;cases w1 with
  |list ho tp=>exact⟨_,_,ns,rfl,rfl,ho,oU ns _ tp,sA⟩
theorem kS(l:OpenLaw)(args:List WData):l.row.toRowW.claim.post args (.bool Aa) args=Aa :=
 postW_of (r:=l.row.toRowW) (X:=(Aa==Aa))
  (show WShape.has [] (.bool Aa) .bool=Aa by first|rfl|decide|simp[WShape.has,WShape.arms,WShape.armsAll])
  (show(WTm.eq .res (.lit (.bool Aa))).value [] {args:=args,res:=Z (.bool Aa),after:=args}=Z (.bool (Aa==Aa)) from w_eq_bool (w_res rfl) w_lit) rfl
theorem qN{l:OpenLaw}{q:Program}{vb:z9}{XP:z6->Heap->Prop}{YP:World->Heap->Prop}{d:DefRec}(hn:l.most=Z n)(zI:d.params.defaults=[])
  (call:∀(w:World) (s₀ s₁:Shared) (mg mb:z6) (fa:Addr) (o:Obj) (pm cd ub:Value) (a:Addr) (vs:z8) (ns:zZ),
   Ground q vb [] XP w s₀ mg mb s₁.heap->YP w s₁.heap ->
   s₁.heap.get? fa=Z o->o.data=.func (docDef d.name d.params d.body d.scope pm cd ub)->s₁.heap.CodeRec cd d.name->mg d.name=Z (.ref fa) ->
   s₁.heap.get? a=Z {cls:=.type "list",data:=.seq vs.toArray}->IntsAre vs ns->ns.length<=n->s₁.gens=#[] ->
   codeAny (model l.prog w) callerA (.call (.ref fa) ⟨[.ref a],[]⟩) (λr s'=>r=.ok (.ret (.bool Aa))/\OldK s₁.heap s'.heap/\s'.os=s₁.os/\AllBare s'.gens) s₁):
  WalkO q vb XP YP l.row.toRowW d [] (λf vs=>PySem.call f vs):=by
 intro w s₀ s₁ mg mb G Y fa o pm cd ub dV kV ho hd tF hD zC hg args yN as xN hlay hrd hwl hlo;obtain rfl:dV=.none:=Dflts.none hD zI;obtain rfl:kV=.none:=Dflts.noKw hD;obtain⟨a,vs,ns,rfl,rfl,yQ,xb,sA⟩:=jF hn xN hwl;refine enter_call (Fc (call w s₀ s₁ mg mb fa o pm cd ub a vs ns G Y ho (fd_plain hd) tF zC yQ xb sA hg) λr s' hq=>?_);obtain⟨rfl,h2,h3,h4⟩:=hq;exact⟨.inl ⟨.bool Aa,.bool Aa,[],rfl,λ_=>rfl,.bool Aa,kS l _,λ_=>⟨List.Pairwise.nil,λ_ hm=>(nomatch hm)⟩⟩,h2,h3,h4⟩
end Att
namespace L2
open PySem PySem.Spec PyProof.Rows
theorem Xv:∀{vs:z8} {ns:zZ},IntsAre vs ns->sC (ns.map V.int) vs
 |_,_,.nil=>.nil
 |_,_,.cons n t h=>.cons ⟨t,rfl⟩ (Xv h)
section
variable{f:Addr}{H H':Hp}{A:Prop}{st:Stmt}{qual x:Str}
def El(s:Stmt):Arguments:=match s with
 | .FunctionDef _ a _ _ _ _ _ _ _ _=>a
 |_=>{posonlyargs:=[],args:=[],vararg:=Z_,kwonlyargs:=[],kw_defaults:=[],kwarg:=Z_,defaults:=[]}
def B4(s:Stmt):List Stmt:=match s with
 | .FunctionDef _ _ b _ _ _ _ _ _ _=>b
 |_=>[]
def Zf(s:Stmt):Scope:=match s with
 | .FunctionDef _ _ _ _ _ _ sc _ _ _=>sc
 |_=>{kind:=.function,names:=[],isGenerator:=Ab,isCoroutine:=Ab}
abbrev uU:xJ:=λ_ _ _ _ _ _=>False
abbrev E0:XK:=λ_ _ _=>False
theorem MT{X:Cx}:v7 uU X E0:=λ_ _ _ _ _ _ _ h=>h.elim
structure vB(K:Af)(x qual:Str)(st:Stmt)(f:Addr)(fd:FuncData):Prop where
 ex:∃(oc:Value) (od:Option Addr) (kV ub pm:Value) (an:Option Addr) (sN ct:Value) (vh:Array (Option Value)),
  fd=DT x qual (El st) (B4 st) (Zf st) .none kV ub pm an sN ct/\K.lookup f=Z ⟨oc,od,.func fd,vh⟩/\Hv K sN qual=Aa
 kp:E6 K (.ref f)=Aa
section
variable{P:Program}{w:World}{K:Af}{mg:z6}{base:Heap}
theorem vB.ok{x qual:Str}{st:Stmt}{f:Addr}{fd:FuncData}{N ps:z9}{k:Nat}{sp:Sp}(F:vB K x qual st f fd)(S:Zv N ps (Zf st))(len:∀vs H Q E,sp vs H Q E->vs.length=ps.length)
  (uD:∀(sN:Value) (A:Around) (outer:List Env) (s:Shared) (H:Hp) (vs:List V) (Q:VK) (E:XK),AA k (A.deeper (envOfC qual (Zf st) s.heap.objs.size f sN))->sp vs H Q E ->
   ∃t,uw (Eg uU P w K mg base N qual (Zf st) f sN A outer s H E).nox (B4 st) t/\t {nx:=λ_ H'=>Q .non H',rt:=Q} (start N vs) H):CF P w K mg base uU (k+1) f fd ps sp:=by
 obtain⟨oc,od,kV,ub,pm,an,sN,ct,vh,rfl,lk,tF⟩:=F.ex;refine UG lk tF S len λA outer s H vs Q E hr ya=>?_;obtain⟨t,h,q⟩:=uD sN A outer s H vs Q E hr ya;exact⟨t,h.nox,q⟩
theorem vB.binds{fd:FuncData}{ps:z9}(F:vB K x qual st f fd)(h:∀(kV ub pm:Value) (an:Option Addr) (sN ct:Value) (us:z8),BC us=ps.length->bindArgs (DT x qual (El st) (B4 st) (Zf st) .none kV ub pm an sN ct) ⟨us,[]⟩=pure (ps.zip us)):Binds K fd ps []:=by
 obtain⟨oc,od,kV,ub,pm,an,sN,ct,vh,rfl,lk,tF⟩:=F.ex;exact .all (h kV ub pm an sN ct)
theorem Qo{oc:Value}{od an:Option Addr}{vh:Array (Option Value)}{kV ub pm sN ct:Value}(l:K.lookup f=Z ⟨oc,od,.func (DT x qual (El st) (B4 st) (Zf st) .none kV ub pm an sN ct),vh⟩)(c:Hv K sN qual=Aa)(k:E6 K (.ref f)=Aa):vB K x qual st f (DT x qual (El st) (B4 st) (Zf st) .none kV ub pm an sN ct):=⟨⟨oc,od,kV,ub,pm,an,sN,ct,vh,rfl,l,c⟩,k⟩
end
theorem Dr{A:Around}{k:Nat}(hr:AA k A):A.units+1<cLine:=Tz (Nat.add_le_add_left (by decide:1<=64) _) hr.units
theorem HJ{B:Prop}(h:B):if Ab=Aa then A else B:=by rw[if_neg DD];exact h
theorem HN{B:Prop}(h:A):if Aa=Aa then A else B:=by rw[if_pos rfl];exact h
def Zs(H H':Hp):Prop:=∀b o,H b=Z o->H' b=Z o
theorem Zs.refl(H:Hp):Zs H H:=λ_ _ h=>h
theorem Zs.trans{H1 H2:Hp}(a:Zs H H1)(b:Zs H1 H2):Zs H H2:=λc o h=>b c o (a c o h)
theorem Zs.free(e:Zs H H'){l:Addr}(h:H' l=Option.none):H l=Option.none:=by
 cases q:H l with
 |none=>rfl
 |some o=>rw[e l o q]at h;cases h
theorem Zs.seq{K:Af}{a:Addr}{xs:List V}(e:Zs H H')(h:tQ K H a xs):tQ K H' a xs:=by
 rcases h with(h|⟨o,h⟩)|h
 .exact .inl (.inl (e _ _ h))
 .exact .inl (.inr ⟨o,e _ _ h⟩)
 .exact .inr h
end
section
variable{X:Cx}
theorem jO:A7 X (.builtin "len") (λxs H Q=>∃a kvs,xs=[V.ref a]/\H a=Z (.dK kvs)/\Q (.int kvs.length) H):=by intro su s σ H xs us Q I r h;obtain⟨a,kvs,rfl,ha,q⟩:=h;obtain⟨u,rfl,ru⟩:=vals1 r;cases ru;exact cM I (.inl ha) λt s' I'=>⟨.int kvs.length,H,I',⟨t,rfl⟩,q⟩
end
end L2
namespace HM
open PySem
abbrev D:=PyData
abbrev Ky:=Sum Int Str
inductive B where
 |pl (d:D)
 |ol (ds:z5)
 |ok (kvs:List (Ky×D))
 |ot (kvs:List (List Ky×D))
 |otl (kvs:List (List Ky×z5))
 |hd (es:List (D×D))
abbrev Env:=List (Option B)
inductive vz where
 |nx (r:Env)
 |rt (d:D)
 |bk (r:Env)
 |ct (r:Env)
abbrev EF:=Env->Option D
abbrev BF:=Env->Option B
abbrev TF:=Env->Option Bool
abbrev IF:=Env->Option z5
abbrev AF:=Env->Option z5
abbrev SF:=Env->Option vz
@[simp] def big:Nat:=1000000
@[simp] noncomputable def Za (i:Nat):EF:=λr=>match r[i]? with
 |some (Z (.pl d))=>Z d
 |_=>Z_
@[simp] noncomputable def Zg (i:Nat):BF:=λr=>match r[i]? with
 |some (Z b)=>Z b
 |_=>Z_
@[simp] noncomputable def sD (f:EF):BF:=λr=>(f r).map B.pl
def Bv:Ky->D
 | .inl i=>.int i
 | .inr x=>.str x
noncomputable def Zq (kvs:List (List Ky×D)):List (D×D):=kvs.map λp=>(.tuple (p.1.map Bv),p.2)
@[simp] noncomputable def frz:B->Option D
 | .pl d=>Z d
 | .ol ds=>Z (.list ds)
 | .ot kvs=>Z (.dict (Zq kvs))
 | .hd es=>Z (.dict es)
 |_=>Z_
@[simp] def tS(f:BF):EF:=λr=>(f r).bind frz
@[simp] noncomputable def eC (d:D):EF:=λ_=>Z d
@[simp] noncomputable def sG (g:D->D->Option D) (a b:EF):EF:=λr=>match a r with
 |some x=>match b r with
  |some y=>g x y
  |none=>Z_
 |none=>Z_
@[simp] noncomputable def Gf (g:Int->Int->Option D):D->D->Option D
 | .int i,.int j=>g i j
 |_,_=>Z_
def A4(i:Int):Bool:=Nat.blt i.natAbs 18446744073709551616
@[simp] def Bu(x y:D):Option D:=Gf (λi j=>Z (.int (i+j))) x y
@[simp] def KY(x y:D):Option D:=Gf (λi j=>Z (.int (i-j))) x y
@[simp] def CG(x y:D):Option D:=Gf (λi j=>if A4 i||A4 j then Z (.int (i*j))else Z_) x y
@[simp] def UR(x y:D):Option D:=Gf (λi j=>if 0<j then Z (.int (i%j))else Z_) x y
@[simp] def vt(x y:D):Option D:=Gf (λi j=>Z (.bool (decide (i<j)))) x y
@[simp] def xG(x y:D):Option D:=Gf (λi j=>Z (.bool (decide (i<=j)))) x y
@[simp] def vm(x y:D):Option D:=Gf (λi j=>Z (.bool (decide (j<i)))) x y
def CN(d:D):Bool:=d.canLay0&&decide (d.depth<=60)
@[simp] def tK(a b:D):Option D:=if CN a&&CN b then Z (.bool (BN a b))else Z_
@[simp] def wF(a b:D):Option D:=if CN a&&CN b then Z (.bool (!PyData.eqv a b))else Z_
@[simp] def EI(a b:D):Option D:=match b with
 | .none=>match a with
  | .none=>Z (.bool Aa)
  |_=>Z (.bool Ab)
 |_=>Z_
@[simp] def Fu(a b:D):Option D:=match b with
 | .none=>match a with
  | .none=>Z (.bool Ab)
  |_=>Z (.bool Aa)
 |_=>Z_
@[simp] def IG(g g':D->D->Option D)(a b c:EF):EF:=λr=>match a r with
 |some x=>match b r with
  |some y=>match g x y with
   |some (.bool Aa)=>match c r with
    |some z=>g' y z
    |none=>Z_
   |some (.bool Ab)=>Z (.bool Ab)
   |_=>Z_
  |none=>Z_
 |none=>Z_
@[simp] def iW(a:EF):EF:=λr=>match a r with
 |some (.bool b)=>Z (.bool (!b))
 |_=>Z_
@[simp] def GS(a b:EF):EF:=λr=>match a r with
 |some (.bool Aa)=>b r
 |some (.bool Ab)=>Z (.bool Ab)
 |_=>Z_
@[simp] noncomputable def tV (a:EF):TF:=λr=>match a r with
 |some (.bool b)=>Z b
 |_=>Z_
@[simp] def BX(a:TF):TF:=λr=>(a r).map (!·)
@[simp] def D7(a b:TF):TF:=λr=>match a r with
 |some Aa=>b r
 |some Ab=>Z Ab
 |none=>Z_
@[simp] def xW(a b:TF):TF:=λr=>match a r with
 |some Aa=>Z Aa
 |some Ab=>b r
 |none=>Z_
@[simp] def wG(c:TF)(a b:EF):EF:=λr=>match c r with
 |some Aa=>a r
 |some Ab=>b r
 |none=>Z_
@[simp] noncomputable def Cz:B->Option z5
 | .pl (.tuple ds)=>Z ds
 | .pl (.list ds)=>Z ds
 | .ol ds=>Z ds
 |_=>Z_
def wz(n:Nat)(i:Int):Option Nat :=
 if 0<=i then(if i<n then Z i.toNat else Z_)else(if -(n:Int)<=i then Z (i+n).toNat else Z_)
noncomputable def vw (ds:z5) (i:Int):Option D:=match wz ds.length i with
 |some j=>ds[j]?
 |none=>Z_
@[simp] def sS(a:BF)(b:EF):EF:=λr=>match a r with
 |some x=>match Cz x with
  |some ds=>match b r with
   |some (.int i)=>vw ds i
   |_=>Z_
  |none=>Z_
 |none=>Z_
@[simp] def pU:B->Option Nat
 | .pl (.tuple ds)=>Z ds.length
 | .pl (.list ds)=>Z ds.length
 | .ol ds=>Z ds.length
 | .ok kvs=>Z kvs.length
 |_=>Z_
@[simp] def Z5(a:BF):EF:=λr=>match a r with
 |some x=>(pU x).map λ(n:Nat)=>BK (n:Int)
 |none=>Z_
@[simp] def De(a:BF):EF:=λr=>match a r with
 |some x=>(Cz x).map λds=>.tuple ds
 |none=>Z_
@[simp] def NY(a:BF):BF:=λr=>match a r with
 |some x=>(Cz x).map λds=>.ol ds
 |none=>Z_
def D8:z5->Option (List Bool)
 |[]=>Z []
 | .bool b::r=>(D8 r).map (b::·)
 |_::_=>Z_
@[simp] noncomputable def KW:B->Option z5
 | .pl (.list ds)=>Z ds
 | .ol ds=>Z ds
 |_=>Z_
@[simp] def Cu(a:BF):EF:=λr=>match a r with
 |some x=>match KW x with
  |some ds=>(D8 ds).map λbs=>.bool (bs.all id)
  |none=>Z_
 |none=>Z_
@[simp] def Zj:AF:=λ_=>Z []
@[simp] def Zb(a:EF)(b:AF):AF:=λr=>match a r with
 |some x=>(b r).map (x::·)
 |none=>Z_
@[simp] def D2(a:AF):EF:=λr=>(a r).map λds=>.tuple ds
@[simp] def C3(a:AF):BF:=λr=>(a r).map λds=>.ol ds
inductive Ty where
 |bool|int|str|tuple|list|dict
@[simp] noncomputable def pq:Ty->D->Bool
 | .bool,.bool _=>Aa
 | .int,.int _=>Aa
 | .int,.bool _=>Aa
 | .str,.str _=>Aa
 | .tuple,.tuple _=>Aa
 | .list,.list _=>Aa
 | .dict,.dict _=>Aa
 |_,_=>Ab
@[simp] def Gn(a:EF)(t:Ty):EF:=λr=>match a r with
 |some (.dict _)=>Z_
 |some d=>Z (.bool (pq t d))
 |none=>Z_
@[simp] def dJ(x y:D):Option D:=Gf (λi j=>Z (.int (if j > i then j else i))) x y
@[simp] def c5(x y:D):Option D:=Gf (λi j=>Z (.int (if j<i then j else i))) x y
@[simp] def mX(a:EF):EF:=λr=>match a r with
 |some (.int i)=>Z (.int i)
 |some (.bool b)=>Z (.int (if b then 1 else 0))
 |_=>Z_
@[simp] def K4(a b:BF):BF:=λr=>match a r with
 |some (.ol xs)=>match b r with
  |some (.ol ys)=>if xs.length+BC ys<big then Z (.ol (xs++ys))else Z_
  |_=>Z_
 |_=>Z_
@[simp] def iq(a:BF)(b:EF):BF:=λr=>match a r with
 |some (.ol xs)=>match b r with
  |some (.int k)=>if decide (k.natAbs<1000)&&decide (BC xs<1000)then Z (.ol (BJ k.toNat xs).flatten)else Z_
  |_=>Z_
 |_=>Z_
def zr(n d:Nat):Option Int->Nat
 |none=>d
 |some v=>if v<0 then(v+(n:Int)).toNat else min v.toNat n
noncomputable def cutD (xs:z5) (lo hi:Option Int):z5:=(xs.drop (zr xs.length 0 lo)).take (zr xs.length xs.length hi-zr xs.length 0 lo)
@[simp] def Vw(a:Option EF)(r:Env):Option (Option Int):=match a with
 |none=>Z Z_
 |some f=>match f r with
  |some (.int i)=>Z (Z i)
  |_=>Z_
@[simp] def iz(a:BF)(lo hi:Option EF):BF:=λr=>match a r with
 |some x=>match KW x with
  |some xs=>match Vw lo r with
   |some l=>match Vw hi r with
    |some h=>Z (.ol (cutD xs l h))
    |none=>Z_
   |none=>Z_
  |none=>Z_
 |none=>Z_
noncomputable def Cg:z5->Option zZ
 |[]=>Z []
 | .int i::r=>(Cg r).map (i::·)
 |_::_=>Z_
def Ic:z5->Option z0
 |[]=>Z []
 | .tuple ds::r=>match Cg ds with
  |some ns=>(Ic r).map (ns::·)
  |none=>Z_
 |_::_=>Z_
def lexLt:zZ->zZ->Bool
 |[],[]=>Ab
 |[],_::_=>Aa
 |_::_,[]=>Ab
 |a::r,b::q=>if a=b then lexLt r q else decide (a<b)
noncomputable def sortI (ns:zZ):zZ:=ns.mergeSort λa b=>decide (a<=b)
def Bc(ts:z0):z0:=ts.mergeSort λa b=>!lexLt b a
def uQ(ns:zZ):z5:=ns.map λi=>BK i
def Mf(ts:z0):z5:=ts.map λt=>Bj (uQ t)
def EO(ds:z5):Option z5 :=
 if ds.length<64 then match Cg ds with
  |some ns=>Z (uQ (sortI ns))
  |none=>match Ic ds with
   |some ts=>if ds.length<2||ts.all (λt=>!t.isEmpty)then Z (Mf (Bc ts))else Z_
   |none=>Z_
 else Z_
@[simp] noncomputable def gm:B->Option z5
 | .pl (.tuple ds)=>Z ds
 | .pl (.list ds)=>Z ds
 | .ol ds=>Z ds
 | .ok kvs=>Z (kvs.map λp=>Bv p.1)
 | .ot kvs=>Z (kvs.map λp=>.tuple (p.1.map Bv))
 | .otl kvs=>Z (kvs.map λp=>.tuple (p.1.map Bv))
 |_=>Z_
@[simp] def NZ(a:BF):BF:=λr=>match a r with
 |some x=>match gm x with
  |some ds=>(EO ds).map λds=>.ol ds
  |none=>Z_
 |none=>Z_
noncomputable def tL:zZ->zZ->zZ
 |acc,[]=>acc
 |acc,i::r=>if acc.contains i then tL acc r else tL (acc++[i]) r
def MK(ns:zZ):Bool:=ns.all λn=>decide (0<=n)&&decide (n<8)
@[simp] def aQ(a:BF):BF:=λr=>match a r with
 |some x=>match KW x with
  |some ds=>match Cg ds with
   |some ns=>if MK ns then Z (.ol (uQ (sortI (tL [] ns))))else Z_
   |none=>Z_
  |none=>Z_
 |none=>Z_
@[simp] def Zi(m:z5->Option D)(a:AF):EF:=λr=>match a r with
 |some ds=>m ds
 |none=>Z_
@[simp] def Zy(a:BF):IF:=λr=>match a r with
 |some x=>Cz x
 |none=>Z_
noncomputable def JU (lo:Int) (n:Nat):z5:=(Ah n).map λ(k:Nat)=>BK (lo+(k:Int))
def v9(j:Int):Bool:=Nat.blt j.natAbs 1000000
@[simp] def CM(a:EF):IF:=λr=>match a r with
 |some (.int j)=>if v9 j then Z (JU 0 j.toNat)else Z_
 |_=>Z_
@[simp] def oM(i:IF):EF:=λr=>match i r with
 |some ds=>if ds.length<big then Z (.tuple ds)else Z_
 |none=>Z_
noncomputable def Z3 (c:TF) (e:EF) (r:Env):z5->Option z5
 |[]=>Z []
 |x::xs=>match c (Z (.pl x)::r)with
  |some Aa=>match e (Z (.pl x)::r)with
   |some y=>(Z3 c e r xs).map (y::·)
   |none=>Z_
  |some Ab=>Z3 c e r xs
  |none=>Z_
@[simp] def ZD:TF:=λ_=>Z Aa
@[simp] def Zt(i:IF)(c:TF)(e:EF):BF:=λr=>match i r with
 |some xs=>if xs.length<big then(Z3 c e r xs).map λys=>.ol ys else Z_
 |none=>Z_
@[simp] def Zr(a b:SF):SF:=λr=>match a r with
 |some (.nx r')=>b r'
 |some (.rt d)=>Z (.rt d)
 |some (.bk r')=>Z (.bk r')
 |some (.ct r')=>Z (.ct r')
 |none=>Z_
@[simp] noncomputable def AL:SF:=λr=>Z (.nx r)
@[simp] def Xa:SF:=λ_=>Z_
@[simp] noncomputable def ZG (a:EF):SF:=λr=>(a r).map vz.rt
@[simp] def ZN(i:Nat)(a:EF):SF:=λr=>(a r).map λd=>.nx (r.set i (Z (.pl d)))
@[simp] def ZO(i:Nat)(a:BF):SF:=λr=>(a r).map λb=>.nx (r.set i (Z b))
@[simp] def NG(i:Nat)(r:Env):Env:=match r[i]? with
 |some (Z (.ol ds))=>r.set i (Z (.pl (.list ds)))
 |some (Z (.ot kvs))=>r.set i (Z (.pl (.dict (Zq kvs))))
 |_=>r
@[simp] def Ce(i:Nat):SF->SF:=λa r=>a (NG i r)
@[simp] def Vx(a:EF):SF:=λr=>(a r).map λ_=>.nx r
@[simp] def tw(c:TF)(a b:SF):SF:=λr=>match c r with
 |some Aa=>a r
 |some Ab=>b r
 |none=>Z_
noncomputable def Z7 (i:Nat) (body:SF):z5->Env->Option vz
 |[],r=>Z (.nx r)
 |x::xs,r=>match body (r.set i (Z (.pl x)))with
  |some (.nx r')=>Z7 i body xs r'
  |some (.ct r')=>Z7 i body xs r'
  |some (.bk r')=>Z (.nx r')
  |some (.rt d)=>Z (.rt d)
  |none=>Z_
@[simp] def AH(i:Nat)(it:IF)(body:SF):SF:=λr=>match it r with
 |some xs=>if xs.length<big then Z7 i body xs r else Z_
 |none=>Z_
@[simp] def jA:SF:=λr=>Z (.bk r)
noncomputable def Z9 (c:TF) (body:SF):Nat->Env->Option vz
 |0,_=>Z_
 |n+1,r=>match c r with
  |some Aa=>match body r with
   |some (.nx r')=>Z9 c body n r'
   |some (.ct r')=>Z9 c body n r'
   |some (.bk r')=>Z (.nx r')
   |some (.rt d)=>Z (.rt d)
   |none=>Z_
  |some Ab=>Z (.nx r)
  |none=>Z_
@[simp] def Io(i:Nat)(a:EF):SF:=λr=>match r[i]? with
 |some (Z (.ol ds))=>match a r with
  |some d=>if ds.length<big then Z (.nx (r.set i (Z (.ol (ds++[d])))))else Z_
  |none=>Z_
 |_=>Z_
@[simp] def lB(i:Nat)(k v:EF):SF:=λr=>match v r with
 |some d=>match r[i]? with
  |some (Z (.ol ds))=>match k r with
   |some (.int n)=>match wz ds.length n with
    |some j=>Z (.nx (r.set i (Z (.ol (ds.set j d)))))
    |none=>Z_
   |_=>Z_
  |_=>Z_
 |none=>Z_
noncomputable def tj {k v:Type} [DecidableEq k] (kvs:List (k×v)) (x:k) (y:v):List (k×v) :=
 if(kvs.any λp=>decide (p.1=x))=Aa then kvs.map (λp=>if p.1=x then(p.1,y)else p)else kvs++[(x,y)]
noncomputable def Zk {k v:Type} [DecidableEq k] (kvs:List (k×v)) (x:k):Option v:=(kvs.find? λp=>decide (p.1=x)).map (·.2)
@[simp] def JB:D->Option Ky
 | .int i=>Z (.inl i)
 | .str x=>Z (.inr x)
 |_=>Z_
def NJ:z5->Option (List Ky)
 |[]=>Z []
 |d::r=>match JB d with
  |some k=>(NJ r).map (k::·)
  |none=>Z_
noncomputable def tkL:D->Option (List Ky)
 | .tuple ds=>NJ ds
 |_=>Z_
def M0:z5->Option (List Ky)
 |[]=>Z []
 | .int i::r=>(M0 r).map (Cn i::·)
 |_::_=>Z_
def Be:D->Option (List Ky)
 | .tuple ds=>M0 ds
 |_=>Z_
@[simp] def GU(i:Nat)(k v:EF):SF:=λr=>match v r with
 |some d=>match k r with
  |some x=>match r[i]? with
   |some (Z (.ok kvs))=>match JB x with
    |some y=>if kvs.length<big then Z (.nx (r.set i (Z (.ok (tj kvs y d)))))else Z_
    |none=>Z_
   |some (Z (.ot kvs))=>match Be x with
    |some y=>if kvs.length<big then Z (.nx (r.set i (Z (.ot (tj kvs y d)))))else Z_
    |none=>Z_
   |_=>Z_
  |none=>Z_
 |none=>Z_
@[simp] def fDk:BF:=λ_=>Z (.ok [])
@[simp] def zf:BF:=λ_=>Z (.ot [])
@[simp] def UQ:BF:=λ_=>Z (.otl [])
@[simp] def m5(k v:EF):BF:=λr=>match k r with
 |some x=>match v r with
  |some d=>match JB x with
   |some y=>Z (.ok [(y,d)])
   |none=>Z_
  |none=>Z_
 |none=>Z_
def Cy{k v:Type}[DecidableEq k](kvs:List (k×List v))(x:k):List (k×List v):=match Zk kvs x with
 |some _=>kvs
 |none=>kvs++[(x,[])]
def DI{k v:Type}[DecidableEq k]:List (k×List v)->k->v->List (k×List v)
 |[],_,_=>[]
 |(x,ds)::r,y,d=>if x=y then(x,ds++[d])::r else(x,ds)::DI r y d
@[simp] def mZ(i:Nat)(k v:EF):SF:=λr=>match k r with
 |some x=>match r[i]? with
  |some (Z (.otl kvs))=>match Be x with
   | some y=>if kvs.length<big then
     match v (r.set i (Z (.otl (Cy kvs y))))with
     |some d=>match Zk (Cy kvs y) y with
      |some ds=>if ds.length<big then Z (.nx (r.set i (Z (.otl (DI (Cy kvs y) y d)))))else Z_
      |none=>Z_
     |none=>Z_
    else Z_
   |none=>Z_
  |_=>Z_
 |none=>Z_
@[simp] def oG(i:Nat)(k:EF):SF:=λr=>match k r with
 |some x=>match r[i]? with
  |some (Z (.otl kvs))=>match Be x with
   | some y=>if kvs.length<big then
     match Zk kvs y with
     |none=>Z (.nx (r.set i (Z (.otl (kvs++[(y,[])])))))
     |some _=>Z_
    else Z_
   |none=>Z_
  |_=>Z_
 |none=>Z_
@[simp] def mW(i:Nat)(k v:EF):SF:=λr=>match k r with
 |some x=>match r[i]? with
  |some (Z (.otl kvs))=>match Be x with
   |some y=>match v r with
    |some d=>match Zk kvs y with
     |some ds=>if ds.length<big then Z (.nx (r.set i (Z (.otl (DI kvs y d)))))else Z_
     |none=>Z_
    |none=>Z_
   |none=>Z_
  |_=>Z_
 |none=>Z_
@[simp] def hasB(b:B)(x:D):Option Bool:=match b with
 | .ok kvs=>(JB x).map λy=>(Zk kvs y).isSome
 | .ot kvs=>(Be x).map λy=>(Zk kvs y).isSome
 | .otl kvs=>(Be x).map λy=>(Zk kvs y).isSome
 |_=>Z_
@[simp] def oC(k:EF)(a:BF):EF:=λr=>match k r with
 |some x=>match a r with
  |some b=>(hasB b x).map λc=>.bool (!c)
  |none=>Z_
 |none=>Z_
@[simp] def Xd(i:Nat)(k:EF):BF:=λr=>match k r with
 |some x=>match r[i]? with
  |some (Z (.ok kvs))=>match JB x with
   |some y=>(Zk kvs y).map B.pl
   |none=>Z_
  |some (Z (.ot kvs))=>match Be x with
   |some y=>(Zk kvs y).map B.pl
   |none=>Z_
  |some (Z (.otl kvs))=>match Be x with
   |some y=>(Zk kvs y).map B.ol
   |none=>Z_
  |_=>Z_
 |none=>Z_
abbrev sM(t:Nat)(cs:z5):D:=.dict [(.none,.int (Int.ofNat t)),(.none,.list cs)]
@[simp] noncomputable def aS (n:Nat) (ds:z5):Env:=ds.map (λd=>Z (B.pl d))++BJ (n-ds.length) Z_
@[simp] noncomputable def fnOf (k n:Nat) (m:SF):z5->Option D:=λds =>
 if ds.length=k then match m (aS n ds)with
  |some (.nx _)=>Z .none
  |some (.rt d)=>Z d
  |_=>Z_
 else Z_
def FC(c:TF)(e:EF)(r:Env):z5->Option z5
 |[]=>Z []
 | .tuple [x,y]::xs=>match c (Z (.pl x)::Z (.pl y)::r)with
  |some Aa=>match e (Z (.pl x)::Z (.pl y)::r)with
   |some z=>(FC c e r xs).map (z::·)
   |none=>Z_
  |some Ab=>FC c e r xs
  |none=>Z_
 |_=>Z_
@[simp] def FI(i:IF)(c:TF)(e:EF):BF:=λr=>match i r with
 |some xs=>if xs.length<big then(FC c e r xs).map λys=>.ol ys else Z_
 |none=>Z_
def KJ(ds:z5)(i:Int):Option Bool:=(Cg ds).map λns=>ns.contains i
@[simp] def WJ(k:EF)(a:BF):EF:=λr=>match k r with
 |some (.int i)=>match a r with
  |some b=>match Cz b with
   |some ds=>(KJ ds i).map λc=>.bool c
   |none=>Z_
  |none=>Z_
 |_=>Z_
@[simp] def aH(k:EF)(a:BF):EF:=λr=>match k r with
 |some (.int i)=>match a r with
  |some b=>match Cz b with
   |some ds=>(KJ ds i).map λc=>.bool (!c)
   |none=>Z_
  |none=>Z_
 |_=>Z_
@[simp] def DH(a:BF):TF:=λr=>match a r with
 |some (.ol ds)=>Z (!ds.isEmpty)
 |_=>Z_
@[simp] def JC(n:Nat)(c:TF)(body:SF):SF:=λr=>Z9 c body n r
def NX(i j:Nat)(body:SF):z5->Env->Option vz
 |[],r=>Z (.nx r)
 | .tuple [x,y]::xs,r=>match body ((r.set i (Z (.pl x))).set j (Z (.pl y)))with
  |some (.nx r')=>NX i j body xs r'
  |some (.ct r')=>NX i j body xs r'
  |some (.bk r')=>Z (.nx r')
  |some (.rt d)=>Z (.rt d)
  |none=>Z_
 |_,_=>Z_
@[simp] def lR(i j:Nat)(it:IF)(body:SF):SF:=λr=>match it r with
 |some xs=>if xs.length<big then NX i j body xs r else Z_
 |none=>Z_
def M1(ds:z5)(x:D):Option Bool:=if CN x&&ds.all CN then Z (ds.any λd=>BN d x)else Z_
@[simp] def Ej(k:EF)(a:BF):EF:=λr=>match k r with
 |some x=>match a r with
  |some b=>match Cz b with
   |some ds=>(M1 ds x).map λc=>.bool c
   |none=>Z_
  |none=>Z_
 |none=>Z_
@[simp] def CO(k:EF)(a:BF):EF:=λr=>match k r with
 |some x=>match a r with
  |some b=>match Cz b with
   |some ds=>(M1 ds x).map λc=>.bool (!c)
   |none=>Z_
  |none=>Z_
 |none=>Z_
noncomputable def Cv:List (D×D)->Option (List (List Ky×D))
 |[]=>Z []
 |(k,v)::r=>match tkL k with
  |some ks=>(Cv r).map ((ks,v)::·)
  |none=>Z_
@[simp] def QF:B->Option (List (List Ky×D))
 | .ot kvs=>Z kvs
 | .pl (.dict es)=>Cv es
 | .hd es=>Cv es
 |_=>Z_
@[simp] def Ct(k:EF)(a:BF):EF:=λr=>match k r with
 |some x=>match a r with
  |some b=>match QF b with
   |some kvs=>(Be x).map λy=>.bool (Zk kvs y).isSome
   |none=>Z_
  |none=>Z_
 |none=>Z_
@[simp] def LS(k:EF)(a:BF):EF:=λr=>match k r with
 |some x=>match a r with
  |some b=>match QF b with
   |some kvs=>(Be x).map λy=>.bool (!(Zk kvs y).isSome)
   |none=>Z_
  |none=>Z_
 |none=>Z_
@[simp] def ZI(a:BF)(k:EF):EF:=λr=>match a r with
 |some b=>match QF b with
  |some kvs=>match k r with
   |some x=>match Be x with
    |some y=>Zk kvs y
    |none=>Z_
   |none=>Z_
  |none=>Z_
 |none=>Z_
@[simp] def Lb:D->Bool
 | .none=>Aa
 | .bool _=>Aa
 | .int _=>Aa
 | .str _=>Aa
 |_=>Ab
@[simp] def MY(f:BF):EF:=λr=>(f r).bind frz
@[simp] def YD(m:z5->Option D)(a:AF):EF:=λr=>match a r with
 |some ds=>match m ds with
  |some d=>if Lb d then Z d else Z_
  |none=>Z_
 |none=>Z_
theorem il(ks:List Ky):tkL (.tuple (ks.map Bv))=Z ks:=by
 show NJ (ks.map Bv)=Z ks
 induction ks with
 |nil=>rfl
 |cons k ks ih=>show(match JB (Bv k)with|some q=>(NJ (ks.map Bv)).map (q::·)|none=>Z_)=_;rw[ih];cases k<;>rfl
theorem sE(kvs:List (List Ky×D)):Cv (Zq kvs)=Z kvs:=by
 induction kvs with
 |nil=>rfl
 |cons p kvs ih=>obtain⟨k,d⟩:=p;show(match tkL (.tuple (k.map Bv))with|some ks=>(Cv (Zq kvs)).map ((ks,d)::·)|none=>Z_)=_;rw[il,ih];rfl
@[simp] def YG(i:Nat)(f:BF):SF:=λr=>match r[i]? with
 |some (Z (.ol ds))=>match f r with
  |some (.ol es)=>if ds.length+BC es<big then Z (.nx (r.set i (Z (.ol (ds++es)))))else Z_
  |_=>Z_
 |_=>Z_
@[simp] def gF(i j:Nat):SF:=λr=>match r[j]? with
 |some (Z (.ol ds))=>match ds[ds.length-1]? with
  |some d=>Z (.nx ((r.set j (Z (.ol ds.dropLast))).set i (Z (.pl d))))
  |none=>Z_
 |_=>Z_
@[simp] def RB(m:z5->Option D)(a:AF):BF:=λr=>match a r with
 |some ds=>match m ds with
  |some (.list ys)=>Z (.ol ys)
  |_=>Z_
 |none=>Z_
def ZZ:Option B->Bool
 |some (.hd _)=>Aa
 |_=>Ab
theorem hd_pl(d:D):ZZ (some (.pl d))=false:=rfl
theorem hd_ol(d:List D):ZZ (some (.ol d))=false:=rfl
theorem hd_no:ZZ none=false:=rfl
@[simp] def C4(i:Nat)(g:SF):SF:=λr=>match r[i]? with
 | some (Z (.pl (.dict es)))=>if r.all (λq=>!ZZ q)then match g (r.set i (Z (.hd es)))with
   |some (.nx r')=>match r'[i]? with
    |some (Z (.hd es'))=>if(r'.set i Z_).all (λq=>!ZZ q)then Z (.nx (r'.set i (Z (.pl (.dict es')))))else Z_
    |_=>Z_
   |some (.rt d)=>Z (.rt d)
   |_=>Z_
  else Z_
 |_=>g r
@[simp] def AM(i:Nat):IF:=λr=>match r[i]? with
 |some (Z (.pl (.tuple ds)))=>Z ds
 |some (Z (.pl (.list ds)))=>Z ds
 |some (Z (.hd es))=>(Cv es).map λkvs=>kvs.map λp=>.tuple (p.1.map Bv)
 |_=>Z_
abbrev AP:=Nat->z5->z5->Option D
noncomputable def K0:D->Option (Nat×z5)
 | .dict [(.none,.int (Int.ofNat t)),(.none,.list cs)]=>Z (t,cs)
 |_=>Z_
@[simp] def Fw(ap:AP)(i:Nat)(a:AF):EF:=λr=>match r[i]? with
 |some (Z (.pl d))=>match K0 d with
  |some (t,cs)=>match a r with
   |some ds=>ap t cs ds
   |none=>Z_
  |none=>Z_
 |_=>Z_
noncomputable def uh:Nat->D->Bool
 |_,.none=>Aa
 |_,.bool _=>Aa
 |_,.int _=>Aa
 |_,.str _=>Aa
 |n+1,.tuple ds=>ds.all (uh n)
 |n+1,.list ds=>ds.all (uh n)
 |n+1,.dict es=>es.all λp=>(match p.1 with | .none=>Ab|_=>Aa)&&uh n p.2
 |_,_=>Ab
def Ye:List Nat->Env->Option z5
 |[],_=>Z []
 |i::is,r=>match r[i]? with
  |some (Z (.pl d))=>(Ye is r).map (d::·)
  |_=>Z_
@[simp] def LR(m:z5->Option D)(t:Nat)(is:List Nat)(a:EF):EF:=λr=>match a r with
 |some d1=>match Ye is r with
  | some cs=>if cs.all (uh 20)then match m [d1,sM t cs]with
    |some d=>if uh 20 d then Z d else Z_
    |none=>Z_
   else Z_
  |none=>Z_
 |none=>Z_
def Ib(n m:Nat)(e:EF):z5->z5->Option D:=λcs ds=>if ds.length=n/\cs.length=m/\ds.all (uh 20)=Aa then e ((ds++cs).map λd=>Z (B.pl d))else Z_
@[simp] def Fv(a:BF):EF:=λr=>match a r with
 |some x=>match KW x with
  |some ds=>match Cg ds with
   |some ns=>Z (match ns.min? with|some i=>.int i|none=>.none)
   |none=>Z_
  |none=>Z_
 |none=>Z_
abbrev NF:=Env->Option (List (List Ky×D))
@[simp] def K3(a:SF)(m:NF):NF:=λr=>match a r with
 |some (.nx r')=>m r'
 |_=>Z_
@[simp] def KZ(j:Nat):NF:=λr=>match r[j]? with
 |some (Z (.ot kvs))=>Z kvs
 |_=>Z_
def yn(k n:Nat)(m:NF):z5->Option (List (List Ky×D)):=λds=>if ds.length=k then m (aS n ds)else Z_
@[simp] def Ry(m:z5->Option (List (List Ky×D)))(a:AF):BF:=λr=>match a r with
 |some ds=>match m ds with
  |some kvs=>if kvs.all (λp=>Lb p.2)then Z (.ot kvs)else Z_
  |none=>Z_
 |none=>Z_
@[simp] def FP(a:BF):BF:=λr=>match a r with
 |some (.pl (.dict es))=>match Cv es with
  |some kvs=>(EO (kvs.map λp=>.tuple (p.1.map Bv))).map λds=>.ol ds
  |none=>Z_
 |_=>Z_
@[simp] def DK(a:BF):EF:=λr=>match a r with
 |some (.pl (.dict es))=>match Cv es with
  |some kvs=>Z (.int (kvs.length:Int))
  |none=>Z_
 |_=>Z_
@[simp] def UP(i:Nat)(t:TF):TF:=λr=>t (NG i r)
def B5:z0->z0->z0
 |acc,[]=>acc
 |acc,x::l=>if acc.contains x then B5 acc l else B5 (acc++[x]) l
@[simp] def EY(a:BF):BF:=λr=>match a r with
 |some x=>match KW x with
  |some ds=>match Ic ds with
   |some ts=>if decide ((B5 [] ts).length<64)&&ts.all (λt=>!t.isEmpty)then Z (.ol (Mf (Bc (B5 [] ts))))else Z_
   |none=>Z_
  |none=>Z_
 |none=>Z_
end HM
namespace HP
open PySem PySem.Spec PyProof.Rows L2
variable{a b l p:Addr}{o ob u:HO}{F F' H H' H1:Hp}{vvs:List (List sL×V)}{fp':List Addr}
@[reducible] def DJ(H':Hp)(b:Addr):HO->Prop
 | .tbl _=>∃ps',H' b=Z (.tbl ps')
 |o=>H' b=Z o
def Bd(H H':Hp):Prop:=∀b o,H b=Z o->DJ H' b o
theorem DJ.of(h:H' b=Z o):DJ H' b o:=by cases o<;>first|exact h|exact⟨_,h⟩
theorem DJ.ex(h:DJ H' b o):∃u,H' b=Z u:=by cases o<;>first|exact⟨_,h⟩|(obtain⟨ps,e⟩:=h;exact⟨_,e⟩)
theorem DJ.no(h:DJ H' b o)(n:∀ps,o≠.tbl ps):H' b=Z o:=by cases o<;>first|exact h|exact absurd rfl (n _)
theorem Bd.of{H H':Hp}(s:Zs H H'):Bd H H':=λb o h=>.of (s b o h)
theorem Bd.refl(H:Hp):Bd H H:=.of (.refl H)
theorem Bd.trans{H2:Hp}(a:Bd H H1)(b:Bd H1 H2):Bd H H2:=λc o h=>by have h1:=a c o h;cases o<;>first|exact b c _ h1|(obtain⟨ps,e⟩:=h1;exact(show ∃ps',H2 c=Z (.tbl ps') from b c _ e))
theorem Bd.free(e:Bd H H')(h:H' l=Z_):H l=Z_:=by
 cases q:H l with
 |none=>rfl
 |some o=>obtain⟨u,z⟩:=(e l o q).ex;rw[h]at z;cases z
theorem Bd.back(e:Bd H H')(h:H l=Z o)(h':H' l=Z u)(n:∀ps,u≠.tbl ps):o=u:=by have z:=e l o h;cases o<;>first|(obtain⟨ps,q⟩:=z;rw[h']at q;cases q;exact absurd rfl (n _))|(have z:H' l=Z _:=z;rw[h']at z;cases z;rfl)
def C6(H:Hp):Hp:=λb=>match H b with
 |some (.tbl _)=>Z_
 |x=>x
def nt:HO->Bool
 | .tbl _=>Ab
 |_=>Aa
def uJ(F:Hp):Prop:=∀b o,F b=Z o->nt o=Aa
theorem FF(h:H b=Z o)(n:nt o=Aa):C6 H b=Z o:=by unfold C6;rw[h];cases o<;>first|rfl|cases n
theorem NK(h:C6 H b=Z o):H b=Z o/\nt o=Aa:=by
 unfold C6 at h;split at h
 .cases h
 .rename_i n
  refine⟨h,?_⟩;cases o<;>first|rfl|exact absurd h (n _)
theorem Rn:Zs (C6 H) H:=λb o h=>(NK h).1
theorem uJ.drop{H:Hp}:uJ (C6 H):=λb o h=>(NK h).2
theorem uJ.sub(n:uJ F)(s:Zs F H):Zs F (C6 H):=λb o h=>FF (s b o h) (n b o h)
theorem uJ.upd{F:Hp}{p:Addr}{o:HO}(n:uJ F)(h:nt o=Aa):uJ (upd F p o):=λb u z=>by
 by_cases hb:b=p
 .subst hb;rw[ZJ]at z;cases z;exact h
 .rw[ZE hb]at z;exact n b u z
theorem Bd.ntb(s:Bd H H')(h:H b=Z o)(n:nt o=Aa):H' b=Z o:=(s b o h).no λps z=>by subst z;cases n
def Dk(vvs:List (List sL×V))(u:HO):Prop:=u=.dT vvs\/∃o,u=.frz o (.dT vvs)
def sw(a:Addr)(ob:HO)(G:Hp):Hp:=λb=>if b=a then(G a).map (λ_=>ob)else G b
class FX where
 tl:List (Addr×Str)
 fv:Nat->z5->Hp->Addr->Prop
 sw:∀{t:Nat} {cs:z5} {F:Hp} {a b:Addr} {ob:HO} {vvs:List (List sL×V)},(∀u,F a=Z u->Dk vvs u)->Dk vvs ob->fv t cs F b->fv t cs (sw a ob F) b
 drop:∀{t:Nat} {cs:z5} {F:Hp} {a:Addr},fv t cs F a->fv t cs (C6 F) a
 mono:∀{t:Nat} {cs:z5} {F F':Hp} {a:Addr},fv t cs F a->Zs F F'->fv t cs F' a
variable[FX]
def Bg(a:Addr)(o:Obj):HO:=.ext λh=>h.get? a=Z o
def QS(o:Obj)(q:Str):Prop:=∃vs t,o.data=.fields vs/\vs[1]?=Z (.str q t)
def Tb(H:Hp):Prop:=∀P q,(P,q)∈FX.tl->∃ps,H P=Z (.tbl ps)/\TriplesOk ps.toList/\∀pos c,Kj pos ps.toList=Z c->∃a o,c=.ref a/\H a=Z (Bg a o)/\QS o q
def Jr:HO->Bool
 | .lst _=>Aa
 | .dK _=>Aa
 | .dT _=>Aa
 |_=>Ab
def te:HO->Bool
 | .tbl _=>Aa
 | .ext _=>Aa
 |_=>Ab
theorem U2(h:Jr o=Aa)(h':te o=Aa):False:=by cases o<;>simp_all [Jr,te]
theorem Tb.keep(t:Tb H)(k:∀a o,H a=Z o->te o=Aa->H' a=Z o):Tb H':=λP q hP=>by obtain⟨ps,h1,h2,h3⟩:=t P q hP;refine⟨ps,k _ _ h1 rfl,h2,λpos c hc=>?_⟩;obtain⟨a,o,e1,e2,e3⟩:=h3 pos c hc;exact⟨a,o,e1,k _ _ e2 rfl,e3⟩
theorem Dk.te{vvs:List (List sL×V)}{u:HO}(h:Dk vvs u):te u=Ab:=by rcases h with h|⟨o,h⟩<;>subst h<;>rfl
theorem Dk.ntt(h:Dk vvs u):nt u=Aa:=by rcases h with h|⟨o,h⟩<;>subst h<;>rfl
theorem Tb.sw{G:Hp}{a:Addr}{ob:HO}{vvs:List (List sL×V)}(hG:∀u,G a=Z u->Dk vvs u)(t:Tb G):Tb (HP.sw a ob G):=t.keep λb o z ht=>by
 have hb:b≠a:=λe=>by subst e;rw[(hG o z).te]at ht;cases ht
 unfold HP.sw;rw[if_neg hb];exact z
theorem Tb.unsw{G:Hp}(uk:Dk vvs ob)(t:Tb (HP.sw a ob G)):Tb G:=t.keep λb o z ht=>by
 unfold HP.sw at z;split at z
 .obtain⟨u,_,e⟩:=Ak.mp z
  subst e;rw[uk.te]at ht;cases ht
 .exact z
theorem DJ.cong(e:H' b=H b)(h:DJ H b o):DJ H' b o:=by unfold DJ at h ⊢;rw[e];exact h
theorem Bd.sw{H0 H:Hp}{a:Addr}{ob:HO}(s:Bd H0 H):Bd (HP.sw a ob H0) (HP.sw a ob H):=λb o z=>by
 by_cases hb:b=a
 .subst hb
  unfold HP.sw at z;rw[if_pos rfl]at z;obtain⟨u,h1,h2⟩:=Ak.mp z;obtain⟨w,hw⟩:=(s _ _ h1).ex;refine .of ?_;unfold HP.sw;rw[if_pos rfl,hw,h2.symm];rfl
 .unfold HP.sw at z
  rw[if_neg hb]at z;refine(s b o z).cong ?_;unfold HP.sw;rw[if_neg hb]
theorem Tb.same(t:Tb H)(s:Zs H H'):Tb H':=t.keep λa o h _=>s a o h
theorem Lo(r:Rd F a u)(s:Zs F F'):Rd F' a u:=r.imp (λh=>s _ _ h) λ⟨o,h⟩=>⟨o,s _ _ h⟩
def pO(K:Af)(a:Addr)(vs:List V):Prop:=∃(o:Obj) (sy:Array Value) (n:Nat),K.lookup a=Z o/\o.cls=.type "tuple"/\o.data=.seq sy n/\sy.size<=sizeLine/\sC vs sy.toList
theorem iP{K:Af}{vs:List V}(h:uH K F a vs)(s:Zs F F'):uH K F' a vs:=h.imp (λh=>Lo h s) id
inductive Rep(K:Af)(F:Hp):PyData->V->Prop where
 |non:Rep K F .none .non
 |bl (b:Bool):Rep K F (.bool b) (.bl b)
 |int (i:Int):Rep K F (.int i) (.int i)
 |str (x:Str):Rep K F (.str x) (.str x)
 |tupk {a:Addr} {x:Str} (h:pO K a [.str x]):Rep K F (.tuple [.str x]) (.ref a)
 |tup {a:Addr} {ds:z5} {vs:List V} (h:F a=Z (.tup vs)) (hl:BC ds=vs.length) (hr:∀(i:Nat) (d:PyData) (v:V),ds[i]?=Z d->vs[i]?=Z v->Rep K F d v):Rep K F (.tuple ds) (.ref a)
 |lst {a:Addr} {ds:z5} {vs:List V} (h:tQ K F a vs) (hl:BC ds=vs.length) (hr:∀(i:Nat) (d:PyData) (v:V),ds[i]?=Z d->vs[i]?=Z v->Rep K F d v):Rep K F (.list ds) (.ref a)
 |dct {a:Addr} {es:List (PyData×PyData)} {kvs:List (List sL×PyData)} {vvs:List (List sL×V)} (h:Rd F a (.dT vvs)) (he:es=HM.Zq kvs) (hk:kvs.map (·.1)=vvs.map (·.1)) (hr:∀(i:Nat) (d:PyData) (v:V),(kvs.map (·.2))[i]?=Z d->(vvs.map (·.2))[i]?=Z v->Rep K F d v):Rep K F (.dict es) (.ref a)
 |fn {a:Addr} {t:Nat} {cs:z5} (h:FX.fv t cs F a):Rep K F (.dict [(.none,.int (Int.ofNat t)),(.none,.list cs)]) (.ref a)
def Zu(K:Af)(F:Hp)(ds:z5)(vs:List V):Prop:=ds.length=vs.length/\∀(i:Nat) (d:PyData) (v:V),ds[i]?=Z d->vs[i]?=Z v->Rep K F d v
section
variable{K:Af}{F F':Hp}{d:PyData}{v:V}{ds es:z5}{vs us:List V}
theorem Rep.mono(r:Rep K F d v)(s:Zs F F'):Rep K F' d v:=by
 induction r with
 |non=>exact .non
 |bl b=>exact .bl b
 |int i=>exact .int i
 |str x=>exact .str x
 |tup h hl _ ih=>exact .tup (s _ _ h) hl ih
 |tupk h=>exact .tupk h
 |lst h hl _ ih=>exact .lst (s.seq h) hl ih
 |dct h he hk _ ih=>exact .dct (Lo h s) he hk ih
 |fn h=>exact .fn (FX.mono h s)
theorem Rep.drop(r:Rep K F d v):Rep K (C6 F) d v:=by
 induction r with
 |non=>exact .non
 |bl b=>exact .bl b
 |int i=>exact .int i
 |str x=>exact .str x
 |tup h hl _ ih=>exact .tup (FF h rfl) hl ih
 |tupk h=>exact .tupk h
 |lst h hl _ ih =>
  refine .lst ?_ hl ih;rcases h with(h|⟨o,h⟩)|h
  .exact .inl (.inl (FF h rfl))
  .exact .inl (.inr ⟨o,FF h rfl⟩)
  .exact .inr h
 |dct h he hk _ ih =>
  refine .dct ?_ he hk ih;rcases h with h|⟨o,h⟩
  .exact .inl (FF h rfl)
  .exact .inr ⟨o,FF h rfl⟩
 |fn h=>exact .fn (FX.drop h)
theorem Zu.drop'(r:Zu K F ds vs):Zu K (C6 F) ds vs:=⟨r.1,λi d v h1 h2=>(r.2 i d v h1 h2).drop⟩
theorem Bd.dr(s:Bd H H'):Zs (C6 H) H':=λb o h=>s.ntb (NK h).1 (NK h).2
theorem Rep.monoT(r:Rep K H d v)(s:Bd H H'):Rep K H' d v:=r.drop.mono s.dr
theorem Zu.mono(r:Zu K F ds vs)(s:Zs F F'):Zu K F' ds vs:=⟨r.1,λi d v h1 h2=>(r.2 i d v h1 h2).mono s⟩
theorem Zu.nil:Zu K F [] []:=⟨rfl,λi d v h=>by simp at h⟩
theorem Zu.cons(r:Rep K F d v)(q:Zu K F ds vs):Zu K F (d::ds) (v::vs) :=
 ⟨by rw[Av,Av,q.1],λi e u h1 h2=>by
  cases i with
  |zero=>rw[PL]at h1 h2;cases h1;cases h2;exact r
  |succ i=>rw[EB]at h1 h2;exact q.2 i e u h1 h2⟩
theorem Zu.nil_inv(r:Zu K F [] vs):vs=[]:=bS r.1.symm
theorem Zu.cons_inv(r:Zu K F (d::ds) vs):∃v us,vs=v::us/\Rep K F d v/\Zu K F ds us:=by
 cases vs with
 |nil=>exact absurd r.1 (by simp)
 |cons v us =>
  refine⟨v,us,rfl,r.2 0 d v rfl rfl,?_,λi e u h1 h2=>r.2 (i+1) e u ?_ ?_⟩
  .have:=r.1
   rw[Av,Av]at this;omega
  .rw[EB];exact h1
  .rw[EB];exact h2
theorem Zu.append(r:Zu K F ds vs)(q:Zu K F es us):Zu K F (ds++es) (vs++us):=by
 refine⟨by rw[AE,AE,r.1,q.1],λi e u h1 h2=>?_⟩
 by_cases hi:i<BC ds
 .rw[DU hi]at h1
  rw[DU (by rw[<-r.1];exact hi)]at h2;exact r.2 i e u h1 h2
 .rw[Fh (by omega)]at h1
  rw[Fh (by have:=r.1;omega),<-r.1]at h2;exact q.2 _ e u h1 h2
theorem Zu.get(r:Zu K F ds vs){i:Nat}(h:ds[i]?=Z d):∃v,vs[i]?=Z v/\Rep K F d v:=by
 have hi:i<BC vs:=by rw[<-r.1];exact(Bf.mp h).1
 exact⟨vs[i],AK hi,r.2 i d _ h (AK hi)⟩
theorem Zu.drop(r:Zu K F ds vs)(n:Nat):Zu K F (ds.drop n) (vs.drop n) :=
 ⟨by rw[Jd,Jd,r.1],λi e u h1 h2=>by rw[List.getElem?_drop]at h1 h2;exact r.2 _ e u h1 h2⟩
theorem Zu.take(r:Zu K F ds vs)(n:Nat):Zu K F (ds.take n) (vs.take n) :=
 ⟨by rw[Ec,Ec,r.1],λi e u h1 h2=>by
  by_cases hi:i<n
  .rw[bM hi]at h1 h2
   exact r.2 _ e u h1 h2
  .rw[List.getElem?_take_eq_none (by omega)]at h1
   cases h1⟩
theorem Zu.set(r:Zu K F ds vs)(q:Rep K F d v)(j:Nat):Zu K F (ds.set j d) (vs.set j v):=by
 refine⟨by rw[Ex,Ex,r.1],λi e u h1 h2=>?_⟩;have hi:i<BC ds:=by have:=(Bf.mp h1).1;rwa [Ex]at this
 by_cases e1:j=i
 .subst e1
  rw[Fg hi]at h1;rw[Fg (by rw[<-r.1];exact hi)]at h2;cases h1;cases h2;exact q
 .rw[CU e1]at h1 h2
  exact r.2 i e u h1 h2
theorem Zu.rep(r:Zu K F ds vs)(k:Nat):Zu K F (BJ k ds).flatten (BJ k vs).flatten:=by
 induction k with
 |zero=>exact Zu.nil
 |succ k ih=>rw[Jl,Jl,Ko,Ko];exact r.append ih
theorem Zu.one(r:Rep K F d v):Zu K F [d] [v]:=.cons r .nil
end
def ym(H:Hp)(a:Addr)(o:HO):Prop:=H a=Z_\/∃xs,o=.tup xs/\H a=Z (.tup xs)
theorem ym.back{H H':Hp}{a:Addr}{o:HO}(s:Bd H H')(f:ym H' a o):ym H a o:=by
 rcases f with f|⟨xs,e,f⟩
 .exact .inl (s.free f)
 .cases q:H a with
  |none=>exact .inl q
  |some u =>
   have:=s.back q f λ_ z=>by cases z
   subst this;exact .inr ⟨xs,e,q⟩
theorem ym.no(f:ym H a o)(h:H a=Z u)(n:∀xs,u≠.tup xs):False:=by
 rcases f with f|⟨xs,_,f⟩
 .rw[h]at f;cases f
 .rw[h]at f;cases f;exact n xs rfl
structure sR(F H F' H':Hp):Prop where
 ff:Zs F F'
 hh:Bd H H'
 sub:Zs F' H'
 new:∀a o,F' a=Z o->F a=Z o\/ym H a o
 tab:Tb H->Tb H'
 nts:uJ F->uJ F'
theorem sR.refl{F H:Hp}(s:Zs F H):sR F H F H:=⟨Zs.refl F,Bd.refl H,s,λ_ _ h=>.inl h,id,id⟩
theorem sR.trans{F H F1 H1 F2 H2:Hp}(a:sR F H F1 H1)(b:sR F1 H1 F2 H2):sR F H F2 H2 :=
 ⟨a.ff.trans b.ff,a.hh.trans b.hh,b.sub,λx o h=>by
  rcases b.new x o h with q|q
  .exact a.new x o q
  .exact .inr (q.back a.hh),λt=>b.tab (a.tab t),λt=>b.nts (a.nts t)⟩
theorem HL(h:F p=Z_):Zs F (upd F p o):=λb q z=>by rw[ZE (Dy z h)];exact z
theorem sR.lay(e:sR F H F' H')(h:H' p=Z_)(no:nt o=Aa:=by rfl):sR F H (upd F' p o) (upd H' p o):=by
 have hF:F' p=Z_:=e.sub.free h;refine⟨λb q z=>?_,e.hh.trans (.of (HL h)),λb q z=>?_,λb q z=>?_,λt=>(e.tab t).same (HL h),λt=>(e.nts t).upd no⟩
 .rw[ZE (Dy (e.ff b q z) hF)];exact e.ff b q z
 .by_cases hb:b=p
  .subst hb;rw[ZJ]at z ⊢;exact z
  .rw[ZE hb]at z ⊢;exact e.sub b q z
 .by_cases hb:b=p
  .subst hb;exact .inr (.inl (e.hh.free h))
  .rw[ZE hb]at z;exact e.new b q z
theorem sR.lay'(e:sR F H F' H')(h:H' p=Z_):sR F H F' (upd H' p o):=by refine⟨e.ff,e.hh.trans (.of (HL h)),λb q z=>?_,e.new,λt=>(e.tab t).same (HL h),e.nts⟩;rw[ZE (Dy (e.sub b q z) h)];exact e.sub b q z
theorem Zs.upd'(h:F p=Z_):Zs F (upd F p o):=λb q z=>by rw[ZE (Dy z h)];exact z
def Bt(F H:Hp):Hp:=λa=>match H a with
 |some (.tup xs)=>Z (.tup xs)
 |_=>F a
theorem QZ{xs:List V}(h:H a=Z (.tup xs)):Bt F H a=Z (.tup xs):=by unfold Bt;rw[h]
theorem Fy(s:Zs F H):Zs F (Bt F H):=λa o h=>by
 have:=s a o h;unfold Bt;split
 .rename_i xs q
  rw[q]at this;exact this
 .exact h
theorem sR.tups(e:sR F H F' H'):sR F H (Bt F' H') H':=by
 have key:sR F' H' (Bt F' H') H':=by
  refine⟨Fy e.sub,Bd.refl H',λa o h=>?_,λa o h=>?_,id,λn a o h=>?_⟩
  .unfold Bt at h
   split at h
   .rename_i xs q;rw[q];exact h
   .exact e.sub a o h
  .unfold Bt at h
   split at h
   .rename_i xs q
    cases h;exact .inr (.inr ⟨xs,rfl,q⟩)
   .exact .inl h
  .unfold Bt at h
   split at h
   .cases h;rfl
   .exact n a o h
 exact e.trans key
inductive Az(K:Af)(F H:Hp):HM.B->V->List Addr->Prop where
 |pl {d:PyData} {v:V} (r:Rep K F d v):Az K F H (.pl d) v []
 |ol {a:Addr} {ds:z5} {vs:List V} (h:H a=Z (.lst vs)) (r:Zu K F ds vs):Az K F H (.ol ds) (.ref a) [a]
 |ok {a:Addr} {kvs:List (sL×PyData)} {vvs:List (sL×V)} (h:H a=Z (.dK vvs)) (hk:kvs.map (·.1)=vvs.map (·.1)) (r:Zu K F (kvs.map (·.2)) (vvs.map (·.2))):Az K F H (.ok kvs) (.ref a) [a]
 |ot {a:Addr} {kvs:List (List sL×PyData)} {vvs:List (List sL×V)} (h:H a=Z (.dT vvs)) (hk:kvs.map (·.1)=vvs.map (·.1)) (r:Zu K F (kvs.map (·.2)) (vvs.map (·.2))):Az K F H (.ot kvs) (.ref a) [a]
 | otl {a:Addr} {kvs:List (List sL×z5)} {vvs:List (List sL×V)} {ls:List Addr} (h:H a=Z (.dT vvs)) (hk:kvs.map (·.1)=vvs.map (·.1)) (hv:vvs.map (·.2)=ls.map V.ref)
   (r:∀(i:Nat) (ds:z5) (l:Addr),(kvs.map (·.2))[i]?=Z ds->ls[i]?=Z l->∃vs,H l=Z (.lst vs)/\Zu K F ds vs):Az K F H (.otl kvs) (.ref a) (a::ls)
 |hd {a:Addr} {o:Obj} {es:List (PyData×PyData)} {kvs:List (List sL×PyData)} {vvs:List (List sL×V)} (h:F a=Z (.frz o (.dT vvs))) (he:es=HM.Zq kvs) (hk:kvs.map (·.1)=vvs.map (·.1)) (r:Zu K F (kvs.map (·.2)) (vvs.map (·.2))):Az K F H (.hd es) (.ref a) []
 |hf {a:Addr} {t:Nat} {cs:z5} (h:FX.fv t cs F a):Az K F H (.hd [(.none,.int (Int.ofNat t)),(.none,.list cs)]) (.ref a) []
section
variable{K:Af}{F F' H H':Hp}{b:HM.B}{v:V}{fp:List Addr}
theorem Az.mono(r:Az K F H b v fp)(s:Zs F F')(k:∀a∈fp,∀o,H a=Z o->DJ H' a o):Az K F' H' b v fp:=by
 cases r with
 |pl r=>exact .pl (r.mono s)
 |ol h r=>exact .ol (k _ (by simp) _ h) (r.mono s)
 |ok h hk r=>exact .ok (k _ (by simp) _ h) hk (r.mono s)
 |ot h hk r=>exact .ot (k _ (by simp) _ h) hk (r.mono s)
 |hd h he hk r=>exact .hd (s _ _ h) he hk (r.mono s)
 |hf h=>exact .hf (FX.mono h s)
 |otl h hk hv r=>refine .otl (k _ (by simp) _ h) hk hv λi ds l h1 h2=>?_;obtain⟨vs,q1,q2⟩:=r i ds l h1 h2;exact⟨vs,k l (Ao _ (Bo h2)) _ q1,q2.mono s⟩
theorem Az.there2(r:Az K F H b v fp)(h:a∈fp):∃o,H a=Z o/\Jr o=Aa:=by
 cases r with
 |pl r=>simp at h
 |hd _ _ _ _=>simp at h
 |hf _=>simp at h
 |ol q r=>simp at h;subst h;exact⟨_,q,rfl⟩
 |ok q hk r=>simp at h;subst h;exact⟨_,q,rfl⟩
 |ot q hk r=>simp at h;subst h;exact⟨_,q,rfl⟩
 | @otl a' kvs vvs ls q hk hv r =>
  rcases As.mp h with e|e
  .subst e;exact⟨_,q,rfl⟩
  .obtain⟨i,hi⟩:=List.getElem?_of_mem e
   have hl:BC kvs=ls.length:=by have e1:=congrArg BC hk;have e2:=congrArg BC hv;rw[Ad,Ad]at e1 e2;omega
   have hi':i<BC kvs:=by rw[hl];exact(Bf.mp hi).1
   obtain⟨vs,q1,_⟩:=r i (kvs[i].2) a (by simp[hi']) hi;exact⟨_,q1,rfl⟩
theorem Az.there'(r:Az K F H b v fp)(h:a∈fp):∃o,H a=Z o/\∀xs,o≠.tup xs:=by
 cases r with
 |pl r=>simp at h
 |hd _ _ _ _=>simp at h
 |hf _=>simp at h
 |ol q r=>simp at h;subst h;exact⟨_,q,λ_ z=>by cases z⟩
 |ok q hk r=>simp at h;subst h;exact⟨_,q,λ_ z=>by cases z⟩
 |ot q hk r=>simp at h;subst h;exact⟨_,q,λ_ z=>by cases z⟩
 | @otl a' kvs vvs ls q hk hv r =>
  rcases As.mp h with e|e
  .subst e;exact⟨_,q,λ_ z=>by cases z⟩
  .obtain⟨i,hi⟩:=List.getElem?_of_mem e
   have hl:BC kvs=ls.length:=by have e1:=congrArg BC hk;have e2:=congrArg BC hv;rw[Ad,Ad]at e1 e2;omega
   have hi':i<BC kvs:=by rw[hl];exact(Bf.mp hi).1
   obtain⟨vs,q1,_⟩:=r i (kvs[i].2) a (by simp[hi']) hi;exact⟨_,q1,λ_ z=>by cases z⟩
theorem Az.there(r:Az K F H b v fp)(h:a∈fp):∃o,H a=Z o:=let ⟨o,q,_⟩:=r.there' h;⟨o,q⟩
end
structure Bh(K:Af)(F0 H0 F H:Hp)(r:HM.Env)(σ:L2.St)(fp:Nat->List Addr):Prop where
 ext:sR F0 H0 F H
 len:BC r=σ.length
 at_:∀(i:Nat) (b:HM.B),r[i]?=Z (Z b)->∃v,σ[i]?=Z (Z v)/\Az K F H b v (fp i)
 emp:∀(i:Nat),(∀b,r[i]?≠Z (Z b))->fp i=[]
 own:∀(i:Nat) (a:Addr),a∈fp i->F a=Z_/\H0 a=Z_
 nd:∀i,(fp i).Nodup
 dis:∀(i j:Nat) (a:Addr),i≠j->a∈fp i->¬a∈fp j
 tb:Tb H0
 nt:uJ F0
def At(K:Af)(F0 H0 F H:Hp)(r:HM.Env)(σ:L2.St):Prop:=∃fp,Bh K F0 H0 F H r σ fp
section
variable{K:Af}{F0 H0 F H F' H':Hp}{r:HM.Env}{σ:L2.St}{fp:Nat->List Addr}{i:Nat}{b:HM.B}{v:V}{d:PyData}
theorem Bh.bound(e:Bh K F0 H0 F H r σ fp)(h:a∈fp i):∃b,r[i]?=Z (Z b):=by
 cases q:r[i]? with
 |none=>rw[e.emp i (λb z=>by rw[q]at z;cases z)]at h;simp at h
 |some x =>
  cases x with
  |none=>rw[e.emp i (λb z=>by rw[q]at z;cases z)]at h;simp at h
  |some b=>exact⟨b,rfl⟩
theorem Bh.there'(e:Bh K F0 H0 F H r σ fp){a:Addr}(h:a∈fp i):∃o,H a=Z o/\∀xs,o≠.tup xs:=by obtain⟨b,hb⟩:=e.bound h;obtain⟨v,_,q⟩:=e.at_ i b hb;exact q.there' h
theorem Bh.there2(e:Bh K F0 H0 F H r σ fp){a:Addr}(h:a∈fp i):∃o,H a=Z o/\Jr o=Aa:=by obtain⟨b,hb⟩:=e.bound h;obtain⟨v,_,q⟩:=e.at_ i b hb;exact q.there2 h
theorem Bh.there(e:Bh K F0 H0 F H r σ fp)(h:a∈fp i):∃o,H a=Z o:=let ⟨o,q,_⟩:=e.there' h;⟨o,q⟩
theorem Bh.sub(e:Bh K F0 H0 F H r σ fp):Zs F H:=e.ext.sub
theorem Bh.grow(e:Bh K F0 H0 F H r σ fp)(x:sR F H F' H'):Bh K F0 H0 F' H' r σ fp:=by
 refine⟨e.ext.trans x,e.len,λi b h=>?_,e.emp,λi a h=>⟨?_,(e.own i a h).2⟩,e.nd,e.dis,e.tb,e.nt⟩
 .obtain⟨v,h1,h2⟩:=e.at_ i b h
  exact⟨v,h1,h2.mono x.ff λa _ o q=>x.hh a o q⟩
 .cases q:F' a with
  |none=>rfl
  |some o =>
   rcases x.new a o q with z|z
   .rw[(e.own i a h).1]at z;cases z
   .obtain⟨o',h',hn⟩:=e.there' h
    exact(z.no h' hn).elim
theorem At.grow(e:At K F0 H0 F H r σ)(x:sR F H F' H'):At K F0 H0 F' H' r σ:=let ⟨fp,e⟩:=e;⟨fp,e.grow x⟩
theorem At.tb(e:At K F0 H0 F H r σ):Tb H:=let ⟨_,e⟩:=e;e.ext.tab e.tb
theorem At.tbx(e:At K F0 H0 F H r σ)(x:sR F H F' H'):Tb H':=x.tab e.tb
theorem At.nt(e:At K F0 H0 F H r σ):uJ F:=let ⟨_,e⟩:=e;e.ext.nts e.nt
theorem At.ntx(e:At K F0 H0 F H r σ)(x:sR F H F' H'):uJ F':=x.nts e.nt
theorem At.nt0(e:At K F0 H0 F H r σ):uJ F0:=let ⟨_,e⟩:=e;e.nt
theorem At.sub(e:At K F0 H0 F H r σ):Zs F H:=let ⟨_,e⟩:=e;e.ext.sub
theorem At.ext(e:At K F0 H0 F H r σ):sR F0 H0 F H:=let ⟨_,e⟩:=e;e.ext
theorem At.refl(e:At K F0 H0 F H r σ):sR F H F H:=.refl e.sub
theorem At.plain(e:At K F0 H0 F H r σ)(h:r[i]?=Z (Z (.pl d))):∃v,σ[i]?=Z (Z v)/\Rep K F d v:=by
 obtain⟨fp,e⟩:=e;obtain⟨v,h1,h2⟩:=e.at_ i _ h;generalize fp i=f at h2;cases h2 with
 |pl q=>exact⟨v,h1,q⟩
theorem At.any(e:At K F0 H0 F H r σ)(h:r[i]?=Z (Z b)):∃v fp,σ[i]?=Z (Z v)/\Az K F H b v fp:=by obtain⟨fp,e⟩:=e;obtain⟨v,h1,h2⟩:=e.at_ i _ h;exact⟨v,_,h1,h2⟩
theorem At.store(e:At K F0 H0 F H r σ)(q:Az K F H b v fp')(nd:fp'.Nodup)(h1:∀a∈fp',F a=Z_/\H0 a=Z_)(h2:∀fp,Bh K F0 H0 F H r σ fp->∀j a,j≠i->a∈fp j->¬a∈fp'):At K F0 H0 F H (r.set i (Z b)) (σ.set i (Z v)):=by
 obtain⟨fp,e⟩:=e;have h2:=h2 fp e
 by_cases hi:i<BC r
 .refine⟨λj=>if j=i then fp' else fp j,e.ext,by rw[Ex,Ex,e.len],λj c h=>?_,λj h=>?_,λj a h=>?_,λj=>?_,λj k a y6 h=>?_,e.tb,e.nt⟩
  .by_cases hj:j=i
   .subst hj
    rw[Fg hi]at h;cases h;refine⟨v,Fg (by rw[<-e.len];exact hi),?_⟩;rw[if_pos rfl];exact q
   .rw[CU (Bi hj)]at h
    obtain⟨u,q1,q2⟩:=e.at_ j c h;refine⟨u,by rw[CU (Bi hj)];exact q1,?_⟩;rw[if_neg hj];exact q2
  .by_cases hj:j=i
   .subst hj
    exact absurd (Fg hi) (h b)
   .show(if j=i then fp' else fp j)=[]
    rw[if_neg hj];exact e.emp j λc z=>h c (by rw[CU (Bi hj)];exact z)
  .by_cases hj:j=i
   .rw[if_pos hj]at h;exact h1 a h
   .rw[if_neg hj]at h;exact e.own j a h
  .show(if j=i then fp' else fp j).Nodup
   by_cases hj:j=i
   .rw[if_pos hj];exact nd
   .rw[if_neg hj];exact e.nd j
  .show ¬a∈(if k=i then fp' else fp k)
   by_cases hj:j=i
   .rw[if_pos hj]at h
    by_cases hk:k=i
    .exact absurd (hj.trans hk.symm) y6
    .rw[if_neg hk];exact λz=>h2 k a hk z h
   .rw[if_neg hj]at h
    by_cases hk:k=i
    .rw[if_pos hk];exact h2 j a hj h
    .rw[if_neg hk];exact e.dis j k a y6 h
 .have e1:r.set i (Z b)=r:=bK (by omega)
  have e2:σ.set i (Z v)=σ:=bK (by have:=e.len;omega);rw[e1,e2];exact⟨fp,e⟩
theorem At.set(e:At K F0 H0 F H r σ)(q:Rep K F d v):At K F0 H0 F H (r.set i (Z (.pl d))) (σ.set i (Z v)) :=
 e.store (.pl q) Ff (λa h=>by simp at h) λ_ _ _ _ _ _ h=>by simp at h
theorem Bh.changeW(e:Bh K F0 H0 F H r σ fp)(hv:σ[i]?=Z (Z v))(q:Az K F H' b v fp')(nd:fp'.Nodup)(h1:∀a∈fp',a∈fp i\/(F a=Z_/\H0 a=Z_/\∀j,a∉fp j))(h2:∀a o,H a=Z o->¬a∈fp i->H' a=Z o):At K F0 H0 F H' (r.set i (Z b)) σ:=by
 have sF:Zs F H':=λa o z=>h2 a o (e.sub a o z) λm=>by rw[(e.own i a m).1]at z;cases z
 have sH:Bd H0 H':=λa o z=>by
  have nm:¬a∈fp i:=λm=>by rw[(e.own i a m).2]at z;cases z
  have y:=e.ext.hh a o z;cases o<;>first|exact h2 a _ y nm|(obtain⟨ps,q⟩:=y;exact⟨ps,h2 a _ q nm⟩)
 have sT:Tb H0->Tb H':=λt=>(e.ext.tab t).keep λa o z ho=>h2 a o z λm=>by obtain⟨o',q1,q2⟩:=e.there2 m;rw[z]at q1;cases q1;exact U2 q2 ho
 have e':Bh K F0 H0 F H' (r.set i Z_) (σ.set i Z_) (λj=>if j=i then[]else fp j):=by
  refine⟨⟨e.ext.ff,sH,sF,e.ext.new,sT,e.ext.nts⟩,by rw[Ex,Ex,e.len],λj c h=>?_,λj h=>?_,λj a h=>?_,λj=>?_,λj k a y6 h=>?_,e.tb,e.nt⟩
  .by_cases hj:j=i
   .subst hj
    by_cases hi:j<BC r
    .rw[Fg hi]at h;cases h
    .rw[KA (by rw[Ex];omega)]at h;cases h
   .rw[CU (Bi hj)]at h
    obtain⟨u,q1,q2⟩:=e.at_ j c h;refine⟨u,by rw[CU (Bi hj)];exact q1,?_⟩;rw[if_neg hj];exact q2.mono (Zs.refl F) λa ha o z=>.of (h2 a o z (e.dis j i a hj ha))
  .show(if j=i then[]else fp j)=[]
   by_cases hj:j=i
   .rw[if_pos hj]
   .rw[if_neg hj]
    exact e.emp j λc z=>h c (by rw[CU (Bi hj)];exact z)
  .by_cases hj:j=i
   .rw[if_pos hj]at h;simp at h
   .rw[if_neg hj]at h;exact e.own j a h
  .show(if j=i then[]else fp j).Nodup
   by_cases hj:j=i
   .rw[if_pos hj];exact Ff
   .rw[if_neg hj];exact e.nd j
  .show ¬a∈(if k=i then[]else fp k)
   by_cases hj:j=i
   .rw[if_pos hj]at h;simp at h
   .rw[if_neg hj]at h
    by_cases hk:k=i
    .rw[if_pos hk];simp
    .rw[if_neg hk];exact e.dis j k a y6 h
 have hF:∀a∈fp',F a=Z_/\H0 a=Z_:=λa ha=>by
  rcases h1 a ha with z|z
  .exact e.own i a z
  .exact⟨z.1,z.2.1⟩
 have e2:=At.store (i:=i) ⟨_,e'⟩ q nd hF λfq eq j a hj ha z=>by
  obtain⟨c,hc⟩:=eq.bound ha;rw[CU (Bi hj)]at hc;obtain⟨u1,s1,r1⟩:=eq.at_ j c (by rw[CU (Bi hj)];exact hc);obtain⟨u2,s2,r2⟩:=e.at_ j c hc;rw[CU (Bi hj),s2]at s1;cases s1;have hm:a∈fp j:=by
   have r2':=r2.mono (H':=H') (Zs.refl F) λa ha o z=>.of (h2 a o z (e.dis j i a hj ha))
   clear r2
   generalize fq j=f1 at r1 ha;generalize fp j=f2 at r2' ⊢;cases r1 with
   |pl _=>simp at ha
   |hd _ _ _ _=>simp at ha
   |hf _=>simp at ha
   |ol _ _=>cases r2' with|ol _ _=>exact ha
   |ok _ _ _=>cases r2' with|ok _ _ _=>exact ha
   |ot _ _ _=>cases r2' with|ot _ _ _=>exact ha
   |otl a1 _ v1 _ =>
    cases r2' with
    |otl a2 _ v2 _ =>
     rw[a1]at a2;cases a2;rw[v1]at v2;have:∀{l l':List Addr},l.map V.ref=l'.map V.ref->l=l':=by
      intro l
      induction l with
      |nil=>intro l' h;cases l' with|nil=>rfl|cons _ _=>simp at h
      |cons x xs ih =>
       intro l' h;cases l' with
       |nil=>simp at h
       |cons y ys =>
        rw[Ai,Ai]at h;injection h with h1 h2
        injection h1 with h1
        rw[h1,ih h2]
     rw[<-this v2];exact ha
  rcases h1 a z with w|w
  .exact e.dis j i a hj hm w
  .exact w.2.2 j hm
 rw[My,My]at e2;have es:σ.set i (Z v)=σ:=by have hi:i<σ.length:=(Bf.mp hv).1;have hq:σ[i]=Z v:=(Bf.mp hv).2;rw[<-hq];exact PF hi
 rwa [es]at e2
theorem Bh.change(e:Bh K F0 H0 F H r σ fp)(hv:σ[i]?=Z (Z v))(q:Az K F H' b v fp')(nd:fp'.Nodup)(h1:∀a∈fp',a∈fp i\/H a=Z_)(h2:∀a o,H a=Z o->¬a∈fp i->H' a=Z o):At K F0 H0 F H' (r.set i (Z b)) σ :=
 e.changeW hv q nd (λa ha=>(h1 a ha).imp id λz=>⟨e.sub.free z,e.ext.hh.free z,λj hj=>by obtain⟨o,ho⟩:=e.there hj;rw[z]at ho;cases ho⟩) h2
theorem At.storeNew{Hb:Hp}(e:At K F0 H0 F H r σ)(hb:At K F0 H0 F' Hb r σ)(sb:Bd Hb H)(q:Az K F H b v fp')(nd:fp'.Nodup)(h1:∀a∈fp',F a=Z_/\Hb a=Z_):At K F0 H0 F H (r.set i (Z b)) (σ.set i (Z v)):=by
 refine e.store q nd (λa h=>⟨(h1 a h).1,hb.ext.hh.free (h1 a h).2⟩) λfp e1 j a hj ha z=>?_;obtain⟨fq,eb⟩:=hb;obtain⟨c,hc⟩:=e1.bound ha;obtain⟨u1,s1,r1⟩:=e1.at_ j c hc;obtain⟨u2,s2,r2⟩:=eb.at_ j c hc;rw[s2]at s1;cases s1;have hn:=(h1 a z).2;have old:∀{x:Addr} {o o':HO},Hb x=Z o->H x=Z o'->(∀ps,o'≠.tbl ps)->o=o':=λ{x o o'} h1 h2 n=>sb.back h1 h2 n;generalize fp j=f1 at r1 ha;generalize fq j=f2 at r2;cases r1 with
 |pl _=>simp at ha
 |hd _ _ _ _=>simp at ha
 |hf _=>simp at ha
 |ol k _=>cases r2 with|ol k' _=>simp at ha;subst ha;rw[hn]at k';cases k'
 |ok k _ _=>cases r2 with|ok k' _ _=>simp at ha;subst ha;rw[hn]at k';cases k'
 |ot k _ _=>cases r2 with|ot k' _ _=>simp at ha;subst ha;rw[hn]at k';cases k'
 |otl k _ v1 _ =>
  cases r2 with
  |otl k' hk' v2 r2' =>
   have eo:=old k' k λ_ z=>by cases z
   injection eo with eo
   subst eo;have v2':=v2;rw[v1]at v2;rcases As.mp ha with z2|z2
   .subst z2;rw[hn]at k';cases k'
   .have:V.ref a∈GC V.ref _:=Al.mpr ⟨a,z2,rfl⟩
    rw[v2]at this;obtain⟨a',m1,m2⟩:=Al.mp this;injection m2 with m2
    subst m2;obtain⟨o,ho⟩:=Az.there (Az.otl k' hk' v2' r2') (Ao _ m1);rw[hn]at ho;cases ho
theorem At.rebase(e:At K F0 H0 F H r σ):At K F H0 F H r σ:=by obtain⟨fp,e⟩:=e;exact⟨fp,⟨Zs.refl F,e.ext.hh,e.ext.sub,λ_ _ z=>.inl z,e.ext.tab,id⟩,e.len,e.at_,e.emp,e.own,e.nd,e.dis,e.tb,e.ext.nts e.nt⟩
theorem sR.unbase{F1:Hp}(x:sR F0 H0 F1 H1)(y:sR F1 H0 F H):sR F0 H0 F H :=
 ⟨x.ff.trans y.ff,y.hh,y.sub,λa o z=>(y.new a o z).elim (λq=>x.new a o q) .inr,y.tab,λt=>y.nts (x.nts t)⟩
theorem At.unbase{F1 H1:Hp}(x:sR F0 H0 F1 H1)(n:uJ F0)(e:At K F1 H0 F H r σ):At K F0 H0 F H r σ:=by obtain⟨fp,e⟩:=e;exact⟨fp,x.unbase e.ext,e.len,e.at_,e.emp,e.own,e.nd,e.dis,e.tb,n⟩
theorem Bh.freeze{fp:Nat->List Addr}(e:Bh K F0 H0 F H r σ fp)(i:Nat){b:HM.B}{d:PyData}(hb:r[i]?=Z (Z b))(h1:σ[i]?=Z (Z (.ref a)))(wA:fp i=[a])(ha:H a=Z ob)(hr:Zs F (upd F a ob)->Rep K (upd F a ob) d (.ref a))(no:HP.nt ob=Aa:=by rfl):∃F',sR F0 H0 F' H/\Zs F F'/\At K F0 H0 F' H (r.set i (Z (.pl d))) σ:=by
 have hF:F a=Z_:=(e.own i a (by rw[wA];simp)).1;have s:Zs F (upd F a ob):=Zs.upd' hF;have x:sR F0 H0 (upd F a ob) H:=by
  refine⟨e.ext.ff.trans s,e.ext.hh,λc o z=>?_,λc o z=>?_,e.ext.tab,λt=>(e.ext.nts t).upd no⟩
  .by_cases hc:c=a
   .subst hc;rw[ZJ]at z;cases z;exact ha
   .rw[ZE hc]at z;exact e.sub c o z
  .by_cases hc:c=a
   .subst hc;exact .inr (.inl (e.own i c (by rw[wA];simp)).2)
   .rw[ZE hc]at z;exact e.ext.new c o z
 refine⟨_,x,s,?_⟩;have e1:Bh K F0 H0 (upd F a ob) H (r.set i Z_) (σ.set i Z_) (λj=>if j=i then[]else fp j):=by
  refine⟨x,by rw[Ex,Ex,e.len],λj c h=>?_,λj h=>?_,λj c h=>?_,λj=>?_,λj k c y6 h=>?_,e.tb,e.nt⟩
  .by_cases hj:j=i
   .subst hj
    rw[Fg (Bf.mp hb).1]at h;cases h
   .rw[CU (Bi hj)]at h
    obtain⟨u,q1,q2⟩:=e.at_ j c h;refine⟨u,by rw[CU (Bi hj)];exact q1,?_⟩;rw[if_neg hj];exact q2.mono s λ_ _ _ z=>.of z
  .show(if j=i then[]else fp j)=[]
   by_cases hj:j=i
   .rw[if_pos hj]
   .rw[if_neg hj]
    exact e.emp j λc z=>h c (by rw[CU (Bi hj)];exact z)
  .by_cases hj:j=i
   .rw[if_pos hj]at h;simp at h
   .rw[if_neg hj]at h
    have hca:c≠a:=λz=>e.dis j i c hj h (by rw[wA,z];simp);exact⟨by rw[ZE hca];exact(e.own j c h).1,(e.own j c h).2⟩
  .show(if j=i then[]else fp j).Nodup
   by_cases hj:j=i
   .rw[if_pos hj];exact Ff
   .rw[if_neg hj];exact e.nd j
  .show ¬c∈(if k=i then[]else fp k)
   by_cases hj:j=i
   .rw[if_pos hj]at h;simp at h
   .rw[if_neg hj]at h
    by_cases hk:k=i
    .rw[if_pos hk];simp
    .rw[if_neg hk];exact e.dis j k c y6 h
 have rp:=hr s;have e2:=At.set (i:=i) ⟨_,e1⟩ rp;rw[My,My]at e2;have es:σ.set i (Z (.ref a))=σ:=by have hi:i<σ.length:=(Bf.mp h1).1;have hq:σ[i]=Z (.ref a):=(Bf.mp h1).2;rw[<-hq];exact PF hi
 rwa [es]at e2
theorem At.freeze(e:At K F0 H0 F H r σ)(i:Nat):∃F',sR F0 H0 F' H/\Zs F F'/\At K F0 H0 F' H (HM.NG i r) σ:=by
 unfold HM.NG;split
 .rename_i ds hb
  obtain⟨fp,e⟩:=e;obtain⟨v,h1,h2⟩:=e.at_ i _ hb;generalize wA:fp i=f at h2;cases h2 with
  | @ol a _ vs ha q=>exact e.freeze i hb h1 wA ha λs=>.lst (.of ZJ) q.1 (q.mono s).2
 .rename_i kvs hb
  obtain⟨fp,e⟩:=e;obtain⟨v,h1,h2⟩:=e.at_ i _ hb;generalize wA:fp i=f at h2;cases h2 with
  | @ot a _ vvs ha hk q=>exact e.freeze i hb h1 wA ha λs=>.dct (.inl ZJ) rfl hk (q.mono s).2
 .exact⟨F,e.ext,Zs.refl F,e⟩
end
inductive vA(K:Af)(r:HM.Env)(σ:L2.St)(H:Hp)(C:Hp->Hp->Hp->Prop):Prop
 |mk (F0 H0 F:Hp) (at_:At K F0 H0 F H r σ) (k:C F0 H0 F):vA K r σ H C
end HP
namespace HP
open PySem PySem.Spec PyProof.Rows L2
variable[FX]
section
variable{X:Cx}{f:HM.AF}{r:HM.Env}{u:HM.TF}{F:Hp}{i:Int}{es rest:List Expr}{j:Nat}{g:PyData->PyData->Option PyData}{K:Af}{x:Str}
def yu(K:Af)(r:HM.Env)(P:Hp->Hp->Hp->V->Prop):TE:=λσ H Q=>vA K r σ H λF0 H0 F=>∀v F' H',sR F H F' H'->P H F' H' v->Q v H'
def XE(X:Cx)(e:Expr)(f:HM.EF):Prop:=∀r d,f r=Z d->PE X e (yu X.K r λ_ F' _ v=>Rep X.K F' d v)
def XB(X:Cx)(e:Expr)(f:HM.BF):Prop:=∀r b,f r=Z b->PE X e (yu X.K r λ_ F' H' v=>∃fp,Az X.K F' H' b v fp)
def XF(X:Cx)(e:Expr)(f:HM.BF):Prop:=∀r b,f r=Z b->PE X e (yu X.K r λH F' H' v=>∃fp,Az X.K F' H' b v fp/\fp.Nodup/\∀a∈fp,F' a=Z_/\H a=Z_)
def XT(X:Cx)(e:Expr)(f:HM.TF):Prop:=∀r c,f r=Z c->PT X e λσ H Q=>vA X.K r σ H λF0 H0 F=>∀F' H',sR F H F' H'->Q c H'
def XW(X:Cx)(e:Expr)(f:HM.TF):Prop:=∀r c,f r=Z c->PW X e λσ H Q=>vA X.K r σ H λF0 H0 F=>∀F' H',sR F H F' H'->Q c H'
structure XA(X:Cx)(es:List Expr)(f:HM.AF):Prop where
 len:∀r ds,f r=Z ds->ds.length=es.length
 pa:∀r ds,f r=Z ds->PA X es λσ H Q=>vA X.K r σ H λF0 H0 F=>∀vs F' H',sR F H F' H'->Zu X.K F' ds vs->Q vs H'
def yl(K:Af)(J:It)(ds:z5)(F:Hp):Prop:=∀F' H,Zs F F'->Zs F' H ->
 (∀(i:Nat) (d:PyData),ds[i]?=Z d->J.go i H/\∀x H',J.yld i H x H'->H'=H/\Rep K (Bt F' H) d x)/\J.stop ds.length H
def XI(X:Cx)(tg e:Expr)(f:HM.IF):Prop:=∀r ds,f r=Z ds->PI X tg e λσ H R=>vA X.K r σ H λF0 H0 F=>∀J F' H',sR F H F' H'->yl X.K J ds F'->R J H'
def pJ(K:Af)(F0 H0:Hp)(o:HM.vz)(E:wu):Prop:=match o with
 | .nx r=>∀σ F H,At K F0 H0 F H r σ->E.nx σ H
 | .rt d=>∀v F H,sR F0 H0 F H->Rep K F d v->E.rt v H
 | .bk r=>∀σ F H,At K F0 H0 F H r σ->E.bk σ H
 | .ct r=>∀σ F H,At K F0 H0 F H r σ->E.ct σ H
def zo(K:Af)(r:HM.Env)(o:HM.vz):TS:=λE σ H=>vA K r σ H λF0 H0 F=>pJ K F0 H0 o E
def XS(X:Cx)(st:Stmt)(g:HM.SF):Prop:=∀r o,g r=Z o->PS X st (zo X.K r o)
def wj(X:Cx)(xX:List Stmt)(g:HM.SF):Prop:=∀r o,g r=Z o->uw X xX (zo X.K r o)
theorem PE.imp{e:Expr}{t u:TE}(h:PE X e t)(hi:∀σ H Q,u σ H Q->t σ H Q):PE X e u:=λsu s σ H Q I q=>h su s σ H Q I (hi σ H Q q)
theorem PT.imp{e:Expr}{t u:TT}(h:PT X e t)(hi:∀σ H Q,u σ H Q->t σ H Q):PT X e u:=λsu s σ H Q I q=>h su s σ H Q I (hi σ H Q q)
theorem PW.imp{e:Expr}{t u:TT}(h:PW X e t)(hi:∀σ H Q,u σ H Q->t σ H Q):PW X e u:=λwh su s σ H Q I q=>h wh su s σ H Q I (hi σ H Q q)
theorem PA.imp{t u:TA}(h:PA X es t)(hi:∀σ H Q,u σ H Q->t σ H Q):PA X es u:=λp su s σ H Q I q=>h p su s σ H Q I (hi σ H Q q)
theorem PS.imp{st:Stmt}{t u:TS}(h:PS X st t)(hi:∀E σ H,u E σ H->t E σ H):PS X st u:=λsu s σ H E I q=>h su s σ H E I (hi E σ H q)
theorem uw.imp{xX:List Stmt}{t u:TS}(h:uw X xX t)(hi:∀E σ H,u E σ H->t E σ H):uw X xX u:=λsu s σ H E I q=>h su s σ H E I (hi E σ H q)
section
variable{X:Cx}{a b c e:Expr}{fa fb fc:HM.EF}{pos p:Pos}
theorem iX{i:Nat}{d:PyData}(h:HM.Za i r=Z d):r[i]?=Z (Z (.pl d)):=by
 unfold HM.Za at h;split at h
 .rename_i q;cases h;exact q
 .cases h
theorem iZ{i:Nat}{d:HM.B}(h:HM.Zg i r=Z d):r[i]?=Z (Z d):=by
 unfold HM.Zg at h;split at h
 .rename_i q;cases h;exact q
 .cases h
theorem Zc(i:Nat){pos:Pos}(hN:X.N[i]?=Z x:=by rfl)(hv:vd X.env.scope x:=by first|exact AB rfl|exact Ap (AB rfl)|exact Ap (Ap rfl))(hd:(x==("__debug__":Str))=Ab:=by decide)(tF:(x==("__classdict__":Str))=Ab:=by decide):XE X (.Name x pos) (HM.Za i):=by
 intro r d h;refine PE.imp (Dt hN hv hd tF) λσ H Q ⟨F0,H0,F,at_,k⟩=>?_;obtain⟨v,h1,h2⟩:=at_.plain (iX h);exact⟨v,h1,k v F H at_.refl h2⟩
theorem Zp(i:Nat){pos:Pos}(hN:X.N[i]?=Z x:=by rfl)(hv:vd X.env.scope x:=by first|exact AB rfl|exact Ap (AB rfl)|exact Ap (Ap rfl))(hd:(x==("__debug__":Str))=Ab:=by decide)(tF:(x==("__classdict__":Str))=Ab:=by decide):XB X (.Name x pos) (HM.Zg i):=by
 intro r d h;refine PE.imp (Dt hN hv hd tF) λσ H Q ⟨F0,H0,F,at_,k⟩=>?_;obtain⟨v,fp,h1,h2⟩:=at_.any (iZ h);exact⟨v,h1,k v F H at_.refl ⟨fp,h2⟩⟩
theorem LF{v:V}{d:PyData}(h:PE X e (tC v))(r:∀F,Rep X.K F d v):XE X e (HM.eC d):=by intro r' d' h';cases h';exact PE.imp h λσ H Q ⟨F0,H0,F,at_,k⟩=>k v F H at_.refl (r F)
theorem Zo:XE X (.Constant (.int i) j pos) (HM.eC (.int i)):=LF Vl λ_=>.int i
theorem Cm{q:Bool}:XE X (.Constant (.bool q) j pos) (HM.eC (.bool q)):=LF cS λ_=>.bl q
theorem Dw:XE X (.Constant .none j pos) (HM.eC .none):=LF Vj λ_=>.non
theorem Ni(hm:∃t,X.mg x=Z (.int i t))(hg:Gl X x:=by rfl)(hd:(x==("__debug__":Str))=Ab:=by decide):XE X (.Name x pos) (HM.eC (.int i)):=by obtain⟨t,hm⟩:=hm;exact LF (V3 hg hm (v:=.int i) ⟨t,rfl⟩ hd) λ_=>.int i
theorem fO{p':Pos}:XE X (.UnaryOp .USub (.Constant (.int i) j p') pos) (HM.eC (.int (-i))):=by intro r d h;cases h;intro su s σ H Q I q;obtain⟨F0,H0,F,at_,k⟩:=q;refine UnaryOp_ (sO (Vl su s σ H (λv H'=>v=.int i/\H'=H) I ⟨rfl,rfl⟩) λu s1 ⟨x,H1,I1,r1,e1,e2⟩=>?_);subst e1 e2;obtain⟨t,rfl⟩:=r1;exact neg_int ⟨.int (-i),H1,I1.tok _,⟨_,rfl⟩,k _ F H1 at_.refl (.int _)⟩
theorem BI(h:XE X e fa):XB X e (HM.sD fa):=by intro r b hb;obtain⟨d,h1,h2⟩:=Ak.mp hb;subst h2;exact PE.imp (h r d h1) λσ H Q ⟨F0,H0,F,at_,k⟩=>⟨F0,H0,F,at_,λv F' H' x q=>k v F' H' x ⟨[],.pl q⟩⟩
theorem A0{f:HM.BF}(h:XF X e f):XB X e f:=λr b hb=>PE.imp (h r b hb) λσ H Q ⟨F0,H0,F,at_,k⟩=>⟨F0,H0,F,at_,λv F' H' x ⟨fp,q,_⟩=>k v F' H' x ⟨fp,q⟩⟩
theorem B2{f:HM.BF}(h:XF X e f):XE X e (HM.tS f):=by
 intro r d hd;unfold HM.tS at hd;obtain⟨b,h1,h2⟩:=T8.mp hd;refine PE.imp (h r b h1) λσ H Q ⟨F0,H0,F,at_,k⟩=>⟨F0,H0,F,at_,λv F' H' x ⟨fp,q,_,hn⟩=>?_⟩;cases q with
 |pl q=>cases h2;exact k v F' H' x q
 | @ol l ds vs hl q =>
  cases h2;have hF:F' l=Z_:=(hn l (by simp)).1;have s:Zs F' (upd F' l (.lst vs)):=Zs.upd' hF;refine k _ (upd F' l (.lst vs)) H' ⟨x.ff.trans s,x.hh,λc o z=>?_,λc o z=>?_,x.tab,λt=>(x.nts t).upd rfl⟩ (.lst (.of ZJ) q.1 (q.mono s).2)
  .by_cases hc:c=l
   .subst hc;rw[ZJ]at z;cases z;exact hl
   .rw[ZE hc]at z;exact x.sub c o z
  .by_cases hc:c=l
   .subst hc;exact .inr (.inl (hn c (by simp)).2)
   .rw[ZE hc]at z;exact x.new c o z
 | @ot l kvs vvs hl hk q =>
  cases h2;have hF:F' l=Z_:=(hn l (by simp)).1;have s:Zs F' (upd F' l (.dT vvs)):=Zs.upd' hF;refine k _ (upd F' l (.dT vvs)) H' ⟨x.ff.trans s,x.hh,λc o z=>?_,λc o z=>?_,x.tab,λt=>(x.nts t).upd rfl⟩ (.dct (.inl ZJ) rfl hk (q.mono s).2)
  .by_cases hc:c=l
   .subst hc;rw[ZJ]at z;cases z;exact hl
   .rw[ZE hc]at z;exact x.sub c o z
  .by_cases hc:c=l
   .subst hc;exact .inr (.inl (hn c (by simp)).2)
   .rw[ZE hc]at z;exact x.new c o z
 |ok _ _ _=>cases h2
 |hd h3 h4 h5 h6=>cases h2;exact k _ F' H' x (.dct (.inr ⟨_,h3⟩) h4 h5 h6.2)
 |hf h3=>cases h2;exact k _ F' H' x (.fn h3)
 |otl _ _ _ _=>cases h2
def Bin(K:Af)(r:R2)(g:PyData->PyData->Option PyData):Prop:=∀(F H:Hp) (x y z:PyData) (v w:V) (Q:VK),Zs F H->g x y=Z z->Rep K F x v->Rep K F y w->(∀u,Rep K F z u->Q u H)->r v w H Q
structure KR(X:Cx)(op:Operator)(g:PyData->PyData->Option PyData):Prop where
 ex:∃r,uc X (Ho op) r/\Bin X.K r g
structure D0(X:Cx)(op:CmpOp)(g:PyData->PyData->Option PyData):Prop where
 ex:∃r,uc X (BL op) r/\Bin X.K r g
 n1:op≠.In
 n2:op≠.NotIn
theorem Lh{d:PyData}(h:HM.sG g fa fb r=Z d):∃x y,fa r=Z x/\fb r=Z y/\g x y=Z d:=by
 unfold HM.sG at h;split at h
 .split at h
  .exact⟨_,_,by assumption,by assumption,h⟩
  .cases h
 .cases h
theorem two{x y:PyData}{P:Hp->Hp->Hp->V->Prop}{σ:L2.St}{H:Hp}{Q:VK}{R:V->V->Hp->VK->Prop}(h:yu K r P σ H Q)(hk:∀H F2 H2 v w,Zs F2 H2->Rep K F2 x v->Rep K F2 y w->(∀u F3 H3,sR F2 H2 F3 H3->P H F3 H3 u->Q u H3)->Bd H H2->R v w H2 Q):zp R (yu K r λ_ F' _ v=>Rep K F' x v) (yu K r λ_ F' _ v=>Rep K F' y v) σ H Q:=by
 obtain⟨F0,H0,F,at_,k⟩:=h;refine⟨F0,H0,F,at_,λv F1 H1 x1 r1=>⟨F0,H0,F1,at_.grow x1,λw F2 H2 x2 r2=>?_⟩⟩;exact hk H F2 H2 v w x2.sub (r1.mono x2.ff) r2 (λu F3 H3 x3 q=>k u F3 H3 ((x1.trans x2).trans x3) q) (x1.hh.trans x2.hh)
theorem ZQ{op:Operator}(o:KR X op g)(ha:XE X a fa)(hb:XE X b fb):XE X (.BinOp a op b pos) (HM.sG g fa fb):=by intro r d h;obtain⟨x,y,h1,h2,h3⟩:=Lh h;obtain⟨R,o1,o2⟩:=o.ex;refine PE.imp (Qc o1 (ha r x h1) (hb r y h2)) λσ H Q q=>?_;exact two q λ_ F2 H2 v w s r1 r2 k _=>o2 F2 H2 x y d v w Q s h3 r1 r2 λu ru=>k u F2 H2 (.refl s) ru
theorem Ia{op:CmpOp}(o:D0 X op g)(ha:XE X a fa)(hb:XE X b fb):XE X (.Compare a [op] [b] pos) (HM.sG g fa fb):=by intro r d h;obtain⟨x,y,h1,h2,h3⟩:=Lh h;obtain⟨R,o1,o2⟩:=o.ex;refine PE.imp (VP o1 (ha r x h1) (hb r y h2) (Nz _ o.n1 o.n2)) λσ H Q q=>?_;exact two q λ_ F2 H2 v w s r1 r2 k _=>o2 F2 H2 x y d v w Q s h3 r1 r2 λu ru=>k u F2 H2 (.refl s) ru
theorem Gj{c:Bool}(h:HM.tV fa r=Z c):fa r=Z (.bool c):=by
 unfold HM.tV at h;split at h
 .rename_i q;cases h;exact q
 .cases h
theorem Rep.bool_inv{c:Bool}{v:V}(h:Rep K F (.bool c) v):v=.bl c:=by cases h;rfl
theorem Rep.int_inv{v:V}(h:Rep K F (.int i) v):v=.int i:=by cases h;rfl
theorem Rep.none_inv{v:V}(h:Rep K F .none v):v=.non:=by cases h;rfl
theorem A6{op:CmpOp}(o:D0 X op g)(ha:XE X a fa)(hb:XE X b fb):XT X (.Compare a [op] [b] pos) (HM.tV (HM.sG g fa fb)):=by intro r d h;obtain⟨x,y,h1,h2,h3⟩:=Lh (Gj h);obtain⟨R,o1,o2⟩:=o.ex;refine PT.imp (QQ o1 (ha r x h1) (hb r y h2) (Nz _ o.n1 o.n2)) λσ H Q ⟨F0,H0,F,at_,k⟩=>?_;refine⟨F0,H0,F,at_,λv F1 H1 x1 r1=>⟨F0,H0,F1,at_.grow x1,λw F2 H2 x2 r2=>?_⟩⟩;refine o2 F2 H2 x y _ v w _ x2.sub h3 (r1.mono x2.ff) r2 λu ru=>?_;exact⟨d,ru.bool_inv,k F2 H2 (x1.trans x2)⟩
theorem B1(h:XE X e fa)(he:∀tU,isTrue e X.env tU=(do let v <-tU;standAt e.pos;holding [v] (truthy v)):=by intro _;rfl):XT X e (HM.tV fa):=by intro r c hc;refine PT.imp (en (h r _ (Gj hc)) he) λσ H Q ⟨F0,H0,F,at_,k⟩=>?_;exact⟨F0,H0,F,at_,λv F1 H1 x1 r1=>⟨c,r1.bool_inv,k F1 H1 x1⟩⟩
theorem EM{t:HM.TF}(h:XT X a t):XT X (.UnaryOp .Not a pos) (HM.BX t):=by intro r c hc;obtain⟨d,h1,h2⟩:=Ak.mp hc;subst h2;refine PT.imp (dg (h r d h1)) λσ H Q ⟨F0,H0,F,at_,k⟩=>?_;exact⟨F0,H0,F,at_,λF1 H1 x1=>k F1 H1 x1⟩
theorem HR{t:HM.TF}(h:XW X e t):XT X e t:=λr c hc=>(h r c hc).pt
theorem QB{t:HM.TF}(h:XT X a t):XW X (.BoolOp .And [a] pos) t:=λr c hc=>ia (h r c hc)
theorem M5{t:HM.TF}(h:XT X a t):XW X (.BoolOp .Or [a] pos) t:=λr c hc=>dZ (h r c hc)
theorem WN{e:Expr}:PW X e λ_ _ _=>False:=λ_ _ _ _ _ _ _ h=>h.elim
theorem Lu{e:Expr}:PE X e λ_ _ _=>False:=λ_ _ _ _ _ _ h=>h.elim
theorem Qz{t:HM.TF}(ha:XT X a t)(hb:XW X (.BoolOp .And (b::rest) pos) u):XW X (.BoolOp .And (a::b::rest) pos) (HM.D7 t u):=by
 intro r c hc;unfold HM.D7 at hc;split at hc
 .rename_i q
  refine PW.imp (Vu (ha r Aa q) (hb r c hc)) λσ H Q ⟨F0,H0,F,at_,k⟩=>?_;exact⟨F0,H0,F,at_,λF1 H1 x1=>HN ⟨F0,H0,F1,at_.grow x1,λF2 H2 x2=>k F2 H2 (x1.trans x2)⟩⟩
 .rename_i q
  cases hc;refine PW.imp (Vu (ha r Ab q) WN) λσ H Q ⟨F0,H0,F,at_,k⟩=>?_;exact⟨F0,H0,F,at_,λF1 H1 x1=>HJ (k F1 H1 x1)⟩
 .cases hc
theorem MX{t:HM.TF}(ha:XT X a t)(hb:XW X (.BoolOp .Or (b::rest) pos) u):XW X (.BoolOp .Or (a::b::rest) pos) (HM.xW t u):=by
 intro r c hc;unfold HM.xW at hc;split at hc
 .rename_i q
  cases hc;refine PW.imp (UE (ha r Aa q) WN) λσ H Q ⟨F0,H0,F,at_,k⟩=>?_;exact⟨F0,H0,F,at_,λF1 H1 x1=>HN (k F1 H1 x1)⟩
 .rename_i q
  refine PW.imp (UE (ha r Ab q) (hb r c hc)) λσ H Q ⟨F0,H0,F,at_,k⟩=>?_;exact⟨F0,H0,F,at_,λF1 H1 x1=>HJ ⟨F0,H0,F1,at_.grow x1,λF2 H2 x2=>k F2 H2 (x1.trans x2)⟩⟩
 .cases hc
theorem G0{op:BoolOp}(h:XE X a fa):XE X (.BoolOp op [a] pos) fa:=λr d hd=>cY (h r d hd)
theorem GZ(ha:XE X a fa)(hb:XE X (.BoolOp .And (b::rest) pos) fb):XE X (.BoolOp .And (a::b::rest) pos) (HM.GS fa fb):=by
 intro r d hd;unfold HM.GS at hd;split at hd
 .rename_i q
  refine PE.imp (UX (ha r _ q) (hb r d hd)) λσ H Q ⟨F0,H0,F,at_,k⟩=>?_;exact⟨F0,H0,F,at_,λv F1 H1 x1 r1=>⟨Aa,r1.bool_inv,HN ⟨F0,H0,F1,at_.grow x1,λw F2 H2 x2 r2=>k w F2 H2 (x1.trans x2) r2⟩⟩⟩
 .rename_i q
  cases hd;refine PE.imp (UX (ha r _ q) Lu) λσ H Q ⟨F0,H0,F,at_,k⟩=>?_;exact⟨F0,H0,F,at_,λv F1 H1 x1 r1=>⟨Ab,r1.bool_inv,HJ (k _ F1 H1 x1 (.bl Ab))⟩⟩
 .cases hd
theorem fN(ha:XE X a fa):XE X (.UnaryOp .Not a pos) (HM.iW fa):=by
 intro r d hd;unfold HM.iW at hd;split at hd
 .rename_i c q
  cases hd;refine PE.imp (er (ha r _ q)) λσ H Q ⟨F0,H0,F,at_,k⟩=>?_;exact⟨F0,H0,F,at_,λv F1 H1 x1 r1=>⟨c,r1.bool_inv,k _ F1 H1 x1 (.bl _)⟩⟩
 .cases hd
theorem P8{t:HM.TF}(hc:XT X c t)(ha:XE X a fa)(hb:XE X b fb):XE X (.IfExp c a b pos) (HM.wG t fa fb):=by
 intro r d hd;unfold HM.wG at hd;split at hd
 .rename_i q
  refine PE.imp (W6 (hc r _ q) (ha r d hd) Lu) λσ H Q ⟨F0,H0,F,at_,k⟩=>?_;exact⟨F0,H0,F,at_,λF1 H1 x1=>HN ⟨F0,H0,F1,at_.grow x1,λw F2 H2 x2 r2=>k w F2 H2 (x1.trans x2) r2⟩⟩
 .rename_i q
  refine PE.imp (W6 (hc r _ q) Lu (hb r d hd)) λσ H Q ⟨F0,H0,F,at_,k⟩=>?_;exact⟨F0,H0,F,at_,λF1 H1 x1=>HJ ⟨F0,H0,F1,at_.grow x1,λw F2 H2 x2 r2=>k w F2 H2 (x1.trans x2) r2⟩⟩
 .cases hd
theorem Xk{op op':CmpOp}{g':PyData->PyData->Option PyData}(o:D0 X op g)(o':D0 X op' g')(ha:XE X a fa)(hb:XE X b fb)(hc:XE X c fc)(hm:lastMarks [op,op'] [b,c]=Ab:=by with_unfolding_all rfl):XE X (.Compare a [op,op'] [b,c] pos) (HM.IG g g' fa fb fc):=by
 intro r d hd;unfold HM.IG at hd;obtain⟨R,o1,o2⟩:=o.ex;obtain⟨R',o1',o2'⟩:=o'.ex;split at hd
 .rename_i x hx
  split at hd
  .rename_i y hy
   split at hd
   .rename_i hg
    split at hd
    .rename_i z hz
     refine PE.imp (WT o1 o1' (ha r x hx) (hb r y hy) (hc r z hz) hm) λσ H Q ⟨F0,H0,F,at_,k⟩=>?_;refine⟨F0,H0,F,at_,λv F1 H1 x1 r1=>⟨F0,H0,F1,at_.grow x1,λw F2 H2 x2 r2=>?_⟩⟩;refine o2 F2 H2 x y _ v w _ x2.sub hg (r1.mono x2.ff) r2 λu ru=>?_;refine⟨Aa,ru.bool_inv,HN ⟨F0,H0,F2,(at_.grow x1).grow x2,λw' F3 H3 x3 r3=>?_⟩⟩;exact o2' F3 H3 y z d w w' Q x3.sub hd (r2.mono x3.ff) r3 λu' ru'=>k u' F3 H3 ((x1.trans x2).trans x3) ru'
    .cases hd
   .rename_i hg
    cases hd;refine PE.imp (WT o1 o1' (ha r x hx) (hb r y hy) Lu hm) λσ H Q ⟨F0,H0,F,at_,k⟩=>?_;refine⟨F0,H0,F,at_,λv F1 H1 x1 r1=>⟨F0,H0,F1,at_.grow x1,λw F2 H2 x2 r2=>?_⟩⟩;refine o2 F2 H2 x y _ v w _ x2.sub hg (r1.mono x2.ff) r2 λu ru=>?_;exact⟨Ab,ru.bool_inv,HJ (k _ F2 H2 (x1.trans x2) (.bl Ab))⟩
   .cases hd
  .cases hd
 .cases hd
theorem Zm:XA X [] HM.Zj:=by refine⟨λr ds h=>by cases h;rfl,λr ds h=>?_⟩;cases h;exact PA.imp CL λσ H Q ⟨F0,H0,F,at_,k⟩=>k [] F H at_.refl .nil
theorem Zd(ha:XE X e fa)(hr:XA X es f)(hs:Ag (e::es) X.env=(Ab,eval e X.env)::Ag es X.env:=by rfl):XA X (e::es) (HM.Zb fa f):=by
 refine⟨λr ds h=>?_,λr ds h=>?_⟩
 .unfold HM.Zb at h
  split at h
  .obtain⟨xs,h1,h2⟩:=Ak.mp h
   subst h2;rw[Av,Av,hr.len r xs h1]
  .cases h
 unfold HM.Zb at h;split at h
 .rename_i x hx
  obtain⟨xs,h1,h2⟩:=Ak.mp h;subst h2;refine PA.imp (BM (ha r x hx) (hr.pa r xs h1) hs) λσ H Q ⟨F0,H0,F,at_,k⟩=>?_;exact⟨F0,H0,F,at_,λv F1 H1 x1 r1=>⟨F0,H0,F1,at_.grow x1,λvs F2 H2 x2 r2=>k (v::vs) F2 H2 (x1.trans x2) (.cons (r1.mono x2.ff) r2)⟩⟩
 .cases h
theorem Gi{x1:Nat}(h:XA X es f)(hl:BC es<=100:=by exact Nat.le_of_ble_eq_true rfl):XE X (.Tuple es x1 pos) (HM.D2 f):=by
 intro r d hd;obtain⟨ds,h1,h2⟩:=Ak.mp hd;subst h2;refine PE.imp (d4 (h.pa r ds h1)) λσ H Q ⟨F0,H0,F,at_,k⟩=>⟨F0,H0,F,at_,λvs F1 H1 x1 r1=>⟨?_,λp hp=>?_⟩⟩
 .have e1:=h.len r ds h1
  have e2:=r1.1;have e3:(100:Nat)<=sizeLine:=by decide
  omega
 .have hF:F1 p=Z_:=x1.sub.free hp
  exact k _ (upd F1 p (.tup vs)) _ (x1.lay hp) (.tup ZJ r1.1 (r1.mono (Zs.upd' hF)).2)
theorem Dv(h:XA X es f)(hl:BC es<=100:=by exact Nat.le_of_ble_eq_true rfl):XF X (.List es pos) (HM.C3 f):=by
 intro r d hd;obtain⟨ds,h1,h2⟩:=Ak.mp hd;subst h2;refine PE.imp (dQ (h.pa r ds h1)) λσ H Q ⟨F0,H0,F,at_,k⟩=>⟨F0,H0,F,at_,λvs F1 H1 x1 r1=>⟨?_,λp hp=>?_⟩⟩
 .have e1:=h.len r ds h1
  have e2:=r1.1;have e3:(100:Nat)<=sizeLine:=by decide
  omega
 .have hF:F1 p=Z_:=x1.sub.free hp
  refine k _ F1 _ (x1.lay' hp) ⟨[p],.ol ZJ r1,by simp,λa ha=>?_⟩;have:a=p:=by simpa using ha
  subst this;exact⟨hF,x1.hh.free hp⟩
end
end
section
variable{f:Addr}{fd:FuncData}{g:HM.SF}{base:Heap}{N ps:z9}{p':Pos}{P:Program}{K:Af}{st:Stmt}{qual x:Str}{mg:z6}
section
variable{X:Cx}{a b c e:Expr}{fa fb fc:HM.EF}{pos p:Pos}{st:Stmt}{rest:List Stmt}{g u:HM.SF}
theorem Rh(h:X.xe=λ_ _=>False):PassesOwn (model X.prog X.w) X.A X.env X.xe:=by rw[h];exact PassesOwn.never
theorem ZT:wj X [] HM.AL:=by intro r o h;cases h;exact uw.imp ip λE σ H ⟨F0,H0,F,at_,k⟩=>k σ F H at_
theorem Zl(h:XS X st g):wj X [st] g:=λr o ho=>VM (h r o ho)
theorem Zh(h1:XS X st g)(h2:wj X rest u):wj X (st::rest) (HM.Zr g u):=by
  intro r o h
  unfold HM.Zr at h
  split at h
  · rename_i r' q
    refine uw.imp (Nw (h1 r _ q) (h2 r' o h)) λE σ H ⟨F0,H0,F,at_,k⟩=>?_
    exact⟨F0,H0,F,at_,λσ' F' H' at'=>⟨F0,H0,F',at',k⟩⟩
  all_goals first
    | cases h
      rename_i q
      refine uw.imp (Nw (h1 r _ q) NO) λE σ H ⟨F0,H0,F,at_,k⟩=>?_
      exact⟨F0,H0,F,at_,k⟩
    |cases h
theorem ki:XS X (.Break pos) HM.jA:=by intro r o h;cases h;exact PS.imp gB λE σ H ⟨F0,H0,F,at_,k⟩=>k σ F H at_
theorem Xj:XS X st HM.Xa:=λr o h=>nomatch h
theorem Zz(h:XE X e fa):XS X (.Return (Z e) pos) (HM.ZG fa):=by intro r o ho;obtain⟨d,h1,h2⟩:=Ak.mp ho;subst h2;refine PS.imp (Qg (h r d h1)) λE σ H ⟨F0,H0,F,at_,k⟩=>?_;exact⟨F0,H0,F,at_,λv F' H' x q=>k v F' H' (at_.ext.trans x) q⟩
theorem VG(h:XE X e fa)(hs:Et e Z_ pos.line X.env=pure Ab:=by rfl):XS X (.Expr e pos) (HM.Vx fa):=by intro r o ho;obtain⟨d,h1,h2⟩:=Ak.mp ho;subst h2;refine PS.imp (Lg (h r d h1) hs) λE σ H ⟨F0,H0,F,at_,k⟩=>?_;exact⟨F0,H0,F,at_,λv F' H' x q=>k σ F' H' (at_.grow x)⟩
theorem AZ{t:HM.TF}{sa sb:List Stmt}(hc:XT X c t)(ha:wj X sa g)(hb:wj X sb u):XS X (.If c sa sb pos) (HM.tw t g u):=by
 intro r o ho;unfold HM.tw at ho;split at ho
 .rename_i q
  refine PS.imp (UN (hc r _ q) (ha r o ho) NO) λE σ H ⟨F0,H0,F,at_,k⟩=>?_;exact⟨F0,H0,F,at_,λF' H' x=>HN ⟨F0,H0,F',at_.grow x,k⟩⟩
 .rename_i q
  refine PS.imp (UN (hc r _ q) NO (hb r o ho)) λE σ H ⟨F0,H0,F,at_,k⟩=>?_;exact⟨F0,H0,F,at_,λF' H' x=>HJ ⟨F0,H0,F',at_.grow x,k⟩⟩
 .cases ho
theorem Du(i:Nat)(h:XS X st g):XS X st (HM.Ce i g):=by intro r o ho;refine PS.imp (h (HM.NG i r) o ho) λE σ H ⟨F0,H0,F,at_,k⟩=>?_;obtain⟨F',_,_,a'⟩:=at_.freeze i;exact⟨F0,H0,F',a',k⟩
theorem ZL(i:Nat)(hN:X.N.Nodup)(h:XE X e fa)(hi:X.N[i]?=Z x:=by rfl)(hx:Loc X.env.scope x:=by first|exact AB rfl|exact Ap rfl)(hs:Et e (Z (.Name x p')) pos.line X.env=pure Ab:=by rfl)(hf:X.fn x=Aa\/X.env.scope.names.lookup x=Z .local:=by first|exact .inl rfl|exact .inr rfl):XS X (.Assign [.Name x p'] e pos) (HM.ZN i fa):=by
 intro r o ho;obtain⟨d,h1,h2⟩:=Ak.mp ho;subst h2;refine PS.imp (Qv hN hi hx (h r d h1) hs hf) λE σ H ⟨F0,H0,F,at_,k⟩=>?_;exact⟨F0,H0,F,at_,λv F' H' x q=>k _ F' H' ((at_.grow x).set q)⟩
theorem Bw(i:Nat){f:HM.BF}(hN:X.N.Nodup)(h:XF X e f)(hi:X.N[i]?=Z x:=by rfl)(hx:Loc X.env.scope x:=by first|exact AB rfl|exact Ap rfl)(hs:Et e (Z (.Name x p')) pos.line X.env=pure Ab:=by rfl)(hf:X.fn x=Aa\/X.env.scope.names.lookup x=Z .local:=by first|exact .inl rfl|exact .inr rfl):XS X (.Assign [.Name x p'] e pos) (HM.ZO i f):=by
 intro r o ho;obtain⟨d,h1,h2⟩:=Ak.mp ho;subst h2;refine PS.imp (Qv hN hi hx (h r d h1) hs hf) λE σ H ⟨F0,H0,F,at_,k⟩=>?_;exact⟨F0,H0,F,at_,λv F' H' x ⟨fp,q,nd,hn⟩=>k _ F' H' ((at_.grow x).storeNew at_ x.hh q nd hn)⟩
theorem B0(i:Nat){iter:Expr}{body:List Stmt}{fi:HM.IF}(hN:X.N.Nodup)(vM:X.xe=λ_ _=>False)(hc:X.calm=Aa)(hi:XI X (.Name x p') iter fi)(hb:wj X body g)(zG:X.N[i]?=Z x:=by rfl)(hx:Loc X.env.scope x:=by first|exact AB rfl|exact Ap rfl)(hf:X.fn x=Aa\/X.env.scope.names.lookup x=Z .local:=by first|exact .inl rfl|exact .inr rfl)(hs:∀x,GN iter X.env x=pure x:=by intro _;rfl):XS X (.For (.Name x p') iter body [] pos) (HM.AH i fi g):=by
 intro r o ho;unfold HM.AH at ho;split at ho
 .rename_i ds sY
  split at ho
  .rename_i u3
   have pb:uw X body (λE σ H=>∃r o,g r=Z o/\zo X.K r o E σ H):=λsu s σ H E I ⟨r,o,h1,h2⟩=>hb r o h1 su s σ H E I h2;refine PS.imp (Vd (Rh vM) hc (hi r ds sY) (JD hN zG hx hf) pb hs) λE σ H ⟨F0,H0,F,at_,k⟩=>?_;refine⟨F0,H0,F,at_,λJ F1 H1 x1 it=>?_⟩;refine⟨λn m σ H=>∃F r,At X.K F0 H0 F H r σ/\Zs F1 F/\n+m=ds.length/\HM.Z7 i g (ds.drop n) r=Z o,⟨ds.length,F1,r,at_.grow x1,Zs.refl _,by omega,ho⟩,?_⟩
   rintro n m σ H ⟨F2,r2,uo,s2,hn,go⟩
   obtain⟨yX,yW⟩:=it F2 H s2 uo.sub;cases m with
   |zero =>
    have e:n=ds.length:=by omega
    subst e;rw[TN]at go;cases go;exact .inl ⟨yW,k σ F2 H uo⟩
   |succ m =>
    have tf:n<BC ds:=by omega
    rw[Ul tf]at go;obtain⟨j1,j2⟩:=yX n ds[n] (AK tf);refine .inr ⟨j1,λσ' H'=>∃F r,At X.K F0 H0 F H' r σ'/\Zs F1 F/\HM.Z7 i g (ds.drop (n+1)) r=Z o,λσ' H' ⟨F,r,a1,a2,a3⟩=>⟨m,by omega,F,r,a1,a2,by omega,a3⟩,λy H' hy=>?_⟩;obtain⟨e1,ry⟩:=j2 y H' hy;subst e1;obtain⟨F3,ue,s3,ry⟩:∃F3,At X.K F0 H0 F3 H' r2 σ/\Zs F1 F3/\Rep X.K F3 ds[n] y:=⟨_,uo.grow uo.refl.tups,s2.trans (Fy uo.sub),ry⟩;have a3:=ue.set (i:=i) ry;have a4:=a3.rebase;unfold HM.Z7 at go;split at go
    .rename_i r' hr
     exact⟨_,_,hr,F3,H0,F3,a4,λσ' F' H' a'=>⟨F',r',a'.unbase ue.ext ue.nt0,s3.trans a'.ext.ff,go⟩⟩
    .rename_i r' hr
     exact⟨_,_,hr,F3,H0,F3,a4,λσ' F' H' a'=>⟨F',r',a'.unbase ue.ext ue.nt0,s3.trans a'.ext.ff,go⟩⟩
    .rename_i r' hr
     cases go;exact⟨_,_,hr,F3,H0,F3,a4,λσ' F' H' a'=>k σ' F' H' (a'.unbase ue.ext ue.nt0)⟩
    .rename_i d hr
     cases go;exact⟨_,_,hr,F3,H0,F3,a4,λv F' H' x q=>k v F' H' (ue.ext.unbase x) q⟩
    .cases go
  .cases ho
 .cases ho
end
def spD(K:Af)(n:Nat)(M:z5->Option PyData):Sp:=λvs H Q _=>∃F ds d,BC vs=n/\Zs F H/\Tb H/\uJ F/\Zu K F ds vs/\M ds=Z d/\∀v F' H',sR F H F' H'->Rep K F' d v->Q v H'
structure Callee(P:Program)(w:World)(K:Af)(mg:z6)(base:Heap)(k:Nat)(x:Str)(M:z5->Option PyData):Prop where
 ex:∃f fd ps,(∀ds d,M ds=Z d->ds.length=ps.length)/\CF P w K mg base uU k f fd ps (spD K ps.length M)/\mg x=Z (.ref f)/\E6 K (.ref f)=Aa/\Binds K fd ps []
theorem Callee.mono{P:Program}{w:World}{K:Af}{mg:z6}{base:Heap}{j k:Nat}{x:Str}{M:z5->Option PyData}(C:Callee P w K mg base j x M)(h:j<=k):Callee P w K mg base k x M:=by obtain⟨f,fd,ps,l,F,r⟩:=C.ex;exact⟨f,fd,ps,l,F.mono h,r⟩
section
variable{X:Cx}{pos p:Pos}{e:Expr}{es:List Expr}{f:HM.AF}
theorem Zn{k:Nat}{M:z5->Option PyData}(C:Callee X.prog X.w X.K X.mg X.base k x M)(hr:AA k X.A)(ha:XA X (e::es) f)(hg:Gl X x:=by rfl)(va:(x==("__debug__":Str))=Ab:=by decide)(he:Ag (e::es) X.env=(Ab,eval e X.env)::Ag es X.env:=by rfl)(hpl:(backTo pos (Ag es X.env)).any (·.1)=Ab:=by rfl):XE X (.Call (.Name x p) (e::es) [] pos) (HM.Zi M f):=by
 intro r d hd;unfold HM.Zi at hd;split at hd
 .rename_i ds sY
  obtain⟨fa,fd,ps,hl,F,hm,hk,hb⟩:=C.ex;refine PE.imp (Na (E:=E0) F hr hg hm hk hb .nil MT (ha.pa r ds sY) va he hpl) λσ H Q ⟨F0,H0,F1,at_,k⟩=>?_;refine⟨F0,H0,F1,at_,λvs F' H' x q=>?_⟩;show spD X.K ps.length M (vs++[]) H' Q E0;rw[Ba];exact⟨F',ds,d,by rw[<-q.1];exact hl ds d hd,x.sub,at_.tbx x,at_.ntx x,q,hd,λv F2 H2 x2 q2=>k v F2 H2 (x.trans x2) q2⟩
 .cases hd
end
theorem Lw{F H:Hp}{ds:z5}{vs:List V}(s:Zs F H)(tb:Tb H)(nt:uJ F)(q:Zu K F ds vs)(hl:BC ds<=BC N):At K F H F H (HM.aS N.length ds) (L2.start N vs):=by
 have hv:=q.1;refine⟨λ_=>[],.refl s,?_,λi b h=>?_,λ_ _=>rfl,λi a h=>by simp at h,λ_=>Ff,λi j a _ h=>by simp at h,tb,nt⟩
 .unfold HM.aS L2.start
  rw[AE,AE,Ad,Ad,EA,EA,hv]
 .unfold HM.aS at h
  by_cases hi:i<BC ds
  .rw[DU (by rw[Ad];exact hi),AD,AK hi]at h
   cases h;obtain⟨v,h1,h2⟩:=q.get (AK hi);refine⟨v,?_,.pl h2⟩;unfold L2.start;rw[DU (by rw[Ad,<-hv];exact hi),AD,h1];rfl
  .rw[Fh (by rw[Ad];omega),PM]at h
   split at h<;>cases h
theorem Wa{w:World}{k:Nat}(Fn:vB K x qual st f fd)(S:Zv N ps (Zf st))(body:∀(sN:Value) (A:Around) (outer:List Env) (s:Shared) (H:Hp) (E:XK),AA k (A.deeper (envOfC qual (Zf st) s.heap.objs.size f sN))->wj (Eg uU P w K mg base N qual (Zf st) f sN A outer s H E).nox (B4 st) g):CF P w K mg base uU (k+1) f fd ps (spD K ps.length (HM.fnOf ps.length N.length g)):=by
 have hpl:BC ps<=BC N:=by have:=congrArg BC S.pre;rw[Ec]at this;omega
 refine Fn.ok S (λvs H Q E h=>?_) (λsN A outer s H vs Q E hr h=>?_)
 .obtain⟨_,_,_,h,_⟩:=h
  exact h
 .obtain⟨F,ds,d,hl,sub,tb,nt,q,hM,kk⟩:=h
  unfold HM.fnOf at hM;split at hM
  .rename_i sY
   have a0:=Lw (N:=N) sub tb nt q (by omega);split at hM
   .rename_i r hr'
    cases hM;exact⟨_,body sN A outer s H E hr _ _ hr',F,H,F,a0,λσ F' H' a'=>kk .non F' H' a'.ext .non⟩
   .rename_i d' hr'
    cases hM;exact⟨_,body sN A outer s H E hr _ _ hr',F,H,F,a0,λv F' H' x q=>kk v F' H' x q⟩
   .cases hM
  .cases hM
theorem kq{w:World}{k:Nat}(Fn:vB K x qual st f fd)(S:Zv N ps (Zf st))(hm:mg x=Z (.ref f))(hb:Binds K fd ps [])(body:∀(sN:Value) (A:Around) (outer:List Env) (s:Shared) (H:Hp) (E:XK),AA k (A.deeper (envOfC qual (Zf st) s.heap.objs.size f sN))->wj (Eg uU P w K mg base N qual (Zf st) f sN A outer s H E).nox (B4 st) g):Callee P w K mg base (k+1) x (HM.fnOf ps.length N.length g):=by
 refine⟨f,fd,ps,λds d h=>?_,Wa Fn S body,hm,Fn.kp,hb⟩;unfold HM.fnOf at h;split at h
 .assumption
 .cases h
end
section
variable{q:HM.B}{F H:Hp}{ds:z5}{K:Af}
section
variable{X:Cx}{a b c e:Expr}{fa fb fc:HM.EF}{pos p:Pos}
theorem Ls{h:Int->Int->Option PyData}{x y z:PyData}(e:HM.Gf h x y=Z z):∃i j,x=.int i/\y=.int j/\h i j=Z z:=by
 unfold HM.Gf at e;split at e
 .exact⟨_,_,rfl,rfl,e⟩
 .cases e
theorem KI{g:Int->Int->V}{h:Int->Int->PyData}(hr:∀F i j,Rep K F (h i j) (g i j)):Bin K (x6 g) (HM.Gf λi j=>Z (h i j)):=by intro F H x y z v w Q s e r1 r2 k;obtain⟨i,j,rfl,rfl,e⟩:=Ls e;cases e;exact⟨i,j,r1.int_inv,r2.int_inv,k _ (hr F i j)⟩
theorem BE:KR X .Add HM.Bu:=⟨_,dX,KI λ_ _ _=>.int _⟩
theorem P1:KR X .Sub HM.KY:=⟨_,fu,KI λ_ _ _=>.int _⟩
theorem D4:KR X .Mult HM.CG:=by
 refine⟨_,cy,λF H x y z v w Q s e r1 r2 k=>?_⟩;obtain⟨i,j,rfl,rfl,e'⟩:=Ls e;split at e'
 .rename_i hs
  cases e';refine⟨i,j,r1.int_inv,r2.int_inv,?_,k _ (.int _)⟩;unfold HM.A4 at hs;rw[Ew,IU,IU]at hs;unfold MM;omega
 .cases e'
theorem zW:KR X .Mod HM.UR:=by
 refine⟨_,fE,λF H x y z v w Q s e r1 r2 k=>?_⟩;obtain⟨i,j,rfl,rfl,e'⟩:=Ls e;split at e'
 .rename_i hs
  cases e';exact⟨i,j,r1.int_inv,r2.int_inv,hs,k _ (.int _)⟩
 .cases e'
theorem yI:D0 X .Lt HM.vt:=⟨⟨_,cj,KI λ_ _ _=>.bl _⟩,by decide,by decide⟩
theorem zP:D0 X .LtE HM.xG:=⟨⟨_,cE,KI λ_ _ _=>.bl _⟩,by decide,by decide⟩
theorem yJ:D0 X .Gt HM.vm:=⟨⟨_,bZ,KI λ_ _ _=>.bl _⟩,by decide,by decide⟩
theorem Rep.non_iff{d:PyData}{v:V}(h:Rep K F d v):decide (v=.non)=match d with | .none=>Aa|_=>Ab:=by cases h<;>first|rfl|exact decide_eq_false (λz=>nomatch z)
theorem KO:D0 X .Is HM.EI:=by
 refine⟨⟨_,gh,λF H x y z v w Q s e r1 r2 k=>?_⟩,by decide,by decide⟩;unfold HM.EI at e;split at e
 .refine⟨r2.none_inv,k _ ?_⟩
  rw[r1.non_iff];split at e
  .cases e;exact .bl _
  .rename_i hx
   cases e;cases x<;>first|exact .bl _|exact absurd rfl hx
 .cases e
theorem K7:D0 X .IsNot HM.Fu:=by
 refine⟨⟨_,fW,λF H x y z v w Q s e r1 r2 k=>?_⟩,by decide,by decide⟩;unfold HM.Fu at e;split at e
 .refine⟨r2.none_inv,k _ ?_⟩
  rw[r1.non_iff];split at e
  .cases e;exact .bl _
  .rename_i hx
   cases e;cases x<;>first|exact .bl _|exact absurd rfl hx
 .cases e
theorem RD{h:Heap}:∀{ds:z5} {us:z8},BC ds=us.length->(∀(i:Nat) d u,ds[i]?=Z d->us[i]?=Z u->∃as,Reads h u d as)->∃as,ReadsAll h us ds as
 |[],[],_,_=>⟨[],.nil⟩
 |[],_::_,hl,_=>by simp at hl
 |_::_,[],hl,_=>by simp at hl
 |d::ds,u::us,hl,k=>by obtain⟨as,h1⟩:=k 0 d u rfl rfl;obtain⟨bs,h2⟩:=RD (ds:=ds) (us:=us) (by simpa using hl) λi d u e1 e2=>k (i+1) d u (by simpa using e1) (by simpa using e2);exact⟨_,.cons h1 h2⟩
theorem VE:∀{ds:z5},MF ds=Aa->∀{i:Nat} {d:PyData},ds[i]?=Z d->d.canLay0=Aa
 |[],_,i,d,e=>by simp at e
 |x::ds,h,i,d,e=>by
  have h':(x.canLay0&&MF ds)=Aa:=h;rw[Bn]at h';cases i with
  |zero=>rw[PL]at e;cases e;exact h'.1
  |succ i=>rw[EB]at e;exact VE h'.2 e
theorem W4(h:MF ds=Aa){i:Nat}{d:PyData}(e:ds[i]?=Z d):d.canLay0=Aa:=VE h e
theorem Rep.reads{su:z7}{s:Shared}{σ:L2.St}{d:PyData}{v:V}(I:Inv X su σ H s)(sub:Zs F H)(r:Rep X.K F d v):d.canLay0=Aa->∀u,RelV v u->∃as,Reads s.heap u d as:=by
 induction r with
 |non=>intro _ u ru;cases ru;exact⟨[],.none⟩
 |bl b=>intro _ u ru;cases ru;exact⟨[],.bool b⟩
 |int i=>intro _ u ru;obtain⟨t,rfl⟩:=ru;exact⟨[],.int i t⟩
 |str x=>intro _ u ru;obtain⟨t,rfl⟩:=ru;exact⟨[],.str x t⟩
 |dct _ _ _ _ _=>intro z;cases z
 |fn _=>intro z;cases z
 | @tupk a x h=>intro z u ru;cases ru;obtain⟨sy,rv,⟨o,ho,hc,n,hd⟩,_⟩:=I.tuple (.inr h);obtain⟨u,rfl,t,rfl⟩:=rv.one;exact⟨_,.tuple ho hc hd (by simpa using ReadsAll.cons (.str x t) .nil)⟩
 | @tup a ds vs h hl _ ih =>
  intro z u ru;cases ru;obtain⟨sy,rv,⟨o,ho,hc,n,hd⟩,_⟩:=I.tuple (.of (sub _ _ h));obtain⟨as,hr⟩:=RD (h:=s.heap) (ds:=ds) (us:=sy) (hl.trans rv.length) λi d u e1 e2=>by
   have hi:i<BC vs:=by rw[<-hl];exact(Bf.mp e1).1
   obtain⟨u',q1,q2⟩:=rv.get (AK hi);rw[e2]at q1;cases q1;exact ih i d _ e1 (AK hi) (W4 z e1) u q2
  exact⟨_,.tuple ho hc hd (by simpa using hr)⟩
 | @lst a ds vs h hl _ ih =>
  intro z u ru;cases ru;obtain⟨sy,rv,⟨o,n,ho,hc,_,hd⟩,_⟩:=I.list (sub.seq h);obtain⟨as,hr⟩:=RD (h:=s.heap) (ds:=ds) (us:=sy) (hl.trans rv.length) λi d u e1 e2=>by
   have hi:i<BC vs:=by rw[<-hl];exact(Bf.mp e1).1
   obtain⟨u',q1,q2⟩:=rv.get (AK hi);rw[e2]at q1;cases q1;exact ih i d _ e1 (AK hi) (W4 z e1) u q2
  exact⟨_,.list ho hc hd (by simpa using hr)⟩
def Uw(K:Af)(wd:Bool):R2:=λv w H Q=>∃F x y,Zs F H/\Rep K F x v/\Rep K F y w/\HM.CN x=Aa/\HM.CN y=Aa/\Q (.bl (if wd then !PyData.eqv x y else BN x y)) H
theorem JJ{d:PyData}(h:HM.CN d=Aa):d.canLay0=Aa/\d.depth<=60:=by unfold HM.CN at h;simpa using h
theorem cu{k:Nat}(hr:AA k X.A):uc X (BL .Eq) (Uw X.K Ab):=by intro su s σ H v w u u' Q I r1 r2 ⟨F,x,y,sub,q1,q2,p1,p2,q⟩;obtain⟨a1,a2⟩:=JJ p1;obtain⟨b1,b2⟩:=JJ p2;obtain⟨as,h1⟩:=q1.reads I sub a1 u r1;obtain⟨bs,h2⟩:=q2.reads I sub b1 u' r2;refine PySem.SeqAt.eqOverData X.prog X.w X.A X.xe s u u' x y as bs _ h1 h2 a1 b1 ?_ ⟨.bl _,H,I,rfl,q⟩;have:=hr.un;have:min x.depth y.depth<=60:=Bp (T2 _ _) a2;omega
theorem cK{k:Nat}(hr:AA k X.A):uc X (BL .NotEq) (Uw X.K Aa):=by intro su s σ H v w u u' Q I r1 r2 ⟨F,x,y,sub,q1,q2,p1,p2,q⟩;obtain⟨a1,a2⟩:=JJ p1;obtain⟨b1,b2⟩:=JJ p2;obtain⟨as,h1⟩:=q1.reads I sub a1 u r1;obtain⟨bs,h2⟩:=q2.reads I sub b1 u' r2;refine PySem.SeqAt.neOverData X.prog X.w X.A X.xe s u u' x y as bs _ h1 h2 a1 b1 ?_ ⟨.bl _,H,I,rfl,q⟩;have:=hr.un;have:min x.depth y.depth<=60:=Bp (T2 _ _) a2;omega
theorem wH{k:Nat}(hr:AA k X.A):D0 X .Eq HM.tK:=by
 refine⟨⟨_,cu hr,λF H x y z v w Q s e r1 r2 k=>?_⟩,by decide,by decide⟩;unfold HM.tK at e;split at e
 .rename_i hp
  cases e;rw[Bn]at hp;exact⟨F,x,y,s,r1,r2,hp.1,hp.2,k _ (.bl _)⟩
 .cases e
theorem cNe{k:Nat}(hr:AA k X.A):D0 X .NotEq HM.wF:=by
 refine⟨⟨_,cK hr,λF H x y z v w Q s e r1 r2 k=>?_⟩,by decide,by decide⟩;unfold HM.wF at e;split at e
 .rename_i hp
  cases e;rw[Bn]at hp;exact⟨F,x,y,s,r1,r2,hp.1,hp.2,k _ (.bl _)⟩
 .cases e
theorem Lq{v:V}{fp:List Addr}(sub:Zs F H)(r:Az K F H q v fp)(h:HM.Cz q=Z ds):∃a vs,v=.ref a/\(tQ K H a vs\/uH K H a vs)/\Zu K F ds vs:=by
 cases r with
 |pl r =>
  cases r with
  |tup h1 h2 h3=>cases h;exact⟨_,_,rfl,.inr (.of (sub _ _ h1)),h2,h3⟩
  | @tupk a x h1=>cases h;exact⟨_,_,rfl,.inr (.inr h1),.one (.str x)⟩
  |lst h1 h2 h3=>cases h;exact⟨_,_,rfl,.inl (sub.seq h1),h2,h3⟩
  |dct _ _ _ _=>cases h
  |fn _=>cases h
  |non=>cases h
  |bl _=>cases h
  |int _=>cases h
  |str _=>cases h
 |ol h1 r=>cases h;exact⟨_,_,rfl,.inl (.of h1),r⟩
 |ok _ _ _=>cases h
 |hd _ _ _ _=>cases h
 |hf _=>cases h
 |ot _ _ _=>cases h
 |otl _ _ _ _=>cases h
theorem eu{vs:List V}{i:Int}{d:PyData}(r:Zu K F ds vs)(h:HM.vw ds i=Z d):∃v,yK vs i=Z v/\Rep K F d v:=by
 unfold HM.vw at h;split at h
 .rename_i j hj
  obtain⟨v,h1,h2⟩:=r.get h;refine⟨v,?_,h2⟩;unfold yK;rw[<-r.1,show wz ds.length i=Z j from hj];exact h1
 .cases h
theorem Z1{fb':HM.BF}(ha:XB X a fb')(hb:XE X b fb)(hs:V5 b:=by intro _ _;rfl):XE X (.Subscript a b pos) (HM.sS fb' fb):=by
 intro r d h;unfold HM.sS at h;split at h
 .rename_i x hx
  split at h
  .rename_i ds sY
   split at h
   .rename_i i hi
    refine PE.imp (cR dY (ha r x hx) (hb r _ hi) hs) λσ H Q ⟨F0,H0,F,at_,k⟩=>?_;refine⟨F0,H0,F,at_,λv F1 H1 x1 ⟨fp,r1⟩=>⟨F0,H0,F1,at_.grow x1,λw F2 H2 x2 r2=>?_⟩⟩;obtain⟨l,vs,e1,hq,rs⟩:=Lq x2.sub (r1.mono x2.ff λ_ _ _ z=>x2.hh _ _ z) sY;obtain⟨u,hu,ru⟩:=eu rs h;have tO:=k u F2 H2 (x1.trans x2) ru;rcases hq with hq|hq
    .exact .inl ⟨l,vs,i,u,e1,r2.int_inv,hq,hu,tO⟩
    .exact .inr (.inl ⟨l,vs,i,u,e1,r2.int_inv,hq,hu,tO⟩)
   .cases h
  .cases h
 .cases h
def PAB(X:Cx)(e:Expr)(r:HM.Env)(q:HM.B):Prop:=PA X [e] λσ H Q=>vA X.K r σ H λF0 H0 F=>∀v fp F' H',sR F H F' H'->Az X.K F' H' q v fp->Q [v] H'
theorem Fq{f:HM.BF}{r:HM.Env}(ha:XB X e f)(h:f r=Z q)(hs:Ag [e] X.env=[(Ab,eval e X.env)]:=by rfl):PAB X e r q:=by refine PA.imp (BM (ha r q h) CL hs) λσ H Q ⟨F0,H0,F,at_,k⟩=>?_;exact⟨F0,H0,F,at_,λv F1 H1 x1 ⟨fp,r1⟩=>k v fp F1 H1 x1 r1⟩
end
end
theorem cC:CD "all"=Z (.builtin "all"):=by decide +kernel
theorem U6:CD "len"=Z (.builtin "len"):=by decide +kernel
theorem dw:CD "max"=Z (.builtin "max"):=by decide +kernel
theorem Vv:CD "min"=Z (.builtin "min"):=by decide +kernel
theorem NI:CD "sorted"=Z (.builtin "sorted"):=by decide +kernel
theorem om:CD "isinstance"=Z (.builtin "isinstance"):=by decide +kernel
theorem Qn:CD "int"=Z (.type "int"):=by decide +kernel
theorem ig:CD "bool"=Z (.type "bool"):=by decide +kernel
theorem VZ:CD "list"=Z (.type "list"):=by decide +kernel
theorem Q7:CD "tuple"=Z (.type "tuple"):=by decide +kernel
theorem Vc:CD "set"=Z (.type "set"):=by decide +kernel
section
variable{X:Cx}{a b c e:Expr}{fa fb fc:HM.EF}{pos p:Pos}{f:HM.BF}
theorem Cf(hm:X.mg "len"=Z_)(ha:XB X a f)(hg:Gl X "len":=by rfl)(hs:Ag [a] X.env=[(Ab,eval a X.env)]:=by rfl):XE X (.Call (.Name "len" p) [a] [] pos) (HM.Z5 f):=by
 intro r d h;unfold HM.Z5 at h;split at h
 .rename_i x hx
  obtain⟨n,h1,h2⟩:=Ak.mp h;subst h2;refine PE.imp (FE (mr.or jO) hg hm U6 (Fq ha hx hs) (he:=hs)) λσ H Q ⟨F0,H0,F,at_,k⟩=>?_;refine⟨F0,H0,F,at_,λv fp F1 H1 x1 r1=>?_⟩;have tO:=λ(m:Nat) (e:m=n)=>k (.int m) F1 H1 x1 (by rw[e];exact .int _);cases r1 with
  |pl q =>
   cases q with
   |tup q1 q2 q3=>cases h1;exact .inl ⟨_,_,rfl,.inr (.of (x1.sub _ _ q1)),tO _ q2.symm⟩
   |tupk q1=>cases h1;exact .inl ⟨_,_,rfl,.inr (.inr q1),tO _ rfl⟩
   |lst q1 q2 q3=>cases h1;exact .inl ⟨_,_,rfl,.inl (x1.sub.seq q1),tO _ q2.symm⟩
   |dct _ _ _ _=>cases h1
   |fn _=>cases h1
   |non=>cases h1
   |bl _=>cases h1
   |int _=>cases h1
   |str _=>cases h1
  |ol q1 q2=>cases h1;exact .inl ⟨_,_,rfl,.inl (.of q1),tO _ q2.1.symm⟩
  |ok q1 q2 q3=>cases h1;refine .inr ⟨_,_,rfl,q1,tO _ ?_⟩;have:=congrArg BC q2;rw[Ad,Ad]at this;exact this.symm
  |ot _ _ _=>cases h1
  |otl _ _ _ _=>cases h1
  |hd _ _ _ _=>cases h1
  |hf _=>cases h1
 .cases h
theorem C9(hm:X.mg "tuple"=Z_)(ha:XB X a f)(hg:Gl X "tuple":=by rfl)(hs:Ag [a] X.env=[(Ab,eval a X.env)]:=by rfl):XE X (.Call (.Name "tuple" p) [a] [] pos) (HM.De f):=by
 intro r d h;unfold HM.De at h;split at h
 .rename_i x hx
  obtain⟨ds,h1,h2⟩:=Ak.mp h;subst h2;refine PE.imp (G8 oa hg hm Q7 (Fq ha hx hs) (he:=hs)) λσ H Q ⟨F0,H0,F,at_,k⟩=>?_;refine⟨F0,H0,F,at_,λv fp F1 H1 x1 r1=>?_⟩;have new:∀(vs:List V),Zu X.K F1 ds vs->∀l,H1 l=Z_->Q (.ref l) (upd H1 l (.tup vs)):=λvs q l hl=>k _ (upd F1 l (.tup vs)) _ (x1.lay hl) (.tup ZJ q.1 (q.mono (Zs.upd' (x1.sub.free hl))).2);cases r1 with
  |pl q =>
   cases q with
   |tup q1 q2 q3=>cases h1;exact⟨_,_,rfl,.inr ⟨.of (x1.sub _ _ q1),k _ F1 H1 x1 (.tup q1 q2 q3)⟩⟩
   |tupk q1=>cases h1;exact⟨_,_,rfl,.inr ⟨.inr q1,k _ F1 H1 x1 (.tupk q1)⟩⟩
   |lst q1 q2 q3=>cases h1;exact⟨_,_,rfl,.inl ⟨x1.sub.seq q1,new _ ⟨q2,q3⟩⟩⟩
   |dct _ _ _ _=>cases h1
   |fn _=>cases h1
   |non=>cases h1
   |bl _=>cases h1
   |int _=>cases h1
   |str _=>cases h1
  |ol q1 q2=>cases h1;exact⟨_,_,rfl,.inl ⟨.of q1,new _ q2⟩⟩
  |ok _ _ _=>cases h1
  |ot _ _ _=>cases h1
  |otl _ _ _ _=>cases h1
  |hd _ _ _ _=>cases h1
  |hf _=>cases h1
 .cases h
theorem Hg{K:Af}{F H F1 H1:Hp}{ds:z5}{vs:List V}{l:Addr}{P:V->Hp->Hp->Prop}(x1:sR F H F1 H1)(q:Zu K F1 ds vs)(hl:H1 l=Z_)(k:∀v F' H',sR F H F' H'->(∃fp,Az K F' H' (.ol ds) v fp/\fp.Nodup/\∀a∈fp,F' a=Z_/\H a=Z_)->P v F' H'):P (.ref l) F1 (upd H1 l (.lst vs)):=by
 refine k _ F1 _ (x1.lay' hl) ⟨[l],.ol ZJ q,by simp,λa ha=>?_⟩;have:a=l:=by simpa using ha
 subst this;exact⟨x1.sub.free hl,x1.hh.free hl⟩
theorem ND(hm:X.mg "list"=Z_)(ha:XB X a f)(hg:Gl X "list":=by rfl)(hs:Ag [a] X.env=[(Ab,eval a X.env)]:=by rfl):XF X (.Call (.Name "list" p) [a] [] pos) (HM.NY f):=by
 intro r d h;unfold HM.NY at h;split at h
 .rename_i x hx
  obtain⟨ds,h1,h2⟩:=Ak.mp h;subst h2;refine PE.imp (G8 m9 hg hm VZ (Fq ha hx hs) (he:=hs)) λσ H Q ⟨F0,H0,F,at_,k⟩=>?_;refine⟨F0,H0,F,at_,λv fp F1 H1 x1 r1=>?_⟩;obtain⟨l,vs,e1,hq,rs⟩:=Lq x1.sub r1 h1;subst e1;exact⟨l,vs,rfl,hq,λl' hl'=>Hg (P:=λv _ H'=>Q v H') x1 rs hl' k⟩
 .cases h
theorem Yo{K:Af}{F:Hp}:∀{ds:z5} {vs:List V} {bs:List Bool},HM.D8 ds=Z bs->Zu K F ds vs->vs=bs.map V.bl
 |[],vs,bs,h,r=>by cases h;exact r.nil_inv
 |d::ds,vs,bs,h,r=>by
  obtain⟨v,us,rfl,r1,r2⟩:=r.cons_inv;cases d with
  |bool b=>obtain⟨bs',h1,h2⟩:=Ak.mp h;subst h2;rw[r1.bool_inv,Yo h1 r2];rfl
  |none=>cases h
  |int _=>cases h
  |str _=>cases h
  |list _=>cases h
  |tuple _=>cases h
  |dict _=>cases h
end
section
variable{p2:Pos}
section
variable{X:Cx}{a b c e:Expr}{fa fb fc:HM.EF}{pos p:Pos}{f:HM.BF}
theorem me:∀{bs:List Bool} {us:z8},sC (bs.map V.bl) us->LSm.BoolsAre us bs:=by
 intro bs
 induction bs with
 |nil=>intro us r;rw[F6]at r;cases r;exact .nil
 |cons b bs ih =>
  intro us r;rw[Ai]at r;cases r with
  |cons r1 r2=>cases r1;exact .cons b (ih r2)
theorem dM{A:Around}{s:Shared}{l:Addr}{vs:z8}{bs:List Bool}{dflt:Bool}(hh:A.handled=Z_)(hl:s.heap.IsList l vs.toArray)(hb:LSm.BoolsAre vs bs){E:z4}{Q:z4}{prog:Program}{w:World}(h:∀it fp wr (P:Nat->Value->Prop) St,Walks prog w A it fp wr vs.length P St->St 0 (s.heap.push {cls:=.type "list_iterator",data:=.fields #[.ref l,rawInt 0]})->TruthOf prog w A P (λi=>(bs[i]?).getD dflt)->wr=[s.heap.objs.size]->it=s.heap.objs.size->Q (.ref it) {s with heap:=s.heap.push {cls:=.type "list_iterator",data:=.fields #[.ref l,rawInt 0]}}):wpAny (model prog w) A (pyIter (.ref l)) Q E s:=by
 have tf:l<s.heap.objs.size:=let ⟨_,e,_⟩:=hl;Ar e
 refine Pb hl ?_;have W:=OO (prog:=prog) (w:=w) hh s.heap.objs.size l (Aw tf) vs.toArray;rw[AR]at W;refine h _ _ _ _ _ W ⟨⟨_,A1 _ rfl,rfl,rfl⟩,hl.push _⟩ (λi v s' Q' E' hP hQ=>?_) rfl rfl;obtain⟨b,e,rfl⟩:=hb.get i v (by simpa using hP);simp only[e,Option.getD_some]at hQ;exact E8 hQ
theorem jK(hc:X.calm=Aa):A7 X (.builtin "all") (λxs H Q=>∃(p:Addr) (bs:List Bool),xs=[.ref p]/\tQ X.K H p (bs.map V.bl)/\Q (.bl (bs.all id)) H):=by intro su s σ H xs us Q I r h;obtain⟨p,bs,rfl,hq,q⟩:=h;obtain⟨u,rfl,rx⟩:=vals1 r;cases rx;obtain⟨sy,rv,pl,hz⟩:=I.list hq;have hb:=me rv;refine call_all_walk (dM (dflt:=Aa) (A:=X.A.in1) (I.ok.hd hc) pl.isList hb λit fp wr P St W st tr e1 e2=>?_);subst e1 e2;refine⟨_,_,_,_,P,St,_,rfl,W,st,tr,λh' tk hk=>?_⟩;rw[hb.length,LSm.range_all bs];exact⟨.bl _,H,I.kept (LSm.kept_iter hk),rfl,q⟩
theorem JG{K:Af}{F H:Hp}{q:HM.B}{v:V}{fp:List Addr}{ds:z5}(sub:Zs F H)(r:Az K F H q v fp)(h:HM.KW q=Z ds):∃a vs,v=.ref a/\tQ K H a vs/\Zu K F ds vs:=by
 cases r with
 |pl r =>
  cases r with
  |lst h1 h2 h3=>cases h;exact⟨_,_,rfl,sub.seq h1,h2,h3⟩
  |dct _ _ _ _=>cases h
  |fn _=>cases h
  |tupk _=>cases h
  |tup _ _ _=>cases h
  |non=>cases h
  |bl _=>cases h
  |int _=>cases h
  |str _=>cases h
 |ol h1 r=>cases h;exact⟨_,_,rfl,.of h1,r⟩
 |ok _ _ _=>cases h
 |hd _ _ _ _=>cases h
 |hf _=>cases h
 |ot _ _ _=>cases h
 |otl _ _ _ _=>cases h
theorem GY(hm:X.mg "all"=Z_)(hc:X.calm=Aa)(ha:XB X a f)(hg:Gl X "all":=by rfl)(hs:Ag [a] X.env=[(Ab,eval a X.env)]:=by rfl):XE X (.Call (.Name "all" p) [a] [] pos) (HM.Cu f):=by
 intro r d h;unfold HM.Cu at h;split at h
 .rename_i x hx
  split at h
  .rename_i ds sY
   obtain⟨bs,h1,h2⟩:=Ak.mp h;subst h2;refine PE.imp (FE (jK hc) hg hm cC (Fq ha hx hs) (he:=hs)) λσ H Q ⟨F0,H0,F,at_,k⟩=>?_;refine⟨F0,H0,F,at_,λv fp F1 H1 x1 r1=>?_⟩;obtain⟨l,vs,e1,hq,rs⟩:=JG x1.sub r1 sY;rw[Yo h1 rs]at hq;exact⟨l,bs,by rw[e1],hq,k _ F1 H1 x1 (.bl _)⟩
  .cases h
 .cases h
theorem M6{v8:String}{t:HM.Ty}(hr:∀(s:Shared) (d:PyData) (v:V) (u:Value) (Q:z4),RelV v u->(∃(K:Af) (F:Hp),Rep K F d v)->(∀es,d≠.dict es)->(∀x,v=.ref x->∃o,s.heap.get? x=Z o/\((∃ds,d=.tuple ds/\o.cls=.type "tuple")\/(∃ds,d=.list ds/\o.cls=.type "list")\/∃ds,d=.dict ds/\o.cls=.type "dict")) ->
   (∀tk,Q (.bool (HM.pq t d)) {s with toks:=tk})->wpAny (model X.prog X.w) X.A (call (.builtin "isinstance") [u,.type v8]) Q X.xe s):
  A7 X (.builtin "isinstance") (λxs H Q=>∃F d v,xs=[v,.ty v8]/\Zs F H/\Rep X.K F d v/\(∀es,d≠.dict es)/\Q (.bl (HM.pq t d)) H):=by
 intro su s σ H xs us Q I r h;obtain⟨F,d,v,rfl,sub,rp,nd,q⟩:=h;obtain⟨u,u',rfl,ru,ru'⟩:=vals2 r;cases(show u'=GB v8 from ru');refine hr s d v u _ ru ⟨_,_,rp⟩ nd (λx e=>?_) λtk=>⟨.bl _,H,I.tok tk,rfl,q⟩;subst e;cases rp with
 |tup h1 h2 h3=>obtain⟨sy,rv,⟨o,ho,hc,n,hd⟩,_⟩:=I.tuple (.of (sub _ _ h1));exact⟨o,ho,.inl ⟨_,rfl,hc⟩⟩
 |tupk h1=>obtain⟨sy,rv,⟨o,ho,hc,n,hd⟩,_⟩:=I.tuple (.inr h1);exact⟨o,ho,.inl ⟨_,rfl,hc⟩⟩
 |lst h1 h2 h3=>obtain⟨sy,rv,⟨o,n,ho,hc,_,hd⟩,_⟩:=I.list (sub.seq h1);exact⟨o,ho,.inr (.inl ⟨_,rfl,hc⟩)⟩
 | @dct a es kvs vvs h1 _ _ _=>obtain⟨_,_,xs,_,o,es,ep,q1,q2,_⟩:=(show Z6 X.prog X.w H s.heap x (.dT vvs) from KU I.hok (Lo h1 sub));exact⟨o,q1,.inr (.inr ⟨_,rfl,q2.1⟩)⟩
 |fn _=>exact absurd rfl (nd _)
theorem gp:A7 X (.builtin "isinstance") (λxs H Q=>∃F d v,xs=[v,.ty "bool"]/\Zs F H/\Rep X.K F d v/\(∀es,d≠.dict es)/\Q (.bl (HM.pq .bool d)) H):=by
 refine M6 λs d v u Q ru ⟨K,F,rp⟩ nd ho k=>?_;cases rp with
 |non=>cases ru;exact IsiPair.NoneType_bool (k _)
 |bl _=>cases ru;exact IsiPair.bool_bool (k _)
 |int _=>obtain⟨t,rfl⟩:=ru;exact IsiPair.int_bool (k _)
 |str _=>obtain⟨t,rfl⟩:=ru;exact IsiPair.str_bool (k _)
 |tup _ _ _|tupk _ =>
  cases ru;obtain⟨o,h1,⟨_,_,h2⟩|⟨_,e,_⟩|⟨_,e,_⟩⟩:=ho _ rfl
  .exact IsiPair.tuple_bool h1 h2 (k _)
  .cases e
  .cases e
 |lst _ _ _ =>
  cases ru;obtain⟨o,h1,⟨_,e,_⟩|⟨_,_,h2⟩|⟨_,e,_⟩⟩:=ho _ rfl
  .cases e
  .exact IsiPair.list_bool h1 h2 (k _)
  .cases e
 |dct _ _ _ _ =>
  cases ru;obtain⟨o,h1,⟨_,e,_⟩|⟨_,e,_⟩|⟨_,_,h2⟩⟩:=ho _ rfl
  .cases e
  .cases e
  .exact IsiPair.dict_bool h1 h2 (k _)
 |fn _=>exact absurd rfl (nd _)
theorem hZ:A7 X (.builtin "isinstance") (λxs H Q=>∃F d v,xs=[v,.ty "int"]/\Zs F H/\Rep X.K F d v/\(∀es,d≠.dict es)/\Q (.bl (HM.pq .int d)) H):=by
 refine M6 λs d v u Q ru ⟨K,F,rp⟩ nd ho k=>?_;cases rp with
 |non=>cases ru;exact IsiPair.NoneType_int (k _)
 |bl _=>cases ru;exact IsiPair.bool_int (k _)
 |int _=>obtain⟨t,rfl⟩:=ru;exact IsiPair.int_int (k _)
 |str _=>obtain⟨t,rfl⟩:=ru;exact IsiPair.str_int (k _)
 |tup _ _ _|tupk _ =>
  cases ru;obtain⟨o,h1,⟨_,_,h2⟩|⟨_,e,_⟩|⟨_,e,_⟩⟩:=ho _ rfl
  .exact IsiPair.tuple_int h1 h2 (k _)
  .cases e
  .cases e
 |lst _ _ _ =>
  cases ru;obtain⟨o,h1,⟨_,e,_⟩|⟨_,_,h2⟩|⟨_,e,_⟩⟩:=ho _ rfl
  .cases e
  .exact IsiPair.list_int h1 h2 (k _)
  .cases e
 |dct _ _ _ _ =>
  cases ru;obtain⟨o,h1,⟨_,e,_⟩|⟨_,e,_⟩|⟨_,_,h2⟩⟩:=ho _ rfl
  .cases e
  .cases e
  .exact IsiPair.dict_int h1 h2 (k _)
 |fn _=>exact absurd rfl (nd _)
theorem ko:A7 X (.builtin "isinstance") (λxs H Q=>∃F d v,xs=[v,.ty "tuple"]/\Zs F H/\Rep X.K F d v/\(∀es,d≠.dict es)/\Q (.bl (HM.pq .tuple d)) H):=by
 refine M6 λs d v u Q ru ⟨K,F,rp⟩ nd ho k=>?_;cases rp with
 |non=>cases ru;exact IsiPair.NoneType_tuple (k _)
 |bl _=>cases ru;exact IsiPair.bool_tuple (k _)
 |int _=>obtain⟨t,rfl⟩:=ru;exact IsiPair.int_tuple (k _)
 |str _=>obtain⟨t,rfl⟩:=ru;exact IsiPair.str_tuple (k _)
 |tup _ _ _|tupk _ =>
  cases ru;obtain⟨o,h1,⟨_,_,h2⟩|⟨_,e,_⟩|⟨_,e,_⟩⟩:=ho _ rfl
  .exact IsiPair.tuple_tuple h1 h2 (k _)
  .cases e
  .cases e
 |lst _ _ _ =>
  cases ru;obtain⟨o,h1,⟨_,e,_⟩|⟨_,_,h2⟩|⟨_,e,_⟩⟩:=ho _ rfl
  .cases e
  .exact IsiPair.list_tuple h1 h2 (k _)
  .cases e
 |dct _ _ _ _ =>
  cases ru;obtain⟨o,h1,⟨_,e,_⟩|⟨_,e,_⟩|⟨_,_,h2⟩⟩:=ho _ rfl
  .cases e
  .cases e
  .exact IsiPair.dict_tuple h1 h2 (k _)
 |fn _=>exact absurd rfl (nd _)
theorem iR:A7 X (.builtin "isinstance") (λxs H Q=>∃F d v,xs=[v,.ty "list"]/\Zs F H/\Rep X.K F d v/\(∀es,d≠.dict es)/\Q (.bl (HM.pq .list d)) H):=by
 refine M6 λs d v u Q ru ⟨K,F,rp⟩ nd ho k=>?_;cases rp with
 |non=>cases ru;exact IsiPair.NoneType_list (k _)
 |bl _=>cases ru;exact IsiPair.bool_list (k _)
 |int _=>obtain⟨t,rfl⟩:=ru;exact IsiPair.int_list (k _)
 |str _=>obtain⟨t,rfl⟩:=ru;exact IsiPair.str_list (k _)
 |tup _ _ _|tupk _ =>
  cases ru;obtain⟨o,h1,⟨_,_,h2⟩|⟨_,e,_⟩|⟨_,e,_⟩⟩:=ho _ rfl
  .exact IsiPair.tuple_list h1 h2 (k _)
  .cases e
  .cases e
 |lst _ _ _ =>
  cases ru;obtain⟨o,h1,⟨_,e,_⟩|⟨_,_,h2⟩|⟨_,e,_⟩⟩:=ho _ rfl
  .cases e
  .exact IsiPair.list_list h1 h2 (k _)
  .cases e
 |dct _ _ _ _ =>
  cases ru;obtain⟨o,h1,⟨_,e,_⟩|⟨_,e,_⟩|⟨_,_,h2⟩⟩:=ho _ rfl
  .cases e
  .cases e
  .exact IsiPair.dict_list h1 h2 (k _)
 |fn _=>exact absurd rfl (nd _)
theorem M4{v8:Str}{tys:String}{t:HM.Ty}(hR:A7 X (.builtin "isinstance") (λxs H Q=>∃F d v,xs=[v,.ty tys]/\Zs F H/\Rep X.K F d v/\(∀es,d≠.dict es)/\Q (.bl (HM.pq t d)) H))(bt:CD v8=Z (.type tys))(hm:X.mg "isinstance"=Z_)(u9:X.mg v8=Z_)(ha:XE X a fa)(hg:Gl X "isinstance")(vq:Gl X v8)(hn:v8 ≠ "__name__")(hd:(v8==("__debug__":Str))=Ab)(uL:Ag [a,.Name v8 p2] X.env=(Ab,eval a X.env)::Ag [.Name v8 p2] X.env)(uX:Ag [.Name v8 p2] X.env=[(Ab,eval (.Name v8 p2) X.env)]):XE X (.Call (.Name "isinstance" p) [a,.Name v8 p2] [] pos) (HM.Gn fa t):=by
 intro r d h;have key:∃x,fa r=Z x/\(∀es,x≠.dict es)/\d=.bool (HM.pq t x):=by
  unfold HM.Gn at h;split at h
  .cases h
  .rename_i x hn hx
   cases h;exact⟨x,hx,λes z=>hn es (by rw[z]),rfl⟩
  .cases h
 obtain⟨x,h1,nd,h2⟩:=key;subst h2;refine PE.imp (FE hR hg hm om (BM (ha r x h1) (BM (gJ (v:=.ty tys) vq u9 bt rfl hn hd) CL (by rw[uX];rfl)) uL) (he:=uL) (hpl:=by rw[uX];rfl)) λσ H Q ⟨F0,H0,F,at_,k⟩=>?_;exact⟨F0,H0,F,at_,λv F1 H1 x1 r1=>⟨F1,x,v,rfl,x1.sub,r1,nd,k _ F1 H1 x1 (.bl _)⟩⟩
theorem YV(hm:X.mg "isinstance"=Z_)(u9:X.mg "bool"=Z_)(ha:XE X a fa)(hg:Gl X "isinstance":=by rfl)(vq:Gl X "bool":=by rfl)(uL:Ag [a,.Name "bool" p2] X.env=(Ab,eval a X.env)::Ag [.Name "bool" p2] X.env:=by rfl):XE X (.Call (.Name "isinstance" p) [a,.Name "bool" p2] [] pos) (HM.Gn fa .bool):=M4 gp ig hm u9 ha hg vq (by decide) (by decide) uL rfl
theorem YB(hm:X.mg "isinstance"=Z_)(u9:X.mg "int"=Z_)(ha:XE X a fa)(hg:Gl X "isinstance":=by rfl)(vq:Gl X "int":=by rfl)(uL:Ag [a,.Name "int" p2] X.env=(Ab,eval a X.env)::Ag [.Name "int" p2] X.env:=by rfl):XE X (.Call (.Name "isinstance" p) [a,.Name "int" p2] [] pos) (HM.Gn fa .int):=M4 hZ Qn hm u9 ha hg vq (by decide) (by decide) uL rfl
theorem Y6(hm:X.mg "isinstance"=Z_)(u9:X.mg "tuple"=Z_)(ha:XE X a fa)(hg:Gl X "isinstance":=by rfl)(vq:Gl X "tuple":=by rfl)(uL:Ag [a,.Name "tuple" p2] X.env=(Ab,eval a X.env)::Ag [.Name "tuple" p2] X.env:=by rfl):XE X (.Call (.Name "isinstance" p) [a,.Name "tuple" p2] [] pos) (HM.Gn fa .tuple):=M4 ko Q7 hm u9 ha hg vq (by decide) (by decide) uL rfl
theorem mQ(hm:X.mg "isinstance"=Z_)(u9:X.mg "list"=Z_)(ha:XE X a fa)(hg:Gl X "isinstance":=by rfl)(vq:Gl X "list":=by rfl)(uL:Ag [a,.Name "list" p2] X.env=(Ab,eval a X.env)::Ag [.Name "list" p2] X.env:=by rfl):XE X (.Call (.Name "isinstance" p) [a,.Name "list" p2] [] pos) (HM.Gn fa .list):=M4 iR VZ hm u9 ha hg vq (by decide) (by decide) uL rfl
theorem fM(hm:X.mg "max"=Z_)(hc:X.calm=Aa)(ha:XE X a fa)(hb:XE X b fb)(hg:Gl X "max":=by rfl)(uL:Ag [a,b] X.env=(Ab,eval a X.env)::Ag [b] X.env:=by rfl)(uX:Ag [b] X.env=[(Ab,eval b X.env)]:=by rfl):XE X (.Call (.Name "max" p) [a,b] [] pos) (HM.sG HM.dJ fa fb):=by
 intro r d h;obtain⟨x,y,h1,h2,h3⟩:=Lh h;obtain⟨i,j,rfl,rfl,e⟩:=Ls h3;cases e;refine PE.imp (FE (jY hc) hg hm dw (BM (ha r _ h1) (BM (hb r _ h2) CL uX) uL) (he:=uL) (hpl:=by rw[uX];rfl)) λσ H Q ⟨F0,H0,F,at_,k⟩=>?_;exact⟨F0,H0,F,at_,λv F1 H1 x1 r1=>⟨F0,H0,F1,at_.grow x1,λw F2 H2 x2 r2=>⟨i,j,by rw[r1.int_inv,r2.int_inv],k _ F2 H2 (x1.trans x2) (.int _)⟩⟩⟩
theorem fL(hm:X.mg "min"=Z_)(hc:X.calm=Aa)(ha:XE X a fa)(hb:XE X b fb)(hg:Gl X "min":=by rfl)(uL:Ag [a,b] X.env=(Ab,eval a X.env)::Ag [b] X.env:=by rfl)(uX:Ag [b] X.env=[(Ab,eval b X.env)]:=by rfl):XE X (.Call (.Name "min" p) [a,b] [] pos) (HM.sG HM.c5 fa fb):=by
 intro r d h;obtain⟨x,y,h1,h2,h3⟩:=Lh h;obtain⟨i,j,rfl,rfl,e⟩:=Ls h3;cases e;refine PE.imp (FE (jH hc) hg hm Vv (BM (ha r _ h1) (BM (hb r _ h2) CL uX) uL) (he:=uL) (hpl:=by rw[uX];rfl)) λσ H Q ⟨F0,H0,F,at_,k⟩=>?_;exact⟨F0,H0,F,at_,λv F1 H1 x1 r1=>⟨F0,H0,F1,at_.grow x1,λw F2 H2 x2 r2=>⟨i,j,by rw[r1.int_inv,r2.int_inv],k _ F2 H2 (x1.trans x2) (.int _)⟩⟩⟩
theorem kh(hm:X.mg "int"=Z_)(ha:XE X a fa)(hg:Gl X "int":=by rfl)(hs:Ag [a] X.env=[(Ab,eval a X.env)]:=by rfl):XE X (.Call (.Name "int" p) [a] [] pos) (HM.mX fa):=by
 intro r d h;unfold HM.mX at h;split at h
 .rename_i i hi
  cases h;refine PE.imp (G8 XM hg hm Qn (BM (ha r _ hi) CL hs) (he:=hs)) λσ H Q ⟨F0,H0,F,at_,k⟩=>?_;exact⟨F0,H0,F,at_,λv F1 H1 x1 r1=>.inl ⟨i,by rw[r1.int_inv],k _ F1 H1 x1 (.int _)⟩⟩
 .rename_i q hq
  cases h;refine PE.imp (G8 XM hg hm Qn (BM (ha r _ hq) CL hs) (he:=hs)) λσ H Q ⟨F0,H0,F,at_,k⟩=>?_;exact⟨F0,H0,F,at_,λv F1 H1 x1 r1=>.inr ⟨q,by rw[r1.bool_inv],k _ F1 H1 x1 (.int _)⟩⟩
 .cases h
end
end
section
variable{ga:HM.BF}{r:HM.Env}{F F0 H H0:Hp}{σ:L2.St}{ds:z5}{vs:List V}{i:Nat}{p1 p2:Pos}{K:Af}{x:Str}
section
variable{X:Cx}{a b c e:Expr}{fa fb fc:HM.EF}{pos p:Pos}{f:HM.BF}{tg:Expr}
theorem PI.imp{X:Cx}{tg e:Expr}{t u:TI}(h:PI X tg e t)(hi:∀σ H R,u σ H R->t σ H R):PI X tg e u:=λsu s σ H R I q=>h su s σ H R I (hi σ H R q)
theorem gf{l:Expr}{tl:TE}(hl:PE X l tl):PI X tg l (λσ H R=>tl σ H λx H1=>∃a,x=.ref a/\((∃xs,tQ X.K H1 a xs)/\R (Itl X.K a) H1\/(∃xs,uH X.K H1 a xs)/\R (Itt X.K a) H1)):=by
 intro su s σ H R I h;refine sO (hl su s σ H _ I h) λv s1 ⟨x,H1,I1,r1,q1⟩=>?_;obtain⟨a,e,q1⟩:=q1;subst e;cases r1;rcases q1 with⟨⟨xs,hq⟩,q⟩|⟨⟨xs,hq⟩,q⟩
 .obtain⟨sy,rv,p,hz⟩:=I1.list hq
  refine Pb p.isList ⟨s1.heap.objs.size,[s1.heap.objs.size],_,_,H1,rfl,I1.kept (t':=s1.toks) λb o e=>Au _ e,kX a _,⟨_,A1 _ rfl,rfl,rfl⟩,λb hb=>?_,q⟩;obtain rfl:b=s1.heap.objs.size:=by simpa using hb
  exact I1.fpOk (Aj _) (I1.hok.fresh (Aj _))
 .obtain⟨sy,rv,p,hz⟩:=I1.tuple hq
  refine wpAny_pyIter_tuple (show s1.heap.IsTuple a sy.toArray from p) ⟨s1.heap.objs.size,[s1.heap.objs.size],_,_,H1,rfl,I1.kept (t':=s1.toks) λb o e=>Au _ e,lz a _,⟨_,A1 _ rfl,rfl,rfl⟩,λb hb=>?_,q⟩;obtain rfl:b=s1.heap.objs.size:=by simpa using hb
  exact I1.fpOk (Aj _) (I1.hok.fresh (Aj _))
theorem gD{a:Addr}(h:tQ K F a vs)(r:Zu K F ds vs):yl K (Itl K a) ds F:=by intro F' H s1 s2;have hq:tQ K H a vs:=(s1.trans s2).seq h;refine⟨λi d hd=>?_,⟨vs,hq,by rw[r.1];exact Aj _⟩⟩;obtain⟨v,h1,h2⟩:=r.get hd;refine⟨⟨vs,v,hq,h1⟩,λx H' hy=>?_⟩;obtain⟨e,y⟩:=hy;refine⟨e,?_⟩;have:=y vs hq;rw[h1]at this;cases this;exact h2.mono (s1.trans (Fy s2))
theorem jm{a:Addr}(h:uH K F a vs)(r:Zu K F ds vs):yl K (Itt K a) ds F:=by intro F' H s1 s2;have hq:uH K H a vs:=iP h (s1.trans s2);refine⟨λi d hd=>?_,⟨vs,hq,by rw[r.1];exact Aj _⟩⟩;obtain⟨v,h1,h2⟩:=r.get hd;refine⟨⟨vs,v,hq,h1⟩,λx H' hy=>?_⟩;obtain⟨e,y⟩:=hy;refine⟨e,?_⟩;have:=y vs hq;rw[h1]at this;cases this;exact h2.mono (s1.trans (Fy s2))
theorem fV{a:Addr}(h:F a=Z (.tup vs))(r:Zu K F ds vs):yl K (Itt K a) ds F:=by intro F' H s1 s2;have hq:uH K H a vs:=.of (s2 _ _ (s1 _ _ h));refine⟨λi d hd=>?_,⟨vs,hq,by rw[r.1];exact Aj _⟩⟩;obtain⟨v,h1,h2⟩:=r.get hd;refine⟨⟨vs,v,hq,h1⟩,λx H' hy=>?_⟩;obtain⟨e,y⟩:=hy;refine⟨e,?_⟩;have:=y vs hq;rw[h1]at this;cases this;exact h2.mono (s1.trans (Fy s2))
theorem ZK(h:XE X e fa):XI X tg e (HM.Zy (HM.sD fa)):=by
 intro r ds hd;unfold HM.Zy HM.sD at hd;cases hx:fa r with
 |none=>rw[hx]at hd;cases hd
 |some d =>
  rw[hx]at hd;have hd:HM.Cz (.pl d)=Z ds:=hd;refine PI.imp (gf (h r d hx)) λσ H R ⟨F0,H0,F,at_,k⟩=>?_;refine⟨F0,H0,F,at_,λv F1 H1 x1 r1=>?_⟩;cases r1 with
  | @tupk a x h1=>cases hd;exact⟨a,rfl,.inr ⟨⟨_,.inr h1⟩,k _ F1 H1 x1 (jm (.inr h1) (.one (.str x)))⟩⟩
  | @tup a ds' vs h1 h2 h3=>cases hd;exact⟨a,rfl,.inr ⟨⟨vs,.of (x1.sub _ _ h1)⟩,k _ F1 H1 x1 (fV h1 ⟨h2,h3⟩)⟩⟩
  | @lst a ds' vs h1 h2 h3=>cases hd;exact⟨a,rfl,.inl ⟨⟨vs,x1.sub.seq h1⟩,k _ F1 H1 x1 (gD h1 ⟨h2,h3⟩)⟩⟩
  |dct _ _ _ _=>cases hd
  |fn _=>cases hd
  |non=>cases hd
  |bl _=>cases hd
  |int _=>cases hd
  |str _=>cases hd
theorem eE(lo:Int)(n:Nat):yl K (Itr lo n) (HM.JU lo n) F:=by
 intro F' H s1 s2;have hl:(HM.JU lo n).length=n:=by unfold HM.JU;rw[Ad,DC]
 refine⟨λi d hd=>?_,?_⟩
 .have hi:i<n:=by rw[<-hl];exact(Bf.mp hd).1
  unfold HM.JU at hd;rw[AD,Ub hi]at hd;cases hd;exact⟨hi,λx H' ⟨e1,e2⟩=>⟨e1,by rw[e2];exact .int _⟩⟩
 .rw[hl];exact Aj _
theorem VR{j:Int}(h:HM.v9 j=Aa):-1000000<j/\j<1000000:=by unfold HM.v9 at h;rw[IU]at h;omega
theorem EV(hm:X.mg "range"=Z_)(ha:XE X a fa)(hg:Gl X "range":=by rfl)(hs:Ag [a] X.env=[(Ab,eval a X.env)]:=by rfl):XI X tg (.Call (.Name "range" p) [a] [] pos) (HM.CM fa):=by
 intro r ds hd;unfold HM.CM at hd;split at hd
 .rename_i j hj
  split at hd
  .rename_i hok
   cases hd;obtain⟨k1,k2⟩:=VR hok;refine PI.imp (jM hg hm (BM (ha r _ hj) CL hs) hs) λσ H R ⟨F0,H0,F,at_,k⟩=>?_;exact⟨F0,H0,F,at_,λv F1 H1 x1 r1=>⟨j,by rw[r1.int_inv],by omega,by omega,k _ F1 H1 x1 (eE 0 j.toNat)⟩⟩
  .cases hd
 .cases hd
theorem La{gb:HM.BF}(ha:XB X a ga)(hb:XB X b gb):XF X (.BinOp a .Add b pos) (HM.K4 ga gb):=by
 intro r d h;unfold HM.K4 at h;split at h
 .rename_i xs hx
  split at h
  .rename_i ys hy
   split at h
   .rename_i hz
    cases h;refine PE.imp (Qc cW (ha r _ hx) (hb r _ hy)) λσ H Q ⟨F0,H0,F,at_,k⟩=>?_;refine⟨F0,H0,F,at_,λv F1 H1 x1 ⟨fp,r1⟩=>⟨F0,H0,F1,at_.grow x1,λw F2 H2 x2 ⟨fq,r2⟩=>?_⟩⟩;cases r1 with
    |ol h1 q1 =>
     cases r2 with
     |ol h2 q2 =>
      have q1':=q1.mono x2.ff;refine⟨_,_,_,_,rfl,rfl,x2.hh _ _ h1,h2,?_,λl hl=>Hg (P:=λv _ H'=>Q v H') (x1.trans x2) (q1'.append q2) hl k⟩;have e1:=q1.1;have e2:=q2.1;have e3:(1000000:Nat)<=sizeLine:=by decide
      unfold HM.big at hz;omega
   .cases h
  .cases h
 .cases h
theorem fK(ha:XB X a ga)(hb:XE X b fb):XF X (.BinOp a .Mult b pos) (HM.iq ga fb):=by
 intro r d h;unfold HM.iq at h;split at h
 .rename_i xs hx
  split at h
  .rename_i i hy
   split at h
   .rename_i hz
    cases h;rw[Bn,decide_eq_true_eq,decide_eq_true_eq]at hz;refine PE.imp (Qc d6 (ha r _ hx) (hb r _ hy)) λσ H Q ⟨F0,H0,F,at_,k⟩=>?_;refine⟨F0,H0,F,at_,λv F1 H1 x1 ⟨fp,r1⟩=>⟨F0,H0,F1,at_.grow x1,λw F2 H2 x2 r2=>?_⟩⟩;cases r1 with
    |ol h1 q1 =>
     have q1':=q1.mono x2.ff;refine⟨_,i,_,rfl,r2.int_inv,x2.hh _ _ h1,by omega,by omega,?_,λl hl=>Hg (P:=λv _ H'=>Q v H') (x1.trans x2) (q1'.rep i.toNat) hl k⟩;have e1:=q1.1;have e3:(1000*1000:Nat)<=sizeLine:=by decide
     refine Bp (Nat.mul_le_mul (?_:_<=1000) (?_:_<=1000)) e3<;>omega
   .cases h
  .cases h
 .cases h
def XO(X:Cx)(e:Option Expr)(f:Option HM.EF):Prop:=∀r o,HM.Vw f r=Z o->PO X e λσ H Q=>vA X.K r σ H λF0 H0 F=>∀F' H',sR F H F' H'->Q o H'
theorem fT:XO X Z_ Z_:=by intro r o h;cases h;intro su s σ H Q I q;obtain⟨F0,H0,F,at_,k⟩:=q;exact gR su s σ H Q I (k F H at_.refl)
theorem gK(h:XE X e fa):XO X (Z e) (Z fa):=by
 intro r o ho;unfold HM.Vw at ho;split at ho
 .rename_i z;cases z
 .rename_i g z
  cases z;split at ho
  .rename_i i hi
   cases ho;intro su s σ H Q I q;obtain⟨F0,H0,F,at_,k⟩:=q;exact eS (h r _ hi) su s σ H Q I ⟨F0,H0,F,at_,λv F1 H1 x1 r1=>⟨i,r1.int_inv,k F1 H1 x1⟩⟩
  .cases ho
theorem fJ{lo hi:Option Expr}{fl fh:Option HM.EF}(ha:XB X a ga)(hl:XO X lo fl)(hh:XO X hi fh):XF X (.Subscript a (.Slice lo hi Z_ p2) pos) (HM.iz ga fl fh):=by
 intro r d h;unfold HM.iz at h;split at h
 .rename_i x hx
  split at h
  .rename_i xs vi
   split at h
   .rename_i l hl'
    split at h
    .rename_i u hu'
     cases h;refine PE.imp (iu gY (ha r _ hx) (hl r _ hl') (hh r _ hu')) λσ H Q ⟨F0,H0,F,at_,k⟩=>?_;refine⟨F0,H0,F,at_,λv F1 H1 x1 ⟨fp,r1⟩=>⟨F0,H0,F1,at_.grow x1,λF2 H2 x2=>⟨F0,H0,F2,(at_.grow x1).grow x2,λF3 H3 x3=>?_⟩⟩⟩;have x23:=x2.trans x3;obtain⟨l',vs,e1,hq,rs⟩:=JG x3.sub (r1.mono x23.ff λ_ _ _ z=>x23.hh _ _ z) vi;refine⟨l',vs,e1,hq,λl2 vI=>Hg (P:=λv _ H'=>Q v H') (x1.trans x23) ?_ vI k⟩;unfold HM.cutD KP;rw[<-rs.1];exact(rs.drop _).take _
    .cases h
   .cases h
  .cases h
 .cases h
theorem Bh.val{fp:Nat->List Addr}(e:Bh K F0 H0 F H r σ fp)(h:r[i]?=Z (Z (.ol ds))):∃l vs,σ[i]?=Z (Z (.ref l))/\H l=Z (.lst vs)/\Zu K F ds vs/\fp i=[l]:=by
 obtain⟨v,h1,h2⟩:=e.at_ i _ h;generalize hf:fp i=q at h2;cases h2 with
 |ol k1 k2=>exact⟨_,_,h1,k1,k2,rfl⟩
theorem At.chgList{es:z5}(e:At K F0 H0 F H r σ)(h:r[i]?=Z (Z (.ol ds))):∃l vs,σ[i]?=Z (Z (.ref l))/\H l=Z (.lst vs)/\Zu K F ds vs/\∀us,Zu K F es us->At K F0 H0 F (upd H l (.lst us)) (r.set i (Z (.ol es))) σ:=by
 obtain⟨fp,e⟩:=e;obtain⟨l,vs,h1,h2,h3,h4⟩:=e.val h;refine⟨l,vs,h1,h2,h3,λus q=>e.change (fp':=[l]) h1 (.ol ZJ q) (by simp) (λa ha=>.inl (by rw[h4];exact ha)) λa o z hn=>?_⟩;rw[ZE (λz=>hn (by rw[h4,z];simp))];exact z
theorem IC(i:Nat){p3:Pos}(ha:XE X a fa)(hN:X.N[i]?=Z x:=by rfl)(hv:vd X.env.scope x:=by first|exact AB rfl|exact Ap (AB rfl)|exact Ap (Ap rfl))(hd:(x==("__debug__":Str))=Ab:=by decide)(tF:(x==("__classdict__":Str))=Ab:=by decide)(tZ:Hu (.Name x p1) "append" X.env (eval (.Name x p1) X.env)=eval (.Name x p1) X.env:=by rfl)(uf:((backTo p3 (Ag [a] X.env)).all (λx=>!x.1)&&(Kk p3 (Kl [] X.env)).all (λx=>x.1.isSome)&&decide (([a]:List Expr).length+([]:List Keyword).length+(if([]:List Keyword).isEmpty then 0 else 1)<30))=Aa:=by rfl)(tX:(p2.endLine==p3.line)=Aa:=by rfl)(hs:Ag [a] X.env=[(Ab,eval a X.env)]:=by rfl):XS X (.Expr (.Call (.Attribute (.Name x p1) "append" p2) [a] [] p3) pos) (HM.Io i fa):=by
 intro r o h;unfold HM.Io at h;split at h
 .rename_i ds sY
  split at h
  .rename_i d hd'
   split at h
   .rename_i hz
    cases h;refine PS.imp (Lg (MS MB Uj Ui NH (Dt hN hv hd tF) (BM (ha r d hd') CL hs) tZ uf tX hs rfl)) λE σ H ⟨F0,H0,F,at_,k⟩=>?_;obtain⟨l,vs,e1,e2,e3,_⟩:=at_.chgList (es:=ds) sY;refine⟨.ref l,e1,.inl ⟨rfl,_,tQ.of e2⟩,F0,H0,F,at_,λv F1 H1 x1 r1=>?_⟩;have t5:=at_.grow x1;obtain⟨l',vs',f1,f2,f3,f4⟩:=t5.chgList (es:=ds++[d]) sY;rw[e1]at f1;cases f1;refine⟨_,vs',v,rfl,rfl,f2,?_,k _ F1 _ (f4 _ (f3.append (.one r1)))⟩;have e4:=f3.1;have e5:(1000000:Nat)<=sizeLine:=by decide
    unfold HM.big at hz;omega
   .cases h
  .cases h
 .cases h
theorem hU(i:Nat)(hk:XE X b fb)(ha:XE X a fa)(hN:X.N[i]?=Z x:=by rfl)(hv:vd X.env.scope x:=by first|exact AB rfl|exact Ap (AB rfl)|exact Ap (Ap rfl))(hd:(x==("__debug__":Str))=Ab:=by decide)(tF:(x==("__classdict__":Str))=Ab:=by decide)
  (tT:∀v,assign (.Subscript (.Name x p1) b p2) X.env v=(do
   let ov <-holding [v] (eval (.Name x p1) X.env)
   let iv <-holding [v,ov] (eval b X.env)
   standAt p2
   holding [v,ov,iv] (setItem ov iv v)
   release [v,ov,iv] []):=by intro _;rfl)
  (hs:swapsWithSole [.Subscript (.Name x p1) b p2] a pos.line X.env=pure Ab:=by rfl) (hw:swappedStores [.Subscript (.Name x p1) b p2] a X.env=pure Z_:=by rfl)
  (h1:(E1 [.Subscript (.Name x p1) b p2] X.env).map (·.2)=[assign (.Subscript (.Name x p1) b p2) X.env]:=by rfl):XS X (.Assign [.Subscript (.Name x p1) b p2] a pos) (HM.lB i fb fa):=by
 intro r o h;unfold HM.lB at h;split at h
 .rename_i d hd'
  split at h
  .rename_i ds sY
   split at h
   .rename_i n hn
    split at h
    .rename_i j hj
     cases h;refine PS.imp (cZ (ha r d hd') (dR (Dt hN hv hd tF) (hk r _ hn) xi tT) hs hw h1) λE σ H ⟨F0,H0,F,at_,k⟩=>?_;refine⟨F0,H0,F,at_,λv F1 H1 x1 r1=>?_⟩;have t5:=at_.grow x1;obtain⟨l,vs,e1,e2,e3,_⟩:=t5.chgList (es:=ds) sY;refine⟨.ref l,e1,F0,H0,F1,t5,λw F2 H2 x2 r2=>?_⟩;obtain⟨l',vs',f1,f2,f3,f4⟩:=(t5.grow x2).chgList (es:=ds.set j d) sY;rw[e1]at f1;cases f1;refine⟨_,vs',n,j,rfl,r2.int_inv,f2,?_,k _ F2 _ (f4 _ (f3.set (r1.mono x2.ff) j))⟩;rw[<-f3.1];exact hj
    .cases h
   .cases h
  .cases h
 .cases h
end
end
section
variable{K:Af}{F:Hp}{κ:Type}[DecidableEq κ]
def AU(K:Af)(F:Hp)(kvs:List (κ×PyData))(vvs:List (κ×V)):Prop:=kvs.map (·.1)=vvs.map (·.1)/\Zu K F (kvs.map (·.2)) (vvs.map (·.2))
theorem AU.nil:AU K F ([]:List (κ×PyData)) []:=⟨rfl,.nil⟩
theorem AU.cons{k:κ}{d:PyData}{v:V}{kvs:List (κ×PyData)}{vvs:List (κ×V)}(r:Rep K F d v)(q:AU K F kvs vvs):AU K F ((k,d)::kvs) ((k,v)::vvs) :=
 ⟨by rw[Ai,Ai,q.1],by rw[Ai,Ai];exact .cons r q.2⟩
theorem AU.inv{kvs:List (κ×PyData)}{vvs:List (κ×V)}(q:AU K F kvs vvs):(kvs=[]/\vvs=[])\/∃k d v kvs' vvs',kvs=(k,d)::kvs'/\vvs=(k,v)::vvs'/\Rep K F d v/\AU K F kvs' vvs':=by
 cases kvs with
 |nil =>
  cases vvs with
  |nil=>exact .inl ⟨rfl,rfl⟩
  |cons p r=>exact absurd q.1 (by simp)
 |cons p kvs' =>
  cases vvs with
  |nil=>exact absurd q.1 (by simp)
  |cons p' vvs' =>
   obtain⟨k,d⟩:=p;obtain⟨k',v⟩:=p';obtain⟨q1,q2⟩:=q;rw[Ai,Ai]at q1 q2;injection q1 with e1 e2
   have e1:k=k':=e1;subst e1;obtain⟨v',us,e3,r1,r2⟩:=q2.cons_inv;injection e3 with e3 e4
   refine .inr ⟨k,d,v,kvs',vvs',rfl,rfl,?_,e2,?_⟩
   .rw[show v=v' from e3];exact r1
   .rw[e4];exact r2
theorem AU.len{kvs:List (κ×PyData)}{vvs:List (κ×V)}(q:AU K F kvs vvs):BC kvs=vvs.length:=by
 have:=congrArg BC q.1
 rwa [Ad,Ad]at this
theorem AU.any{kvs:List (κ×PyData)}{vvs:List (κ×V)}(k:κ)(q:AU K F kvs vvs):(kvs.any λp=>decide (p.1=k))=vvs.any λp=>decide (p.1=k):=by
 have e:∀{β:Type} (l:List (κ×β)),(l.any λp=>decide (p.1=k))=(l.map (·.1)).any λx=>decide (x=k):=λl=>by rw[List.any_map];rfl
 rw[e,e,q.1]
theorem AU.repl{d:PyData}{v:V}(k:κ)(r:Rep K F d v):∀{kvs:List (κ×PyData)} {vvs:List (κ×V)},AU K F kvs vvs->AU K F (kvs.map λp=>if p.1=k then(p.1,d)else p) (vvs.map λp=>if p.1=k then(p.1,v)else p)
 |[],vvs,q=>by
  rcases q.inv with⟨_,e⟩|⟨_,_,_,_,_,e,_⟩
  .subst e;exact .nil
  .cases e
 |p::kvs,vvs,q=>by
  rcases q.inv with⟨e,_⟩|⟨k',d',v',kvs',vvs',e1,e2,r1,r2⟩
  .cases e
  .cases e1
   subst e2;have ih:=AU.repl k r r2;rw[Ai,Ai]
   by_cases h:k'=k
   .rw[if_pos h,if_pos h];exact .cons r ih
   .rw[if_neg h,if_neg h];exact .cons r1 ih
theorem AU.snoc{kvs:List (κ×PyData)}{vvs:List (κ×V)}{k:κ}{d:PyData}{v:V}(q:AU K F kvs vvs)(r:Rep K F d v):AU K F (kvs++[(k,d)]) (vvs++[(k,v)]) :=
 ⟨by rw[BB,BB,q.1];rfl,by rw[BB,BB];exact q.2.append (.one r)⟩
theorem AU.put{kvs:List (κ×PyData)}{vvs:List (κ×V)}{d:PyData}{v:V}(q:AU K F kvs vvs)(k:κ)(r:Rep K F d v):AU K F (HM.tj kvs k d) (tJ vvs k v):=by
 unfold HM.tj tJ;rw[q.any k]
 by_cases h:(vvs.any λp=>decide (p.1=k))=Aa
 .rw[if_pos h,if_pos h];exact q.repl k r
 .rw[if_neg h,if_neg h];exact q.snoc r
theorem AU.look{k:κ}:∀{kvs:List (κ×PyData)} {vvs:List (κ×V)},AU K F kvs vvs->(∀d,HM.Zk kvs k=Z d->∃v,AW vvs k=Z v/\Rep K F d v)/\(HM.Zk kvs k=Z_->AW vvs k=Z_)
 |[],vvs,q=>by
  rcases q.inv with⟨_,e⟩|⟨_,_,_,_,_,e,_⟩
  .subst e;exact⟨λd h=>(by cases h),λ_=>rfl⟩
  .cases e
 |p::kvs,vvs,q=>by
  rcases q.inv with⟨e,_⟩|⟨k',d',v',kvs',vvs',e1,e2,r1,r2⟩
  .cases e
  .cases e1
   subst e2;obtain⟨i1,i2⟩:=AU.look (k:=k) r2
   by_cases h:k'=k
   .have e3:HM.Zk ((k',d')::kvs) k=Z d':=by simp[HM.Zk,Di,h]
    rw[e3,Ip (p:=(k',v')) h];exact⟨λd hd=>(by cases hd;exact⟨v',rfl,r1⟩),λhd=>by cases hd⟩
   .have e3:HM.Zk ((k',d')::kvs) k=HM.Zk kvs k:=by simp[HM.Zk,Di,h]
    rw[e3,Iu (p:=(k',v')) h];exact⟨i1,i2⟩
theorem AU.some_iff{k:κ}{kvs:List (κ×PyData)}{vvs:List (κ×V)}(q:AU K F kvs vvs):(AW vvs k).isSome=(HM.Zk kvs k).isSome:=by
 obtain⟨i1,i2⟩:=q.look (k:=k);cases h:HM.Zk kvs k with
 |none=>rw[i2 h];rfl
 |some d=>obtain⟨v,h1,_⟩:=i1 d h;rw[h1];rfl
end
section
variable{K:Af}{F:Hp}
theorem Lx{d:PyData}{k:sL}{v:V}(h:HM.JB d=Z k)(r:Rep K F d v):v=kV k:=by cases r<;>first|(cases h;rfl)|cases h
theorem Xy:∀{ds:z5} {ks:List sL} {vs:List V},HM.NJ ds=Z ks->Zu K F ds vs->vs=ks.map kV
 |[],ks,vs,h,r=>by cases h;exact r.nil_inv
 |d::ds,ks,vs,h,r=>by
  obtain⟨v,us,rfl,r1,r2⟩:=r.cons_inv;unfold HM.NJ at h;split at h
  .rename_i k hk
   obtain⟨ks',h1,h2⟩:=Ak.mp h;subst h2;rw[Lx hk r1,Xy h1 r2];rfl
  .cases h
theorem VX:∀{ds:z5} {ks:List sL},HM.M0 ds=Z ks->HM.NJ ds=Z ks
 |[],ks,h=>h
 |d::ds,ks,h=>by
  unfold HM.M0 at h;split at h
  .cases ‹_=[]›
  .rename_i i r e
   injection e with e1 e2
   subst e1 e2;obtain⟨ks',h1,h2⟩:=Ak.mp h;subst h2;show(match HM.JB (.int i)with|some k=>(HM.NJ ds).map (k::·)|none=>Z_)=_;rw[VX h1];rfl
  .cases h
theorem Em{d:PyData}{ks:List sL}{v:V}(h:HM.Be d=Z ks)(r:Rep K F d v):∃b,v=.ref b/\F b=Z (.tup (ks.map kV)):=by
 cases r with
 |tup h1 h2 h3=>refine⟨_,rfl,?_⟩;rw[<-Xy (VX h) ⟨h2,h3⟩];exact h1
 |tupk _=>cases h
 |lst _ _ _=>cases h
 |dct _ _ _ _=>cases h
 |fn _=>cases h
 |non=>cases h
 |bl _=>cases h
 |int _=>cases h
 |str _=>cases h
end
section
variable{X:Cx}{a b c e:Expr}{fa fb fc:HM.EF}{pos p:Pos}{f:HM.BF}
theorem fresh_one{K:Af}{F H F1 H1:Hp}{o:HO}{q:HM.B}{l:Addr}{P:V->Hp->Hp->Prop}(x1:sR F H F1 H1)(hl:H1 l=Z_)(hq:Az K F1 (upd H1 l o) q (.ref l) [l])(k:∀v F' H',sR F H F' H'->(∃fp,Az K F' H' q v fp/\fp.Nodup/\∀a∈fp,F' a=Z_/\H a=Z_)->P v F' H'):P (.ref l) F1 (upd H1 l o):=by
 refine k _ F1 _ (x1.lay' hl) ⟨[l],hq,by simp,λa ha=>?_⟩;obtain rfl:a=l:=by simpa using ha
 exact⟨x1.sub.free hl,x1.hh.free hl⟩
theorem cw:XF X (.Dict [] [] pos) HM.fDk:=by intro r d h;cases h;exact PE.imp jj λσ H Q ⟨F0,H0,F,at_,k⟩ l hl=>fresh_one (P:=λv _ H'=>Q v H') at_.refl hl (.ok ZJ rfl .nil) k
theorem K2:XF X (.Dict [] [] pos) HM.zf:=by intro r d h;cases h;exact PE.imp WM λσ H Q ⟨F0,H0,F,at_,k⟩ l hl=>fresh_one (P:=λv _ H'=>Q v H') at_.refl hl (.ot ZJ rfl .nil) k
theorem Vi:XF X (.Dict [] [] pos) HM.UQ:=by intro r d h;cases h;exact PE.imp WM λσ H Q ⟨F0,H0,F,at_,k⟩ l hl=>fresh_one (P:=λv _ H'=>Q v H') at_.refl hl (.otl ZJ rfl rfl λi ds l' h=>by simp at h) k
theorem kg(ha:XE X a fa)(hb:XE X b fb):XF X (.Dict [Z a] [b] pos) (HM.m5 fa fb):=by
 intro r d h;unfold HM.m5 at h;split at h
 .rename_i x hx
  split at h
  .rename_i y hy
   split at h
   .rename_i k hk
    cases h;refine PE.imp (eF (jl (ha r x hx) (hb r y hy) fY) rfl rfl (by simp) (by simp)) λσ H Q ⟨F0,H0,F,at_,kk⟩ l hl=>?_;have hFl:F l=Z_:=at_.sub.free hl;have x0:sR F H F (upd H l (.dK [])):=at_.refl.lay' hl;refine⟨F0,H0,F,at_.grow x0,λv F1 H1 x1 r1=>⟨F0,H0,F1,(at_.grow x0).grow x1,λw F2 H2 x2 r2=>?_⟩⟩;have vL:=x1.trans x2;have vI:H2 l=Z (.dK []):=vL.hh l _ ZJ;have hF2:F2 l=Z_:=by
     cases q:F2 l with
     |none=>rfl
     |some o =>
      rcases vL.new l o q with z|z
      .rw[hFl]at z;cases z
      .exact(z.no ZJ λ_ q=>by cases q).elim
    refine⟨vI,[(k,w)],?_,by simp,?_⟩
    .rw[Lx hk r1]
     rfl
    have xe:sR F H F2 (upd H2 l (.dK (Jz [] [(k,w)]))):=by
     refine⟨vL.ff,λc o z=>?_,λc o z=>?_,λc o z=>?_,λt=>(vL.tab (t.same (HL hl))).keep λa u z hu=>?_,vL.nts⟩
     .have hc:c≠l:=Dy z hl
      exact(vL.hh c o (by rw[ZE hc];exact z)).cong (ZE hc)
     .rw[ZE (λe=>by rw[e,hF2]at z;cases z)]
      exact vL.sub c o z
     .rcases vL.new c o z with q|q
      .exact .inl q
      .exact .inr (q.back (.of (Zs.upd' hl)))
     .rw[ZE (λe=>by subst e;rw[vI]at z;cases z;cases hu)];exact z
    refine kk _ F2 _ xe ⟨[l],.ok ZJ rfl (.one r2),by simp,λc hc=>?_⟩;obtain rfl:c=l:=by simpa using hc
    exact⟨hF2,hl⟩
   .cases h
  .cases h
 .cases h
end
section
variable{q:HM.B}{r:HM.Env}{F H:Hp}{fp:List Addr}{i:Nat}{p1:Pos}{K:Af}{x:Str}
theorem At.chgOne{F0 H0:Hp}{σ:L2.St}{l:Addr}(e:At K F0 H0 F H r σ)(h:r[i]?=Z (Z q))(hv:σ[i]?=Z (Z (.ref l)))(hone:∀v fp,Az K F H q v fp->∃a,v=.ref a/\fp=[a]):∀o q',Az K F (upd H l o) q' (.ref l) [l]->At K F0 H0 F (upd H l o) (r.set i (Z q')) σ:=by
 intro o q' hq;obtain⟨fp,e⟩:=e;obtain⟨v,h1,h2⟩:=e.at_ i _ h;obtain⟨a,e1,e2⟩:=hone v _ h2;subst e1;rw[hv]at h1;cases h1;refine e.change (fp':=[l]) hv hq (by simp) (λc hc=>.inl (by rw[e2];exact hc)) λc o' z hn=>?_;rw[ZE (λz=>hn (by rw[e2,z];simp))];exact z
section
variable{X:Cx}{a b c e:Expr}{fa fb fc:HM.EF}{pos p:Pos}{f:HM.BF}
theorem Ii{n:Nat}(h:n<HM.big):n<sizeLine:=by
 have e5:(1000000:Nat)<=sizeLine:=by decide
 unfold HM.big at h;omega
theorem H8(hu:X.A.units+1<cLine)(i:Nat){p2:Pos}(hk:XE X b fb)(ha:XE X a fa)(hN:X.N[i]?=Z x:=by rfl)(hv:vd X.env.scope x:=by first|exact AB rfl|exact Ap (AB rfl)|exact Ap (Ap rfl))(hd:(x==("__debug__":Str))=Ab:=by decide)(tF:(x==("__classdict__":Str))=Ab:=by decide)(hs:Et a (Z (.Subscript (.Name x p1) b p2)) pos.line X.env=pure Ab:=by rfl):XS X (.Assign [.Subscript (.Name x p1) b p2] a pos) (HM.GU i fb fa):=by
 intro r o h;unfold HM.GU at h;split at h
 .rename_i d hd'
  split at h
  .rename_i y hy
   split at h
   .rename_i kvs hb
    split at h
    .rename_i k hk'
     split at h
     .rename_i hz
      cases h;refine PS.imp (QR hu (Dt hN hv hd tF) (hk r y hy) (ha r d hd') hs) λE σ H ⟨F0,H0,F,at_,kk⟩=>?_;refine⟨F0,H0,F,at_,λv F1 H1 x1 r1=>?_⟩;have t5:=at_.grow x1;obtain⟨u,fp,e1,e2⟩:=t5.any hb;refine⟨u,e1,F0,H0,F1,t5,λw F2 H2 x2 r2=>?_⟩;have uo:=t5.grow x2;cases e2 with
      | @ok l _ vvs e2 e3 e4=>have T:AU X.K F2 kvs vvs:=⟨e3,e4.mono x2.ff⟩;have T':=T.put k (r1.mono x2.ff);rw[Lx hk' r2];have hH:H2 l=Z (.dK vvs):=x2.hh _ _ e2;refine⟨l,_,rfl,Gd.k hH (by rw[<-T.len];exact Ii hz),kk _ F2 _ (uo.chgOne hb e1 (λv fp q=>by cases q;exact⟨_,rfl,rfl⟩) _ _ (.ok ZJ T'.1 T'.2))⟩
     .cases h
    .cases h
   .rename_i kvs hb
    split at h
    .rename_i k hk'
     split at h
     .rename_i hz
      cases h;refine PS.imp (QR hu (Dt hN hv hd tF) (hk r y hy) (ha r d hd') hs) λE σ H ⟨F0,H0,F,at_,kk⟩=>?_;refine⟨F0,H0,F,at_,λv F1 H1 x1 r1=>?_⟩;have t5:=at_.grow x1;obtain⟨u,fp,e1,e2⟩:=t5.any hb;refine⟨u,e1,F0,H0,F1,t5,λw F2 H2 x2 r2=>?_⟩;have uo:=t5.grow x2;cases e2 with
      | @ot l _ vvs e2 e3 e4=>have T:AU X.K F2 kvs vvs:=⟨e3,e4.mono x2.ff⟩;have T':=T.put k (r1.mono x2.ff);obtain⟨bb,rfl,uG⟩:=Em hk' r2;have hH:H2 l=Z (.dT vvs):=x2.hh _ _ e2;refine⟨l,_,rfl,Gd.t hH (x2.sub _ _ uG) (by rw[<-T.len];exact Ii hz),kk _ F2 _ (uo.chgOne hb e1 (λv fp q=>by cases q;exact⟨_,rfl,rfl⟩) _ _ (.ot ZJ T'.1 T'.2))⟩
     .cases h
    .cases h
   .cases h
  .cases h
 .cases h
theorem QX{K:Af}{F H:Hp}(k:List sL):∀(kvs:List (List sL×z5)) (vvs:List (List sL×V)) (ls:List Addr),kvs.map (·.1)=vvs.map (·.1)->vvs.map (·.2)=ls.map V.ref ->(∀(i:Nat) (ds:z5) (l:Addr),(kvs.map (·.2))[i]?=Z ds->ls[i]?=Z l->∃vs,H l=Z (.lst vs)/\Zu K F ds vs) ->(∀ds,HM.Zk kvs k=Z ds->∃l' vs,AW vvs k=Z (.ref l')/\l'∈ls/\H l'=Z (.lst vs)/\Zu K F ds vs)/\(HM.Zk kvs k=Z_->AW vvs k=Z_)
 |[],[],_,_,_,_=>⟨(λds h=>by cases h),λ_=>rfl⟩
 |[],_::_,_,hk,_,_=>by simp at hk
 |_::_,[],_,hk,_,_=>by simp at hk
 |_::_,_::_,[],_,hv,_=>by simp at hv
 |(k1,ds1)::kvs,(k2,v2)::vvs,l1::ls,hk,hv,r=>by
  rw[Ai,Ai]at hk hv;injection hk with e1 e2
  injection hv with e3 e4
  have e1:k1=k2:=e1;have e3:v2=.ref l1:=e3;subst e1 e3;obtain⟨i1,i2⟩:=QX k kvs vvs ls e2 e4 λi ds l h1 h2=>r (i+1) ds l (by simpa using h1) (by simpa using h2)
  by_cases hkk:k1=k
  .have e5:HM.Zk ((k1,ds1)::kvs) k=Z ds1:=by simp[HM.Zk,Di,hkk]
   rw[e5,Ip (p:=(k1,V.ref l1)) hkk];obtain⟨vs,q1,q2⟩:=r 0 ds1 l1 rfl rfl;exact⟨(λds h=>by cases h;exact⟨l1,vs,rfl,by simp,q1,q2⟩),(λh=>by cases h)⟩
  .have e5:HM.Zk ((k1,ds1)::kvs) k=HM.Zk kvs k:=by simp[HM.Zk,Di,hkk]
   rw[e5,Iu (p:=(k1,V.ref l1)) hkk];exact⟨λds h=>let ⟨l',vs,a1,a2,a3⟩:=i1 ds h;⟨l',vs,a1,Ao _ a2,a3⟩,i2⟩
theorem Xe{kvs:List (List sL×z5)}{v:V}(q:Az K F H (.otl kvs) v fp):∃l vvs ls,v=.ref l/\fp=l::ls/\H l=Z (.dT vvs)/\kvs.map (·.1)=vvs.map (·.1)/\vvs.map (·.2)=ls.map V.ref /\ ∀k,(∀ds,HM.Zk kvs k=Z ds->∃l' vs,AW vvs k=Z (.ref l')/\l'∈ls/\H l'=Z (.lst vs)/\Zu K F ds vs)/\(HM.Zk kvs k=Z_->AW vvs k=Z_):=by
 cases q with
 | @otl l _ vvs ls h hk hv r=>exact⟨l,vvs,ls,rfl,rfl,h,hk,hv,λk=>QX k kvs vvs ls hk hv r⟩
theorem iF{v w:V}{x:PyData}{c:Bool}(sub:Zs F H)(rq:Az K F H q v fp)(rx:Rep K F x w)(h:HM.hasB q x=Z c):∃l o,v=.ref l/\BZ H l w o/\o.isSome=c:=by
 cases rq with
 |pl _=>cases h
 |hd _ _ _ _=>cases h
 |hf _=>cases h
 |ol _ _=>cases h
 | @ok l kvs vvs h1 h2 h3=>obtain⟨k,e1,e2⟩:=Ak.mp h;rw[Lx e1 rx];exact⟨l,_,rfl,BZ.k h1,by rw[AU.some_iff (K:=K) (F:=F) ⟨h2,h3⟩,<-e2]⟩
 | @ot l kvs vvs h1 h2 h3=>obtain⟨k,e1,e2⟩:=Ak.mp h;obtain⟨bb,rfl,uG⟩:=Em e1 rx;exact⟨l,_,rfl,BZ.t h1 (sub _ _ uG),by rw[AU.some_iff (K:=K) (F:=F) ⟨h2,h3⟩,<-e2]⟩
 | @otl l kvs vvs ls h1 h2 h3 h4 =>
  obtain⟨k,e1,e2⟩:=Ak.mp h;obtain⟨bb,rfl,uG⟩:=Em e1 rx;refine⟨l,_,rfl,BZ.t h1 (sub _ _ uG),?_⟩;obtain⟨l2,zV,ls2,e3,e4,e5,_,_,hl⟩:=Xe (Az.otl h1 h2 h3 h4);cases e3;rw[h1]at e5;cases e5;obtain⟨i1,i2⟩:=hl k;rw[<-e2];cases hq:HM.Zk kvs k with
  |none=>rw[i2 hq];rfl
  |some ds=>obtain⟨_,_,h5,_⟩:=i1 ds hq;rw[h5];rfl
theorem lE{d:PyData}(h:HM.oC fa f r=Z d):∃x q c,fa r=Z x/\f r=Z q/\HM.hasB q x=Z c/\d=.bool (!c):=by
 unfold HM.oC at h;split at h
 .split at h
  .obtain⟨c,h1,h2⟩:=Ak.mp h
   exact⟨_,_,c,by assumption,by assumption,h1,h2.symm⟩
  .cases h
 .cases h
theorem kf(hu:X.A.units+1<cLine)(ha:XE X a fa)(hb:XB X b f)(hm:CY .NotIn b=Ab:=by rfl):XT X (.Compare a [.NotIn] [b] pos) (HM.tV (HM.oC fa f)):=by intro r d h;obtain⟨x,q,c,h1,h2,h3,e⟩:=lE (Gj h);cases e;refine PT.imp (Qh (XH hu (ha r x h1) (hb r q h2)) hm) λσ H Q ⟨F0,H0,F,at_,k⟩=>?_;refine⟨F0,H0,F,at_,λv F1 H1 x1 r1=>⟨F0,H0,F1,at_.grow x1,λw F2 H2 x2 ⟨fp,r2⟩=>?_⟩⟩;obtain⟨l,o,e1,e2,e3⟩:=iF x2.sub r2 (r1.mono x2.ff) h3;exact⟨l,o,e1,e2,_,rfl,by rw[e3];exact k F2 H2 (x1.trans x2)⟩
theorem jn(h:HM.Xd i fa r=Z q):∃x bb,fa r=Z x/\r[i]?=Z (Z bb) /\ ((∃kvs k d,bb=.ok kvs/\HM.JB x=Z k/\HM.Zk kvs k=Z d/\q=.pl d)\/(∃kvs k d,bb=.ot kvs/\HM.Be x=Z k/\HM.Zk kvs k=Z d/\q=.pl d)\/∃kvs k ds,bb=.otl kvs/\HM.Be x=Z k/\HM.Zk kvs k=Z ds/\q=.ol ds):=by
 unfold HM.Xd at h;split at h
 .rename_i x hx
  split at h
  .rename_i kvs hb
   split at h
   .rename_i k hk
    obtain⟨d,h1,h2⟩:=Ak.mp h;exact⟨x,_,hx,hb,.inl ⟨kvs,k,d,rfl,hk,h1,h2.symm⟩⟩
   .cases h
  .rename_i kvs hb
   split at h
   .rename_i k hk
    obtain⟨d,h1,h2⟩:=Ak.mp h;exact⟨x,_,hx,hb,.inr (.inl ⟨kvs,k,d,rfl,hk,h1,h2.symm⟩)⟩
   .cases h
  .rename_i kvs hb
   split at h
   .rename_i k hk
    obtain⟨d,h1,h2⟩:=Ak.mp h;exact⟨x,_,hx,hb,.inr (.inr ⟨kvs,k,d,rfl,hk,h1,h2.symm⟩)⟩
   .cases h
  .cases h
 .cases h
theorem Vh(hu:X.A.units+1<cLine)(i:Nat)(hk:XE X b fb)(hN:X.N[i]?=Z x:=by rfl)(hv:vd X.env.scope x:=by first|exact AB rfl|exact Ap (AB rfl)|exact Ap (Ap rfl))(hd:(x==("__debug__":Str))=Ab:=by decide)(tF:(x==("__classdict__":Str))=Ab:=by decide)(hs:KH b:=by intro _ _;rfl):XB X (.Subscript (.Name x p1) b pos) (HM.Xd i fb):=by
 intro r q h;obtain⟨y,bb,h1,h2,h3⟩:=jn h;refine PE.imp (QV hu (Dt hN hv hd tF) (hk r y h1) hs) λσ H Q ⟨F0,H0,F,at_,kk⟩=>?_;obtain⟨u,fp,e1,e2⟩:=at_.any h2;refine⟨u,e1,F0,H0,F,at_,λw F2 H2 x2 r2=>?_⟩;have e2':=e2.mono x2.ff λ_ _ _ z=>x2.hh _ _ z;rcases h3 with⟨kvs,k,d,rfl,hk',hl,rfl⟩|⟨kvs,k,d,rfl,hk',hl,rfl⟩|⟨kvs,k,ds,rfl,hk',hl,rfl⟩
 .cases e2' with
  | @ok l _ vvs g1 g2 g3=>obtain⟨v,q1,q2⟩:=(AU.look (k:=k) (K:=X.K) (F:=F2) ⟨g2,g3⟩).1 d hl;rw[Lx hk' r2];exact⟨l,v,rfl,by rw[<-q1];exact BZ.k g1,kk v F2 H2 x2 ⟨[],.pl q2⟩⟩
 .cases e2' with
  | @ot l _ vvs g1 g2 g3=>obtain⟨v,q1,q2⟩:=(AU.look (k:=k) (K:=X.K) (F:=F2) ⟨g2,g3⟩).1 d hl;obtain⟨bb',rfl,uG⟩:=Em hk' r2;exact⟨l,v,rfl,by rw[<-q1];exact BZ.t g1 (x2.sub _ _ uG),kk v F2 H2 x2 ⟨[],.pl q2⟩⟩
 .obtain⟨l,vvs,ls,rfl,_,g1,_,_,tI⟩:=Xe e2'
  obtain⟨l',vs,q1,_,q2,q3⟩:=(tI k).1 ds hl;obtain⟨bb',rfl,uG⟩:=Em hk' r2;exact⟨l,_,rfl,by rw[<-q1];exact BZ.t g1 (x2.sub _ _ uG),kk _ F2 H2 x2 ⟨[l'],.ol q2 q3⟩⟩
end
end
section
variable{p:Addr}{env:Env}{r:HM.Env}{F F0 H H0:Hp}{σ:L2.St}{K:Af}{scope:Scope}
abbrev No:Value->Shared->Prop:=λ_ _=>False
abbrev VA(ui:List Expr)(env:Env):Sem Bool :=
 forIn ui Aa λc r=>if r=Aa then do let ok <-isTrue c env (eval c env);pure (Pk ok)else pure (Pk r)
theorem jT{prog:Program}{w:World}{A:Around}{R:Result->Shared->Prop}{s:Shared}{uB ux iter:Expr}{ui:List Expr}{pos:Pos}{it acc:Value}(J:Nat->Shared->Prop)
  (vT:∀n s,J n s->wpAny (model prog w) A (pyNext it) (λr s1=>match r with
   |none=>R (.ok .next) s1
   |some v=>wpAny (model prog w) A (Pl ux it v) (λ_ s2=>wpAny (model prog w) A (assign ux env v) (λ_ s3=>wpAny (model prog w) A (VA ui env) (λok s4=>if ok=Aa then wpAny (model prog w) A (eval uB env) (λx s5=>wpAny (model prog w) A (call (.builtin "list.append") [acc,x]) (λ_ s6=>∃m,m<n/\J m s6) No s5) No s4 else ∃m,m<n/\J m s4) No s3) No s2) No s1) No s)
  (n:Nat)(h:J n s):codeAny (model prog w) A (.compLoop (.ListComp uB [⟨ux,iter,ui,0⟩] scope pos) 0 it acc env) R s:=by
 refine codeAny_loop rfl J (λn s hI=>?_) n h;show wpAny _ A ((compTurn (.ListComp uB [⟨ux,iter,ui,0⟩] scope pos) 0 it acc env).onRaise (λx=>do noteFrame x env;theTreesLotGoes x)) _ _ s;refine wpAny_noted ?_;rw[compTurn_list];refine Ac (wpAny_standAt (Ac (CQ (vT n s hI) (λr s1 h1=>?_) λ_ _ z=>z.elim)));cases r with
 |none=>exact Ae h1
 |some v =>
  refine Ac (CQ h1 (λ_ s2 h2=>Ac (CQ h2 (λ_ s3 h3=>Ac (CQ h3 (λok s4 h4=>?_) λ_ _ z=>z.elim)) λ_ _ z=>z.elim)) λ_ _ z=>z.elim);cases ok with
  |false=>exact Ae ⟨rfl,h4⟩
  |true=>refine Ac (Ac (CQ h4 (λx s5 h5=>?_) λ_ _ z=>z.elim));exact Ac (CQ h5 (λ_ s6 h6=>Ae (Ae ⟨rfl,h6⟩)) λ_ _ z=>z.elim)
def Z0(X:Cx)(N:z9)(scope:Scope)(cl:List (Str×Addr))(C:Addr)(s₀:Shared)(H₀:Hp)(ex:List Addr):Cx where
 prog:=X.prog
 w:=X.w
 K:=X.K
 mg:=X.mg
 base:=X.base
 A:=X.A
 N:=N
 s₀:=s₀
 H₀:=H₀
 env:=compEnvC scope cl C X.env
 outer:=X.stack
 stack:=X.stack
 ex:=ex
 fn:=λ_=>Ab
 calm:=Aa
 pn:=[]
 xe:=λ_ _=>False
theorem RJ{env:Env}:∀(names:List (Str×NameKind)) (cs:List (Str×Addr)),(∀y∈names,y.2=.free->∃c,env.cells.lookup y.1=Z c)->(∀x c,cs.lookup x=Z c->env.cells.lookup x=Z c) ->∃cl,(forIn names cs λ(x:Str×NameKind) r=>(match x with|(name,kind)=>if kind==.free then do let c <-cellOf env name;pure (Pk ((name,c)::r))else pure (Pk r):Sem (ForInStep (List (Str×Addr)))))=pure cl /\ (∀x c,cl.lookup x=Z c->env.cells.lookup x=Z c)/\(∀x,(cs.lookup x).isSome=Aa->(cl.lookup x).isSome=Aa)/\∀y∈names,y.2=.free->(cl.lookup y.1).isSome=Aa
 |[],cs,_,h2=>⟨cs,rfl,h2,λ_ h=>h,λy hy=>by simp at hy⟩
 |(n,k)::r,cs,h1,h2=>by
  rw[List.forIn_cons]
  by_cases hk:(k==Hr)=Aa
  .obtain⟨c,hc⟩:=h1 (n,k) (An ..) (by simpa using hk)
   have ec:cellOf env n=pure c:=by unfold cellOf;rw[hc]
   obtain⟨cl,e1,e2,e3,e4⟩:=RJ r ((n,c)::cs) (λy hy=>h1 y (Ao _ hy)) (λx d hx=>by
    rw[HD]at hx;split at hx
    .rename_i hb
     have:x=n:=by simpa using hb
     cases hx;rw[this];exact hc
    .exact h2 x d hx)
   refine⟨cl,?_,e2,λx hx=>e3 x ?_,λy hy hf=>?_⟩
   .simp only[hk,if_true,ec,pure_bind]
    exact e1
   .rw[HD]
    split
    .rfl
    .exact hx
   .rcases As.mp hy with e|hy
    .subst e
     exact e3 n (by rw[HD];simp)
    .exact e4 y hy hf
  .obtain⟨cl,e1,e2,e3,e4⟩:=RJ r cs (λy hy=>h1 y (Ao _ hy)) h2
   refine⟨cl,?_,e2,e3,λy hy hf=>?_⟩
   .simp only[hk,if_false,pure_bind,B9]
    exact e1
   .rcases As.mp hy with e|hy
    .subst e
     exact absurd (by simpa using hf) hk
    .exact e4 y hy hf
theorem Sw(h:∀y∈scope.names,y.2=.free->∃c,env.cells.lookup y.1=Z c):∃cl,closureFor scope env=pure cl/\(∀x c,cl.lookup x=Z c->env.cells.lookup x=Z c)/\∀y∈scope.names,y.2=.free->(cl.lookup y.1).isSome=Aa:=by
 obtain⟨cl,e1,e2,_,e4⟩:=RJ (env:=env) scope.names [] h (λx c hx=>by simp at hx);refine⟨cl,?_,e2,e4⟩;unfold closureFor;exact(congrArg (λm:Sem (List (Str×Addr))=>m >>= λcs=>pure cs) e1).trans (pure_bind cl λcs=>pure cs)
theorem sR.chg{F' H':Hp}(x:sR F H F' H')(o:HO)(h1:H p=Z_)(h2:F' p=Z_)(h3:∀u,H' p=Z u->Jr u=Aa):sR F H F' (upd H' p o) :=
 ⟨x.ff,λb q z=>by
  have hb:b≠p:=Dy z h1;have y:=x.hh b q z;unfold DJ at y ⊢;rw[ZE hb];exact y,λb q z=>by rw[ZE (Dy z h2)];exact x.sub b q z,x.new,λt=>(x.tab t).keep λa u z hu=>by
   have ha:a≠p:=λe=>by subst e;exact U2 (h3 u z) hu
   rw[ZE ha];exact z,x.nts⟩
theorem At.push{d:PyData}{v:V}(e:At K F0 H0 F H r σ)(q:Rep K F d v):At K F0 H0 F H (Z (.pl d)::r) (Z v::σ):=by
 obtain⟨fp,e⟩:=e;refine⟨λi=>match i with|0=>[]|i+1=>fp i,e.ext,by rw[Av,Av,e.len],λi b h=>?_,λi h=>?_,λi a h=>?_,λi=>?_,λi j a hij h=>?_,e.tb,e.nt⟩
 .cases i with
  |zero=>rw[PL]at h;cases h;exact⟨v,rfl,.pl q⟩
  |succ i=>rw[EB]at h;obtain⟨u,h1,h2⟩:=e.at_ i b h;exact⟨u,by rw[EB];exact h1,h2⟩
 .cases i with
  |zero=>rfl
  |succ i=>exact e.emp i λb z=>h b (by rw[EB];exact z)
 .cases i with
  |zero=>simp at h
  |succ i=>exact e.own i a h
 .cases i with
  |zero=>exact Ff
  |succ i=>exact e.nd i
 .cases i with
  |zero=>simp at h
  |succ i =>
   cases j with
   |zero=>simp
   |succ j=>exact e.dis i j a (by omega) h
theorem At.chgNew(o:HO){Hs Fs:Hp}(e:At K F0 H0 F H r σ)(es:At K F0 H0 Fs Hs r σ)(hs:Bd Hs H)(h1:Hs p=Z_)(h2:F p=Z_)(h3:∀u,H p=Z u->Jr u=Aa):At K F0 H0 F (upd H p o) r σ:=by
 obtain⟨fp,e⟩:=e;obtain⟨fq,es⟩:=es;have hp:∀i,¬p∈fp i:=λi hm=>by
  obtain⟨b,hb⟩:=e.bound hm;obtain⟨v,q1,q2⟩:=e.at_ i b hb;obtain⟨v',q3,q4⟩:=es.at_ i b hb;rw[q1]at q3;cases q3;generalize fp i=f1 at q2 hm;generalize fq i=f2 at q4;cases q2 with
  |pl _=>simp at hm
  |hd _ _ _ _=>simp at hm
  |hf _=>simp at hm
  |ol k _=>cases q4 with|ol k' _=>simp at hm;subst hm;rw[h1]at k';cases k'
  |ok k _ _=>cases q4 with|ok k' _ _=>simp at hm;subst hm;rw[h1]at k';cases k'
  |ot k _ _=>cases q4 with|ot k' _ _=>simp at hm;subst hm;rw[h1]at k';cases k'
  |otl k _ v1 _ =>
   cases q4 with
   |otl k' hk' v2 r2' =>
    have eo:=hs.back k' k λ_ z=>by cases z
    cases eo;have v2':=v2;rw[v1]at v2;rcases As.mp hm with z2|z2
    .subst z2;rw[h1]at k';cases k'
    .have:V.ref p∈GC V.ref _:=Al.mpr ⟨p,z2,rfl⟩
     rw[v2]at this;obtain⟨a',m1,m2⟩:=Al.mp this;injection m2 with m2
     subst m2;obtain⟨o,ho⟩:=Az.there (Az.otl k' hk' v2' r2') (Ao _ m1);rw[h1]at ho;cases ho
 have hH0:H0 p=Z_:=es.ext.hh.free h1;refine⟨fp,e.ext.chg o hH0 h2 h3,e.len,λi b h=>?_,e.emp,e.own,e.nd,e.dis,e.tb,e.nt⟩;obtain⟨v,q1,q2⟩:=e.at_ i b h;refine⟨v,q1,q2.mono (Zs.refl F) λa ha o' z=>?_⟩;have tM:a≠p:=λe=>hp i (by rw[<-e];exact ha);exact .of (by rw[ZE tM];exact z)
end
section
variable{Y:Cx}{H H1:Hp}{σ:L2.St}{su:z7}{fp:List Addr}{s s2:Shared}
structure D5(X:Cx)(N:z9)(scope:Scope)(fr:z9):Prop where
 kind:scope.kind=.function
 cell:∀y∈scope.names,y.2≠.cell
 names:∀y∈scope.names,y.2=.local->scope.names.lookup y.1=Z .local
 loc:∀x∈fr,scope.names.lookup x=Z .local
 first:∀(i:Nat) (x:Str),fr[i]?=Z x->N[i]?=Z x
 nd:N.Nodup
 len:BC N=X.N.length+BC fr
 cap:∀y∈scope.names,y.2=.free->X.env.kindOf y.1=Z .cell\/X.env.kindOf y.1=Z .free
 same:∀(i:Nat) (y:Str),N[i+BC fr]?=Z y->scope.names.lookup y=Z .free->X.N[i]?=Z y
 vis:∀(i:Nat) (y:Str),N[i+BC fr]?=Z y->vd scope y->scope.names.lookup y=Z .free
def wD(vn:PyData->Option z5)(c:HM.TF)(e:HM.EF)(r:HM.Env):z5->Option z5
 |[]=>Z []
 |x::xs=>match vn x with
  |some ys=>match c (ys.map (λd=>Z (HM.B.pl d))++r)with
   |some Aa=>match e (ys.map (λd=>Z (HM.B.pl d))++r)with
    |some y=>(wD vn c e r xs).map (y::·)
    |none=>Z_
   |some Ab=>wD vn c e r xs
   |none=>Z_
  |none=>Z_
def GX(vn:PyData->Option z5)(i:HM.IF)(c:HM.TF)(e:HM.EF):HM.BF:=λr=>match i r with
 |some xs=>if xs.length<HM.big then(wD vn c e r xs).map λys=>HM.B.ol ys else Z_
 |none=>Z_
def K9(Y:Cx)(m:Nat)(tg:Expr)(vn:PyData->Option z5):Prop:=∀(su:z7) (s:Shared) (σ:L2.St) (sv:List (Option V)) (H F:Hp) (d:PyData) (ys:z5) (xv:V) (u:Value),BC sv=m->Inv Y su (sv++σ) H s->RelV xv u->Zs F H->Rep Y.K F d xv->vn d=Z ys ->
 wpAny (model Y.prog Y.w) Y.A (assign tg Y.env u) (λ_ s'=>∃vs:List V,BC vs=m/\Inv Y su (vs.map Z++σ) H s'/\Zu Y.K F ys vs) Y.xe s
theorem At.pushes{K:Af}{F0 H0 F H:Hp}{r:HM.Env}{σ:L2.St}:∀{ds:z5} {vs:List V},At K F0 H0 F H r σ->Zu K F ds vs->At K F0 H0 F H (ds.map (λd=>Z (HM.B.pl d))++r) (vs.map Z++σ)
 |[],vs,e,q=>by rw[q.nil_inv];exact e
 |d::ds,vs,e,q=>by obtain⟨v,us,rfl,r1,r2⟩:=q.cons_inv;exact(At.pushes e r2).push r1
section
variable{X:Cx}{N:z9}{scope:Scope}{fr:z9}{cl:List (Str×Addr)}{C:Addr}
theorem J7{env:Env}{y:Str}{k:NameKind}:∀{names:List (Str×NameKind)},(names.map λ(n,k)=>if(k==Hr&&env.scope.kind==.function&&env.kindOf n==Z .cell)then(n,NameKind.cell)else(n,k)).lookup y=Z k ->names.lookup y=Z k\/(k=.cell/\names.lookup y=Z .free)
 |[],h=>by simp at h
 |(n,k')::r,h=>by
  have ih:=@J7 env y k r;rw[Ai]at h;dsimp only at h
  by_cases hc:(k'==Hr&&env.scope.kind==.function&&env.kindOf n==Z .cell)=Aa
  .rw[if_pos hc,HD]at h
   rw[HD];split at h
   .cases h
    refine .inr ⟨rfl,?_⟩;have:(k'==Hr)=Aa:=by rw[Bn,Bn]at hc;exact hc.1.1
    rw[show k'=Hr by simpa using this]
   .exact ih h
  .rw[if_neg hc,HD]at h
   rw[HD];split at h
   .cases h
    exact .inl rfl
   .exact ih h
theorem tG{y:Str}{k:NameKind}:∀{names:List (Str×NameKind)},names.lookup y=Z k->(y,k)∈names
 |[],h=>by simp at h
 |(n,k')::r,h=>by
  rw[HD]at h;split at h
  .cases h
   rename_i hb;rw[show y=n by simpa using hb];exact An ..
  .exact Ao _ (tG h)
theorem g0(T:D5 X N scope fr)(tN:∀y c,cl.lookup y=Z c->X.env.cells.lookup y=Z c)(vJ:∀y∈scope.names,y.2=.free->(cl.lookup y.1).isSome=Aa)(I:Inv X su σ H s)(hc:X.calm=Aa)(hf:∀b∈fp,ED X su H b)(uS:∀b∈fp,b<s.heap.objs.size)(hC:s.heap.objs.size<=C):(Z0 X N scope cl C s H fp).Ok:=by
 refine⟨I.ok.mod,T.kind,I.ok.glob,I.ok.blt,hC,λy z c h1 h2=>I.ok.inj y z c (tN y c h1) (tN z c h2),λy h=>?_,λy c h=>?_,λ_=>I.ok.hd hc,I.ok.frames,.inl rfl,λb hb=>⟨?_,λy c h=>?_⟩,λb o h=>I.bs b o h,
  Bp I.ok.bsz I.sz,λb o h hb=>?_,λb hb hs=>?_,I.stack,I.stkFree⟩
 .have h':(relabel scope X.env).names.lookup y=Z .cell\/(relabel scope X.env).names.lookup y=Z .free:=h
  have hm:(y,Hr)∈scope.names:=by
   rcases h' with h'|h'
   .rcases J7 h' with q|⟨_,q⟩
    .exact absurd rfl (T.cell _ (tG q))
    .exact tG q
   .rcases J7 h' with q|⟨e,_⟩
    .exact tG q
    .cases e
  exact DB.mp (vJ _ hm rfl)
 .exact absurd h (by show ¬Ab=Aa;simp)
 .exact Aw (BP (uS b hb) hC)
 .obtain⟨_,_,_,_,q,_⟩:=hf b hb
  exact q y c (tN y c h)
 .obtain⟨_,_,_,q,_⟩:=hf b hb
  rcases q with q|q
  .exact I.ok.noex b o h q
  .exact absurd (BP (Ar h) (Bp I.ok.bsz q)) (FU _)
 .obtain⟨_,q1,q2,_⟩:=hf b hb
  rcases As.mp (I.stkSub b hs)with z|z
  .exact q1 z
  .exact q2 z
theorem WX{D:Addr}{h1:Heap}{tk:Nat}(T:D5 X N scope fr)(tN:∀y c,cl.lookup y=Z c->X.env.cells.lookup y=Z c)(vJ:∀y∈scope.names,y.2=.free->(cl.lookup y.1).isSome=Aa)(I:Inv X su σ H s)(hc:X.calm=Aa)(hf:∀b∈fp,ED X su H b)(uS:∀b∈fp,b<s.heap.objs.size)(hD:s.heap.objs.size=D)(hC:D<C)(ns:h1.Ns C (λ_=>Z_))(hl:h1.get? D=Z {cls:=.type "list",data:=.seq #[] 0})(k:∀b o,s.heap.get? b=Z o->h1.get? b=Z o):Inv (Z0 X N scope cl C s H fp) [] (BJ fr.length Z_++σ) (upd H D (.lst [])) {s with heap:=h1,toks:=tk}:=by
 have hn:H D=Z_:=I.hok.fresh (Mx hD);have vK:s.heap.objs.size<=C:=Bp (Mx hD) (F8 hC);have xF:H C=Z_:=I.hok.fresh vK;refine⟨g0 T tN vJ I hc hf uS vK,rfl,I.bare,Un.laid k (Mx hD) hn,⟨_,ns,λi y v e1 e2 e3=>?_⟩,λy c h=>?_,?_,λy c h=>?_,λp hp=>absurd (show p∈([]:z7) from hp) (by simp),I.hok.laid k (Mx hD) ⟨BQ _,[],0,.nil,hl⟩,?_⟩
 .have y8:BC fr<=i:=by
   apply Kz;intro tf;rw[DU (by rw[EA];exact tf),PM,if_pos tf]at e2;cases e2
  rw[Fh (by rw[EA];exact y8),EA]at e2;obtain⟨j,rfl⟩:∃j,i=j+BC fr:=⟨i-fr.length,by omega⟩;rw[Nat.add_sub_cancel]at e2
  .have e3':vd scope y:=by
    have e3:vd (relabel scope X.env) y:=e3;rcases e3 with q|q|q
    .rcases J7 q with q|⟨z,_⟩
     .exact .inl q
     .cases z
    .rcases J7 q with q|⟨_,q⟩
     .exact .inr (.inl q)
     .exact .inr (.inr q)
    .rcases J7 q with q|⟨z,_⟩
     .exact .inr (.inr q)
     .cases z
   have ud:=T.vis j y e1 e3';have hm:=tG ud;have hN:=T.same j y e1 ud;have wo:=T.cap _ hm rfl;obtain⟨m,_,hl⟩:=I.loc;obtain⟨u,ru,lu⟩:=hl j y v hN e2 (by
    rcases wo with q|q
    .exact .inr (.inl q)
    .exact .inr (.inr q))
   refine⟨u,ru,?_⟩;obtain⟨c,xo⟩:=DB.mp (vJ _ hm rfl);rcases lu with⟨q,_⟩|⟨_,c',e,z⟩
   .rcases wo with q'|q'<;>(rw[q']at q;cases q)
   .refine .inr ⟨?_,c,xo,?_⟩
    .rcases e3 with q|q|q
     .have q:(relabel scope X.env).names.lookup y=Z .local:=q
      rcases J7 q with q|⟨z,_⟩
      .rw[ud]at q;cases q
      .cases z
     .exact .inl q
     .exact .inr q
    .rw[tN y c xo]at e
     cases e;obtain⟨o,ho,hd⟩:=z;exact⟨o,k _ _ ho,hd⟩
 .obtain⟨v,o,ho,hd⟩:=I.cell y c (tN y c h)
  exact⟨v,o,k _ _ ho,hd⟩
 .show upd H D (.lst []) C=Z_
  rw[ZE (Jh hC)];exact xF
 .have hq:=I.freeC y c (tN y c h)
  obtain⟨v,o,ho,_⟩:=I.cell y c (tN y c h);have:c≠D:=Aw (by rw[<-hD];exact Ar ho);rw[ZE this];exact hq
 .show(BJ fr.length Z_++σ).length=N.length
  rw[AE,EA,I.len,T.len,Nat.add_comm]
def xH(Y:Cx)(ui:List Expr)(f:HM.TF):Prop:=∀r c,f r=Z c->∀(su:z7) (s:Shared) (σ:L2.St) (H:Hp) (Q:Bool->Hp->Prop),Inv Y su σ H s->(vA Y.K r σ H λF0 H0 F=>∀F' H',sR F H F' H'->Q c H') ->
 wpAny (model Y.prog Y.w) Y.A (VA ui Y.env) (TP Y su σ Q) Y.xe s
theorem Bx:xH Y [] HM.ZD:=by intro r c h su s σ H Q I ⟨F0,H0,F,at_,k⟩;cases h;exact wpAny_tests_nil ⟨H,I,k F H at_.refl⟩
theorem Cw{e:Expr}{f:HM.TF}(h:XT Y e f):xH Y [e] f:=λr c hc su s σ H Q I q=>wpAny_tests_one (h r c hc su s σ H Q I q)
def zT(K:Af)(J:It)(ds:z5)(F:Hp):Prop:=∀F' H,Zs F F'->Zs F' H ->
 (∀(i:Nat) (d:PyData),ds[i]?=Z d->J.go i H/\∀x H',J.yld i H x H'->∃F2,sR (Bt F' H) H F2 H'/\Rep K F2 d x)/\J.stop ds.length H
theorem yl.e{K:Af}{J:It}{ds:z5}{F:Hp}(h:yl K J ds F):zT K J ds F:=λF' H s1 s2=>by obtain⟨a,b⟩:=h F' H s1 s2;refine⟨λi d hd=>⟨(a i d hd).1,λx H' hy=>?_⟩,b⟩;obtain⟨e,r⟩:=(a i d hd).2 x H' hy;subst e;exact⟨_,.refl (sR.refl s2).tups.sub,r⟩
def XIE(X:Cx)(tg e:Expr)(f:HM.IF):Prop:=∀r ds,f r=Z ds->PI X tg e λσ H R=>vA X.K r σ H λF0 H0 F=>∀J F' H',sR F H F' H'->zT X.K J ds F'->R J H'
theorem XI.e{X:Cx}{tg e:Expr}{f:HM.IF}(h:XI X tg e f):XIE X tg e f:=λr ds hr su s σ H R I ⟨F0,H0,F,at_,k⟩=>h r ds hr su s σ H R I ⟨F0,H0,F,at_,λJ F' H' x q=>k J F' H' x q.e⟩
theorem Wn{it D:Addr}{tn:Nat->Heap->Prop}{J:It}{uB iter:Expr}{ui:List Expr}{tg:Expr}{pos:Pos}{vn:PyData->Option z5}{fc:HM.TF}{fe:HM.EF}{s4:Shared}{r:HM.Env}{ds out:z5}{Fs Hs F0 H0 F1:Hp}{R:Result->Shared->Prop}(T:D5 X N scope fr)(I2:Inv X su σ H1 s2)(W:wt X.prog X.w X.K tg J fp it tn)(hf:∀b∈fp,ED X su H1 b)(I4:Inv (Z0 X N scope cl C s2 H1 fp) [] (BJ fr.length Z_++σ) (upd H1 D (.lst [])) s4)(tn0:tn 0 s4.heap)(hD:s2.heap.objs.size<=D)(uS:∀b∈fp,b<s2.heap.objs.size)(yC:X.calm=Aa)(hc:xH (Z0 X N scope cl C s2 H1 fp) ui fc)(he:XE (Z0 X N scope cl C s2 H1 fp) uB fe)(at_:At X.K F0 H0 Fs Hs r σ)(x1:sR Fs Hs F1 H1)(zw:zT X.K J ds F1)(ur:K9 (Z0 X N scope cl C s2 H1 fp) fr.length tg vn)(u3:BC ds<HM.big)(go:wD vn fc fe r ds=Z out)(hR:∀s',(∃F H vs,Inv (Z0 X N scope cl C s2 H1 fp) [] (BJ fr.length Z_++σ) H s'/\sR Fs Hs F H/\H D=Z (.lst vs)/\F D=Z_/\Zu X.K F out vs)->R (.ok .next) s'):codeAny (model X.prog X.w) X.A (.compLoop (.ListComp uB [⟨tg,iter,ui,0⟩] scope pos) 0 (.ref it) (.ref D) (compEnvC scope cl C X.env)) R s4:=by
 have xR:H1 D=Z_:=I2.hok.fresh hD;have wq:Hs D=Z_:=x1.hh.free xR;have hF1D:F1 D=Z_:=x1.sub.free xR;have hfpD:∀b∈fp,b≠D:=λb hb=>Aw (BP (uS b hb) hD);have okY:=I4.ok;have vU:∀{H:Hp},(∀b∈fp,H b=Z_)->∀b∈fp,ED (Z0 X N scope cl C s2 H1 fp) [] H b:=λhn b hb=>⟨hn b hb,(okY.exf b hb).1,okY.exfs b hb,.inl hb,(okY.exf b hb).2,λp hp=>absurd (show p∈([]:z7) from hp) (by simp)⟩;refine jT (λn s'=>∃(j:Nat) (sv:List (Option V)) (F H:Hp) (ys:z5) (vs:List V) (rest:z5),BC sv=fr.length/\Inv (Z0 X N scope cl C s2 H1 fp) [] (sv++σ) H s'/\tn j s'.heap/\(∀b∈fp,H b=Z_)/\sR Fs Hs F H/\Zs F1 F/\At X.K F0 H0 F H r σ /\
  H D=Z (.lst vs)/\F D=Z_/\Zu X.K F ys vs/\j+n=ds.length/\ys.length<=j/\wD vn fc fe r (ds.drop j)=Z rest/\out=ys++rest) ?_ ds.length
  ⟨0,BJ fr.length Z_,F1,_,[],[],out,EA,I4,tn0,λb hb=>by rw[ZE (hfpD b hb)];exact(hf b hb).1,x1.lay' xR,Zs.refl _,(at_.grow x1).grow ((at_.grow x1).refl.lay' xR),ZJ,hF1D,.nil,by omega,Aj _,go,rfl⟩
 rintro n s5 ⟨j,sv,F,H,ys,vs,rest,xm,I5,tn5,hfp5,x5,sF,wJ,yg,ze,xZ,hjn,hyl,uA,vC⟩
 obtain⟨yX,yW⟩:=zw F H sF wJ.sub;cases n with
 |zero =>
  have ej:j=ds.length:=by omega
  subst ej;rw[TN]at uA;cases uA;rw[Ba]at vC;subst vC;refine sO (W.done (Z0 X N scope cl C s2 H1 fp) rfl rfl rfl rfl _ [] s5 _ H No I5 (vU hfp5) tn5 yW) λrv s6 ⟨e,I6⟩=>?_;subst e;refine hR s6 ⟨F,H,vs,I6.weak (by rw[AE,AE,EA,xm]) λi v hv=>?_,x5,yg,ze,xZ⟩
  by_cases hi:i<BC fr
  .rw[DU (by rw[EA];exact hi),PM,if_pos hi]at hv
   cases hv
  .rw[Fh (by rw[EA];omega),EA]at hv
   rw[Fh (by omega),xm];exact hv
 |succ n =>
  have tf:j<BC ds:=by omega
  obtain⟨jg,jy⟩:=yX j ds[j] (AK tf);obtain⟨F2,x5,sF,wJ,ze,xZ,jy⟩:∃F2,sR Fs Hs F2 H/\Zs F1 F2/\At X.K F0 H0 F2 H r σ/\F2 D=Z_/\Zu X.K F2 ys vs/\∀x H',J.yld j H x H'->∃F3,sR F2 H F3 H'/\Rep X.K F3 ds[j] x :=
   ⟨Bt F H,x5.tups,sF.trans (Fy wJ.sub),wJ.grow wJ.refl.tups,by unfold Bt;rw[yg];exact ze,xZ.mono (Fy wJ.sub),jy⟩
  clear yX yW
  rw[Ul tf]at uA;refine sO (W.item (Z0 X N scope cl C s2 H1 fp) rfl rfl rfl rfl j [] s5 _ H No I5 (vU hfp5) tn5 jg) λrv s6 ⟨u,e,h6⟩=>?_;subst e;refine sO h6 λ_ s7 ⟨xv,H7,I7,r7,y7,tn7,fr7⟩=>?_;obtain⟨F7,x7,rx⟩:=jy xv H7 y7;obtain⟨F2,x5,sF,wJ,yg,ze,xZ,rx⟩:∃F2,sR Fs Hs F2 H7/\Zs F1 F2/\At X.K F0 H0 F2 H7 r σ/\H7 D=Z (.lst vs)/\F2 D=Z_/\Zu X.K F2 ys vs/\Rep X.K F2 ds[j] xv:=by
   refine⟨F7,x5.trans x7,sF.trans x7.ff,wJ.grow x7,x7.hh _ _ yg,?_,xZ.mono x7.ff,rx⟩;cases q:F7 D with
   |none=>rfl
   |some o =>
    rcases x7.new D o q with z|z
    .rw[ze]at z;cases z
    .exact(z.no yg λ_ q=>by cases q).elim
  have I7':=I7.pinned (vU fr7) (W.obj _ _ tn7);unfold wD at uA;split at uA
  case h_2=>cases uA
  rename_i zs zx;have dok:=ur _ s7 σ sv H7 F2 ds[j] zs xv u xm I7' r7 wJ.sub rx zx;refine sO dok λ_ s8 ⟨ws,hws,I8,rws⟩=>?_;have atp:=wJ.pushes rws;have again:∀{s9:Shared} {F9 H9:Hp} {zs9:z5} {ws9:List V} {rest':z5},Inv (Z0 X N scope cl C s2 H1 fp) ([]++Lf fp s7.heap) (ws.map Z++σ) H9 s9->sR Fs Hs F9 H9->Zs F2 F9->At X.K F0 H0 F9 H9 r σ->H9 D=Z (.lst ws9)->F9 D=Z_->Zu X.K F9 zs9 ws9->zs9.length<=j+1->wD vn fc fe r (ds.drop (j+1))=Z rest'->out=zs9++rest' ->
    ∃m,m<n+1/\∃(j:Nat) (sv:List (Option V)) (F2 H:Hp) (ys:z5) (vs:List V) (rest:z5),BC sv=fr.length/\Inv (Z0 X N scope cl C s2 H1 fp) [] (sv++σ) H s9/\tn j s9.heap/\(∀b∈fp,H b=Z_)/\sR Fs Hs F2 H/\Zs F1 F2/\At X.K F0 H0 F2 H r σ /\
     H D=Z (.lst vs)/\F2 D=Z_/\Zu X.K F2 ys vs/\j+m=ds.length/\ys.length<=j/\wD vn fc fe r (ds.drop j)=Z rest/\out=ys++rest:=by
   intro s9 F9 H9 zs9 ws9 rest' I9 x9 s9F a9 h9 f9 r9 l9 g9 o9;refine⟨n,Jc n,j+1,ws.map Z,F9,H9,zs9,ws9,rest',by rw[Ad];exact hws,I9.unpinned,W.keep _ _ _ tn7 λb hb o e=>(I9.pin (b,o) (Cc _ (Cc _ (N8 hb e)))).1,λb hb=>?_,x9,sF.trans s9F,a9,h9,f9,r9,by omega,l9,g9,o9⟩;obtain⟨o,e,d⟩:=W.obj _ _ tn7 b hb;exact(I9.pin (b,o) (Cc _ (Cc _ (N8 hb e)))).2.1
  have noD:∀{F' H':Hp},sR F2 H7 F' H'->F' D=Z_:=λ{F' H'} y=>by
   cases q:F' D with
   |none=>rfl
   |some o =>
    rcases y.new D o q with z|z
    .rw[ze]at z;cases z
    .exact(z.no yg λ_ q=>by cases q).elim
  split at uA
  .rename_i hcv
   split at uA
   .rename_i y hy
    obtain⟨rest',g1,g2⟩:=Ak.mp uA;subst g2;refine sO (hc _ _ hcv _ s8 _ H7 (λc' H'=>c'=Aa/\∃F',sR F2 H7 F' H') I8 ⟨F0,H0,F2,atp,λF' H' y=>⟨rfl,F',y⟩⟩) λok s9 ⟨H9,I9,eok,F9,x9⟩=>?_;subst eok;rw[if_pos rfl];refine sO (he _ _ hy _ s9 _ H9 (λv' H'=>∃F',sR F9 H9 F' H'/\Rep X.K F' y v') I9 ⟨F0,H0,F9,atp.grow x9,λv' F' H' x q=>⟨F',x,q⟩⟩) λu' s10 ⟨v',H10,I10,r10,F10,x10,q10⟩=>?_;have vS:=x9.trans x10;have hHD':H10 D=Z (.lst vs):=vS.hh _ _ yg;have hFD':=noD vS;refine sO (NH (X:=Z0 X N scope cl C s2 H1 fp) _ s10 _ H10 (.ref D) [v'] (.ref D) [u'] (λ_ H'=>H'=upd H10 D (.lst (vs++[v']))) I10 rfl (.cons r10 .nil) ⟨D,vs,v',rfl,rfl,hHD',?_,rfl⟩) λ_ s11 ⟨_,H11,I11,_,e11⟩=>?_
    .have:=xZ.1
     exact Ii (by omega)
    subst e11;refine again (zs9:=ys++[y]) I11 ((x5.trans vS).chg _ wq hFD' λu z=>by rw[hHD']at z;cases z;rfl) vS.ff ((wJ.grow vS).chgNew _ at_ (x5.trans vS).hh wq hFD' λu z=>by rw[hHD']at z;cases z;rfl) ZJ hFD' ((xZ.mono vS.ff).append (.one q10)) (by rw[AE];show ys.length+1<=j+1;omega) g1 (by rw[vC,B8];rfl)
   .cases uA
  .rename_i hcv
   refine sO (hc _ _ hcv _ s8 _ H7 (λc' H'=>c'=Ab/\∃F',sR F2 H7 F' H') I8 ⟨F0,H0,F2,atp,λF' H' y=>⟨rfl,F',y⟩⟩) λok s9 ⟨H9,I9,eok,F9,x9⟩=>?_;subst eok;rw[if_neg (by simp)];exact again (zs9:=ys) I9 (x5.trans x9) x9.ff (wJ.grow x9) (x9.hh _ _ yg) (noD x9) (xZ.mono x9.ff) (by omega) uA vC
  .cases uA
theorem W7{s':Shared}{sv:List (Option V)}{h':Heap}(I2:Inv X su σ H1 s2)(hf:∀b∈fp,ED X su H1 b)(hC:s2.heap.objs.size<=C)(I:Inv (Z0 X N scope cl C s2 H1 fp) [] (sv++σ) H s')(hs:Fd C s'.heap h'):Inv X su σ H {s' with heap:=h'}:=by
 have u:Un (vP X.stack) fp H1 H s2.heap s'.heap:=I.base;have xF:H C=Z_:=I.free;have ne:∀b o,s2.heap.get? b=Z o->b≠C:=λb o e=>Aw (BP (Ar e) hC);refine I2.call' (s':={s' with heap:=h'}) (ch:=fp) I.os ⟨λb o e n hb hx=>(hs.2 b (ne b o e)).trans (u.keep b o e n hb hx),λb o e n hb hx=>?_,u.free,λb o e hx=>?_,u.tups,u.frzs,u.tbls⟩ (λb o e=>?_) I.bare λb hb=>?_
 .obtain⟨sl,q⟩:=u.slot b o e n hb hx
  exact⟨sl,(hs.2 b (ne b o e)).trans q⟩
 .obtain⟨o',q⟩:=u.there b o e hx
  exact⟨o',(hs.2 b (ne b o e)).trans q⟩
 .refine(I.hok b o e).stay (λc w' hc q=>(hs.2 c ?_).trans q) (λ_ q=>q) λ_ _ q=>q
  rintro rfl
  rcases hc with rfl|hc
  .rw[xF]at e;cases e
  .rw[xF]at hc;cases hc
 .obtain⟨q0,q1,q2,q3,q4,q5⟩:=hf b hb
  exact⟨q3,q1,q4,q5⟩
variable{uB iter:Expr}{ui:List Expr}{tg:Expr}{pos:Pos}{fi:HM.IF}{vn:PyData->Option z5}{fc:HM.TF}{fe:HM.EF}
theorem WD(T:D5 X N scope fr)(I:Inv X su σ H s):∀y∈scope.names,y.2=.free->∃c,X.env.cells.lookup y.1=Z c:=λy hy e=>I.ok.has y.1 (T.cap y hy e)
theorem Xi(vM:X.xe=λ_ _=>False)(tY:X.calm=Aa)(T:D5 X N scope fr)(ur:∀cl C s H ex,K9 (Z0 X N scope cl C s H ex) fr.length tg vn)(hi:XIE X tg iter fi)(hc:∀cl C s H ex,xH (Z0 X N scope cl C s H ex) ui fc)(he:∀cl C s H ex,XE (Z0 X N scope cl C s H ex) uB fe)(hs:∀x,GN iter X.env x=pure x:=by intro _;rfl):XF X (.ListComp uB [⟨tg,iter,ui,0⟩] scope pos) (GX vn fi fc fe):=by
 intro r b h;unfold GX at h;split at h
 .rename_i ds sY
  split at h
  .rename_i u3
   obtain⟨out,uA,e⟩:=Ak.mp h;subst e;intro su s σ H Q I ⟨F0,H0,F,at_,k⟩;obtain⟨cl,xf,tN,vJ⟩:=Sw (WD T I);rw[eval_ListComp];refine wpAny_comprehension_free (use:=Z_) rfl hs xf T.kind T.names (sO (hi r ds sY su s σ H (λJ H'=>∃F',sR F H F' H'/\zT X.K J ds F') I ⟨F0,H0,F,at_,λJ F' H' x q=>⟨F',x,q⟩⟩) λv s1 h1=>sO h1 λitv s2 h2=>?_);obtain⟨it,fp,tn,J,H1,rfl,I2,W,xt,f2,F1,x1,zw⟩:=h2;have uS:∀b∈fp,b<s2.heap.objs.size:=λb hb=>let ⟨o,ho,_⟩:=W.obj 0 _ xt b hb;Ar ho
   refine Ey (Ud T.cell (by intro y hy;simp at hy) (λh1 uF t7=>?_) T.kind);dsimp only at uF t7 ⊢;generalize hP:s2.heap.push {cls:=.type "list",dict:=Z_,data:=.seq ([]:z8).toArray}=h0 at uF t7 ⊢;have hsz:h0.objs.size=s2.heap.objs.size+1:=by rw[<-hP,GP]
   have vK:s2.heap.objs.size<h0.objs.size:=by rw[hsz];exact Jc _
   have old:∀b o,s2.heap.get? b=Z o->h1.get? b=Z o:=λb o e=>t7.extBut b o (Aw (FZ (Ar e) vK)) (Au _ (by rw[<-hP];exact Au _ e));have hl:h1.get? s2.heap.objs.size=Z {cls:=.type "list",data:=.seq #[] 0}:=t7.extBut _ _ (Aw vK) (Au _ (by rw[<-hP];exact A1 _ rfl));have I4:Inv (Z0 X N scope cl h0.objs.size s2 H1 fp) [] (BJ fr.length Z_++σ) (upd H1 s2.heap.objs.size (.lst [])) {s2 with heap:=h1,toks:=s2.toks+([]:List (Str×Value)).length}:=WX T tN vJ I2 tY f2 uS rfl vK uF hl old;have zk:tn 0 h1:=W.keep _ _ _ xt λb _ o e=>old b o e;have wq:H s2.heap.objs.size=Z_:=x1.hh.free (I2.hok.fresh (Aj _));have wU:codeAny (model X.prog X.w) X.A (.compLoop (.ListComp uB [⟨tg,iter,ui,0⟩] scope pos) 0 (.ref it) (.ref s2.heap.objs.size) (compEnvC scope cl h0.objs.size X.env)) (compPost (model X.prog X.w) X.A X.xe Z_ (EP X su σ Q) (.ref s2.heap.objs.size) h0.objs.size)
     {s2 with heap:=h1,toks:=s2.toks+([]:List (Str×Value)).length}:=by
    refine Wn T I2 W f2 I4 zk (Aj _) uS tY (hc _ _ _ _ _) (he _ _ _ _ _) at_ x1 zw (ur _ _ _ _ _) u3 uA λs' ⟨F',H',vs,I',x',hD',hFD',rs⟩=>?_;obtain⟨m,hn,_⟩:=id I'.loc;refine⟨m,hn,λh2 uX=>⟨.ref s2.heap.objs.size,H',W7 I2 f2 (F8 vK) I' uX,rfl,k _ F' H' x' ⟨[s2.heap.objs.size],.ol hD' rs,by simp,λa ha=>?_⟩⟩⟩;obtain rfl:a=s2.heap.objs.size:=by simpa using ha
    exact⟨hFD',wq⟩
   exact codeAny_compStart_list wU (W.self _ 0 _ _ _ zk wU)
  .cases h
 .cases h
theorem YU(i:Nat){y:Str}{py vV:Pos}(hN:X.N.Nodup)(vM:X.xe=λ_ _=>False)(tY:X.calm=Aa)(T:D5 X N scope fr)(ur:∀cl C s H ex,K9 (Z0 X N scope cl C s H ex) fr.length tg vn)(hi:XIE X tg iter fi)(hc:∀cl C s H ex,xH (Z0 X N scope cl C s H ex) ui fc)(he:∀cl C s H ex,XE (Z0 X N scope cl C s H ex) uB fe)(zF:X.N[i]?=Z y:=by rfl)(hy:X.env.scope.names.lookup y=Z .local:=by rfl)(xA:Et (.ListComp uB [⟨tg,iter,ui,0⟩] scope pos) (Z (.Name y py)) vV.line X.env=pure Aa:=by rfl)(hs:∀x,GN iter X.env x=pure x:=by intro _;rfl):XS X (.Assign [.Name y py] (.ListComp uB [⟨tg,iter,ui,0⟩] scope pos) vV) (HM.ZO i (GX vn fi fc fe)):=by
 intro r o h;obtain⟨b,hb,e⟩:=Ak.mp h;subst e;unfold GX at hb;split at hb
 .rename_i ds sY
  split at hb
  .rename_i u3
   obtain⟨out,uA,e⟩:=Ak.mp hb;subst e;intro su s σ H E I ⟨F0,H0,F,at_,k⟩;obtain⟨cl,xf,tN,vJ⟩:=Sw (WD T I);rw[exec_Assign_Name_used _ _ _ _ xA];refine Ac (wpAny_standAt (Ac ?_));show wpAny _ X.A (do let _ <-comprehension (.ListComp uB [⟨tg,iter,ui,0⟩] scope pos) scope X.env _ (newList []) Ab (eval iter X.env) (Z (assign (.Name y py) X.env))) _ _ s;refine Ac (CQ (wpAny_comprehension_free (use:=Z (assign (.Name y py) X.env)) (Q:=λ_ s'=>SP X su E .next s') rfl hs xf T.kind T.names (sO (hi r ds sY su s σ H (λJ H'=>∃F',sR F H F' H'/\zT X.K J ds F') I ⟨F0,H0,F,at_,λJ F' H' x q=>⟨F',x,q⟩⟩) λv s1 h1=>sO h1 λitv s2 h2=>?_)) (λ_ s' hq=>Ae (Ae hq)) λ_ _ e=>e)
   obtain⟨it,fp,tn,J,H1,rfl,I2,W,xt,f2,F1,x1,zw⟩:=h2;have uS:∀b∈fp,b<s2.heap.objs.size:=λb hb=>let ⟨o,ho,_⟩:=W.obj 0 _ xt b hb;Ar ho
   refine Ey (Ud T.cell (by intro y hy;simp at hy) (λh1 uF t7=>?_) T.kind);dsimp only at uF t7 ⊢;generalize hP:s2.heap.push {cls:=.type "list",dict:=Z_,data:=.seq ([]:z8).toArray}=h0 at uF t7 ⊢;have hsz:h0.objs.size=s2.heap.objs.size+1:=by rw[<-hP,GP]
   have vK:s2.heap.objs.size<h0.objs.size:=by rw[hsz];exact Jc _
   have old:∀b o,s2.heap.get? b=Z o->h1.get? b=Z o:=λb o e=>t7.extBut b o (Aw (FZ (Ar e) vK)) (Au _ (by rw[<-hP];exact Au _ e));have hl:h1.get? s2.heap.objs.size=Z {cls:=.type "list",data:=.seq #[] 0}:=t7.extBut _ _ (Aw vK) (Au _ (by rw[<-hP];exact A1 _ rfl));have I4:Inv (Z0 X N scope cl h0.objs.size s2 H1 fp) [] (BJ fr.length Z_++σ) (upd H1 s2.heap.objs.size (.lst [])) {s2 with heap:=h1,toks:=s2.toks+([]:List (Str×Value)).length}:=WX T tN vJ I2 tY f2 uS rfl vK uF hl old;have zk:tn 0 h1:=W.keep _ _ _ xt λb _ o e=>old b o e;have wq:H s2.heap.objs.size=Z_:=x1.hh.free (I2.hok.fresh (Aj _));have wU:codeAny (model X.prog X.w) X.A (.compLoop (.ListComp uB [⟨tg,iter,ui,0⟩] scope pos) 0 (.ref it) (.ref s2.heap.objs.size) (compEnvC scope cl h0.objs.size X.env)) (compPost (model X.prog X.w) X.A X.xe (Z (assign (.Name y py) X.env)) (λ_ s'=>SP X su E .next s') (.ref s2.heap.objs.size) h0.objs.size)
     {s2 with heap:=h1,toks:=s2.toks+([]:List (Str×Value)).length}:=by
    refine Wn T I2 W f2 I4 zk (Aj _) uS tY (hc _ _ _ _ _) (he _ _ _ _ _) at_ x1 zw (ur _ _ _ _ _) u3 uA λs' ⟨F',H',vs,I',x',hD',hFD',rs⟩=>?_;obtain⟨m,hn,_⟩:=id I'.loc;have IX:Inv X su σ H' s':=W7 (h':=s'.heap) I2 f2 (F8 vK) I' (Tv _ _);have xF:H' h0.objs.size=Z_:=I'.free;have zu:h0.objs.size≠X.env.locals:=Jh (FZ I2.lt vK);have yw:∀z c,X.env.cells.lookup z=Z c->c≠h0.objs.size:=λz c hz=>by obtain⟨v,o,ho,_⟩:=I2.cell z c hz;exact Aw (FZ (Ar ho) vK)
    have neP:∀p∈X.pn++su,p.1≠h0.objs.size:=λp hp=>Aw (FZ (Ar (I2.pin p hp).1) vK);show wpAny _ X.A (assign (.Name y py) X.env (.ref s2.heap.objs.size)) _ _ _;refine wpAny_assign_Name (X1 IX hN zF (.inl hy) (v:=.ref s2.heap.objs.size) rfl (λs3 I3 hsa=>?_) (.inr hy));obtain⟨a,sa,ea⟩:=hsa;have neA:h0.objs.size≠a:=by
     rcases ea with e|e
     .rw[e];exact zu
     .exact Bi (yw _ _ e)
    refine⟨m,hn.sameBut sa neA,λh2 uX=>?_⟩;refine⟨_,H',I3.turned (t':=s3.toks) (it:=h0.objs.size) (λb o hb e=>(uX.2 b hb).trans e) xF zu (.inr (Bp I2.sz (F8 vK))) yw neP,k _ F' H' ((at_.grow x').storeNew at_ x'.hh (fp':=[s2.heap.objs.size]) (.ol hD' rs) (by simp) λa ha=>?_)⟩;obtain rfl:a=s2.heap.objs.size:=by simpa using ha
    exact⟨hFD',wq⟩
   exact codeAny_compStart_list wU (W.self _ 0 _ _ _ zk wU)
  .cases hb
 .cases hb
end
end
section
variable{py vV:Pos}{y:Str}
def P5(d:PyData):Option z5:=Z [d]
def Jo:PyData->Option z5
 | .tuple [x,y]=>Z [x,y]
 |_=>Z_
theorem Uq(c:HM.TF)(e:HM.EF)(r:HM.Env):∀xs,HM.Z3 c e r xs=wD P5 c e r xs
 |[]=>rfl
 |x::xs=>by unfold HM.Z3 wD;rw[Uq c e r xs];rfl
theorem UA(c:HM.TF)(e:HM.EF)(r:HM.Env):∀xs,HM.FC c e r xs=wD Jo c e r xs
 |[]=>rfl
 |x::xs=>by
  have ih:=UA c e r xs;unfold HM.FC wD;split
  .rename_i h;cases h
  .rename_i a b q h
   cases h;rw[ih];rfl
  .rename_i h1
   have hn:Jo x=Z_:=by
    unfold Jo;split
    .exact(h1 _ _ _ rfl).elim
    .rfl
   rw[hn]
theorem V6(i:HM.IF)(c:HM.TF)(e:HM.EF):HM.Zt i c e=GX P5 i c e:=by
 funext r
 unfold HM.Zt GX;cases i r with
 |none=>rfl
 |some xs=>dsimp only;rw[Uq]
theorem Wb(i:HM.IF)(c:HM.TF)(e:HM.EF):HM.FI i c e=GX Jo i c e:=by
 funext r
 unfold HM.FI GX;cases i r with
 |none=>rfl
 |some xs=>dsimp only;rw[UA]
theorem WV{K:Af}{F:Hp}{d1 d2:PyData}{v:V}(h:Rep K F (.tuple [d1,d2]) v):∃a v1 v2,v=.ref a/\F a=Z (.tup [v1,v2])/\Rep K F d1 v1/\Rep K F d2 v2:=by
 cases h with
 | @tup a ds vs h1 h2 h3 =>
  cases vs with
  |nil=>simp at h2
  |cons v1 vs=>cases vs with
   |nil=>simp at h2
   |cons v2 vs=>cases vs with
    |nil=>exact⟨a,v1,v2,rfl,h1,h3 0 _ _ rfl rfl,h3 1 _ _ rfl rfl⟩
    |cons _ _=>simp at h2
section
variable{X:Cx}{N:z9}{scope:Scope}{x x2:Str}{px yV pt:Pos}{kt:Nat}
theorem UW(T:D5 X N scope [x])(cl:List (Str×Addr))(C:Addr)(s₀:Shared)(H₀:Hp)(ex:List Addr):K9 (Z0 X N scope cl C s₀ H₀ ex) 1 (.Name x px) P5:=by
 intro su s σ sv H F d ys xv u xm I r sub q hd;cases hd;have hx:=T.loc x (Ax.mpr rfl);refine sO (JD (X:=Z0 X N scope cl C s₀ H₀ ex) (i:=0) T.nd (T.first 0 x rfl) (.inl (KC hx)) (.inr (KC hx)) _ s _ H xv u (λσ' H'=>σ'=(sv++σ).set 0 (Z xv)/\H'=H) I r ⟨rfl,rfl⟩) λ_ s' ⟨σ',H',I',e1,e2⟩=>?_
 subst e1 e2;refine⟨[xv],rfl,?_,.one q⟩;cases sv with
 |nil=>simp at xm
 |cons a sv=>cases sv with
  |nil=>exact I'
  |cons _ _=>simp at xm
theorem U3(T:D5 X N scope [x,x2])(cl:List (Str×Addr))(C:Addr)(s₀:Shared)(H₀:Hp)(ex:List Addr):K9 (Z0 X N scope cl C s₀ H₀ ex) 2 (.Tuple [.Name x px,.Name x2 yV] kt pt) Jo:=by
 intro su s σ sv H F d ys xv u xm I r sub q hd;have hx:=T.loc x (An ..);have hx2:=T.loc x2 (Ao _ (An ..));unfold Jo at hd;split at hd
 .rename_i d1 d2
  cases hd;obtain⟨pa,v1,v2,e7,yc,rx1,rx2⟩:=WV q;subst e7;refine sO (U1 (X:=Z0 X N scope cl C s₀ H₀ ex) (n:=2) rfl (Nx (JD (X:=Z0 X N scope cl C s₀ H₀ ex) (i:=0) T.nd (T.first 0 x rfl) (.inl (KC hx)) (.inr (KC hx))) (Nx (JD (X:=Z0 X N scope cl C s₀ H₀ ex) (i:=1) T.nd (T.first 1 x2 rfl) (.inl (KC hx2)) (.inr (KC hx2))) V2)) rfl rfl _ s _ H (.ref pa) u (λσ' H'=>σ'=((sv++σ).set 0 (Z v1)).set 1 (Z v2)/\H'=H) I r ⟨pa,[v1,v2],rfl,.of (sub _ _ yc),rfl,v1,[v2],rfl,v2,[],rfl,rfl,rfl,rfl⟩) λ_ s' ⟨σ',H',I',e1,e2⟩=>?_
  subst e1 e2;refine⟨[v1,v2],rfl,?_,.cons rx1 (.one rx2)⟩;cases sv with
  |nil=>simp at xm
  |cons a sv=>cases sv with
   |nil=>simp at xm
   |cons b sv=>cases sv with
    |nil=>exact I'
    |cons _ _=>simp at xm
 .cases hd
def UY(yo:Str->Option NameKind)(XN N:z9)(names:List (Str×NameKind))(fr:z9):Bool :=
 names.all (λy=>y.2 != .cell)&&names.all (λy=>y.2 != .local||names.lookup y.1==Z .local)&&fr.all (λx=>names.lookup x==Z .local)&&(Ah fr.length).all (λi=>N[i]?==fr[i]?)&&decide N.Nodup&&N.length==XN.length+BC fr &&
 names.all (λy=>y.2 != .free||yo y.1==Z .cell||yo y.1==Z .free) &&
 (Ah (N.length-fr.length)).all (λi=>match N[i+BC fr]? with
  |some y=>(names.lookup y != Z .free||XN[i]?==Z y)&&(names.lookup y==Z .free||(names.lookup y != Z .local&&names.lookup y != Z .cell))
  |none=>Aa)
theorem Zw{X:Cx}{N XN:z9}{scope sc:Scope}{fr:z9}(hs:X.env.scope=sc:=by rfl)(hN:X.N=XN:=by rfl)(hk:scope.kind=.function:=by rfl)(h:UY (λy=>sc.names.lookup y) XN N scope.names fr=Aa:=by decide +kernel):D5 X N scope fr:=by
 subst hN;unfold UY at h;simp only[Bn,Ay,Ew,bne_iff_ne,beq_iff_eq,decide_eq_true_eq]at h;obtain⟨⟨⟨⟨⟨⟨⟨h1,h2⟩,h3⟩,h4⟩,h5⟩,h6⟩,h7⟩,h8⟩:=h;have at_:∀(i:Nat) (y:Str),N[i+BC fr]?=Z y->(scope.names.lookup y≠Z .free\/X.N[i]?=Z y)/\(scope.names.lookup y=Z .free\/(scope.names.lookup y≠Z .local/\scope.names.lookup y≠Z .cell)):=λi y e=>by have hi:i+BC fr<BC N:=(Bf.mp e).1;have:=h8 i (AI.mpr (by omega));rw[e]at this;simpa only[Bn,Ew,bne_iff_ne,beq_iff_eq]using this
 refine⟨hk,h1,λy hy e=>(h2 y hy).resolve_left (λz=>z e),h3,λi x e=>?_,h5,h6,λy hy e=>?_,λi y e q=>(at_ i y e).1.resolve_left (λz=>z q),λi y e v=>?_⟩
 .rw[h4 i (AI.mpr (Bf.mp e).1)]
  exact e
 .have:=h7 y hy
  rw[show X.env.kindOf y.1=sc.names.lookup y.1 by rw[<-hs];rfl];rcases this with(z|z)|z
  .exact absurd e z
  .exact .inl z
  .exact .inr z
 .rcases(at_ i y e).2 with z|⟨z1,z2⟩
  .exact z
  .rcases v with v|v|v
   .exact absurd v z1
   .exact absurd v z2
   .exact v
variable{uB iter:Expr}{ui:List Expr}{pos:Pos}{fi:HM.IF}{fc:HM.TF}{fe:HM.EF}
theorem ZX(vM:X.xe=λ_ _=>False)(tY:X.calm=Aa)(T:D5 X N scope [x])(hi:XI X (.Name x px) iter fi)(hc:∀cl C s H ex,xH (Z0 X N scope cl C s H ex) ui fc)(he:∀cl C s H ex,XE (Z0 X N scope cl C s H ex) uB fe)(hs:∀x,GN iter X.env x=pure x:=by intro _;rfl):XF X (.ListComp uB [⟨.Name x px,iter,ui,0⟩] scope pos) (HM.Zt fi fc fe):=by
 rw[V6];exact Xi vM tY T (UW T) hi.e hc he hs
theorem Rk(vM:X.xe=λ_ _=>False)(tY:X.calm=Aa)(T:D5 X N scope [x,x2])(hi:XI X (.Tuple [.Name x px,.Name x2 yV] kt pt) iter fi)(hc:∀cl C s H ex,xH (Z0 X N scope cl C s H ex) ui fc)(he:∀cl C s H ex,XE (Z0 X N scope cl C s H ex) uB fe)(hs:∀x,GN iter X.env x=pure x:=by intro _;rfl):XF X (.ListComp uB [⟨.Tuple [.Name x px,.Name x2 yV] kt pt,iter,ui,0⟩] scope pos) (HM.FI fi fc fe):=by
 rw[Wb];exact Xi vM tY T (U3 T) hi.e hc he hs
theorem LK(i:Nat)(hN:X.N.Nodup)(vM:X.xe=λ_ _=>False)(tY:X.calm=Aa)(T:D5 X N scope [x])(hi:XI X (.Name x px) iter fi)(hc:∀cl C s H ex,xH (Z0 X N scope cl C s H ex) ui fc)(he:∀cl C s H ex,XE (Z0 X N scope cl C s H ex) uB fe)(zF:X.N[i]?=Z y:=by rfl)(hy:X.env.scope.names.lookup y=Z .local:=by rfl)(xA:Et (.ListComp uB [⟨.Name x px,iter,ui,0⟩] scope pos) (Z (.Name y py)) vV.line X.env=pure Aa:=by rfl)(hs:∀x,GN iter X.env x=pure x:=by intro _;rfl):XS X (.Assign [.Name y py] (.ListComp uB [⟨.Name x px,iter,ui,0⟩] scope pos) vV) (HM.ZO i (HM.Zt fi fc fe)):=by
 rw[V6];exact YU i hN vM tY T (UW T) hi.e hc he zF hy xA hs
theorem Sl(i:Nat)(hN:X.N.Nodup)(vM:X.xe=λ_ _=>False)(tY:X.calm=Aa)(T:D5 X N scope [x,x2])(hi:XI X (.Tuple [.Name x px,.Name x2 yV] kt pt) iter fi)(hc:∀cl C s H ex,xH (Z0 X N scope cl C s H ex) ui fc)(he:∀cl C s H ex,XE (Z0 X N scope cl C s H ex) uB fe)(zF:X.N[i]?=Z y:=by rfl)(hy:X.env.scope.names.lookup y=Z .local:=by rfl)(xA:Et (.ListComp uB [⟨.Tuple [.Name x px,.Name x2 yV] kt pt,iter,ui,0⟩] scope pos) (Z (.Name y py)) vV.line X.env=pure Aa:=by rfl)(hs:∀x,GN iter X.env x=pure x:=by intro _;rfl):XS X (.Assign [.Name y py] (.ListComp uB [⟨.Tuple [.Name x px,.Name x2 yV] kt pt,iter,ui,0⟩] scope pos) vV) (HM.ZO i (HM.FI fi fc fe)):=by
 rw[Wb];exact YU i hN vM tY T (U3 T) hi.e hc he zF hy xA hs
end
end
section
variable{p:Addr}{r:HM.Env}{F F0 H H0:Hp}{σ:L2.St}{kvs:List (List sL×z5)}{ds:z5}{i:Nat}{p1 p2 p3 p4:Pos}{K:Af}{x:Str}{Q:z4}
section
variable{prog:Program}{w:World}{K:Type}[DecidableEq K]{knd:HeapKind prog w K}{A:Around}{E:z4}{s:Shared}
theorem oH{d a:Addr}{xs:List (K×Addr×Value)}{k:K}{v:Value}(hu:knd.room A)(vY:knd.is s.heap k a)(hm:s.heap.DictOfH knd d xs)(hsz:BC xs<=sizeLine)(h1:∀p,atKey xs k=Z p->Q p.2 {s with toks:=s.toks+knd.draws k})(h2:atKey xs k=Z_->∀h',h'.DictOfH knd d (storedH xs k a v)->Fd d s.heap h'->Q v {s with heap:=h',toks:=s.toks+knd.draws k}):wpAny (model prog w) A (dictSetDefault d (.ref a) v) Q E s:=by
 obtain⟨o,es,ep,ho,hc,hd,he,his,hn⟩:=hm;unfold dictSetDefault
 try with_reducible refine Cd ?_
 refine Ac (knd.pyHash hu vY ?_);refine Ac (wpAny_dictFind_heap (s:={s with toks:=s.toks+knd.draws k}) hu vY ho hd he his hn ?_ ?_)
 .intro u6
  have hnot:k∉xs.map (·.1):=not_mem_keys_of_get u6;have hnk:=atKey_none_of_get u6;refine Ac (wpAny_rule (Ac (wpAny_updateDictKeys (hz:=by have e:=size_of_entries he;omega) (s:={s with toks:=s.toks+knd.draws k}) ho hd (Ae (h2 hnk _ ⟨_,_,ep+1,Fi _ ho (Obj.isFreed_of_dict (Obj.data_mapDictKeys hd _)),
   hc.mapDictKeys _,Obj.data_mapDictKeys hd _,?_,?_,?_⟩ (EC ..))))))
  .rw[storedH_new hnk]
   simp[he,entryOfKey]
  .rw[storedH_new hnk]
   intro x hx;rcases Bb.mp hx with hx|hx
   .exact knd.keeps (his x hx) ho hd (EC ..)
   .simp only[Ax]at hx
    subst hx;exact knd.keeps vY ho hd (EC ..)
  .rw[storedH_new hnk]
   rw[BB,Ee];refine⟨hn,by simp,?_⟩;intro x hx y hy;simp only[Ai,F6,Ax]at hy;subst hy;exact λe=>hnot (e▸hx)
 .intro j p hj
  refine Ac (ME (s:={s with toks:=s.toks+knd.draws k}) ho hd ?_);rw[entry_at he j,hj];exact Ac (wpAny_rule (Ae (h1 p (atKey_of_get hn hj))))
theorem oV(d a:Addr)(hd:(d==CB)=Ab)(dflt:Value):
  MeetsIn prog w (Builtin.«dict.setdefault» ⟨[.ref d,.ref a,dflt],[]⟩) (λA R s=>knd.room A.in1/\∃k xs,knd.is s.heap k a/\s.heap.DictOfH knd d xs/\xs.length<=sizeLine /\
   (∀p,atKey xs k=Z p->R (.ok (.ret p.2)) {s with toks:=s.toks+knd.draws k}) /\
   (atKey xs k=Z_->∀h',h'.DictOfH knd d (storedH xs k a dflt)->Fd d s.heap h'->R (.ok (.ret dflt)) {s with heap:=h',toks:=s.toks+knd.draws k})) :=
 .of_wp λA R s ⟨hu,k,xs,vY,hm,hz,h1,h2⟩=>by unfold Builtin.«dict.setdefault»;refine Ac ?_;unfold Builtin.Dict.keyAndDefault;refine Ac (wpAny_notOrdered_dict hm.typeIs ?_);show wpAny _ _ (pure (d,Bl a,Z dflt)) _ _ s;refine Ae ?_;show wpAny _ _ (if(d==CB)=Aa then _ else(dictSetDefault d (.ref a) dflt >>= _)) _ _ s;rw[if_neg (by rw[hd];exact DD)];exact Ac (oH hu vY hm hz (λp hp=>Ae ⟨p.2,rfl,h1 p hp⟩) λhn h' hm' hs'=>Ae ⟨dflt,rfl,h2 hn h' hm' hs'⟩)
end
section
variable{X:Cx}{su:z7}{σ:L2.St}{H:Hp}{s:Shared}{a b:Addr}{z:V}{r:Value}{A:Around}{E:z4}{kvs:List (List sL×V)}{k:List sL}
theorem gg(hu:A.units+1<cLine)(I:Inv X su σ H s)(e:H a=Z (.dT kvs))(eb:H b=Z (.tup (k.map kV)))(hl:BC kvs<sizeLine)(rz:RelV z r)(h1:∀v,AW kvs k=Z v->∀w' s',Inv X su σ H s'->RelV v w'->Q w' s')(h2:AW kvs k=Z_->∀s',Inv X su σ (upd H a (.dT (kvs++[(k,z)]))) s'->Q r s'):wpAny (model X.prog X.w) A (call (.builtin "dict.setdefault") [.ref a,.ref b,r]) Q E s:=by
 obtain⟨zz,hd,xs,tH,dd⟩:=UC I.hok e;have hz:BC xs<=sizeLine:=by rw[<-FV tH];exact zz
 have hv:=tH.val k;refine call_meetsIn bR dd.typeIs PySem.F.entry_dict_setdefault (PySem.F.args_dict_setdefault_3 _ _ _) (oV (knd:=IW (BV X.prog X.w)) a b hd r) ⟨MG hu,k,xs,Jy I.hok eb,dd,hz,λp hp=>?_,λhn h' dd' hs=>?_⟩
 .rw[hp]at hv
  cases x8:AW kvs k with
  |none=>rw[x8]at hv;exact hv.elim
  |some v=>rw[x8]at hv;exact h1 v x8 _ _ (I.tok _) hv
 .rw[hn]at hv
  have x8:AW kvs k=Z_:=by
   cases x8:AW kvs k with
   |none=>rfl
   |some v=>rw[x8]at hv;exact hv.elim
  refine h2 x8 _ ?_;have hp:=tH.put k eb rz;have epk:tJ kvs k z=kvs++[(k,z)]:=by unfold tJ;rw[if_neg];rw[Nn,x8];simp
  rw[epk]at hp;obtain⟨q,es,ep,hq,g2,g3,g4,_,g5⟩:=dd';refine Nl I (by rw[e];exact IV) hs ⟨q,hq⟩ ⟨by rw[AE];exact hl,hd,_,hp.keeps λc ys ec=>?_,q,es,ep,hq,g2,g3,g4,g5⟩;rw[ZE (UL ec e (λz=>nomatch z))];exact ec
end
def pS(td ty tx:TE):TE:=λσ H Q=>td σ H λx H1=>∃a,x=.ref a/\IsD H1 a/\ty σ H1 λy H2=>tx σ H2 λz H3=>∃kvs k b,H3 a=Z (.dT kvs)/\y=.ref b/\H3 b=Z (.tup (k.map kV))/\kvs.length<sizeLine /\
 (∀v,AW kvs k=Z v->Q v H3)/\(AW kvs k=Z_->Q z (upd H3 a (.dT (kvs++[(k,z)]))))
section
variable{X:Cx}{o e f:Expr}{u4 t8:Pos}{td ty tx:TE}
theorem f6(hu:X.A.units+1<cLine)(ho:PE X o td)(he:PE X e ty)(hf:PE X f tx)(m:M2 X o "setdefault" u4 e f t8):PE X (.Call (.Attribute o "setdefault" u4) [e,f] [] t8) (pS td ty tx):=by intro su s σ H Q I h;refine wpAny_Call_method m.base m.few m.line PySem.F.plainAttrs_dict bR PySem.F.type_dict_setdefault (sO (ho su s σ H _ I h) λu s1 ⟨x,H1,I1,rx,a,ex,d,q1⟩=>?_);subst ex;obtain rfl:u=Bl a:=rx;obtain⟨t1,t2,_⟩:=dh I1 d;refine⟨t1,t2,?_⟩;rw[m.trees];refine T7 rfl (aZ (TB (sO (he su s1 σ H1 _ I1 q1) λiv s2 ⟨y,H2,I2,ry,q2⟩=>TB (sO (hf su s2 σ H2 _ I2 q2) λfv s3 ⟨z,H3,I3,rz,kvs,k,b,ea,ey,eb,hl,q3,q4⟩=>Calls.spliced_nil ?_))));subst ey;obtain rfl:iv=Bl b:=ry;exact gg hu I3 ea eb hl rz (λv hv w' s4 I4 rw'=>⟨v,H3,I4,rw',q3 v hv⟩) λhn s4 I4=>⟨z,_,I4,rz,q4 hn⟩
end
def OT(K:Af)(F H:Hp)(kvs:List (List sL×z5))(vvs:List (List sL×V))(ls:List Addr):Prop:=kvs.map (·.1)=vvs.map (·.1)/\vvs.map (·.2)=ls.map V.ref /\
 ∀(i:Nat) (ds:z5) (l:Addr),(kvs.map (·.2))[i]?=Z ds->ls[i]?=Z l->∃vs,H l=Z (.lst vs)/\Zu K F ds vs
section
variable{K:Af}{F F' H H':Hp}{kvs:List (List sL×z5)}{vvs:List (List sL×V)}{ls:List Addr}
theorem OT.len(q:OT K F H kvs vvs ls):BC kvs=ls.length/\kvs.length=vvs.length:=by have e1:=congrArg BC q.1;have e2:=congrArg BC q.2.1;rw[Ad,Ad]at e1 e2;omega
theorem OT.mono(q:OT K F H kvs vvs ls)(s:Zs F F')(k:∀a∈ls,∀o,H a=Z o->H' a=Z o):OT K F' H' kvs vvs ls :=
 ⟨q.1,q.2.1,λi ds l h1 h2=>let ⟨vs,q1,q2⟩:=q.2.2 i ds l h1 h2;⟨vs,k l (Bo h2) _ q1,q2.mono s⟩⟩
theorem OT.snoc(q:OT K F H kvs vvs ls)(k:List sL)(hp:H p=Z (.lst [])):OT K F H (kvs++[(k,[])]) (vvs++[(k,.ref p)]) (ls++[p]):=by
 refine⟨by rw[BB,BB,q.1];rfl,by rw[BB,BB,q.2.1];rfl,λi ds l h1 h2=>?_⟩;have hl:=q.len;rw[BB]at h1
 by_cases hi:i<BC kvs
 .rw[DU (by rw[Ad];exact hi)]at h1
  rw[DU (by omega)]at h2;exact q.2.2 i ds l h1 h2
 .rw[Fh (by rw[Ad];omega),Ad]at h1
  rw[Fh (by omega),<-hl.1]at h2;cases hj:i-kvs.length with
  |zero=>rw[hj]at h1 h2;cases h1;cases h2;exact⟨[],hp,.nil⟩
  |succ j=>rw[hj]at h1;cases h1
theorem OT.look(q:OT K F H kvs vvs ls)(k:List sL):(∀ds,HM.Zk kvs k=Z ds->∃l' vs,AW vvs k=Z (.ref l')/\l'∈ls/\H l'=Z (.lst vs)/\Zu K F ds vs)/\(HM.Zk kvs k=Z_->AW vvs k=Z_):=QX k kvs vvs ls q.1 q.2.1 q.2.2
theorem OT.app(k:List sL){d:PyData}{v:V}:∀{kvs:List (List sL×z5)} {vvs:List (List sL×V)} {ls:List Addr},OT K F H kvs vvs ls->ls.Nodup->Rep K F d v->∀{l':Addr} {vs:List V},AW vvs k=Z (.ref l')->H l'=Z (.lst vs) ->OT K F (upd H l' (.lst (vs++[v]))) (HM.DI kvs k d) vvs ls
 |[],[],_,q,_,_,l',vs,hv,_=>by cases hv
 |[],_::_,_,q,_,_,_,_,_,_=>by have:=q.len;simp at this
 |_::_,[],_,q,_,_,_,_,_,_=>by have:=q.len;simp at this
 |_::_,_::_,[],q,_,_,_,_,_,_=>by have:=q.len;simp at this
 |(k1,ds1)::kvs,(k2,v2)::vvs,l1::ls,q,nd,rd,l',vs,hv,hl=>by
  obtain⟨q1,q2,q3⟩:=q;rw[Ai,Ai]at q1 q2;injection q1 with e1 e2
  injection q2 with e3 e4
  have e1:k1=k2:=e1;have e3:v2=.ref l1:=e3;subst e1 e3;have rest:OT K F H kvs vvs ls:=⟨e2,e4,λi ds l h1 h2=>q3 (i+1) ds l (by simpa using h1) (by simpa using h2)⟩;obtain⟨n1,n2⟩:=CC.mp nd;obtain⟨us,f1,f2⟩:=q3 0 ds1 l1 rfl rfl;unfold HM.DI
  by_cases hk:k1=k
  .rw[if_pos hk]
   rw[Ip (p:=(k1,V.ref l1)) hk]at hv;cases hv;rw[hl]at f1;cases f1;refine⟨by rw[Ai,Ai,e2],by rw[Ai,Ai,e4],λi ds l h1 h2=>?_⟩;cases i with
   |zero=>cases h1;cases h2;exact⟨_,ZJ,f2.append (.one rd)⟩
   |succ i=>rw[Ai,EB]at h1;rw[EB]at h2;obtain⟨us,g1,g2⟩:=rest.2.2 i ds l h1 h2;exact⟨us,by rw[ZE (λz=>n1 (by rw[<-z];exact Bo h2))];exact g1,g2⟩
  .rw[if_neg hk]
   rw[Iu (p:=(k1,V.ref l1)) hk]at hv;have ih:=OT.app k rest n2 rd hv hl;have tM:l1≠l':=by
    rintro rfl
    have:∀(vvs:List (List sL×V)) (ls:List Addr),vvs.map (·.2)=ls.map V.ref->∀l',AW vvs k=Z (.ref l')->l'∈ls:=by
     intro vvs
     induction vvs with
     |nil=>intro ls _ l' h;cases h
     |cons p vvs ih =>
      intro ls he l' h;cases ls with
      |nil=>simp at he
      |cons l ls =>
       rw[Ai,Ai]at he;injection he with zH he2
       by_cases hp:p.1=k
       .rw[Ip hp]at h
        rw[zH]at h;cases h;exact An
       .rw[Iu hp]at h
        exact Ao _ (ih ls he2 l' h)
    exact n1 (this vvs ls e4 _ hv)
   refine⟨by rw[Ai,Ai,ih.1],by rw[Ai,Ai,e4],λi ds l h1 h2=>?_⟩;cases i with
   |zero=>cases h1;cases h2;exact⟨us,by rw[ZE tM];exact f1,f2⟩
   |succ i=>rw[Ai,EB]at h1;rw[EB]at h2;exact ih.2.2 i ds l h1 h2
end
theorem Bh.otl{K:Af}{F0 H0 F H:Hp}{r:HM.Env}{σ:L2.St}{fp:Nat->List Addr}{i:Nat}{kvs:List (List sL×z5)}(e:Bh K F0 H0 F H r σ fp)(h:r[i]?=Z (Z (.otl kvs))):∃a vvs ls,σ[i]?=Z (Z (.ref a))/\H a=Z (.dT vvs)/\OT K F H kvs vvs ls/\fp i=a::ls:=by
 obtain⟨v,h1,h2⟩:=e.at_ i _ h;generalize hf:fp i=q at h2;cases h2 with
 |otl k1 k2 k3 k4=>exact⟨_,_,_,h1,k1,⟨k2,k3,k4⟩,rfl⟩
theorem Bh.otlNew{Fb Hb:Hp}{fp:Nat->List Addr}(k:List sL)(eb:Bh K F0 H0 Fb Hb r σ fp)(x:sR Fb Hb F H)(h:r[i]?=Z (Z (.otl kvs)))(hp:H p=Z (.lst []))(hF:F p=Z_)(hb:Hb p=Z_):∃a vvs,σ[i]?=Z (Z (.ref a))/\H a=Z (.dT vvs)/\vvs.length=kvs.length/\(HM.Zk kvs k=Z_->AW vvs k=Z_)/\At K F0 H0 F (upd H a (.dT (vvs++[(k,.ref p)]))) (r.set i (Z (.otl (kvs++[(k,[])])))) σ:=by
 have e:=eb.grow x;obtain⟨a,vvs,ls,h1,h2,h3,h4⟩:=e.otl h;have hpn:∀j,p∉fp j:=λj hj=>by obtain⟨o,ho⟩:=eb.there hj;rw[hb]at ho;cases ho
 have yc:p≠a:=λz=>hpn i (by rw[h4,z];exact An);have uT:a∉ls:=(CC.mp (h4▸e.nd i)).1;have nl:ls.Nodup:=(CC.mp (h4▸e.nd i)).2;have hpl:p∉ls:=λz=>hpn i (by rw[h4];exact Ao _ z);refine⟨a,vvs,h1,h2,h3.len.2.symm,(h3.look k).2,?_⟩;have q:=h3.snoc k hp;have q':OT K F (upd H a (.dT (vvs++[(k,.ref p)]))) (kvs++[(k,[])]) (vvs++[(k,.ref p)]) (ls++[p]):=q.mono (Zs.refl F) λc hc o z=>by
  rw[ZE]
  .exact z
  .rintro rfl
   rcases Bb.mp hc with hc|hc
   .exact uT hc
   .exact yc (Ax.mp hc).symm
 have nd':(a::(ls++[p])).Nodup:=by
  refine CC.mpr ⟨?_,?_⟩
  .intro z
   rcases Bb.mp z with z|z
   .exact uT z
   .exact yc (Ax.mp z).symm
  .rw[Ee]
   refine⟨nl,by simp,λx hx y hy=>?_⟩;obtain rfl:y=p:=by simpa using hy
   rintro rfl
   exact hpl hx
 refine e.changeW h1 (fp':=a::(ls++[p])) (.otl ZJ q'.1 q'.2.1 q'.2.2) nd' (λc hc=>?_) λc o z hn=>?_
 .rcases As.mp hc with z|z
  .subst z;exact .inl (by rw[h4];exact An)
  .rcases Bb.mp z with z|z
   .exact .inl (by rw[h4];exact Ao _ z)
   .obtain rfl:c=p:=Ax.mp z
    exact .inr ⟨hF,eb.ext.hh.free hb,hpn⟩
 .rw[ZE (λy=>hn (by rw[h4,y];exact An))]
  exact z
theorem At.otlApp(k:List sL)(e:At K F0 H0 F H r σ)(h:r[i]?=Z (Z (.otl kvs)))(hd:HM.Zk kvs k=Z ds):∃a vvs l vs,σ[i]?=Z (Z (.ref a))/\H a=Z (.dT vvs)/\AW vvs k=Z (.ref l)/\H l=Z (.lst vs)/\Zu K F ds vs/\∀d v,Rep K F d v->At K F0 H0 F (upd H l (.lst (vs++[v]))) (r.set i (Z (.otl (HM.DI kvs k d)))) σ:=by
 obtain⟨fp,e⟩:=e;obtain⟨a,vvs,ls,h1,h2,h3,h4⟩:=e.otl h;obtain⟨l,vs,g1,g2,g3,g4⟩:=(h3.look k).1 ds hd;have uT:a∉ls:=(CC.mp (h4▸e.nd i)).1;have nl:ls.Nodup:=(CC.mp (h4▸e.nd i)).2;have tM:a≠l:=λz=>uT (by rw[z];exact g2);refine⟨a,vvs,l,vs,h1,h2,g1,g3,g4,λd v rd=>?_⟩;have q:=h3.app k nl rd g1 g3;refine e.change h1 (fp':=a::ls) (.otl (by rw[ZE tM];exact h2) q.1 q.2.1 q.2.2) (h4▸e.nd i) (λc hc=>.inl (by rw[h4];exact hc)) λc o z hn=>?_;rw[ZE (λy=>hn (by rw[h4,y];exact Ao _ g2))];exact z
section
variable{X:Cx}{a b c e:Expr}{fa fb fc:HM.EF}{pos p:Pos}{f:HM.BF}
theorem ky(hu:X.A.units+1<cLine)(i:Nat)(hk:XE X b fb)(hN:X.N[i]?=Z x:=by rfl)(hv:vd X.env.scope x:=by first|exact AB rfl|exact Ap (AB rfl)|exact Ap (Ap rfl))(hd:(x==("__debug__":Str))=Ab:=by decide)(tF:(x==("__classdict__":Str))=Ab:=by decide)(hs:Et (.List [] p3) (Z (.Subscript (.Name x p1) b p2)) pos.line X.env=pure Ab:=by rfl):XS X (.Assign [.Subscript (.Name x p1) b p2] (.List [] p3) pos) (HM.oG i fb):=by
 intro r o h;unfold HM.oG at h;split at h
 .rename_i y hy
  split at h
  .rename_i kvs hb
   split at h
   .rename_i k hk'
    split at h
    .rename_i hz
     split at h
     .rename_i hl
      cases h;refine PS.imp (QR hu (Dt hN hv hd tF) (hk r y hy) (Dv (X:=X) Zm (by simp) r (.ol []) rfl) hs) λE σ H ⟨F0,H0,F,at_,kk⟩=>?_;refine⟨F0,H0,F,at_,λv F1 H1 x1 ⟨fp,r1,nd,hn⟩=>?_⟩;cases r1 with
      | @ol l _ vs uj rs =>
       obtain rfl:vs=[]:=rs.nil_inv;have t5:=at_.grow x1;obtain⟨u,fp,e1,e2⟩:=t5.any hb;refine⟨u,e1,F0,H0,F1,t5,λw F2 H2 x2 r2=>?_⟩;obtain⟨fq,eb⟩:=at_;have hlF:F2 l=Z_:=by
        cases q:F2 l with
        |none=>rfl
        |some o =>
         rcases x2.new l o q with z|z
         .rw[(hn l (by simp)).1]at z;cases z
         .exact(z.no uj λ_ q=>by cases q).elim
       obtain⟨aa,vvs,g1,g2,g3,g4,g5⟩:=eb.otlNew k (x1.trans x2) hb (x2.hh _ _ uj) hlF (hn l (by simp)).2;rw[e1]at g1;cases g1;obtain⟨bb,rfl,uG⟩:=Em hk' r2;have hpk:tJ vvs k (V.ref l)=vvs++[(k,.ref l)]:=by unfold tJ;rw[if_neg];rw[Nn,g4 hl];simp
       refine⟨aa,_,rfl,Gd.t g2 (x2.sub _ _ uG) (by rw[g3];exact Ii hz),?_⟩;rw[hpk];exact kk _ F2 _ g5
     .cases h
    .cases h
   .cases h
  .cases h
 .cases h
theorem ke(hu:X.A.units+1<cLine)(i:Nat)(hk:XE X b fb)(ha:XE X a fa)(hN:X.N[i]?=Z x:=by rfl)(hv:vd X.env.scope x:=by first|exact AB rfl|exact Ap (AB rfl)|exact Ap (Ap rfl))(hd:(x==("__debug__":Str))=Ab:=by decide)(tF:(x==("__classdict__":Str))=Ab:=by decide)(yZ:KH b:=by intro _ _;rfl)(tZ:Hu (.Subscript (.Name x p1) b p2) "append" X.env (eval (.Subscript (.Name x p1) b p2) X.env)=eval (.Subscript (.Name x p1) b p2) X.env:=by rfl)(uf:((backTo p4 (Ag [a] X.env)).all (λx=>!x.1)&&(Kk p4 (Kl [] X.env)).all (λx=>x.1.isSome)&&decide (([a]:List Expr).length+([]:List Keyword).length+(if([]:List Keyword).isEmpty then 0 else 1)<30))=Aa:=by rfl)(tX:(p3.endLine==p4.line)=Aa:=by rfl)(hs:Ag [a] X.env=[(Ab,eval a X.env)]:=by rfl):XS X (.Expr (.Call (.Attribute (.Subscript (.Name x p1) b p2) "append" p3) [a] [] p4) pos) (HM.mW i fb fa):=by
 intro r o h;unfold HM.mW at h;split at h
 .rename_i y hy
  split at h
  .rename_i kvs hb
   split at h
   .rename_i k hk'
    split at h
    .rename_i d hd'
     split at h
     .rename_i ds sY
      split at h
      .rename_i hz
       cases h;refine PS.imp (Lg (MS MB Uj Ui NH (QV hu (Dt hN hv hd tF) (hk r y hy) yZ) (BM (ha r d hd') CL hs) tZ uf tX hs rfl)) λE σ H ⟨F0,H0,F,at_,kk⟩=>?_;obtain⟨aa,vvs,l,vs,e1,e2,e3,e4,e5,_⟩:=at_.otlApp k hb sY;refine⟨.ref aa,e1,F0,H0,F,at_,λw F1 H1 x1 r1=>?_⟩;obtain⟨bb,rfl,uG⟩:=Em hk' r1;have t5:=at_.grow x1;refine⟨aa,.ref l,rfl,by rw[<-e3];exact BZ.t (x1.hh _ _ e2) (x1.sub _ _ uG),.inl ⟨rfl,_,tQ.of (x1.hh _ _ e4)⟩,F0,H0,F1,t5,λv F2 H2 x2 r2=>?_⟩;obtain⟨aa',vvs',l',vs',g1,g2,g3,g4,g5,g6⟩:=(t5.grow x2).otlApp k hb sY;rw[e1]at g1;cases g1;have:=(x1.trans x2).hh _ _ e2;rw[this]at g2;cases g2;rw[e3]at g3;cases g3;refine⟨_,vs',v,rfl,rfl,g4,?_,kk _ F2 _ (g6 d v r2)⟩;rw[<-g5.1];exact Ii hz
      .cases h
     .cases h
    .cases h
   .cases h
  .cases h
 .cases h
theorem js{k:List sL}(h:HM.Zk kvs k=Z ds):HM.Cy kvs k=kvs:=by unfold HM.Cy;rw[h]
theorem kJ{k:List sL}(h:HM.Zk kvs k=Z_):HM.Cy kvs k=kvs++[(k,[])]:=by unfold HM.Cy;rw[h]
theorem kd(hu:X.A.units+1<cLine)(i:Nat){p0 p5:Pos}(hk:XE X b fb)(ha:XE X a fa)(m:M2 X (.Name x p0) "setdefault" p1 b (.List [] p2) p3)(hN:X.N[i]?=Z x:=by rfl)(hv:vd X.env.scope x:=by first|exact AB rfl|exact Ap (AB rfl)|exact Ap (Ap rfl))(hd:(x==("__debug__":Str))=Ab:=by decide)(tF:(x==("__classdict__":Str))=Ab:=by decide)(tZ:Hu (.Call (.Attribute (.Name x p0) "setdefault" p1) [b,.List [] p2] [] p3) "append" X.env (eval (.Call (.Attribute (.Name x p0) "setdefault" p1) [b,.List [] p2] [] p3) X.env)=eval (.Call (.Attribute (.Name x p0) "setdefault" p1) [b,.List [] p2] [] p3) X.env:=by rfl)(uf:((backTo p5 (Ag [a] X.env)).all (λx=>!x.1)&&(Kk p5 (Kl [] X.env)).all (λx=>x.1.isSome)&&decide (([a]:List Expr).length+([]:List Keyword).length+(if([]:List Keyword).isEmpty then 0 else 1)<30))=Aa:=by rfl)(tX:(p4.endLine==p5.line)=Aa:=by rfl)(hs:Ag [a] X.env=[(Ab,eval a X.env)]:=by rfl):XS X (.Expr (.Call (.Attribute (.Call (.Attribute (.Name x p0) "setdefault" p1) [b,.List [] p2] [] p3) "append" p4) [a] [] p5) pos) (HM.mZ i fb fa):=by
 intro r o h;unfold HM.mZ at h;split at h
 .rename_i y hy
  split at h
  .rename_i kvs hb
   split at h
   .rename_i k hk'
    split at h
    .rename_i hzz
     split at h
     .rename_i d hd'
      split at h
      .rename_i ds sY
       split at h
       .rename_i hz
        cases h;have hi:i<BC r:=(Bf.mp hb).1;have hb':(r.set i (Z (.otl (HM.Cy kvs k))))[i]?=Z (Z (.otl (HM.Cy kvs k))):=Fg hi;refine PS.imp (Lg (MS MB Uj Ui NH (f6 hu (Dt hN hv hd tF) (hk r y hy) (Dv (X:=X) Zm (by simp) r (.ol []) rfl) m) (BM (ha _ d hd') CL hs) tZ uf tX hs rfl)) λE σ H ⟨F0,H0,F,at_,kk⟩=>?_;have tO:∀{F3 H3:Hp} {l:Addr},At X.K F0 H0 F3 H3 (r.set i (Z (.otl (HM.Cy kvs k)))) σ->(∃vs,tQ X.K H3 l vs)->(∀a' vvs',σ[i]?=Z (Z (.ref a'))->H3 a'=Z (.dT vvs')->AW vvs' k=Z (.ref l)) ->
          tyV X.K "list" (.ref l) H3/\vA X.K (r.set i (Z (.otl (HM.Cy kvs k)))) σ H3 λF0 H0 F=>∀v F' H',sR F H3 F' H'->Rep X.K F' d v->VS (.ref l) [v] H' λ_ H'=>E.nx σ H':=by
         intro F3 H3 l ue hl wN;refine⟨.inl ⟨rfl,hl⟩,F0,H0,F3,ue,λv F4 H4 x4 r4=>?_⟩;obtain⟨aa',vvs',l',vs',g1,g2,g3,g4,g5,g6⟩:=(ue.grow x4).otlApp k hb' sY;obtain⟨aa2,zV,l2,vs2,f1,f2,f3,_⟩:=ue.otlApp k hb' sY;rw[f1]at g1;cases g1;rw[x4.hh _ _ f2]at g2;cases g2;rw[wN _ _ f1 f2]at g3;cases g3;have g7:=g6 d v r4;rw[My]at g7;refine⟨_,vs',v,rfl,rfl,g4,?_,kk _ F4 _ g7⟩;rw[<-g5.1];exact Ii hz
        obtain⟨fq,eb⟩:=at_;obtain⟨aa,vvs,ls,e1,e2,e3,e4⟩:=eb.otl hb;refine⟨.ref aa,e1,aa,rfl,.inr ⟨vvs,.inl e2⟩,F0,H0,F,⟨fq,eb⟩,λw F1 H1 x1 r1=>⟨F0,H0,F1,At.grow ⟨fq,eb⟩ x1,λv F2 H2 x2 ⟨fp,r2,nd,hn⟩=>?_⟩⟩;obtain⟨bb,rfl,uG⟩:=Em hk' r1;have vL:=x1.trans x2;have hz0:BC vvs<sizeLine:=by rw[<-e3.len.2];exact Ii hzz
        refine⟨vvs,k,bb,vL.hh _ _ e2,rfl,x2.hh _ _ (x1.sub _ _ uG),hz0,λu hu'=>?_,λu6=>?_⟩
        .have y4:∃ds0,HM.Zk kvs k=Z ds0:=by
          cases hq:HM.Zk kvs k with
          |some ds0=>exact⟨ds0,rfl⟩
          |none=>rw[(e3.look k).2 hq]at hu';cases hu'
         obtain⟨ds0,y4⟩:=y4;have ead:=js y4;obtain⟨l0,vs0,q1,q2,q3,q4⟩:=(e3.look k).1 ds0 y4;rw[q1]at hu';cases hu';refine tO (F3:=F2) ?_ ⟨vs0,tQ.of (vL.hh _ _ q3)⟩ λa' vvs' z1 z2=>?_
         .rw[ead]
          have:r.set i (Z (.otl kvs))=r:=by obtain⟨h1,h2⟩:=Bf.mp hb;rw[<-h2];exact PF h1
          rw[this];exact At.grow ⟨fq,eb⟩ vL
         .rw[e1]at z1
          cases z1;rw[vL.hh _ _ e2]at z2;cases z2;exact q1
        .have y4:HM.Zk kvs k=Z_:=by
          cases hq:HM.Zk kvs k with
          |none=>rfl
          |some ds0=>obtain⟨l0,vs0,q1,_⟩:=(e3.look k).1 ds0 hq;rw[u6]at q1;cases q1
         have ead:=kJ y4;cases r2 with
         | @ol l _ vs uj rs =>
          obtain rfl:vs=[]:=rs.nil_inv;have hHl:H l=Z_:=x1.hh.free (hn l (by simp)).2;obtain⟨aa2,zV,g1,g2,g3,g4,g5⟩:=eb.otlNew k vL hb uj (hn l (by simp)).1 hHl;rw[e1]at g1;cases g1;rw[vL.hh _ _ e2]at g2;cases g2;have tM:l≠aa:=λz=>by rw[z,e2]at hHl;cases hHl
          refine tO (F3:=F2) (by rw[ead];exact g5) ⟨[],tQ.of (by rw[ZE tM];exact uj)⟩ λa' vvs' z1 z2=>?_;rw[e1]at z1;cases z1;rw[ZJ]at z2;cases z2;unfold AW at u6 ⊢;rw[Option.map_eq_none_iff]at u6;rw[Tu,u6];simp
       .cases h
      .cases h
     .cases h
    .cases h
   .cases h
  .cases h
 .cases h
end
end
end HP
namespace HP
open PySem PyProof.Rows
section
variable{xs:Array Nat}{b:Bool}{i j:Nat}
def Dq(xs:Array Nat):Prop:=xs.toList.Pairwise (· < ·)
theorem Dq.lt(h:Dq xs){k:Nat}(hk:k<xs.size)(hik:i<k):xs.getD i 0<xs.getD k 0:=by have:=bO.mp h i k (by simpa using FZ hik hk) (by simpa using hk) hik;simpa [Dh,hk,FZ hik hk]using this
theorem Q4{xs:Array Nat}(h:Dq xs)(j:Nat):∀(sI lo hi:Nat),lo<=hi->hi<=xs.size->hi-lo<=sI->(∀i,i<lo->xs.getD i 0<j)->(∀i,hi<=i->i<xs.size->j<=xs.getD i 0) ->Pa xs j sI lo hi<=xs.size/\(∀i,i<Pa xs j sI lo hi->xs.getD i 0<j)/\∀i,Pa xs j sI lo hi<=i->i<xs.size->j<=xs.getD i 0
 |0,lo,hi,h1,h2,h3,a,b=>by
  obtain rfl:lo=hi:=by omega
  exact⟨h2,a,b⟩
 |sI+1,lo,hi,h1,h2,h3,a,b=>by
  unfold Pa;split
  .rename_i tf
   have hm:(lo+hi) / 2<xs.size:=by omega
   have e:xs.getD ((lo+hi) / 2) j=xs.getD ((lo+hi) / 2) 0:=by simp[Dh,hm]
   dsimp only;rw[e]
   by_cases q:xs.getD ((lo+hi) / 2) 0<j
   .rw[if_pos q]
    refine Q4 h j sI ((lo+hi) / 2+1) hi (by omega) h2 (by omega) (λi hi'=>?_) b
    by_cases c:i=(lo+hi) / 2
    .rw[c];exact q
    .exact FZ (h.lt hm (by omega)) q
   .rw[if_neg q]
    refine Q4 h j sI lo ((lo+hi) / 2) (by omega) (by omega) (by omega) a (λi hi' hs=>?_)
    by_cases c:i=(lo+hi) / 2
    .rw[c];omega
    .have:=h.lt hs (show(lo+hi) / 2<i by omega);omega
  .obtain rfl:lo=hi:=by omega
   exact⟨h2,a,b⟩
theorem Iy(h:Dq xs)(j:Nat):Am xs j<=xs.size/\(∀i,i<Am xs j->xs.getD i 0<j)/\∀i,Am xs j<=i->i<xs.size->j<=xs.getD i 0 :=
 Q4 h j xs.size 0 xs.size (BQ _) (Aj _) (by omega) (λi hi=>by omega) λi h1 h2=>by omega
theorem lI(h:Dq xs)(hi:i<xs.size):Am xs (xs.getD i 0+1)=i+1:=by
 obtain⟨a,b,c⟩:=Iy h (xs.getD i 0+1);apply Nat.le_antisymm
 .apply Kz
  intro q;have h1:=b (i+1) q;have h2:=h.lt (show i+1<xs.size by omega) (Jc i);omega
 .apply Kz
  intro q;have h1:=c (Am xs (xs.getD i 0+1)) (Aj _) (by omega)
  by_cases e:Am xs (xs.getD i 0+1)=i
  .rw[e]at h1;omega
  .have:=h.lt hi (show Am xs (xs.getD i 0+1)<i by omega);omega
theorem lG(h:Dq xs):Am xs 0=0:=by obtain⟨a,b,c⟩:=Iy h 0;apply Nat.eq_zero_of_not_pos;intro q;have:=b 0 q;omega
theorem RE(h:Dq xs)(hn:xs[Am xs j]?≠Z j):Dq (AQ xs (Am xs j) j):=by
 obtain⟨a,b,c⟩:=Iy h j;unfold Dq;rw[MH];have gt:∀i,Am xs j<=i->i<xs.size->j<xs.getD i 0:=by
  intro i h1 h2
  by_cases e:Am xs j=i
  .subst e
   have h3:=c _ h1 h2;have:xs.getD (Am xs j) 0≠j:=λq=>hn (by
    have z:xs[Am xs j]?=Z (xs.getD (Am xs j) 0):=by simp[Dh,h2]
    rw[z,q])
   omega
  .have h3:=h.lt h2 (show Am xs j<i by omega)
   have h4:=c _ (Aj _) (show Am xs j<xs.size by omega);omega
 rw[List.pairwise_append];refine⟨h.sublist (List.take_sublist ..),Ed.mpr ⟨λx hx=>?_,h.sublist (List.drop_sublist ..)⟩,λx hx y hy=>?_⟩
 .obtain⟨i,hi,rfl⟩:=Jk hx
  rw[Jd,Bk]at hi;rw[List.getElem_drop];have:=gt (Am xs j+i) (by omega) (by omega);simpa [Dh,show Am xs j+i<xs.size by omega]using this
 .obtain⟨i,hi,rfl⟩:=Jk hx
  rw[Ec,Bk]at hi;rw[List.getElem_take];have h1:=b i (by omega);have h1':xs.toList[i]'(by simp;omega)<j:=by simpa [Dh,show i<xs.size by omega]using h1
  rcases As.mp hy with e|e
  .rw[e];exact h1'
  .obtain⟨k,hk,rfl⟩:=Jk e
   rw[Jd,Bk]at hk;rw[List.getElem_drop];have h2:=gt (Am xs j+k) (by omega) (by omega);have h2':j<xs.toList[Am xs j+k]'(by simp;omega):=by simpa [Dh,show Am xs j+k<xs.size by omega]using h2
   exact FZ h1' h2'
theorem has_none(j:Nat):SetTable.has #[] j=Ab:=by simp[SetTable.has]
structure Tab(b:Bool)(t:SetTable):Prop where
 dum:t.dummies=#[]
 rise:Dq t.place
 led:t.led=b
 plain:t.plain=Aa
 low:∀j∈t.place.toList,j<8
 mask:t.mask=if t.place.size<=4 then 7 else 31
theorem Tab.fresh(b:Bool):Tab b (Pc 0 0 b):=⟨rfl,.nil,rfl,rfl,λj hj=>by simp[Pc]at hj,rfl⟩
theorem Tab.few{t:SetTable}(h:Tab b t):t.place.size<=8:=by
 have key:∀(l:List Nat) (lo:Nat),l.Pairwise (· < ·)->(∀j∈l,lo<=j/\j<8)->l.length<=8-lo:=by
  intro l
  induction l with
  |nil=>intro lo _ _;simp
  |cons x l ih=>intro lo hp hb;have h1:=hb x (An ..);have h2:=ih (x+1) (Ed.mp hp).2 λy hy=>⟨(Ed.mp hp).1 y hy,(hb y (Ao _ hy)).2⟩;rw[Av];omega
 have:=key t.place.toList 0 h.rise λj hj=>⟨BQ _,h.low j hj⟩;simpa using this
theorem RK{t:SetTable}(h:Tab b t)(hj:j∉t.place.toList):t.slot j=.empty/\t.place[Am t.place j]?≠Z j:=by have q:t.place[Am t.place j]?≠Z j:=λe=>hj (by rw[<-Ca]at e;exact Bo e);unfold Tj;dsimp only;rw[if_neg (by simpa using q),h.dum,has_none,if_neg (by simp)];exact⟨rfl,q⟩
theorem fB{t:SetTable}(h:Tab b t)(j:Nat):t.put j=({t with place:=AQ t.place (Am t.place j) j},Am t.place j):=by
 unfold SetTable.put;dsimp only;rw[h.dum,has_none];cases t;have:=h.dum
 simp_all
theorem sQ{α:Type}(xs:Array α)(p:Nat)(x:α):(AQ xs p x).size=xs.size+1:=by rw[<-Bk,(GF xs p x).length_eq];simp
theorem fA{t:SetTable}(h:Tab b t){es:Array (Int×Value)}(he:es.size=t.place.size)(h8:j<8)(hj:j∉t.place.toList)(v:Value):layNew t es (j:Int) v=(AQ es (Am t.place j) ((j:Int),v),{t with place:=AQ t.place (Am t.place j) j},Ab,Ab):=by
 obtain⟨e1,e2⟩:=RK h hj;have uf:=h.few;have hm:t.mask=7\/t.mask=31:=by rw[h.mask];split<;>simp
 have hbits:A9 (j:Int)%(t.mask+1)=j:=by
  have hb:A9 (j:Int)=j:=by unfold A9;omega
  rw[hb];rcases hm with e|e<;>rw[e]<;>omega
 have ud:t.freeSlot (j:Int)=Z (j,Ab):=by
  unfold SetTable.freeSlot SetTable.probe;have hf:10*Eu t.mask=(10*Eu t.mask-1)+1:=by unfold Eu;omega
  rw[hf];unfold HE;have hp:(t.probeStart (j:Int)).j=j:=hbits;rw[hp,e1];rfl
 have vO:t.place.size<=7:=by
  apply Kz;intro q;have h8':t.place.size=8:=by omega
  have:=BW (l₁:=j::t.place.toList) (l₂:=Ah 8) (CC.mpr ⟨hj,h.rise.imp λq=>Aw q⟩) (λx hx=>by
   rcases As.mp hx with e|e
   .rw[e];exact AI.mpr h8
   .exact AI.mpr (h.low x e))
  simp at this;omega
 have uZ:(Ku {t with place:=AQ t.place (Am t.place j) j} (AQ es (Am t.place j) ((j:Int),v)).size)=Aa:=by unfold Ku Hq;simp only[sQ,he,h.dum];simp;rw[h.mask];split<;>omega
 unfold layNew;rw[ud];dsimp only;rw[fB h];dsimp only;unfold SetTable.orStandIn;rw[uZ];rfl
theorem Tab.ins{t:SetTable}(h:Tab b t)(h8:j<8)(hj:j∉t.place.toList)(hs:t.place.size≠4):Tab b {t with place:=AQ t.place (Am t.place j) j}:=by
 obtain⟨_,e2⟩:=RK h hj;refine⟨h.dum,RE h.rise e2,h.led,h.plain,λx hx=>?_,?_⟩
 .have:=(GF t.place (Am t.place j) j).mem_iff.mp hx
  rw[GK]at this;rcases Bb.mp this with q|q
  .exact h.low x q
  .rw[Ax.mp q];exact h8
 .dsimp only
  rw[sQ,h.mask];split<;>split<;>omega
def QK:List (List Nat):=(Ah 8).flatMap λa=>(Ah 8).flatMap λb=>(Ah 8).flatMap λc=>(Ah 8).flatMap λd=>(Ah 8).filterMap λe=>if a<b/\b<c/\c<d/\d<e then Z [a,b,c,d,e]else Z_
theorem lV{l:List Nat}(h:l.Pairwise (· < ·))(h8:∀j∈l,j<8)(h5:BC l=5):l∈QK:=by
 match l,h5 with
 |[a,b,c,d,e],_=>simp at h h8;unfold QK;simp only[Jb,AI,CT];refine⟨a,by omega,b,by omega,c,by omega,d,by omega,e,by omega,?_⟩;rw[if_pos (by omega)]
theorem dq:∀l∈QK,(O9 31 (l.map λ(n:Nat)=>(n:Int)).toArray).map (λowner=>(Ah 32).filterMap λj=>(owner.getD j Z_).map (j,·))=Z (l.zip (Ah 5)):=by decide +kernel
end
section
variable{es:Array (Int×Value)}{h:Heap}{ns:zZ}
def DF(e:Int×Value):Int:=match e.2 with
 | .int n _=>n
 |_=>0
section
variable(prog:Program)(w:World)
def KN(es:List (Int×Value)):Prop:=∀e∈es,∃n t,e=((intKind prog w).hash n,DA n t)
def CZ(h:Heap)(a:Addr)(L:zZ):Prop:=∃o es ep t,h.get? a=Z o/\o.ExactSet/\o.data=.set es ep t/\KN prog w es.toList/\(es.toList.map DF).Perm L/\es.toList.map DF=t.place.toList.map (λ(j:Nat)=>(j:Int))/\Tab (!w.params.followText "set-order") t
end
section
variable{prog:Program}{w:World}{A:Around}{E:z4}{s:Shared}{a:Addr}{L:zZ}
theorem KN.elems{es:List (Int×Value)}(h:KN prog w es):ElemsOf (intKind prog w) es:=λe he=>by obtain⟨n,t,rfl⟩:=h e he;exact⟨⟨n,Km _ _ _ _,rfl⟩,rfl⟩
theorem CZ.at'{h':Heap}(x:CZ prog w h a L)(k:∀o,h.get? a=Z o->h'.get? a=Z o):CZ prog w h' a L:=let ⟨o,es,ep,t,e,r⟩:=x;⟨o,es,ep,t,k o e,r⟩
def u5(L:zZ)(n:Int):zZ:=if L.contains n then L else L++[n]
theorem Vs{k n:Int}{t:Tok}:(intKind prog w).is k (.int n t)=Aa↔n=k:=by
 constructor
 .intro h
  exact(intKind prog w).inj _ _ _ (Km _ _ _ _) h
 .rintro rfl;exact Km _ _ _ _
theorem RI:∀(j:Nat),j<8->(intKind prog w).hash (j:Int)=(j:Int)
 |0,_=>rfl
 |1,_=>rfl
 |2,_=>rfl
 |3,_=>rfl
 |4,_=>rfl
 |5,_=>rfl
 |6,_=>rfl
 |7,_=>rfl
 |n+8,h=>by omega
theorem Tab.fits{b:Bool}{t:SetTable}(h:Tab b t):t.fits t.place.size=Aa:=by have hf:=h.few;unfold Ku Hq;rw[h.dum,h.mask];simp;split<;>omega
theorem wb{t:SetTable}(h:es.toList.map DF=t.place.toList.map (λ(j:Nat)=>(j:Int))):es.size=t.place.size:=by have:=congrArg BC h;simpa using this
theorem Yu{o:Obj}{es':Array (Int×Value)}{ep:Nat}{t t':SetTable}(ho:h.get? a=Z o)(vk:o.ExactSet)(hd:o.data=.set es ep t)(za:KN prog w es'.toList)(hp:(es'.toList.map DF).Perm L)(hs:es'.toList.map DF=t'.place.toList.map (λ(j:Nat)=>(j:Int)))(ht:Tab (!w.params.followText "set-order") t'):(h.update a (Dg es' t')).get? a=Z {o with data:=.set es' (ep+1) t'}/\CZ prog w (h.update a (Dg es' t')) a L:=by
 have hg:(h.update a (Dg es' t')).get? a=Z {o with data:=.set es' (ep+1) t'}:=by
  have:=Fi (Dg es' t') ho (by rw[Hw es' t' hd];rfl)
  rwa [Hw es' t' hd]at this
 exact⟨hg,_,es',ep+1,t',hg,vk,rfl,za,hp,hs,ht⟩
theorem i6{b:Bool}{t:SetTable}(hr:Dq t.place)(h8:∀j∈t.place.toList,j<8)(h5:t.place.size=5)(he:es.map (·.1)=(t.place.toList.map (λ(j:Nat)=>(j:Int))).toArray)(hl:t.led=b)(hp:t.plain=Aa):∃t',relayAll t es 20=(es,t',Ab)/\t'.place=t.place/\Tab b t':=by
 have hc:=dq _ (lV hr h8 (by simpa using h5));obtain⟨owner,o1,o2⟩:=Ak.mp hc;have hsz:es.size=5:=by have:=congrArg Array.size he;simp at this;omega
 have sA:t.place.toList.length=5:=by simpa using h5
 have z1:(t.place.toList.zip (Ah 5)).map (·.1)=t.place.toList:=List.map_fst_zip (by rw[sA];simp);have z2:(t.place.toList.zip (Ah 5)).map (·.2)=Ah 5:=List.map_snd_zip (by rw[sA];simp);have hrl:t.relaid (es.map (·.1)) 20=Z ({mask:=31,place:=t.place,dummies:=#[],finger:=t.finger,led:=t.led,moves:=t.movedTo 31,plain:=t.plain},(Ah 5).toArray):=by
  unfold SetTable.relaid Ti;have e31:PU 20-1=31:=by decide
  rw[e31,he,o1];show Z _=Z _;rw[o2,z1,z2]
 refine⟨{mask:=31,place:=t.place,dummies:=#[],finger:=t.finger,led:=t.led,moves:=t.movedTo 31,plain:=t.plain},?_,rfl,⟨rfl,hr,hl,hp,h8,?_⟩⟩
 .unfold relayAll
  rw[hrl];dsimp only;have ef:(Ah 5).toArray.filterMap (λx=>es[x]?)=es:=by apply TM.mp;rw[bP];have:=filterMap_getElem?_range es;rw[hsz]at this;simpa using this
  rw[ef];have ec:coversAll (Ah 5).toArray es.size=Aa:=by rw[hsz];decide
  have et:Ku {mask:=31,place:=t.place,dummies:=#[],finger:=t.finger,led:=t.led,moves:=t.movedTo 31,plain:=t.plain} es.size=Aa:=by unfold Ku Hq;simp[h5,hsz]
  rw[ec,et];rfl
 .dsimp only
  rw[h5];rfl
theorem i3{j:Nat}{tk:Tok}{Q:Bool->Shared->Prop}(h8:j<8)(hX:CZ prog w s.heap a L)(h:∀b h',Fd a s.heap h'->CZ prog w h' a (u5 L j)->Q b {s with heap:=h'}):wpAny (model prog w) A (OZ a (.int j tk) ((intKind prog w).hash j)) Q E s:=by
 obtain⟨o,es,ep,t,ho,vk,hd,yA,uM,hpl,ht⟩:=hX;have za:=yA.elems;have hsc:(DA (j:Int) tk).scannable=Aa:=rfl;have vY:(intKind prog w).is (j:Int) (.int j tk)=Aa:=Km _ _ _ _;have hsz:=wb hpl;have uf:=ht.few;have hf:t.fits es.size=Aa:=by rw[hsz];exact ht.fits
 have t7:scanBound=4096:=rfl;have hb:es.size<scanBound:=by omega
 unfold OZ setAddHashedIn;refine Cd (Ac (GJ ho hd hf ?_));dsimp only;rw[byScan_of hsc hb za];simp only[↓reduceIte];unfold setAddByScan;refine Ac (Ac (wpAny_rule (Ac (wpAny_setScan_of vY ho hd hf za ?_))));cases hr:List.findIdx? (λe=>(intKind prog w).is (j:Int) e.2) es.toList with
 |some i =>
  dsimp only;obtain⟨hi,hpi,_⟩:=List.findIdx?_eq_some_iff_getElem.mp hr;have tE:(j:Int)∈L:=by refine uM.mem_iff.mp (Al.mpr ⟨es.toList[i],GI hi,?_⟩);obtain⟨m,u,e⟩:=yA _ (GI hi);rw[e]at hpi ⊢;exact Vs.mp hpi
  refine Ae (Ae ?_);have e:s={s with heap:=s.heap}:=by cases s;rfl
  have q:=h Ab s.heap (Tv a s.heap) ⟨o,es,ep,t,ho,vk,hd,yA,by unfold u5;rw[if_pos (by simpa using tE)];exact uM,hpl,ht⟩;rw[e];exact q
 |none =>
  dsimp only;have tM:∀e∈es.toList,DF e≠(j:Int):=λe he hv=>by obtain⟨m,u,e1⟩:=yA e he;have no:=List.findIdx?_eq_none_iff.mp hr e he;rw[e1]at no hv;have yes:(intKind prog w).is (j:Int) (.int m u)=Aa:=Vs.mpr hv;exact absurd (yes.symm.trans no) (by simp)
  have hnm:(j:Int)∉L:=λhm=>by obtain⟨e,he,hv⟩:=Al.mp (uM.mem_iff.mpr hm);exact tM e he hv
  have hj:j∉t.place.toList:=λhm=>by
   have:(j:Int)∈es.toList.map DF:=by rw[hpl];exact Al.mpr ⟨j,hm,rfl⟩
   obtain⟨e,he,hv⟩:=Al.mp this;exact tM e he hv
  obtain⟨mk,pl,dm,fg,ld,mv,pn⟩:=t;obtain rfl:pn=Aa:=ht.plain;obtain rfl:dm=#[]:=ht.dum;rw[RI j h8,fA ht hsz h8 hj];dsimp only;obtain⟨_,hnj⟩:=RK ht hj;obtain⟨vO,_,_⟩:=Iy ht.rise j;have xP:KN prog w (AQ es (Am pl j) ((j:Int),DA j tk)).toList:=λe he=>by
   have:=(GF _ _ _).mem_iff.mp he;rw[GK]at this;rcases Bb.mp this with q|q
   .exact yA e q
   .exact⟨j,tk,by rw[RI j h8];exact Ax.mp q⟩
  have wm:((AQ es (Am pl j) ((j:Int),DA j tk)).toList.map DF).Perm (u5 L j):=by unfold u5;rw[if_neg (by simpa using hnm)];refine((GF _ _ _).map DF).trans ?_;rw[GK,BB];exact uM.append_right _
  have vX:(AQ es (Am pl j) ((j:Int),DA j tk)).toList.map DF=(AQ pl (Am pl j) j).toList.map (λ(j:Nat)=>(j:Int)):=by rw[MH,MH,BB,BB,Ai,Ai,OY,OY,OX,OX,hpl];rfl
  have uL:(AQ es (Am pl j) ((j:Int),DA j tk)).size=es.size+1:=sQ _ _ _;generalize hE:AQ es (Am pl j) ((j:Int),DA j tk)=ua at xP wm vX uL ⊢;have zy:ua.size<=sizeLine:=by rw[BR];omega
  refine Ac (Ae ?_);simp only[↓reduceIte];refine Ac ?_;rw[hashByValue_scannable 8 hsc];refine Ae ?_;rw[show plainKind (DA (j:Int) tk)=Aa from rfl];simp only[↓reduceIte];show wpAny (model prog w) A (do
    storeSet a ua (⟨mk,AQ pl (Am pl j) j,#[],fg,ld,mv,Aa⟩:SetTable)
    if(!Ab&&Ja (⟨mk,AQ pl (Am pl j) j,#[],fg,ld,mv,Aa⟩:SetTable))=Aa then _ else _) _ E s
  refine Ac (O8 ho hd ?_ zy);have wW:=EC s.heap a (Dg ua (⟨mk,AQ pl (Am pl j) j,#[],fg,ld,mv,Aa⟩:SetTable))
  by_cases h4:pl.size=4
  .have hm:mk=7:=by have q:=ht.mask;dsimp only at q;rw[h4]at q;exact q
   have htf:Ja (⟨mk,AQ pl (Am pl j) j,#[],fg,ld,mv,Aa⟩:SetTable)=Aa:=by unfold Ja Hq;simp[sQ,h4,ht.dum,hm]
   have hg:(s.heap.update a (Dg ua (⟨mk,AQ pl (Am pl j) j,#[],fg,ld,mv,Aa⟩:SetTable))).get? a=Z {o with data:=.set ua (ep+1) (⟨mk,AQ pl (Am pl j) j,#[],fg,ld,mv,Aa⟩:SetTable)}:=by
    have:=Fi (Dg ua (⟨mk,AQ pl (Am pl j) j,#[],fg,ld,mv,Aa⟩:SetTable)) ho (by rw[Hw _ _ hd];rfl)
    rwa [Hw _ _ hd]at this
   have hh:ua.map (·.1)=((AQ pl (Am pl j) j).toList.map (λ(j:Nat)=>(j:Int))).toArray:=by
    apply TM.mp;rw[Array.toList_map,<-vX];refine E9 λe he=>?_;obtain⟨m,u,e1⟩:=xP e he;have hm:m∈ua.toList.map DF:=Al.mpr ⟨e,he,by rw[e1];rfl⟩;rw[vX]at hm;obtain⟨k,hk,rfl⟩:=Al.mp hm;have hk8:k<8:=by
     have:=(GF _ _ _).mem_iff.mp hk;rw[GK]at this;rcases Bb.mp this with q|q
     .exact ht.low k q
     .rw[Ax.mp q];exact h8
    rw[e1];exact RI (prog:=prog) (w:=w) k hk8
   obtain⟨t',r1,r2,r3⟩:=i6 (b:=!w.params.followText "set-order") (t:=(⟨mk,AQ pl (Am pl j) j,#[],fg,ld,mv,Aa⟩:SetTable)) (es:=ua) (RE ht.rise hnj)
    (λk hk=>by
     have:=(GF _ _ _).mem_iff.mp hk;rw[GK]at this;rcases Bb.mp this with q|q
     .exact ht.low k q
     .rw[Ax.mp q];exact h8) (by dsimp only;rw[sQ,h4]) hh ht.led ht.plain
   have hgr:Tn ua.size=20:=by rw[uL,hsz,h4];rfl
   rw[htf];simp only[GO,GA,↓reduceIte];rw[hgr,r1];dsimp only;refine Ac (Ae (Ac (O8 hg rfl ?_ zy)));obtain⟨_,yD⟩:=Yu (prog:=prog) (t':=t') hg vk rfl xP wm (by rw[r2];exact vX) r3;exact Ae (Ae (h Aa _ (wW.trans (EC _ a _)) yD))
  .have htf:Ja (⟨mk,AQ pl (Am pl j) j,#[],fg,ld,mv,Aa⟩:SetTable)=Ab:=by
    unfold Ja Hq;have q:=ht.mask;dsimp only at q;simp only[sQ];rw[q];simp;have:=uf;dsimp only at this;split<;>omega
   rw[htf];simp only[Pd,B9,↓reduceIte];obtain⟨_,hS1⟩:=Yu (prog:=prog) (t':=(⟨mk,AQ pl (Am pl j) j,#[],fg,ld,mv,Aa⟩:SetTable)) ho vk hd xP wm vX (ht.ins h8 hj h4);exact Ae (Ae (h Aa _ wW hS1))
end
section
variable{prog:Program}{w:World}{A:Around}{E:z4}{s:Shared}
abbrev Ck(w:World):Obj:={cls:=.type "set",dict:=Z_,data:=.set #[] 0 (.fresh 0 0 (!w.params.followText "set-order"))}
theorem af(v:Value){Q₁:z4}(h:Q₁ (.ref s.heap.objs.size) {s with heap:=s.heap.push (Ck w)}):codeAny (model prog w) A (.call (.builtin "set.__new__") ⟨[.type "set",v],[]⟩) (wants Q₁ E) s:=by
 refine TZ ?_;show wpAny _ A.in1 (do checkBuiltinCall "set.__new__" ⟨[.type "set",v],[]⟩;again (.builtin "set.__new__" ⟨[.type "set",v],[]⟩)) _ _ s;refine Ac (OR (PySem.F.newCall_set_1 v) (Ae ⟨Gz bj _,DW PySem.F.entry_set_new ?_⟩));rw[Ez bj _];unfold Builtin.«set.__new__» Builtin.Frozenset.newClass;have tT:=sub_set_self;obtain⟨hp,g,d,tk,os⟩:=s;dsimp only
 wp_walk
 refine MC (Ae ?_);dsimp only;simp only[newObj];exact Ac (wpAny_alloc (Ae (Ae h)))
theorem gG(h:Heap):CZ prog w (h.push (Ck w)) h.objs.size [] :=
 ⟨_,#[],0,_,A1 _ rfl,⟨rfl,rfl,rfl⟩,rfl,λe he=>by simp at he,.nil,rfl,Tab.fresh _⟩
theorem R0:∀(l acc:zZ) (x:Int),HM.tL acc (l++[x])=u5 (HM.tL acc l) x
 |[],acc,x=>by show HM.tL acc [x]=u5 acc x;unfold HM.tL u5;split<;>rfl
 |y::l,acc,x=>by
  show HM.tL acc (y::(l++[x]))=_;unfold HM.tL;split
  .exact R0 l acc x
  .exact R0 l _ x
variable{R:Result->Shared->Prop}{I:Addr}{fp wr:List Addr}{G:Array GenState->Array GenState->Prop}{P:Nat->Value->Prop}{St:Nat->Shared->Prop}
theorem jR(W:WalksS prog w A.in1 I fp wr G ns.length P St)(S:Addr)(wO:S∉fp)(wV:∀i v,P i v->∃t,v=.int (ns.getD i 0) t)(hb:∀n∈ns,0<=n/\n<8):∀(k i:Nat) (s:Shared),ns.length-i=k->i<=BC ns->St i s->CZ prog w s.heap S (HM.tL [] (ns.take i)) ->(∀s',Moved (S::wr) G s s'->CZ prog w s'.heap S (HM.tL [] ns)->R (.ok (.ret .none)) s') ->codeAny (model prog w) A (.builtin "set.update.loop" ⟨[.ref S,.ref I],[]⟩) R s:=by
 have zK:S∉wr:=λh=>wO (W.sub _ h);have tT:∀b∈wr,b∈S::wr:=λb hb=>Ao _ hb;intro k
 induction k with
 |zero =>
  intro i s hk hi vj hS hR;obtain rfl:i=ns.length:=by omega
  rw[List.take_length]at hS;refine DW F.entry_set_update_loop ?_;rw[Ez F.plain_set_update_loop _];show wpAny _ A.in1 (pyNext (.ref I) >>= _) _ _ s;refine Ac (W.done s _ _ vj λs' hm=>?_);show wpAny _ A.in1 (ret By) _ _ s';exact Ae (hR s' (hm.mono tT) (hS.at' λo e=>hm.heap S o zK e))
 |succ k ih =>
  intro i s hk hi vj hS hR;have tf:i<BC ns:=by omega
  refine DW F.entry_set_update_loop ?_;rw[Ez F.plain_set_update_loop _];show wpAny _ A.in1 (pyNext (.ref I) >>= _) _ _ s;refine Ac (W.item i s _ _ tf vj λv s' hP hst' hm=>?_);obtain⟨t,rfl⟩:=wV i v hP;have hS':=hS.at' (h':=s'.heap) λo e=>hm.heap S o zK e;show wpAny _ A.in1 (holding [DA (ns.getD i 0) t] (setAdd S (.int (ns.getD i 0) t)) >>= _) _ _ s';refine Ac (Cd ?_);unfold setAdd;refine Cd (Ac ((intKind prog w).pyHash (k:=ns.getD i 0) (Km _ _ _ _) ?_));have yf:=hb (ns.getD i 0) (by rw[CS,AK tf];exact GI tf);obtain⟨j,ej⟩:∃j:Nat,ns.getD i 0=(j:Int):=⟨(ns.getD i 0).toNat,by omega⟩;have e:u5 (HM.tL [] (ns.take i)) (ns.getD i 0)=HM.tL [] (ns.take (i+1)):=by rw[<-R0,List.take_succ,CS];simp[tf]
  rw[ej]at e yf ⊢;refine i3 (s:={s' with toks:=s'.toks+1}) (by omega) hS' λb h' t7 yD=>?_;rw[e]at yD;refine Ae ⟨Gz F.plain_set_update_loop _,ih (i+1) _ (by omega) tf (W.frame _ s' _ _ hst' (Nat.le_succ _) λb hb o e=>?_) yD λs'' hm'' hS''=>?_⟩
  .rw[t7.2 b (λh:b=S=>wO (by rw[<-h];exact hb))];exact e
  .refine hR s'' (Moved.trans W.gtrans ((hm.mono tT).then_heap (Nat.le_succ _) λb o hb e=>?_) hm'') hS''
   rw[t7.2 b (λh:b=S=>hb (by rw[h];exact An))];exact e
set_option maxHeartbeats 3200000 in
theorem ju{l:Addr}{items:Array Value}{Q:z4}(hh:A.handled=Z_)(hl:s.heap.IsList l items)(hi:IntsAre items.toList ns)(hb:∀n∈ns,0<=n/\n<8)(h:∀(h':Heap) (tk:Nat),CZ prog w h' s.heap.objs.size (HM.tL [] ns)->(∀b o,b<s.heap.objs.size->s.heap.get? b=Z o->h'.get? b=Z o)->Q (.ref s.heap.objs.size) {s with heap:=h',toks:=tk}):wpAny (model prog w) A (call (.type "set") [.ref l]) Q E s:=by
 have hsz:items.size=ns.length:=by rw[<-hi.length,Bk]
 obtain⟨c,tl,hmro⟩:=Dj.mro;have hmade:=Dj.made;have tT:=Dj.sub;refine Mn (TZ ?_);show wpAny _ _ (callAny (.type "set") _) _ _ _;refine Ae ⟨Code.quiet_builtin _ (by decide +kernel),DW bH ?_⟩;rw[Around.under_plain (weight_type_call_type "set" [.ref l] []) rfl];have h1:=Dj.notType;have h2:=Dj.canCreate;have hct:=bp (.ref l)
 repeat (any_goals (first|assumption|wp_step))
 refine Fc (af (.ref l) (E:=E) (Q₁:=λobj s₁=>obj=.ref s.heap.objs.size/\s₁={s with heap:=s.heap.push (Ck w)}) ⟨rfl,rfl⟩) λr s₁ hr=>?_;cases r with
 |error e=>exact hr
 |ok fl =>
  cases fl with
  |ret obj =>
   obtain⟨rfl,rfl⟩:=hr;have hX:=gG (prog:=prog) (w:=w) s.heap;have hS:(s.heap.push (Ck w)).get? s.heap.objs.size=Z (Ck w):=A1 _ rfl;have hT:Th {s with heap:=s.heap.push (Ck w)} (.ref s.heap.objs.size) "set":=⟨_,hS,rfl⟩;have hli:=Dj.init.lookup;have yf:=Dj.init.bind (.ref s.heap.objs.size)
   repeat (any_goals (first|assumption|wp_step))
   refine Fc (codeAny_call_builtin (R:=wants (λr s₂=>r=.none/\∃h' tk,s₂={s with heap:=h',toks:=tk}/\CZ prog w h' s.heap.objs.size (HM.tL [] ns) /\
     (∀b o,b<s.heap.objs.size->s.heap.get? b=Z o->h'.get? b=Z o)) E) Dj.init.plain bo (check_set_init_1 hT ?_)) λr₂ s₂ yx=>?_
   .obtain⟨⟨ocls,w5,odata,v3⟩,xB,tN,nl,ye⟩:=hl
    simp only at tN ye;subst tN;subst ye;have hol':(s.heap.push (Ck w)).get? l=Z {cls:=.type "list",dict:=w5,data:=.seq items nl,slots:=v3}:=Au _ xB;have hsls:=aY;have hslf:=bz;have tM:(GB "list" == GB "dict")=Ab:=by decide
    have uj:(s.heap.push (Ck w)).IsList l items:=⟨_,hol',rfl,nl,rfl⟩;unfold Builtin.«set.__init__» noKeywords bV;generalize hPI:pyIter=PI
    wp_walk
    subst hPI;refine Pb uj (Ac (Px ?_));have zE:l<s.heap.objs.size:=Ar xB;have hh3:A.in1.in1.in1.handled=Z_:=by simp[hh]
    have yR:l≠(s.heap.push (Ck w)).objs.size:=by rw[GP];exact Aw (Je zE)
    have wO:s.heap.objs.size∉[(s.heap.push (Ck w)).objs.size,l]:=by rw[GP];simp only[As,Ax,O2,or_false,not_or];exact⟨Aw (Jc _),Jh zE⟩
    have Wl:=(OO (prog:=prog) (w:=w) hh3 _ l yR items).toS;rw[hsz]at Wl;refine jR Wl s.heap.objs.size wO (λi v hv=>IntsAre.int_at hi i v (by rw[Ca];exact hv)) hb (ns.length-0) 0 _ (by omega) (BQ _)
     ⟨⟨_,A1 _ rfl,rfl,rfl⟩,uj.push _⟩ (hX.at' λo e=>Au _ e) λs' hm hS'=>?_
    obtain⟨h',g',d',tk',os'⟩:=s';have eg:g'=s.gens:=hm.gens;have ed:d'=s.drawn:=hm.drawn;have eo:os'=s.os:=hm.os;subst eg;subst ed;subst eo
    show wpAny _ _ _ _ _ _;refine Ae ?_;show wpAny _ _ (ret By) _ _ _;refine Ae ⟨rfl,h',tk',rfl,hS',λb o hb e=>?_⟩;refine hm.heap b o ?_ (Au _ (Au _ e));simp only[As,Ax,O2,or_false,not_or];exact⟨Aw hb,by rw[GP];exact Aw (Je hb)⟩
   .cases r₂ with
    |error e=>exact yx
    |ok fl₂ =>
     cases fl₂ with
     |ret r =>
      obtain⟨rfl,h',tk,rfl,hS',hk'⟩:=yx
      repeat (any_goals (first|assumption|wp_step))
      exact h _ _ hS' hk'
     |_=>exact yx.elim
  |_=>exact hr.elim
end
end
theorem J3:Slot "set_iterator" "__next__" "set_iterator.__next__" :=
 .of (owner:="set_iterator") (n:="__next__") (by rw[typeLookup_type,builtinLookup_eq_fast];kernel_rfl) (by decide +kernel) (by decide +kernel) (by decide +kernel)
  (by first|exact .inl (by decide +kernel)|exact .inr (by decide +kernel)) (by rw[isSubtype_type];kernel_rfl)
theorem Y9:entryFor table "set_iterator.__next__"=Z Builtin.«set_iterator.__next__»:=entryFor_of_tree (by kernel_rfl)
theorem aw:Slot "set_iterator" "__iter__" "set_iterator.__iter__" :=
 .of (owner:="set_iterator") (n:="__iter__") (by rw[typeLookup_type,builtinLookup_eq_fast];kernel_rfl) (by decide +kernel) (by decide +kernel) (by decide +kernel)
  (by first|exact .inl (by decide +kernel)|exact .inr (by decide +kernel)) (by rw[isSubtype_type];kernel_rfl)
theorem oh:entryFor table "set_iterator.__iter__"=Z Builtin.«dict_keyiterator.__iter__» :=
 entryFor_alias (id':="dict_keyiterator.__iter__") (by kernel_rfl) rfl (by decide +kernel) (by kernel_rfl)
theorem oD:entryFor table "set.__iter__"=Z Builtin.«frozenset.__iter__» :=
 entryFor_alias (id':="frozenset.__iter__") (by kernel_rfl) rfl (by decide +kernel) (by kernel_rfl)
theorem WH:Manifest.owners.lookup (String.ofList ['r','o','t','a','r','e','t','i','_','t','e','s'].reverse)=Z Manifest.sig_set_iterator:=by kernel_rfl
theorem YJ(a:Value):argsOk "set_iterator.__next__" ⟨[a],[]⟩:=by unfold argsOk;rw[signature?_of (id:="set_iterator.__next__") (n:=['_','_','t','x','e','n','_','_']) (o:=['r','o','t','a','r','e','t','i','_','t','e','s']) (by kernel_rfl) WH];kernel_rfl
theorem nJ(a:Value):argsOk "set_iterator.__iter__" ⟨[a],[]⟩:=by unfold argsOk;rw[signature?_of (id:="set_iterator.__iter__") (n:=['_','_','r','e','t','i','_','_']) (o:=['r','o','t','a','r','e','t','i','_','t','e','s']) (by kernel_rfl) WH];kernel_rfl
theorem Yk{α:Type}:∀(l:List α) (i:Nat) (h:i<BC l),(l[i]::l.eraseIdx i).Perm l
 |x::l,0,_=>.refl _
 |x::l,i+1,h=>by
  have h':i<BC l:=by simpa using h
  show(l[i]::x::l.eraseIdx i).Perm (x::l);exact(List.Perm.swap x l[i] _).trans ((Yk l i h').cons x)
theorem X2{α:Type}(next:Nat->Nat):∀(n k:Nat) (left:List α) (out:Array α),BC left=n->(Mp.go next n k left out).toList.Perm (out.toList++left)
 |0,k,left,out,h=>by rw[bS h,Ba];exact .refl _
 |n+1,k,left,out,h=>by
  have hl:next k%left.length<BC left:=ON _ (by omega)
  unfold Mp.go;rw[AK hl];dsimp only;refine(X2 next n (k+1) _ _ (by rw[List.length_eraseIdx_of_lt hl];omega)).trans ?_
  rw[GK,B8];refine List.Perm.append_left _ ?_;exact Yk left _ hl
theorem oJ{α:Type}(next:Nat->Nat)(xs:Array α):(Mp next xs).toList.Perm xs.toList:=by
 have:=X2 next xs.size 0 xs.toList #[] (by simp)
 simpa [Mp]using this
section
variable{a it:Addr}{h h':Heap}{ep i n slot:Nat}{Q:z4}
structure Uv(b:Bool)(t:SetTable):Prop where
 rise:Dq t.place
 led:t.led=b
 plain:t.plain=Aa
theorem Tab.w{b:Bool}{t:SetTable}(h:Tab b t):Uv b t:=⟨h.rise,h.led,h.plain⟩
structure Dl(w:World)(h:Heap)(a:Addr)(es:Array (Int×Value))(ep:Nat)(t:SetTable):Prop where
 obj:∃o,h.get? a=Z o/\o.ExactSet/\o.data=.set es ep t
 fit:t.fits es.size=Aa
 siz:es.size=t.place.size
 tab:Uv (!w.params.followText "set-order") t
theorem Dl.at'{w:World}{es:Array (Int×Value)}{t:SetTable}(x:Dl w h a es ep t)(k:∀o,h.get? a=Z o->h'.get? a=Z o):Dl w h' a es ep t :=
 ⟨let ⟨o,e,r⟩:=x.obj;⟨o,k o e,r⟩,x.fit,x.siz,x.tab⟩
def Dm(w:World)(a:Addr)(es:Array (Int×Value))(ep:Nat):Array (Int×Value):=if w.params.followText "set-order" then Mp (w.params.setOrder a ep) es else es
theorem NL(w:World)(a:Addr)(es:Array (Int×Value))(ep:Nat):(Dm w a es ep).toList.Perm es.toList:=by
 unfold Dm;split
 .exact oJ _ _
 .exact .refl _
theorem RA(w:World)(a:Addr)(es:Array (Int×Value))(ep:Nat):(Dm w a es ep).size=es.size:=by have:=(NL w a es ep).length_eq;simpa using this
def Fp(h:Heap)(it a:Addr)(slot i n ep:Nat):Prop:=∃o,h.get? it=Z o/\o.cls=.type "set_iterator"/\o.data=.fields #[.int slot 0,.int i 0,.ref a,.int n 0,.int ep 0]
theorem Fp.typeIs{s:Shared}(x:Fp s.heap it a slot i n ep):s.TypeIs (.ref it) "set_iterator":=let ⟨o,ho,hc,_⟩:=x;⟨o,ho,hc⟩
theorem Fp.at'(x:Fp h it a slot i n ep)(k:∀o,h.get? it=Z o->h'.get? it=Z o):Fp h' it a slot i n ep:=let ⟨o,e,r⟩:=x;⟨o,k o e,r⟩
section
variable{prog:Program}{w:World}{A:Around}{E:z4}{s:Shared}{it a:Addr}{es:Array (Int×Value)}{ep:Nat}{t:SetTable}
theorem jf(x:Dl w s.heap a es ep t)(hQ:Q (.ref s.heap.objs.size) {s with heap:=s.heap.push {cls:=.type "set_iterator",data:=.fields #[.int 0 0,.int 0 0,.ref a,.int es.size 0,.int ep 0]}}):wpAny (model prog w) A (pyIter (.ref a)) Q E s:=by
 obtain⟨o,ho,vk,hd⟩:=x.obj;have hT:s.TypeIs (.ref a) "set":=⟨o,ho,vk.1⟩;refine Tt hT bh (E7 bh hT oD ?_ (PySem.F.args_set_iter_1 _));unfold Builtin.«frozenset.__iter__» Builtin.Frozenset.slot0 slotArgs Builtin.Frozenset.addrOf Builtin.Frozenset.sizeOf;refine Ac (Ac (Ae (Ae ?_)));dsimp only;refine Ac (Ac (Ua ho hd x.fit (Ae ?_)));have hdr:∀{R:Bool->Shared->Prop} {A':Around} {E':z4},R Ab s->wpAny (model prog w) A' (setDrawn a) R E' s:=λ{R A' E'} hR=>by unfold setDrawn setsByText;refine Ac (GJ ho hd x.fit (Ac (Ac (MC (Ae (Ae ?_))))));obtain⟨mk,pl,dm,fg,ld,mv,pn⟩:=t;obtain rfl:pn=Aa:=x.tab.plain;show R (!_&&(!Aa&&_)) s;simpa using hR
 refine Ac (hdr ?_);rw[if_neg (by simp)];refine Ac (Ae (Ac (wpAny_setEpoch_of ho hd x.fit ?_)));show wpAny (model prog w) A.in1 (newFields "set_iterator" [rawInt 0,rawInt 0,Bl a,rawInt (es.size:Int),rawInt (ep:Int)] >>= _) _ E s;refine Ac (Ey (Ae ⟨_,rfl,"set_iterator",_,⟨_,A1 _ rfl,rfl⟩,J3.lookup,?_⟩));simpa [rawInt]using hQ
theorem YY{R:Option (Value×Nat)->Shared->Prop}(x:Dl w s.heap a es ep t)(hs:w.params.followText "set-order"=Ab->Am t.place slot=i)(hR:R ((Dm w a es ep)[i]?.map λe=>(e.2,if w.params.followText "set-order" then slot else t.place.getD i 0+1)) s):wpAny (model prog w) A (setNext a slot i ep) R E s:=by
 obtain⟨o,ho,vk,hd⟩:=x.obj;unfold setNext setsByText;refine Ac (GJ ho hd x.fit ?_);dsimp only;refine Ac (Ac (MC (Ae ?_)));dsimp only;cases hb:w.params.followText "set-order" with
 |true=>have hb':(model prog w).w.params.followText "set-order"=Aa:=hb;rw[hb',if_pos rfl];unfold Dm at hR;rw[hb,if_pos rfl]at hR;simp only[if_pos]at hR;refine IY (λq=>absurd q (by simp)) λ_=>?_;unfold setWalk setsByText;refine Ac (Ac (GJ ho hd x.fit ?_));dsimp only;refine Ac (Ac (MC (Ae ?_)));dsimp only;rw[hb',if_pos rfl];exact Ac (MC (Ae (Ae hR)))
 |false =>
  have hb':(model prog w).w.params.followText "set-order"=Ab:=hb;rw[hb',if_neg (by simp)];unfold Dm at hR;rw[hb]at hR;simp only[B9,if_false]at hR;have hi:=hs hb;have tP:t.led=Aa:=by rw[x.tab.led,hb];rfl
  have hsz:=x.siz;obtain⟨mk,pl,dm,fg,ld,mv,pn⟩:=t;obtain rfl:pn=Aa:=x.tab.plain;obtain rfl:ld=Aa:=tP;refine IY (λq=>absurd (show(!Aa&&_)=Aa from q) (by simp)) λ_=>?_;refine Ac ?_;refine IY (λq=>absurd (show(!Aa&&_)=Aa from q) (by simp)) λ_=>?_;refine Ae ?_;dsimp only at hi hsz ⊢;rw[hi];refine Ae ?_
  by_cases tf:i<es.size
  .have h1:es[i]?=Z es[i]:=Ga tf
   have h2:pl[i]?=Z (pl.getD i 0):=by simp[Dh,show i<pl.size by omega]
   rw[h1]at hR ⊢;rw[h2];exact hR
  .have h1:es[i]?=Z_:=T6 (by omega)
   rw[h1]at hR ⊢;exact hR
theorem iQ{e:Int×Value}{Q:Option Value->Shared->Prop}(uv:Fp s.heap it a slot i es.size ep)(x:Dl w s.heap a es ep t)(hs:w.params.followText "set-order"=Ab->Am t.place slot=i)(he:(Dm w a es ep)[i]?=Z e)(hQ:∀h',Fp h' it a (if w.params.followText "set-order" then slot else t.place.getD i 0+1) (i+1) es.size ep->Fd it s.heap h'->Q (Z e.2) {s with heap:=h'}):wpAny (model prog w) A (pyNext (.ref it)) Q E s:=by
 obtain⟨o,ho,hc,hd⟩:=id uv;obtain⟨os,hos,vk,sY⟩:=x.obj;unfold pyNext;refine Ac (OW (wpAny_callSpecial?_slot (name:=FY "__next__") uv.typeIs J3
  (E7 J3 uv.typeIs Y9 ?_ (YJ _))))
 unfold Builtin.«set_iterator.__next__» slotArgs;refine Ac (Ae ?_);dsimp only;refine Ac (Pw ho hd ?_);dsimp only;refine Ac (Ua hos sY x.fit ?_);refine IY (λq=>absurd q (by simp)) λ_=>?_;simp only[O7];refine Ac (YY x hs ?_);rw[he];dsimp only[Option.map_some];refine Ac (Mv ho hd (by simp) ?_);have g1:(s.heap.update it (Tg (·.setIfInBounds 0 (rawInt ((if w.params.followText "set-order"=Aa then slot else t.place.getD i 0+1:Nat):Int))))).get? it=Z _:=Fi _ ho (Ug (HF hd _));refine Ac (Mv g1 (HF hd _) (by simp) ?_);refine Ae ⟨_,rfl,Ae (hQ _ ⟨_,Fi _ g1 (Ug (HF (HF hd _) _)),?_,?_⟩ ((EC ..).trans (EC ..)))⟩
 .rw[Ts,Ts];exact hc
 .rw[HF (HF hd _)];simp[rawInt]
theorem iC{Q:Option Value->Shared->Prop}(hh:A.handled=Z_)(uv:Fp s.heap it a slot i es.size ep)(x:Dl w s.heap a es ep t)(hs:w.params.followText "set-order"=Ab->Am t.place slot=i)(he:es.size<=i)(hQ:∀h',Heap.ExtBut it s.heap h'->Q Z_ {s with heap:=h'}):wpAny (model prog w) A (pyNext (.ref it)) Q E s:=by
 obtain⟨o,ho,hc,hd⟩:=id uv;obtain⟨os,hos,vk,sY⟩:=x.obj;have hn:(Dm w a es ep)[i]?=Z_:=T6 (by rw[RA];exact he);unfold pyNext;refine Ac (OW (wpAny_callSpecial?_slot (name:=FY "__next__") uv.typeIs J3
  (E7 J3 uv.typeIs Y9 ?_ (YJ _))))
 unfold Builtin.«set_iterator.__next__» slotArgs;refine Ac (Ae ?_);dsimp only;refine Ac (Pw ho hd ?_);dsimp only;refine Ac (Ua hos sY x.fit ?_);refine IY (λq=>absurd q (by simp)) λ_=>?_;simp only[O7];refine Ac (YY x hs ?_);rw[hn];dsimp only[Option.map_none];refine Ac (Mv ho hd (by simp) ?_);refine Ac ?_;simp only[newExc,newTuple];refine Ac (Ey ?_ (by size_fits));refine Ac (m:=Pu _ _) (OR (a:=By) (by first|rfl|(simp only[Pu];rfl)) ?_)
 refine Ey ?_ (by size_fits);simp only[raiseNew];refine Ac (wpAny_handled ?_);rw[show A.in1.handled=Z_ from hh];refine Ac (Ae (wpAny_throw ?_));refine Ac (TL (T:="StopIteration") (b:=Aa) ⟨_,A1 _ rfl,rfl⟩ isSubtype_stop ?_);exact Ae (hQ _ (((EC ..).extBut.push _).push _))
theorem iT(uv:Fp s.heap it a slot i n ep)(h:Q (.ref it) s):wpAny (model prog w) A (pyIter (.ref it)) Q E s:=by refine Tt uv.typeIs aw (E7 aw uv.typeIs oh ?_ (nJ _));show wpAny _ _ (ret (.ref it)) _ _ s;exact Ae ⟨_,rfl,"set_iterator",_,uv.typeIs,J3.lookup,h⟩
theorem kM(hh:A.handled=Z_)(I a:Addr)(tM:a≠I)(es:Array (Int×Value))(ep:Nat)(t:SetTable):Walks prog w A I [I,a] [I] es.size (λi v=>∃e,(Dm w a es ep)[i]?=Z e/\v=e.2) (λi h=>∃slot,Fp h I a slot i es.size ep/\Dl w h a es ep t/\(w.params.followText "set-order"=Ab->Am t.place slot=i)) where
 sub:=λb hb=>by simp at hb;simp[hb]
 frame:=λ_ _ _ ⟨slot,h1,h2,h3⟩ hk=>⟨slot,h1.at' λo e=>hk I (by simp) o e,h2.at' λo e=>hk a (by simp) o e,h3⟩
 item:=λi s Q E hi ⟨slot,h1,h2,h3⟩ hQ=>by
  have tf:i<(Dm w a es ep).size:=by rw[RA];exact hi
  have hx:(Dm w a es ep)[i]?=Z (Dm w a es ep)[i]:=Ga tf;refine iQ h1 h2 h3 hx λh' hit' hs'=>?_;refine hQ _ h' s.toks ⟨_,hx,rfl⟩ ⟨_,hit',h2.at' λo e=>hs'.extBut a o tM e,λhb=>?_⟩ λb o hb e=>hs'.extBut b o (λh=>hb (by simp[h])) e;rw[hb];exact lI h2.tab.rise (by rw[<-h2.siz];exact hi)
 done:=λs Q E ⟨slot,h1,h2,h3⟩ hQ=>iC hh h1 h2 h3 (Aj _) λh' he'=>hQ h' s.toks λb o hb e=>he' b o (λh=>hb (by simp[h])) e
 self:=λ_ _ _ _ ⟨slot,h1,_⟩ hQ=>iT h1 hQ
end
end
end HP
namespace HP
open PySem PySem.W PyProof.Rows
variable{p:Array Nat}{h h':Heap}{ep i j m n:Nat}{Q:Nat×Array Nat->Prop}
section
variable{α β:Type}
def BY(o:Nat->Nat->Bool)(n:Nat):KasT α->(α->Prop)->Prop
 | .ret a,Q=>Q a
 | .ask i j k,Q=>i<n/\j<n/\BY o n (k (o i j)) Q
theorem BY.bnd{o:Nat->Nat->Bool}{n:Nat}{f:α->KasT β}{Q:β->Prop}:∀(t:KasT α),BY o n t (λa=>BY o n (f a) Q)->BY o n (t.bind f) Q
 | .ret a,h=>h
 | .ask i j k,h=>⟨h.1,h.2.1,BY.bnd (k (o i j)) h.2.2⟩
end
structure Pm(n:Nat)(p:Array Nat):Prop where
 pos:0<n
 perm:p.Perm (List.toArray (Ah n))
theorem Pm.size{n:Nat}{p:Array Nat}(h:Pm n p):p.size=n:=by have:=h.perm.size_eq;simpa using this
theorem Pm.lt(h:Pm n p)(i:Nat):p.getD i 0<n:=by
 by_cases hi:i<p.size
 .have e:p.getD i 0=p[i]:=by simp[Dh,hi]
  rw[e];have:=(bx.mp h.perm).mem_iff (a:=p[i]);have h2:=this.mp (by simp);simpa using h2
 .have e:p.getD i 0=0:=by simp[Dh,hi]
  rw[e];exact h.pos
theorem Pm.rev(h:Pm n p)(i j:Nat):Pm n (kas_rev p i j):=⟨h.pos,(mirror_perm _ _ _ _).trans h.perm⟩
theorem Pm.bub(h:Pm n p)(i j:Nat):Pm n (bubble p i j):=⟨h.pos,(bubble_perm _ _ _).trans h.perm⟩
theorem t4(p:Array Nat)(i:Nat):p.getD i 0=(p[i]?).getD 0:=by simp[Pz]
section
variable(O:KeyOrd)(key:Nat->O.α)
def Ka(p:Array Nat)(i:Nat):O.α:=key (p.getD i 0)
def Up(p:Array Nat)(k:Nat):Prop:=∀i j,i<=j->j<k->O.kle (Ka O key p i) (Ka O key p j)
def Dn(p:Array Nat)(k:Nat):Prop:=∀i j,i<=j->j<k->O.kle (Ka O key p j) (Ka O key p i)
def Ev(p:Array Nat)(m q:Nat):Prop:=∀i,m-(q+1)<=i->i<m->Ka O key p i=Ka O key p (m-1)
abbrev xw:Nat->Nat->Bool:=λi j=>O.blt (key i) (key j)
variable{O key}{p:Array Nat}{n:Nat}
theorem Qi(hj:j<=p.size)(k:Nat):Ka O key (kas_rev p i j) k=if i<=k/\k<j then Ka O key p (i+j-1-k)else Ka O key p k:=by unfold Ka kas_rev;rw[t4,getElem?_mirror_all hj];split<;>rw[<-t4]
theorem Rg(hj:j<=p.size)(h:∀k,i<=k->k<j->Ka O key p k=Ka O key p (j-1))(k:Nat):Ka O key (kas_rev p i j) k=Ka O key p k:=by
 rw[Qi hj];split
 .rename_i hk
  rw[h _ (by omega) (by omega),h k hk.1 hk.2]
 .rfl
theorem U8{s d:Nat}(hs:s<p.size)(hd:d<=s)(k:Nat):Ka O key (bubble p s d) k=if k=s-d then Ka O key p s else if s-d<k/\k<=s then Ka O key p (k-1)else Ka O key p k:=by
 unfold Ka;rw[t4,getElem?_bubble hs d hd]
 by_cases h1:k=s-d
 .rw[if_pos h1,if_pos h1,<-t4]
 .rw[if_neg h1,if_neg h1]
  by_cases h2:s-d<k/\k<=s
  .rw[if_pos h2,if_pos h2,<-t4]
  .rw[if_neg h2,if_neg h2,<-t4]
theorem Up.one:Up O key p 1:=λi j h1 h2=>by
 obtain rfl:i=j:=by omega
 exact Kx _
theorem Up.more{k:Nat}(h:Up O key p k)(hl:O.kle (Ka O key p (k-1)) (Ka O key p k)):Up O key p (k+1):=λi j h1 h2=>by
 by_cases hj:j<k
 .exact h i j h1 hj
 obtain rfl:j=k:=by omega
 by_cases hi:i=j
 .subst hi;exact Kx _
 .exact Pp (h i (j-1) (by omega) (by omega)) hl
theorem Dn.more{k:Nat}(h:Dn O key p k)(hl:O.kle (Ka O key p k) (Ka O key p (k-1))):Dn O key p (k+1):=λi j h1 h2=>by
 by_cases hj:j<k
 .exact h i j h1 hj
 obtain rfl:j=k:=by omega
 by_cases hi:i=j
 .subst hi;exact Kx _
 .exact Pp hl (h i (j-1) (by omega) (by omega))
theorem Dn.same{p':Array Nat}{k:Nat}(h:Dn O key p k)(e:∀i,Ka O key p' i=Ka O key p i):Dn O key p' k:=λi j h1 h2=>by rw[e,e];exact h i j h1 h2
theorem Q3(hp:Pm n p){Q:Nat->Prop}:∀(f m:Nat),Up O key p m->(∀m',m<=m'->m'<=m+f->Up O key p m'->(m'=m+f\/O.klt (Ka O key p m') (Ka O key p (m'-1)))->Q m')->BY (xw O key) n (kas_asc p f m) Q
 |0,m,hu,hq=>hq m (Aj _) (by omega) hu (.inl rfl)
 |f+1,m,hu,hq=>by
  refine⟨hp.lt _,hp.lt _,?_⟩;dsimp only;split
  .rename_i h
   exact hq m (Aj _) (by omega) hu (.inr h)
  .rename_i h
   refine Q3 hp f (m+1) (hu.more (MA h)) λm' h1 h2 h3 h4=>hq m' (by omega) (by omega) h3 (h4.imp (λe=>by omega) id)
theorem NM{Q:Array Nat×Nat×Nat->Prop}:∀(f:Nat) (p:Array Nat) (m q:Nat),Pm n p->Dn O key p m->q+1<=m->Ev O key p m q->m+f<=n ->(∀p' m' q',Pm n p'->m<=m'->m'<=m+f->Dn O key p' m'->q'+1<=m'->Ev O key p' m' q'->Q (p',m',q'))->BY (xw O key) n (kas_desc f p m q) Q
 |0,p,m,q,hp,hd,h1,he,hn,hq=>hq p m q hp (Aj _) (by omega) hd h1 he
 |f+1,p,m,q,hp,hd,h1,he,hn,hq=>by
  have hz:m<=p.size:=by rw[hp.size];omega
  have e0:∀p',Ev O key p' (m+1) 0:=λp' i h1 h2=>by congr 1;omega
  refine⟨hp.lt _,hp.lt _,?_⟩;dsimp only;split
  .rename_i h
   have hd':=hd.more (O6 h);split
   .exact NM f _ (m+1) 0 (hp.rev _ _) (hd'.same (Rg hz he)) (by omega) (e0 _) (by omega) λp' m' q' a b c d e g=>hq p' m' q' a (by omega) (by omega) d e g
   .exact NM f _ (m+1) 0 hp hd' (by omega) (e0 _) (by omega) λp' m' q' a b c d e g=>hq p' m' q' a (by omega) (by omega) d e g
  .rename_i h
   refine⟨hp.lt _,hp.lt _,?_⟩;dsimp only;split
   .exact hq p m q hp (Aj _) (by omega) hd h1 he
   .rename_i h'
    have l1:=MA h;have l2:=MA h';have ee:Ka O key p m=Ka O key p (m-1):=aW l2 l1;refine NM f p (m+1) (q+1) hp (hd.more l2) (by omega) (λi a b=>?_) (by omega) λp' m' q' a b c d e g=>hq p' m' q' a (by omega) (by omega) d e g;rw[show m+1-1=m by omega]
    by_cases hi:i=m
    .rw[hi]
    .rw[ee];exact he i (by omega) (by omega)
theorem XC(hp:Pm n p)(hd:Dn O key p m)(h1:1<=m)(hm:m<=n)(hq:∀m' p',1<=m'->m'<=n->Pm n p'->Up O key p' m'->Q (m',p')):BY (xw O key) n (kas_tail3 m n p) Q:=by
 have hz:m<=p.size:=by rw[hp.size];omega
 refine BY.bnd _ (Q3 (hp.rev 0 m) (n-m) m (λi j a b=>?_) λm' a b c _=>hq m' _ (by omega) (by omega) (hp.rev 0 m) c);rw[Qi hz,Qi hz,if_pos (by omega),if_pos (by omega)];exact hd _ _ (by omega) (by omega)
theorem XJ(hp:Pm n p)(hd:Dn O key p (m+1))(hm:m+1<=n)(hq:∀m' p',1<=m'->m'<=n->Pm n p'->Up O key p' m'->Q (m',p')):BY (xw O key) n (kas_descPart m n p) Q:=by
 refine BY.bnd _ (NM (n-(m+1)) p (m+1) 0 hp hd (by omega) (λi a b=>by congr 1;omega) (by omega) λp' m' q' h1 h2 h3 h4 h5 h6=>?_);have hz:m'<=p'.size:=by rw[h1.size];omega
 dsimp only;split
 .exact XC (h1.rev _ _) (h4.same (Rg hz h6)) (by omega) (by omega) hq
 .exact XC h1 h4 (by omega) (by omega) hq
theorem k6(hp:Pm n p)(hq:∀m' p',1<=m'->m'<=n->Pm n p'->Up O key p' m'->Q (m',p')):BY (xw O key) n (kas_count n p) Q:=by
 have h0:=hp.pos;refine BY.bnd _ (Q3 hp (n-1) 1 Up.one λm h1 h2 h3 h4=>?_);have hz:m<=p.size:=by rw[hp.size];omega
 split
 .exact hq m p (by omega) (by omega) hp h3
 .rename_i tM
  have hne':m≠n:=by simpa using tM
  have tf:O.klt (Ka O key p m) (Ka O key p (m-1)):=h4.resolve_left (by omega);split
  .rename_i hm
   refine⟨hp.lt _,hp.lt _,?_⟩;dsimp only;split
   .exact hq m p (by omega) (by omega) hp h3
   .rename_i hr
    have hr':O.kle (Ka O key p (m-1)) (Ka O key p 0):=MA hr;have all:∀k,0<=k->k<m->Ka O key p k=Ka O key p (m-1):=λk _ hk=>aW (h3 k (m-1) (by omega) (by omega)) (Pp hr' (h3 0 k (by omega) hk));refine XJ (hp.rev _ _) (Dn.same ?_ (Rg hz all)) (by omega) hq;refine Dn.more (λi j a b=>?_) (O6 tf);rw[all i (by omega) (by omega),all j (by omega) b];exact Kx _
  .obtain rfl:m=1:=by omega
   refine XJ hp (Dn.more (λi j a b=>?_) (O6 tf)) (by omega) hq;obtain rfl:i=j:=by omega
   exact Kx _
theorem RZ{Q:Nat->Prop}{k:Nat}(hp:Pm n p)(hu:Up O key p k):∀(f l r:Nat),l<=r->r<=k->r-l<=f->(∀i,i<l->O.kle (Ka O key p i) (Ka O key p k))->(∀i,r<=i->i<k->O.klt (Ka O key p k) (Ka O key p i)) ->(∀l,l<=k->(∀i,i<l->O.kle (Ka O key p i) (Ka O key p k))->(∀i,l<=i->i<k->O.klt (Ka O key p k) (Ka O key p i))->Q l)->BY (xw O key) n (kas_place p k f l r) Q
 |0,l,r,h1,h2,h3,lo,hi,hq=>by
  obtain rfl:l=r:=by omega
  exact hq l h2 lo hi
 |f+1,l,r,h1,h2,h3,lo,hi,hq=>by
  unfold kas_place;split
  .obtain rfl:l=r:=by omega
   exact hq l h2 lo hi
  .refine⟨hp.lt _,hp.lt _,?_⟩
   dsimp only;split
   .rename_i h
    exact RZ hp hu f l ((l+r) / 2) (by omega) (by omega) (by omega) lo (λi a b=>KeyOrd.klt_of_klt_of_kle h (hu _ _ a b)) hq
   .rename_i h
    refine RZ hp hu f ((l+r) / 2+1) r (by omega) (by omega) (by omega) (λi a=>Pp (hu i ((l+r) / 2) (by omega) (by omega)) (MA h)) hi hq
theorem Wz{Q:Array Nat->Prop}:∀(f:Nat) (p:Array Nat) (k:Nat),Pm n p->Up O key p k->k+f=n->(∀p',Pm n p'->Up O key p' n->Q p')->BY (xw O key) n (kas_bin f p k) Q
 |0,p,k,hp,hu,hn,hq=>by
  obtain rfl:k=n:=by omega
  exact hq p hp hu
 |f+1,p,k,hp,hu,hn,hq=>by
  refine BY.bnd _ (RZ hp hu k 0 k (by omega) (Aj _) (by omega) (λi a=>by omega) (λi a b=>by omega) λl hl lo hi=>?_);refine Wz f _ (k+1) (hp.bub _ _) (λi j a b=>?_) (by omega) hq;have hk:k<p.size:=by rw[hp.size];omega
  rw[U8 hk (by omega),U8 hk (by omega),show k-(k-l)=l by omega]
  repeat' split
  all_goals first
   |(exfalso;omega)
   |exact Kx _
   |exact lo _ (by omega)
   |exact O6 (hi _ (by omega) (by omega))
   |exact hu _ _ (by omega) (by omega)
theorem j5(hn:0<n){Q:Array Nat->Prop}(hq:∀p,Pm n p->Up O key p n->Q p):BY (xw O key) n (kas_sort n) Q:=by
 refine BY.bnd _ (k6 ⟨hn,.refl _⟩ λm p h1 h2 h3 h4=>?_);dsimp only;rw[show max m 1=m by omega];split
 .exact Wz _ p m h3 h4 (by omega) hq
 .exact hq p h3 (by rwa [show n=m by omega])
end
theorem ug:∀a:zZ,HM.lexLt a a=Ab
 |[]=>rfl
 |x::a=>by show(if x=x then HM.lexLt a a else decide (x<x))=Ab;rw[if_pos rfl];exact ug a
theorem Lr(x y:Int)(a b:zZ):HM.lexLt (x::a) (y::b)=if x=y then HM.lexLt a b else decide (x<y):=rfl
theorem uy:∀a b c:zZ,HM.lexLt a b=Aa->HM.lexLt b c=Aa->HM.lexLt a c=Aa
 |[],[],_,h,_=>by cases h
 |[],_::_,[],_,h=>by cases h
 |[],_::_,_::_,_,_=>rfl
 |_::_,[],_,h,_=>by cases h
 |_::_,_::_,[],_,h=>by cases h
 |x::a,y::b,z::c,h1,h2=>by
  rw[Lr]at *;split at h1
  .rename_i e
   subst e;split at h2
   .rename_i e;subst e;rw[if_pos rfl];exact uy a b c h1 h2
   .rename_i e;rw[if_neg e];exact h2
  .split at h2
   .rename_i e1 e2;subst e2;rw[if_neg e1];exact h1
   .rename_i e1 e2
    have h1:=of_decide_eq_true h1;have h2:=of_decide_eq_true h2;rw[if_neg (by omega)];exact decide_eq_true (by omega)
theorem Q9:∀a b c:zZ,HM.lexLt a c=Aa->HM.lexLt a b=Aa\/HM.lexLt b c=Aa
 |[],[],_,h=>.inr h
 |[],_::_,_,_=>.inl rfl
 |_::_,_,[],h=>by cases h
 |_::_,[],_::_,_=>.inr rfl
 |x::a,y::b,z::c,h=>by
  rw[Lr]at *;rw[Lr];split at h
  .rename_i e
   subst e
   by_cases e:x=y
   .subst e;rw[if_pos rfl,if_pos rfl];exact Q9 a b c h
   .rw[if_neg e,if_neg (Bi e)]
    by_cases q:x<y
    .exact .inl (decide_eq_true q)
    .exact .inr (decide_eq_true (by omega))
  .rename_i e
   have h:=of_decide_eq_true h
   by_cases e1:x=y
   .subst e1;rw[if_neg e];exact .inr (decide_eq_true h)
   .rw[if_neg e1]
    by_cases q:x<y
    .exact .inl (decide_eq_true q)
    .rw[if_neg (by omega)];exact .inr (decide_eq_true (by omega))
theorem Ro:∀a b:zZ,HM.lexLt a b=Ab->HM.lexLt b a=Ab->a=b
 |[],[],_,_=>rfl
 |[],_::_,h,_=>by cases h
 |_::_,[],_,h=>by cases h
 |x::a,y::b,h1,h2=>by
  rw[Lr]at h1 h2
  by_cases e:x=y
  .subst e
   rw[if_pos rfl]at h1 h2;rw[Ro a b h1 h2]
  .rw[if_neg e]at h1
   rw[if_neg (Bi e)]at h2;have h1:=of_decide_eq_false h1;have h2:=of_decide_eq_false h2;omega
@[reducible] def Qk:KeyOrd where
 α:=zZ
 blt:=HM.lexLt
 irrefl:=ug
 trans:=uy
 negTrans:=Q9
 total:=Ro
theorem R1{α:Type}{R:α->α->Prop}(anti:∀a b,R a b->R b a->a=b):∀{l m:List α},l.Perm m->l.Pairwise R->m.Pairwise R->l=m
 |[],m,hp,_,_=>(List.nil_perm.mp hp).symm
 |x::l,[],hp,_,_=>absurd hp.symm (by intro q;exact List.cons_ne_nil _ _ (List.nil_perm.mp q))
 |x::l,y::m,hp,hl,hm=>by
  obtain⟨l1,l2⟩:=Ed.mp hl;obtain⟨m1,m2⟩:=Ed.mp hm;have e:x=y:=by
   rcases As.mp (hp.mem_iff.mp (An ..))with e|e
   .exact e
   .rcases As.mp (hp.mem_iff.mpr (An ..))with e'|e'
    .exact e'.symm
    .exact anti x y (l1 y e') (m1 x e)
  subst e;rw[R1 anti ((List.perm_cons x).mp hp) l2 m2]
def TI(h:Heap)(b:Addr)(t:zZ):Prop:=∃o sy n,h.get? b=Z o/\o.cls=.type "tuple"/\o.data=.seq sy n/\IntsAre sy.toList t
theorem TI.keep{b:Addr}{t:zZ}(x:TI h b t)(k:∀o,h.get? b=Z o->h'.get? b=Z o):TI h' b t:=let ⟨o,sy,n,e,r⟩:=x;⟨o,sy,n,k o e,r⟩
section
variable{prog:Program}{w:World}{A:Around}{E:z4}{s:Shared}
theorem U4{tO:Bool}{Q:Bool->Shared->Prop}:∀{vs ws:z8} {a b:zZ} (i:Nat),IntsAre vs a->IntsAre ws b->tO=decide (BC vs<BC ws)->Q (HM.lexLt a b) s->KatLex prog w A Aa tO Q (vs.zip ws) i s
 |_,_,_,_,i,.nil,.nil,e,q=>by subst e;exact kat_nil q
 |_,_,_,_,i,.nil,.cons _ _ _,e,q=>by subst e;exact kat_nil q
 |_,_,_,_,i,.cons _ _ _,.nil,e,q=>by subst e;exact kat_nil q
 |_,_,_,_,i,.cons x t hv,.cons y u hw,e,q=>by
  rw[List.zip_cons_cons];refine kat_cons (wpAny_eqBool_int ?_);rw[Lr]at q
  by_cases h:x=y
  .rw[if_pos h]at q
   rw[show(x==y)=Aa by simpa using h];refine kat_yes (U4 (i+1) hv hw ?_ q);rw[e,Av,Av];exact decide_eq_decide.mpr (by omega)
  .rw[if_neg h]at q
   rw[show(x==y)=Ab by simpa using h];refine kat_no ?_
   by_cases hi:i=0
   .rw[show(Aa&&i==0)=Aa by simpa using hi]
    exact oneLt_int q
   .rw[show(Aa&&i==0)=Ab by simpa using hi]
    exact kat_one _ _ (PyProof.Rows.lt_int q)
theorem d9{x y:Addr}{a b:zZ}{Q:Bool->Shared->Prop}(hx:TI s.heap x a)(hy:TI s.heap y b)(h:Q (HM.lexLt a b) s):wpAny (model prog w) A (keyLt' (tuples' Aa) (.ref x) (.ref y)) Q E s:=by obtain⟨ox,ix,n,e1,_,d1,r1⟩:=hx;obtain⟨oy,iy,k,e2,_,d2,r2⟩:=hy;refine kat_lt e1 d1 e2 d2 (U4 0 r1 r2 ?_ h);rw[Bk,Bk]
theorem Wh{α:Type}{cmp:Nat->Nat->(Bool->Shared->Prop)->Shared->Prop}{o:Nat->Nat->Bool}{n:Nat}(hc:∀i j C,i<n->j<n->C (o i j) s->cmp i j C s){G:α->Shared->Prop}:∀(t:KasT α),BY o n t (λa=>G a s)->t.kasWp cmp G s
 | .ret a,h=>h
 | .ask i j k,h=>hc i j _ h.1 h.2.1 (Wh hc (k (o i j)) h.2.2)
theorem iG{R:Heap->Addr->zZ->Prop}{F:zZ->Prop}(hkp:∀{h h':Heap} {b:Addr} {t:zZ},R h b t->(∀c o,h.get? c=Z o->o.cls=.type "tuple"->h'.get? c=Z o)->R h' b t)(hfs:∀{h:Heap} {b:Addr} {t:zZ},F t->R h b t->∃o sy n x u,h.get? b=Z o/\o.cls=.type "tuple"/\o.data=.seq sy n/\sy[0]?=Z (.int x u))(tf:∀{s:Shared} {x y:Addr} {a b:zZ} {C:Bool->Shared->Prop} {E:z4},R s.heap x a->R s.heap y b->C (HM.lexLt a b) s->wpAny (model prog w) A (keyLt' (tuples' Aa) (.ref x) (.ref y)) C E s){a:Addr}{vs:z8}{ts:z0}{n:Nat}{P:PySem.Fin->Shared->Prop}(ho:s.heap.get? a=Z (seqObj "list" vs.toArray n))(hl:BC ts=vs.length)(hT:∀(i:Nat) t,ts[i]?=Z t->∃b,vs[i]?=Z (.ref b)/\R s.heap b t)(tM:BC vs<2\/∀t∈ts,F t)(zN:BC vs<64)(h:∀p:List Nat,p.Perm (Ah vs.length)->(p.map λi=>ts.getD i []).Pairwise (λx y=>HM.lexLt y x=Ab)->P (.done (.ret .none)) {s with heap:=Ml s.heap a vs (p.map λi=>vs.getD i By).toArray}):wpAny (model prog w) A (Builtin.«list.sort» ⟨[.ref a],[]⟩) P E s:=by
 rw[list_sort_plain];have ha:a<s.heap.objs.size:=Ar ho;refine Ac (listItems_at ho rfl (Ac (listUpdate_at ho rfl ?_ (by rw[AR,BR];omega) (BQ _))));obtain⟨e1,ho1⟩:∃e1,(s.heap.update a (Ji λ_=>#[])).get? a=Z (seqObj "list" #[] e1):=⟨_,get?_update_seq ho (λ_=>#[])⟩;refine Ac (seqEpoch_at ho1 rfl ?_);refine Ac (wpAny_newTuple ?_ (by show vs.length<=_;rw[BR];omega));refine Ac (OV ?_ (BQ _));refine Cd ?_;generalize hG:((s.heap.update a (Ji λ_=>#[])).push (seqObj "tuple" vs.toArray 0)).push (seqObj "list" #[] 0)=g;have ho6:g.get? a=Z (seqObj "list" #[] e1):=by rw[<-hG,O5 _ _ _ (by rw[size_push',Po];exact Aw (Je ha)),O5 _ _ _ (by rw[Po];exact Aw ha)];exact ho1
 have wZ:∀b o,b≠a->s.heap.get? b=Z o->g.get? b=Z o:=λb o hb e=>by have tf:=Ar e;rw[<-hG,O5 _ _ _ (by rw[size_push',Po];exact Aw (Je tf)),O5 _ _ _ (by rw[Po];exact Aw tf),Heap.get?_update_ne _ _ _ _ hb];exact e
 have hT6:∀(i:Nat) t,ts[i]?=Z t->∃b,vs[i]?=Z (.ref b)/\R g b t:=λi t e=>by
  obtain⟨b,e1,x⟩:=hT i t e;refine⟨b,e1,hkp x λc o q hc=>wZ c o ?_ q⟩
  rintro rfl
  rw[ho]at q;cases q;exact absurd (Value.type.inj hc) (by decide)
 show wpAny (model prog w) A _ P E {s with heap:=g};dsimp only;have tO:∀(st':SortSt) (p:List Nat),p.Perm (Ah vs.length)->(p.map λi=>ts.getD i []).Pairwise (λx y=>HM.lexLt y x=Ab)->(arrOf st').map (·.2)=(p.map λi=>vs.getD i By).toArray->failedOf st'=Z_ ->
   wpAny (model prog w) A (do
    let touched:=(<-seqEpoch a) != e1
    Builtin.List.listUpdate (.ref a) λ_=>(arrOf st').map (·.2)
    if let Z e:=failedOf st' then rule "list.sort.comparison-raised";throw e
    if touched then rule "list.sort.modified";raiseError "ValueError" "list modified during sort"
    ret .none) P E {s with heap:=g}:=by
  intro st' p hp hs har hf;refine Ac (seqEpoch_at ho6 rfl ?_);rw[har];refine Ac (listUpdate_at ho6 rfl ?_ (BQ _) (by show(p.map λi=>vs.getD i By).toArray.size<=_;rw[AR,Ad,hp.length_eq,DC,BR];omega));rw[hf];simp only[bne_self_eq_false,B9,if_false];refine Ae ?_;have:=h p hp hs;unfold Ml at this;rw[hG]at this;exact this
 by_cases h2:vs.toArray.size<2
 .rw[if_pos h2,if_pos h2]
  refine Ac (Ae ?_);rw[StateT.run_pure];refine Ac (Ae ?_);refine tO (SortSt.mk' general' (vs.toArray.zip vs.toArray) #[] 7 Z_) (Ah vs.length) (.refl _) ?_ ?_ rfl
  .rw[AR]at h2
   have:BC vs=0\/vs.length=1:=by omega
   rcases this with e|e<;>rw[e]<;>simp
  .rw[AR]at h2
   show Array.map (·.2) (vs.toArray.zip vs.toArray)=_
   match vs,h2 with
   |[],_=>simp
   |[v],_=>simp
 .rw[if_neg h2,if_neg h2]
  rw[AR]at h2;have hne':∀t∈ts,F t:=tM.resolve_left h2;have tups:∀(vs:z8) (ts:z0),BC ts=vs.length->(∀(i:Nat) t,ts[i]?=Z t->∃b,vs[i]?=Z (.ref b)/\R g b t)->(∀t∈ts,F t)->∃fs,KatTups g vs fs/\fs.length=vs.length/\∀v∈fs,∃x t,v=DA x t:=by
   intro vs
   induction vs with
   |nil=>intro ts hl _ _;exact⟨[],KatTups.nil,rfl,by simp⟩
   |cons v vs ih =>
    intro ts hl hT hn;cases ts with
    |nil=>simp at hl
    |cons t ts =>
     obtain⟨fs,f1,f2,f3⟩:=ih ts (by simpa using hl) (λi t e=>hT (i+1) t (by simpa using e)) λx hx=>hn x (Ao _ hx);obtain⟨b,eb,hr⟩:=hT 0 t rfl;obtain⟨o,sy,m,x,u,g1,g2,g3,g4⟩:=hfs (hn t (An ..)) hr;simp at eb;subst eb;refine⟨.int x u::fs,KatTups.cons g1 g2 g3 g4 f1,by simp[f2],λv hv=>?_⟩;rcases As.mp hv with e|e
     .exact⟨x,u,e⟩
     .exact f3 v e
  obtain⟨fs,f1,f2,f3⟩:=tups vs ts hl hT6 hne';refine Ac (kat_kind (s:={s with heap:=g}) (T:=.type "int") f1 (by omega) (λv hv=>?_) (by rfl) ?_)
  .obtain⟨x,t,rfl⟩:=f3 v hv
   exact Looks.of_pure rfl
  rw[show(GB "int" != GB "tuple")=Aa by decide];refine Ac (CQ (kat_run (ks:=vs) (Q:=λst' s'=>s'={s with heap:=g}/\∃p:Array Nat,Pm vs.length p/\Up Qk (λi=>ts.getD i []) p vs.length/\arrOf st'=p.map (kas_item (vs.toArray.zip vs.toArray))/\failedOf st'=Z_)
   (G:=λp s'=>s'={s with heap:=g}/\Pm vs.length p/\Up Qk (λi=>ts.getD i []) p vs.length) rfl (by omega) zN (λp' st' s' a1 a2 a3 a4=>⟨a4.1,p',a4.2.1,a4.2.2,a2,a3⟩) ?_) ?_ λ_ _ e=>e)
  .refine Wh (o:=xw Qk λi=>ts.getD i []) (n:=vs.length) (λi j C hi hj hC=>?_) _ (j5 (by omega) λp h1 h2=>⟨rfl,h1,h2⟩)
   have gi:ts[i]?=Z (ts.getD i []):=by simp[show i<BC ts by omega]
   have gj:ts[j]?=Z (ts.getD j []):=by simp[show j<BC ts by omega]
   obtain⟨b1,v1,x1⟩:=hT6 i _ gi;obtain⟨b2,v2,x2⟩:=hT6 j _ gj;show wpAny (model prog w) A (keyLt' _ (vs.getD i By) (vs.getD j By)) C _ _;rw[show vs.getD i By=.ref b1 by simp[CS,v1],show vs.getD j By=.ref b2 by simp[CS,v2]];exact tf x1 x2 hC
  .rintro ⟨⟨⟩,st'⟩ s' ⟨rfl,p,hp,hu,har,hf⟩
   refine tO st' p.toList ?_ ?_ (kat_snds rfl har) hf
   .have:=bx.mp hp.perm
    simpa using this
   .rw[Kn,bO]
    intro i j hi hj hij;have hsz:=hp.size;have q:=hu i j (F8 hij) (by rw[Bk]at hj;omega);unfold Ka at q;rw[show p.getD i 0=p.toList[i] by simp[Dh,show i<p.size by simpa using hi],show p.getD j 0=p.toList[j] by simp[Dh,show j<p.size by simpa using hj]]at q;exact q
theorem WZ{a:Addr}{vs:z8}{ts:z0}{P:PySem.Fin->Shared->Prop}(ho:s.heap.get? a=Z (seqObj "list" vs.toArray n))(hl:BC ts=vs.length)(hT:∀(i:Nat) t,ts[i]?=Z t->∃b,vs[i]?=Z (.ref b)/\TI s.heap b t)(tM:BC vs<2\/∀t∈ts,t≠[])(zN:BC vs<64)(h:∀p:List Nat,p.Perm (Ah vs.length)->(p.map λi=>ts.getD i []).Pairwise (λx y=>HM.lexLt y x=Ab)->P (.done (.ret .none)) {s with heap:=Ml s.heap a vs (p.map λi=>vs.getD i By).toArray}):wpAny (model prog w) A (Builtin.«list.sort» ⟨[.ref a],[]⟩) P E s:=by
 refine iG (R:=TI) (F:=λt=>t≠[]) (λ⟨o,sy,n,e,c,r⟩ k=>⟨o,sy,n,k _ _ e c,c,r⟩) (λ{h b t} hn x=>?_) d9 ho hl hT tM zN h;obtain⟨o,sy,m,g1,g2,g3,g4⟩:=x;cases t with
 |nil=>exact absurd rfl hn
 |cons x t =>
  cases hi:sy.toList with
  |nil=>rw[hi]at g4;cases g4
  |cons y ys =>
   rw[hi]at g4;cases g4 with
   |cons _ u _=>exact⟨o,sy,m,x,u,g1,g2,g3,by rw[<-Ca,hi];rfl⟩
end
def CI(h:Heap)(d:Addr)(es:Array DictEntry)(ep:Nat):Prop:=∃o,h.get? d=Z o/\o.ExactDict/\o.data=.dict es ep
theorem CI.at'{d:Addr}{es:Array DictEntry}(x:CI h d es ep)(e:∀o,h.get? d=Z o->h'.get? d=Z o):CI h' d es ep:=let ⟨o,ho,r⟩:=x;⟨o,e _ ho,r⟩
theorem CI.typeIs{s:Shared}{d:Addr}{es:Array DictEntry}(x:CI s.heap d es ep):s.TypeIs (.ref d) "dict":=let ⟨o,ho,hc,_⟩:=x;⟨o,ho,hc.1⟩
theorem CI.lt{d:Addr}{es:Array DictEntry}(x:CI h d es ep):d<h.objs.size:=let ⟨o,ho,_⟩:=x;Ar ho
section
variable{prog:Program}{w:World}{A:Around}{E:z4}{s:Shared}{it d:Addr}{es:Array DictEntry}{ep i:Nat}
theorem Xq{Q:z4}(hd:(d==CB)=Ab)(hm:CI s.heap d es ep)(hQ:Q (.ref s.heap.objs.size) {s with heap:=s.heap.push {cls:=.type "dict_keyiterator",data:=.fields #[.ref d,.int 0 0,.int es.size 0,.int ep 0]}}):wpAny (model prog w) A (pyIter (.ref d)) Q E s:=by
 obtain⟨o,ho,hc,xQ⟩:=id hm;have hT:=hm.typeIs;refine Tt hT F.slot_dict_iter (E7 F.slot_dict_iter hT F.entry_dict_iter ?_ (F.args_dict_iter_1 _));unfold Builtin.«dict.__iter__»;refine Ac ?_;unfold Builtin.Dict.dictSlotNone;refine Ac (wpAny_notOrdered_dict hT ?_);show wpAny _ _ (pure (Bl d)) _ _ s;refine Ae ?_;show wpAny _ _ (bf d >>= _) _ _ s;unfold bf;rw[if_neg (by rw[hd];exact DD)];refine Ac (Ae (Ac (ME ho xQ (Ac (TY ho xQ ?_)))));refine Ac (Ey (Ae ⟨_,rfl,"dict_keyiterator",_,⟨_,A1 _ rfl,rfl⟩,F.slot_dict_keyiterator_next.lookup,?_⟩));simpa [rawInt]using hQ
theorem Xr{e:DictEntry}{Q:Option Value->Shared->Prop}(uv:s.heap.IsKeyIter it d i es.size ep)(hm:CI s.heap d es ep)(hx:es[i]?=Z e)(hQ:∀h',h'.IsKeyIter it d (i+1) es.size ep->Fd it s.heap h'->Q (Z e.key) {s with heap:=h'}):wpAny (model prog w) A (pyNext (.ref it)) Q E s:=by
 obtain⟨o,ho,hc,hd⟩:=id uv;obtain⟨od,zB,tF,yB⟩:=id hm;unfold pyNext;refine Ac (OW (wpAny_callSpecial?_slot (name:=FY "__next__") uv.typeIs F.slot_dict_keyiterator_next
  (E7 F.slot_dict_keyiterator_next uv.typeIs F.entry_dict_keyiterator_next ?_ (F.args_dict_keyiterator_next_1 _))))
 refine Ac (Ae (Ac (Ac ?_)))
 first|refine Ac (PB uv.typeIs (Ae ?_))|refine Ac (PQ uv.typeIs (Ae ?_))
 refine Ac (Pw ho hd ?_);have yO:bU "dict_keyiterator"=Ab:=by decide
 simp only[yO,B9,if_false];show wpAny _ _ (if(Bl d==By)=Aa then _ else _) _ _ s;rw[if_neg (show ¬((Bl d==By)=Aa) from DD)];refine Ac (Ae (Ac (ME zB yB ?_)));rw[if_neg (by simp)];refine Ac (Ae (Ac (TY zB yB ?_)));rw[if_neg (by simp)];refine Ae ?_;obtain⟨tf,he⟩:=HB.mp hx;simp only[show ¬((i:Int)<0) from by omega,if_false,O7,Ga tf];refine Ac ?_
 first|refine Ac (PB uv.typeIs (Ae ?_))|refine Ac (PQ uv.typeIs (Ae ?_))
 refine Ac (wpAny_isOneOf_keyiter uv.typeIs ?_);show wpAny _ _ (setField (.ref it) 1 (rawInt ((i:Int)+1)) >>= _) _ _ s;refine Ac (Mv ho hd (by simp) ?_);have hit':(s.heap.update it (Tg (·.setIfInBounds 1 (rawInt ((i:Int)+1))))).IsKeyIter it d (i+1) es.size ep :=
  ⟨_,Fi _ ho (Ug (HF hd _)),(Ts ..).trans hc,by rw[HF hd];simp[rawInt]⟩
 refine Ac (Cd ?_);refine Ac (wpAny_isOneOf_keyiter (s:={s with heap:=s.heap.update it (Tg (·.setIfInBounds 1 (rawInt ((i:Int)+1))))}) hit'.typeIs ?_);show wpAny _ _ (pure es[i].key) _ _ _;refine Ae (Ae ⟨_,rfl,Ae ?_⟩);rw[he];exact hQ _ hit' (EC ..)
theorem VH{Q:Option Value->Shared->Prop}(hh:A.handled=Z_)(uv:s.heap.IsKeyIter it d i es.size ep)(hm:CI s.heap d es ep)(hx:es.size<=i)(hQ:∀h',Heap.ExtBut it s.heap h'->Q Z_ {s with heap:=h'}):wpAny (model prog w) A (pyNext (.ref it)) Q E s:=by
 obtain⟨o,ho,hc,hd⟩:=id uv;obtain⟨od,zB,tF,yB⟩:=id hm;unfold pyNext;refine Ac (OW (wpAny_callSpecial?_slot (name:=FY "__next__") uv.typeIs F.slot_dict_keyiterator_next
  (E7 F.slot_dict_keyiterator_next uv.typeIs F.entry_dict_keyiterator_next ?_ (F.args_dict_keyiterator_next_1 _))))
 refine Ac (Ae (Ac (Ac ?_)))
 first|refine Ac (PB uv.typeIs (Ae ?_))|refine Ac (PQ uv.typeIs (Ae ?_))
 refine Ac (Pw ho hd ?_);have yO:bU "dict_keyiterator"=Ab:=by decide
 simp only[yO,B9,if_false];show wpAny _ _ (if(Bl d==By)=Aa then _ else _) _ _ s;rw[if_neg (show ¬((Bl d==By)=Aa) from DD)];refine Ac (Ae (Ac (ME zB yB ?_)));rw[if_neg (by simp)];refine Ac (Ae (Ac (TY zB yB ?_)));rw[if_neg (by simp)];refine Ae ?_;simp only[show ¬((i:Int)<0) from by omega,if_false,O7,T6 hx];refine Ac ?_
 first|refine Ac (PB uv.typeIs (Ae ?_))|refine Ac (PQ uv.typeIs (Ae ?_))
 show wpAny _ _ (setField (.ref it) 0 .none >>= _) _ _ s;refine Ac (Mv ho hd (by simp) ?_);show wpAny _ _ (newExc (.type "StopIteration") [] >>= _) _ _ _;refine Ac ?_;simp only[newExc,newTuple];refine Ac (Ey ?_ (by size_fits));refine Ac (m:=Pu _ _) (OR (a:=By) (by first|rfl|(simp only[Pu];rfl)) ?_)
 refine Ey ?_ (by size_fits);simp only[raiseNew];refine Ac (wpAny_handled ?_);rw[show A.in1.handled=Z_ from hh];refine Ac (Ae (wpAny_throw ?_));refine Ac (TL (T:="StopIteration") (b:=Aa) ⟨_,A1 _ rfl,rfl⟩ isSubtype_stop ?_);exact Ae (hQ _ (((EC ..).extBut.push _).push _))
theorem jv(hh:A.handled=Z_)(I d:Addr)(tM:d≠I)(es:Array DictEntry)(ep:Nat):Walks prog w A I [I,d] [I] es.size (λi v=>∃e,es[i]?=Z e/\v=e.key) (λi h=>h.IsKeyIter I d i es.size ep/\CI h d es ep) where
 sub:=λb hb=>by simp at hb;simp[hb]
 frame:=λ_ _ _ st hk=>⟨st.1.at λo e=>hk I (by simp) o e,st.2.at' λo e=>hk d (by simp) o e⟩
 item:=λi s Q E hi st hQ=>by have hx:es[i]?=Z es[i]:=Ga hi;refine Xr st.1 st.2 hx λh' hit' hs'=>?_;exact hQ _ h' s.toks ⟨_,hx,rfl⟩ ⟨hit',st.2.at' λo e=>hs'.extBut d o tM e⟩ λb o hb e=>hs'.extBut b o (λh=>hb (by simp[h])) e
 done:=λs Q E st hQ=>VH hh st.1 st.2 (Aj _) λh' he'=>hQ h' s.toks λb o hb e=>he' b o (λh=>hb (by simp[h])) e
 self:=λ_ _ _ _ st hQ=>wpAny_pyIter_keyiter st.1 hQ
end
end HP
namespace HP
open PySem PySem.Spec PySem.W PySem.Calls PyProof.Rows L2
variable[FX]
section
variable{a r:Addr}{es:Array (Int×Value)}{h:Heap}{ep:Nat}
section
variable{prog:Program}{w:World}{A:Around}{E:z4}{s:Shared}
theorem gI{Q:Bool->Shared->Prop}(hT:s.TypeIs (.ref r) "set")(h:Q Ab s):wpAny (model prog w) A (bE (.ref r)) Q E s:=by
 unfold bE;refine Ac (TC hT PySem.F.slot_set_len.lookup ?_);generalize hid:("set.__len__":String)=id0
 wp_delta
 rw[show splitId id0=Z ("set","__len__") from by subst hid;decide +kernel];subst hid;refine Ac (TL (T:="set") (b:=Aa) hT (by rw[isSubtype_type];kernel_rfl) ?_);refine IY (λq=>absurd q (by decide)) λ_=>?_;refine IY (λ_=>?_) (λq=>absurd (by decide +kernel) q);exact Ac (wpAny_typeOf hT (Ae h))
theorem We{d:Addr}{es:Array DictEntry}(lo:(d==CB)=Ab):KdlSrc prog w "dict" d d es.size (λi v=>∃e,es[i]?=Z e/\v=e.key) (λh=>CI h d es ep) where
 type:=λ_ hm=>hm.typeIs
 there:=λ_ hm=>⟨hm.lt,hm.lt⟩
 keep:=λ_ _ hm hk=>hm.at' λo e=>hk d (.inl rfl) o e
 notList:=by decide
 notTuple:=by decide
 hint:=λ_ _ _ _ hm hq=>kdl_hint_dict hm.typeIs hq
 iter:=λ_ _ hh hm=>⟨_,_,(λ_ _ hq=>Xq lo hm hq),jv hh _ d (Aw hm.lt) es ep,⟨⟨_,A1 _ rfl,rfl,rfl⟩,hm.at' λo e=>Au _ e⟩⟩
theorem Dl.typeIs{t:SetTable}(x:Dl w s.heap a es ep t):s.TypeIs (.ref a) "set":=let ⟨o,ho,hc,_⟩:=x.obj;⟨o,ho,hc.1⟩
theorem Dl.lt{t:SetTable}(x:Dl w h a es ep t):a<h.objs.size:=let ⟨o,ho,_⟩:=x.obj;Ar ho
theorem VB{t:SetTable}:KdlSrc prog w "set" a a es.size (λi v=>∃e,(Dm w a es ep)[i]?=Z e/\v=e.2) (λh=>Dl w h a es ep t) where
 type:=λ_ hm=>hm.typeIs
 there:=λ_ hm=>⟨hm.lt,hm.lt⟩
 keep:=λ_ _ hm hk=>hm.at' λo e=>hk a (.inl rfl) o e
 notList:=by decide
 notTuple:=by decide
 hint:=λ_ _ _ _ hm hq=>gI hm.typeIs hq
 iter:=λ_ _ hh hm=>⟨_,_,(λ_ _ hq=>jf hm hq),kM hh _ a (Aw hm.lt) es ep t,⟨0,⟨_,A1 _ rfl,rfl,rfl⟩,hm.at' λo e=>Au _ e,λ_=>lG hm.tab.rise⟩⟩
theorem LL{T:String}{d:Addr}{n:Nat}{P:Nat->Value->Prop}{OK:Heap->Prop}{R:z8->Shared->Prop}(K:KdlSrc prog w T r d n P OK)(hh:A.handled=Z_)(hok:OK s.heap)(hn:n<=sizeLine)(h:∀(h':Heap) (tk:Nat) (acc:Array Value),(∀b o,s.heap.get? b=Z o->h'.get? b=Z o)->s.heap.objs.size<h'.objs.size->ItemsOf P acc n->R acc.toList {s with heap:=h',toks:=tk}):wpAny (model prog w) A (collect (.ref r)) R E s:=by
 have tf:=K.there _ hok;unfold collect;refine Ac (Px (DW entry_proto_collect' ?_));rw[Ez bD _];show wpAny _ A.in1 (newList [] >>= λl=>again (.builtin "list.__iadd__" ⟨[l,.ref r],[]⟩)) _ _ s;refine Ac (Ey (Ae ⟨Gz PK _,DW entry_list_iadd' ?_⟩));rw[Ez PK _];have hS₁:(s.heap.push {cls:=.type "list",data:=.seq ([]:z8).toArray}).get? s.heap.objs.size=Z {cls:=.type "list",data:=.seq #[]}:=A1 _ rfl;show wpAny _ A.in1 (bC (.ref s.heap.objs.size) (.ref r) (.ref s.heap.objs.size)) _ _ _;refine CQ (kdl_extend (A:=A) (s:={s with heap:=s.heap.push {cls:=.type "list",data:=.seq ([]:z8).toArray}})
  (R:=λ(q:Result) (s':Shared)=>∃(h':Heap) (tk:Nat) (acc':Array Value) (c':Nat),q=.ok (.ret (.ref s.heap.objs.size))/\s'={s with heap:=h',toks:=tk} /\
   (∀b o,s.heap.get? b=Z o->h'.get? b=Z o)/\h'.get? s.heap.objs.size=Z {cls:=.type "list",dict:=Z_,data:=.seq acc' c',slots:=#[]}/\ItemsOf P acc' n)
  K hh (K.keep _ _ hok λb _ o e=>Au _ e) s.heap.objs.size (Jh tf.1) (Jh tf.2) (.ref s.heap.objs.size) 0 hS₁
  (λh' tk acc' c' hk hS' sW=>⟨h',tk,acc',c',rfl,rfl,λb o e=>hk b o (Aw (Ar e)) (Au _ e),hS',sW⟩) hn) (λtO s' x=>?_) λe s' x=>?_
 .have go:∀(h':Heap) (tk:Nat) (acc':Array Value) (c':Nat),(∀b o,s.heap.get? b=Z o->h'.get? b=Z o)->h'.get? s.heap.objs.size=Z {cls:=.type "list",dict:=Z_,data:=.seq acc' c',slots:=#[]}->ItemsOf P acc' n ->
    wpAny (model prog w) A (load s.heap.objs.size >>= λo=>match o.data with | .seq xs _=>pure xs.toList|_=>OQ "internal:collect") R E {s with heap:=h',toks:=tk}:=λh' tk acc' c' hk hS' sW =>
   Ac (wpAny_load hS' (Ae (h h' tk acc' hk (Ar hS') sW)))
  cases tO with
  |done f=>obtain⟨h',tk,acc',c',e,rfl,hk,hS',sW⟩:=x;cases e;exact go h' tk acc' c' hk hS' sW
  |again c₁=>refine⟨x.1,Fc x.2 λq s₂ y=>?_⟩;obtain⟨h',tk,acc',c',rfl,rfl,hk,hS',sW⟩:=y;exact go h' tk acc' c' hk hS' sW
 .obtain⟨_,_,_,_,e',_⟩:=x
  cases e'
end
inductive EH(K:Af)(F H:Hp)(p:Addr):z5->Prop where
 |lst {ds:z5} {vs:List V} (h:tQ K H p vs) (r:Zu K F ds vs):EH K F H p ds
 |tup {ds:z5} {vs:List V} (h:uH K H p vs) (r:Zu K F ds vs):EH K F H p ds
 |dk {kvs:List (sL×V)} (h:H p=Z (.dK kvs)):EH K F H p (kvs.map λq=>HM.Bv q.1)
 |dt {kvs:List (List sL×V)} (h:H p=Z (.dT kvs)):EH K F H p (kvs.map λq=>.tuple (q.1.map HM.Bv))
theorem fm{K:Af}{F:Hp}(k:sL):Rep K F (HM.Bv k) (kV k):=by
 cases k with
 |inl i=>exact .int i
 |inr x=>exact .str x
theorem LA{K:Af}{F:Hp}:∀(ks:List sL),Zu K F (ks.map HM.Bv) (ks.map kV)
 |[]=>.nil
 |k::ks=>.cons (fm k) (LA ks)
theorem gU{P:Program}{w:World}{k:sL}{u:Value}(h:(BV P w).is k u=Aa):RelV (kV k) u:=by
 rw[k5]at h;rcases FJ h with⟨i,t,rfl,rfl⟩|⟨x,t,rfl,rfl⟩
 .exact⟨t,rfl⟩
 .exact⟨t,rfl⟩
section
variable{X:Cx}{su:z7}{σ:L2.St}{H F:Hp}{s:Shared}{p:Addr}{ds:z5}
theorem Ij:∀{vs:List V} {us:z8},BC vs=us.length->(∀(i:Nat) v u,vs[i]?=Z v->us[i]?=Z u->RelV v u)->sC vs us
 |[],[],_,_=>.nil
 |[],_::_,h,_=>by simp at h
 |_::_,[],h,_=>by simp at h
 |v::vs,u::us,h,k=>.cons (k 0 v u rfl rfl) (Ij (by simpa using h) λi a b e1 e2=>k (i+1) a b (by simpa using e1) (by simpa using e2))
def Gth(X:Cx)(s:Shared)(ds:z5)(F:Hp)(p:Addr):Prop:=∃vs,Zu X.K F ds vs/\∀(A:Around) (E:z4) (R:z8->Shared->Prop),A.handled=Z_ ->
  (∀us h' tk,sC vs us->(∀b o,s.heap.get? b=Z o->h'.get? b=Z o)->R us {s with heap:=h',toks:=tk})->wpAny (model X.prog X.w) A (collect (.ref p)) R E s
theorem EH.gath(I:Inv X su σ H s)(sub:Zs F H)(h:EH X.K F H p ds):Gth X s ds (Bt F H) p:=by
 cases h with
 | @lst _ vs h r=>obtain⟨sy,rv,pl,hz⟩:=I.list h;obtain⟨o,ho,tN,n,hd⟩:=pl.isList;refine⟨vs,r.mono (Fy sub),λA E R _ k=>wpAny_collect_seq p (.inl rfl) ho tN hd (λh' kp=>?_) (by rw[AR,<-rv.length];exact hz)⟩;exact k sy h' s.toks rv kp
 | @tup _ vs h r=>obtain⟨sy,rv,pl,hz⟩:=I.tuple h;obtain⟨o,ho,tN,n,hd⟩:=pl;refine⟨vs,r.mono (Fy sub),λA E R _ k=>wpAny_collect_seq p (.inr rfl) ho tN hd (λh' kp=>?_) (by rw[AR,<-rv.length];exact hz)⟩;exact k sy h' s.toks rv kp
 | @dk kvs h =>
  obtain⟨z,lo,vs,tH,dd⟩:=Qd I.hok h;obtain⟨ep,wN⟩:=dd.dictAt;have hl:BC kvs=vs.length:=FV tH;refine⟨kvs.map λq=>kV q.1,?_,λA E R hh k=>LL (kdl_dict (knd:=BV X.prog X.w) (kvs:=vs) (ep:=ep) lo) hh wN (by omega) λh' tk acc kp hsz sW=>k _ h' tk ?_ kp⟩
  .have:=LA (K:=X.K) (F:=Bt F H) (kvs.map (·.1))
   rw[Aq,Aq]at this;exact this
  .refine Ij (by have q:acc.toList.length=acc.size:=Bk;rw[Ad,q,sW.1,hl]) λi v u e1 e2=>?_
   obtain⟨kk,x,q1,q2⟩:=sW.2 i u (by rw[<-Ca];exact e2);rw[AD]at e1;obtain⟨q,e3,e4⟩:=Ak.mp e1;subst e4;have key:∀{l:List (sL×V)} {m:List (sL×Value)},KV l m->∀(i:Nat) a b,l[i]?=Z a->m[i]?=Z b->a.1=b.1:=by
    intro l m r
    induction r with
    |nil=>intro i a b e;simp at e
    |cons hq _ ih =>
     intro i a b e1 e2;cases i with
     |zero=>simp at e1 e2;subst e1;subst e2;exact hq.1
     |succ i=>exact ih i a b (by simpa using e1) (by simpa using e2)
   have ek:=key tH i q (kk,x) e3 q1;rw[ek];exact gU q2
 | @dt kvs h =>
  obtain⟨z,lo,xs,tH,o,es,ep,h1,h2,h3,h4,h5⟩:=(show Z6 X.prog X.w H s.heap p (.dT kvs) from I.hok p _ h);have hl:BC kvs=xs.length:=FV tH;have xC:es.size=xs.length:=by rw[<-Bk,h4,Ad]
  have hm:CI s.heap p es ep:=⟨o,h1,h2,h3⟩;refine⟨xs.map λq=>V.ref q.2.1,?_,λA E R hh k=>LL (We (es:=es) (ep:=ep) lo) hh hm (by omega) λh' tk acc kp hsz sW=>k _ h' tk ?_ kp⟩
  .clear h4 xC hl z h h5
   induction tH with
   |nil=>exact .nil
   | @cons p0 _ _ _ hq _ ih=>obtain⟨q1,q2,_⟩:=hq;rw[Ai,Ai];refine .cons ?_ ih;have rk:=LA (K:=X.K) (F:=Bt F H) p0.1;exact .tup (QZ q2) rk.1 rk.2
  .refine Ij (by have q:acc.toList.length=acc.size:=Bk;rw[Ad,q,sW.1,xC]) λi v u e1 e2=>?_
   obtain⟨e,q1,q2⟩:=sW.2 i u (by rw[<-Ca];exact e2);subst q2;rw[AD]at e1;obtain⟨q,e3,e4⟩:=Ak.mp e1;subst e4;rw[<-Ca,h4,AD,e3]at q1;cases q1;rfl
theorem G9{K:Af}{F:Hp}:∀{ds:z5} {vs:List V} {ns:zZ},HM.Cg ds=Z ns->Zu K F ds vs->vs=ns.map V.int
 |[],vs,ns,h,r=>by cases h;exact r.nil_inv
 |d::ds,vs,ns,h,r=>by
  obtain⟨v,us,rfl,r1,r2⟩:=r.cons_inv;cases d with
  |int b=>obtain⟨bs',h1,h2⟩:=Ak.mp h;subst h2;rw[r1.int_inv,G9 h1 r2];rfl
  |none=>cases h
  |bool _=>cases h
  |str _=>cases h
  |list _=>cases h
  |tuple _=>cases h
  |dict _=>cases h
theorem QO:∀(t:zZ),HM.Cg (HM.uQ t)=Z t
 |[]=>rfl
 |x::t=>by show(HM.Cg (HM.uQ t)).map (x::·)=_;rw[QO t];rfl
theorem WB:∀{ds:z5} {ns:zZ},HM.Cg ds=Z ns->ds=HM.uQ ns
 |[],ns,h=>by cases h;rfl
 |d::ds,ns,h=>by
  cases d with
  |int b=>obtain⟨bs',h1,h2⟩:=Ak.mp h;subst h2;rw[WB h1];rfl
  |none=>cases h
  |bool _=>cases h
  |str _=>cases h
  |list _=>cases h
  |tuple _=>cases h
  |dict _=>cases h
theorem IB{K:Af}{F:Hp}:∀(ns:zZ),Zu K F (HM.uQ ns) (ns.map V.int)
 |[]=>.nil
 |n::ns=>.cons (.int n) (IB ns)
theorem JF:∀{ns:zZ} {us:z8},sC (ns.map V.int) us->IntsAre us ns
 |[],_,r=>by rw[F6]at r;cases r;exact .nil
 |n::ns,_,r=>by
  rw[Ai]at r;cases r with
  |cons h t=>obtain⟨u,rfl⟩:=h;exact .cons n u (JF t)
theorem RH:∀{us:z8} {ns:zZ},IntsAre us ns->sC (ns.map V.int) us
 |_,_,.nil=>.nil
 |_,_,.cons n t h=>.cons ⟨t,rfl⟩ (RH h)
theorem Q5:∀{ds:z5} {ts:z0},HM.Ic ds=Z ts->ds=HM.Mf ts
 |[],ts,h=>by cases h;rfl
 |d::ds,ts,h=>by
  cases d with
  |tuple es =>
   unfold HM.Ic at h;split at h
   .rename_i ns hn
    obtain⟨r',h1,h2⟩:=Ak.mp h;subst h2;rw[WB hn,Q5 h1];rfl
   .cases h
  |none=>cases h
  |bool _=>cases h
  |int _=>cases h
  |str _=>cases h
  |list _=>cases h
  |dict _=>cases h
theorem Xs{ns ms:zZ}(h:ms.Perm ns)(hs:ms.Pairwise (·<=·)):ms=HM.sortI ns:=by refine R1 (R:=(·<=·)) (λa b h1 h2=>by omega) (h.trans (PV ns _).symm) hs ?_;have:=PJ (le:=λa b:Int=>decide (a<=b)) (λa b c h1 h2=>by simp at *;omega) (λa b=>by simp;omega) ns;exact this.imp λh=>by simpa using h
theorem Yr{ts us:z0}(h:us.Perm ts)(hs:us.Pairwise (λx y=>HM.lexLt y x=Ab)):us=HM.Bc ts:=by
 refine R1 (R:=λx y=>HM.lexLt y x=Ab) (λa b h1 h2=>Ro a b h2 h1) (h.trans (PV ts _).symm) hs ?_;have:=PJ (le:=λa b:zZ=>!HM.lexLt b a) (λa b c h1 h2=>by
  simp only[Bool.not_eq_true']at *;cases q:HM.lexLt c a with
  |false=>rfl
  |true =>
   rcases Q9 c b a q with z|z
   .rw[h2]at z;cases z
   .rw[h1]at z;cases z) (λa b=>by
  cases q:HM.lexLt b a with
  |false=>simp
  |true =>
   cases q2:HM.lexLt a b with
   |false=>simp
   |true=>have:=uy _ _ _ q q2;rw[ug]at this;cases this) ts
 exact this.imp λh=>by simpa using h
theorem RG{vs:z8}{out:Array Value}{b:Addr}{o:Obj}(hb:b≠a)(e:h.get? b=Z o):(Ml h a vs out).get? b=Z o:=by rw[sortedHeap_old hb (Ar e)];exact e
theorem aG{Src:Hp->Hp->Addr->z5->Prop}(hc:X.calm=Aa)(hg:∀{su:z7} {s:Shared} {σ:L2.St} {H F:Hp} {p:Addr} {ds:z5},Inv X su σ H s->Zs F H->Src F H p ds->Gth X s ds (Bt F H) p):A7 X (.builtin "sorted") (λxs H Q=>∃p F ds ds',xs=[.ref p]/\Zs F H/\Src F H p ds/\HM.EO ds=Z ds'/\∀l ws,H l=Z_->Zu X.K (Bt F H) ds' ws->Q (.ref l) (upd H l (.lst ws))):=by
 intro su s σ H xs us Q I r h;obtain⟨p,F,ds,ds',rfl,sub,hsrc,t6,q⟩:=h;obtain⟨u,rfl,rx⟩:=vals1 r;cases rx;obtain⟨vs,rv,go⟩:=hg I sub hsrc;unfold HM.EO at t6;split at t6
 .rename_i zN
  have hvl:=rv.1;refine Py kind_sorted plain_sorted entry_sorted (args_sorted1 _) ?_;unfold Builtin.«sorted»;refine Ac (m:=checkCount "sorted" 1 1 _) (Ae ?_);refine Ac (go _ _ _ (I.ok.hd hc) λus h' tk ru kp=>?_);have hul:=ru.length;refine Ac (OV ?_ (by rw[BR];omega));have vN:(h'.push (seqObj "list" us.toArray 0)).get? h'.objs.size=Z (seqObj "list" us.toArray 0):=A1 _ rfl;have tO:∀(out:Array Value) (ws:List V),sC ws out.toList->Zu X.K (Bt F H) ds' ws->ws.length<64->EP X su σ Q (.ref h'.objs.size) {s with heap:=Ml (h'.push (seqObj "list" us.toArray 0)) h'.objs.size us out,toks:=tk}:=λout ws rw' rd hw=>by obtain⟨e,he⟩:=sortedHeap_at (out:=out) vN;have I1:Inv X su σ H {s with heap:=h',toks:=tk}:=I.kept kp;refine⟨.ref h'.objs.size,_,I1.laid (a:=h'.objs.size) (o:=.lst ws) (t':=tk) (λb o e1=>?_) (Aj _) ⟨by rw[BR];omega,out.toList,e,rw',by simpa using he⟩,rfl,q _ ws (I1.hok.fresh (Aj _)) rd⟩;exact RG (Aw (Ar e1)) (Au _ e1)
  show wpAny _ _ _ _ _ {s with heap:=h'.push (seqObj "list" us.toArray 0),toks:=tk};split at t6
  .rename_i ns uF
   cases t6;have evs:=G9 uF rv;rw[evs]at ru;have hI:=JF ru;refine Ac (Cd (E7 Pt ⟨_,vN,rfl⟩ Pj (list_sort_tree vN hI (by omega) λout ns' a1 a2 a3=>⟨_,rfl,?_⟩) (Pr _)));refine Ae ⟨_,rfl,?_⟩;have e:=Xs a2 a3;have hl:ns'.length<64:=by rw[a2.length_eq,<-hI.length,<-hul];omega
   refine tO out (ns'.map V.int) (RH a1) ?_ (by rw[Ad];exact hl);rw[<-e];exact IB ns'
  .split at t6
   .rename_i ts hts
    split at t6
    .rename_i tM
     cases t6;have eds:=Q5 hts;have hT:∀(i:Nat) t,ts[i]?=Z t->∃b,us[i]?=Z (.ref b)/\TI (h'.push (seqObj "list" us.toArray 0)) b t:=λi t e=>by
      have ed:ds[i]?=Z (.tuple (HM.uQ t)):=by rw[eds];unfold HM.Mf;rw[AD,e];rfl
      obtain⟨v,hv,rp⟩:=rv.get ed;generalize hq:HM.uQ t=q at rp;cases rp with
      | @tupk b x h1 =>
       exfalso;cases t with
       |nil=>cases hq
       |cons a t =>
        injection hq with e1 _
        cases e1
      | @tup b _ xs hb hl hr=>subst hq;obtain⟨u,hu,ru'⟩:=ru.get hv;cases ru';have ev:=G9 (F:=Bt F H) (QO t) ⟨hl,hr⟩;subst ev;have hH:H b=Z (.tup (t.map V.int)):=(sR.refl sub).tups.sub _ _ hb;obtain⟨z,sy,rt,o,h1,h2,n,h3⟩:=(show Z6 X.prog X.w H s.heap b (.tup (t.map V.int)) from I.hok b _ hH);exact⟨b,hu,o,sy.toArray,n,Au _ (kp b o h1),h2,h3,by simpa using JF rt⟩
     have tf:BC ts=us.length:=by have:=congrArg BC eds;unfold HM.Mf at this;rw[Ad]at this;omega
     refine Ac (Cd (E7 Pt ⟨_,vN,rfl⟩ Pj (WZ vN tf hT ?_ (by omega) λpm hp hs=>⟨_,rfl,?_⟩) (Pr _)))
     .rw[Ew]at tM
      rcases tM with z|z
      .left
       have:=of_decide_eq_true z;omega
      .right
       intro t ht e;have:=Ay.mp z t ht;rw[e]at this;cases this
     .refine Ae ⟨_,rfl,?_⟩
      have hpl:BC pm=us.length:=by rw[hp.length_eq,DC]
      have tE:∀i∈pm,i<BC us:=λi hi=>AI.mp (hp.mem_iff.mp hi);have e:(pm.map λi=>ts.getD i [])=HM.Bc ts:=by
       refine Yr ?_ hs;refine(hp.map _).trans ?_;have:(Ah us.length).map (λi=>ts.getD i [])=ts:=by refine List.ext_getElem (by simp[tf]) λi h1 h2=>?_;simp at h1;simp[CS,show i<BC ts by omega]
       rw[this]
      refine tO _ (pm.map λi=>vs.getD i V.non) ?_ ?_ (by rw[Ad];omega)
      .refine Ij (by simp) λk v u e1 e2=>?_
       rw[AD]at e1;rw[List.toList_toArray,AD]at e2;obtain⟨i,hi,rfl⟩:=Ak.mp e1;rw[hi]at e2;cases e2;have hlt':=tE i (Bo hi);have hv:vs[i]?=Z (vs.getD i V.non):=by simp[CS,show i<BC vs by omega]
       obtain⟨u,hu,ru'⟩:=ru.get hv;have:us.getD i By=u:=by simp[CS,hu]
       show RelV _ (us.getD i By);rw[this];exact ru'
      .rw[<-e]
       refine⟨by unfold HM.Mf;simp,λk d v e1 e2=>?_⟩;unfold HM.Mf at e1;rw[AD,AD]at e1;rw[AD]at e2;obtain⟨i,hi,rfl⟩:=Ak.mp e2;rw[hi]at e1;have hlt':=tE i (Bo hi);have hd:ds[i]?=Z d:=by
        rw[eds];unfold HM.Mf;rw[AD];have:ts[i]?=Z (ts.getD i []):=by simp[CS,show i<BC ts by omega]
        rw[this];exact e1
       have hv:vs[i]?=Z (vs.getD i V.non):=by simp[CS,show i<BC vs by omega]
       exact rv.2 i d _ hd hv
    .cases t6
   .cases t6
 .cases t6
theorem au(hc:X.calm=Aa):A7 X (.builtin "sorted") (λxs H Q=>∃p F ds ds',xs=[.ref p]/\Zs F H/\EH X.K F H p ds/\HM.EO ds=Z ds'/\∀l ws,H l=Z_->Zu X.K (Bt F H) ds' ws->Q (.ref l) (upd H l (.lst ws))):=aG (Src:=EH X.K) hc λI sub h=>EH.gath I sub h
end
end
section
variable{F:Hp}{p' pos':Pos}{K:Af}
section
variable{prog:Program}{w:World}{A:Around}{E:z4}{s:Shared}
theorem og{r:Addr}{a b c:Int}{t u v:Tok}{n:Nat}{R:z8->Shared->Prop}(hh:A.handled=Z_)(hr:IsRange s.heap r a b c t u v)(v5:aV a b c=Aa)(hn:PN a b c=n)(sA:n<=2 ^ 24)(h:∀(h':Heap) (tk:Nat) (acc:Array Value),(∀b o,s.heap.get? b=Z o->h'.get? b=Z o)->ItemsOf (λi v=>∃t,v=.int (a+i*c) t) acc n->R acc.toList {s with heap:=h',toks:=tk}):wpAny (model prog w) A (collect (.ref r)) R E s:=by
 unfold collect;refine Ac (Px (DW entry_proto_collect' ?_));rw[Ez bD _];show wpAny _ A.in1 (newList [] >>= λl=>again (.builtin "list.__iadd__" ⟨[l,.ref r],[]⟩)) _ _ s;refine Ac (Ey (Ae ⟨Gz PK _,DW entry_list_iadd' ?_⟩));rw[Ez PK _];have hS₁:(s.heap.push {cls:=.type "list",data:=.seq ([]:z8).toArray}).get? s.heap.objs.size=Z {cls:=.type "list",data:=.seq #[]}:=A1 _ rfl;show wpAny _ A.in1 (bC (.ref s.heap.objs.size) (.ref r) (.ref s.heap.objs.size)) _ _ _;have hr1:IsRange (s.heap.push {cls:=.type "list",data:=.seq ([]:z8).toArray}) r a b c t u v:=Au _ hr;refine CQ (wpAny_extend_range (A:=A) (s:={s with heap:=s.heap.push {cls:=.type "list",data:=.seq ([]:z8).toArray}})
  (R:=λ(q:Result) (s':Shared)=>∃(h':Heap) (tk:Nat) (acc':Array Value) (c':Nat),q=.ok (.ret (.ref s.heap.objs.size))/\s'={s with heap:=h',toks:=tk} /\
   (∀b o,s.heap.get? b=Z o->h'.get? b=Z o)/\h'.get? s.heap.objs.size=Z {cls:=.type "list",dict:=Z_,data:=.seq acc' c',slots:=#[]}/\ItemsOf (λi v=>∃t,v=.int (a+i*c) t) acc' n)
  hh hr1 v5 hn sA s.heap.objs.size (.ref s.heap.objs.size) 0 hS₁
  (λh' tk acc' c' hk hS' sW=>⟨h',tk,acc',c',rfl,rfl,λb o e=>hk b o (Aw (Ar e)) (Au _ e),hS',sW⟩)) (λtO s' x=>?_) λe s' x=>?_
 .have go:∀(h':Heap) (tk:Nat) (acc':Array Value) (c':Nat),(∀b o,s.heap.get? b=Z o->h'.get? b=Z o)->h'.get? s.heap.objs.size=Z {cls:=.type "list",dict:=Z_,data:=.seq acc' c',slots:=#[]}->ItemsOf (λi v=>∃t,v=.int (a+i*c) t) acc' n ->
    wpAny (model prog w) A (load s.heap.objs.size >>= λo=>match o.data with | .seq xs _=>pure xs.toList|_=>OQ "internal:collect") R E {s with heap:=h',toks:=tk}:=λh' tk acc' c' hk hS' sW =>
   Ac (wpAny_load hS' (Ae (h h' tk acc' hk sW)))
  cases tO with
  |done f=>obtain⟨h',tk,acc',c',e,rfl,hk,hS',sW⟩:=x;cases e;exact go h' tk acc' c' hk hS' sW
  |again c₁=>refine⟨x.1,Fc x.2 λq s₂ y=>?_⟩;obtain⟨h',tk,acc',c',rfl,rfl,hk,hS',sW⟩:=y;exact go h' tk acc' c' hk hS' sW
 .obtain⟨_,_,_,_,e',_⟩:=x
  cases e'
end
theorem oW(r:Addr)(a b c:Int)(t u v:Tok)(n:Nat)(v5:aV a b c=Aa)(hn:PN a b c=n)(sA:n<=2 ^ 24):Meets (Builtin.«tuple.__new__» ⟨[.type "tuple",.ref r],[]⟩)
   (λA R s=>A.handled=Z_/\IsRange s.heap r a b c t u v/\∀(h':Heap) (tk:Nat) (acc:Array Value),(∀b o',s.heap.get? b=Z o'->h'.get? b=Z o')->ItemsOf (λi v=>∃t,v=.int (a+i*c) t) acc n ->
    R (.ok (.ret (.ref h'.objs.size))) {s with heap:=h'.push {cls:=.type "tuple",data:=.seq acc},toks:=tk}) :=
 .of_wp λprog w A R s h=>by
  obtain⟨hp,g,d,tk,os⟩:=s;obtain⟨hh,ht,h⟩:=h;have tT:=PySem.sub_tuple_self;have hinit:=PySem.init_tuple_lookup;have hmh:=PySem.madeHere_tuple;have hT:Th ⟨hp,g,d,tk,os⟩ (.ref r) "range":=⟨_,ht,rfl⟩;have hh1:A.in1.handled=Z_:=hh
  wp_walk using wpAny_typeOf hT,og hh1 ht v5 hn sA
  intro h' tk' acc hk sW;show wpAny _ _ (bJ acc.toList.toArray >>= λv=>ret v) _ _ _;unfold bJ;have e:acc.toList.toArray=acc:=by simp
  rw[e];refine Ac (Ey ?_ (by show acc.size<=sizeLine;rw[sW.1,BR];omega));exact Ae ⟨_,rfl,h h' tk' acc hk sW⟩
section
variable{X:Cx}{a b c e:Expr}{fa fb fc:HM.EF}{pos p:Pos}{f:HM.BF}
theorem nI:A7 X (.type "range") (λxs H Q=>∃j,xs=[.int j]/\∀l,H l=Z_->Q (.ref l) (upd H l (.rng 0 j))):=by intro su s σ H xs us Q I r h;obtain⟨j,rfl,q⟩:=h;obtain⟨u,rfl,rx⟩:=vals1 r;obtain⟨t,rfl⟩:=rx;refine call_range_1 ⟨.ref s.heap.objs.size,_,I.laid (a:=s.heap.objs.size) (o:=.rng 0 j) (λb o e=>Au _ e) (Aj _) ?_,rfl,q _ (I.hok.fresh (Aj _))⟩;exact⟨_,_,_,A1 _ rfl⟩
theorem lU(hc:X.calm=Aa):A7 X (.type "tuple") (λxs H Q=>∃p lo hi,xs=[.ref p]/\H p=Z (.rng lo hi)/\-1000000<lo/\lo<1000000/\-1000000<hi/\hi<1000000 /\
  ∀l,H l=Z_->Q (.ref l) (upd H l (.tup ((Ah (hi-lo).toNat).map λ(k:Nat)=>V.int (lo+k))))):=by
 intro su s σ H xs us Q I r h;obtain⟨p,lo,hi,rfl,hp,h1,h2,h3,h4,q⟩:=h;obtain⟨u,rfl,rx⟩:=vals1 r;cases rx;obtain⟨t,u,v,ho⟩:=(show Z6 X.prog X.w H s.heap p (.rng lo hi) from I.hok p _ hp);have hn:PN lo hi 1=((hi-lo).toNat:Nat):=by rw[rangeSize_one];split<;>omega
 refine callType_new PySem.F.called_tuple (by decide) (PySem.F.typeCall_tuple_1 _) (PySem.F.newCall_tuple_1 _) (λobj=>PySem.F.args_object_init_2 obj _) PySem.F.entry_tuple_new
  (oW p lo hi 1 t u v (hi-lo).toNat (small_one (by omega) (by omega) (by omega) (by omega)) hn (by omega)) ⟨I.ok.hd hc,ho,λh' tk' acc kp sW=>⟨⟨_,A1 _ rfl,rfl⟩,?_⟩⟩
 have I1:Inv X su σ H {s with heap:=h',toks:=tk'}:=I.kept kp;have rv:sC ((Ah (hi-lo).toNat).map λ(k:Nat)=>V.int (lo+k)) acc.toList:=by
  refine Ij (by have z:acc.toList.length=acc.size:=Bk;rw[Ad,DC,z,sW.1]) λi v u e1 e2=>?_;rw[AD]at e1;obtain⟨k,hk,rfl⟩:=Ak.mp e1;obtain⟨t,rfl⟩:=sW.2 i u (by rw[<-Ca];exact e2);have:k=i:=by have:=Bf.mp hk;obtain⟨_,e⟩:=this;simpa using e.symm
  subst this;exact⟨t,by simp⟩
 have I2:=I1.laid (a:=h'.objs.size) (o:=.tup ((Ah (hi-lo).toNat).map λ(k:Nat)=>V.int (lo+k))) (h':=h'.push {cls:=.type "tuple",data:=.seq acc}) (t':=tk') (λb o e=>Au _ e) (Aj _)
  ⟨by rw[Ad,DC,BR];omega,acc.toList,rv,by simpa using IsTup.new _ _⟩
 exact⟨.ref h'.objs.size,_,I2,rfl,q _ (I1.hok.fresh (Aj _))⟩
theorem lW(lo:Int)(n:Nat):Zu K F (HM.JU lo n) ((Ah n).map λ(k:Nat)=>V.int (lo+k)):=by unfold HM.JU;refine⟨by simp,λi d v e1 e2=>?_⟩;rw[AD]at e1 e2;obtain⟨k,hk,rfl⟩:=Ak.mp e1;rw[hk]at e2;cases e2;exact .int _
theorem mP(hmt:X.mg "tuple"=Z_)(hm:X.mg "range"=Z_)(hc:X.calm=Aa)(ha:XE X a fa)(hgt:Gl X "tuple":=by rfl)(hg:Gl X "range":=by rfl)(hs:Ag [a] X.env=[(Ab,eval a X.env)]:=by rfl)(uX:Ag [Ki (.Name "range" p') [a] [] pos'] X.env=[(Ab,eval (Ki (.Name "range" p') [a] [] pos') X.env)]:=by rfl):XE X (.Call (.Name "tuple" p) [.Call (.Name "range" p') [a] [] pos'] [] pos) (HM.oM (HM.CM fa)):=by
 intro r d hd;unfold HM.oM at hd;split at hd
 .rename_i ds sY
  split at hd
  .cases hd
   unfold HM.CM at sY;split at sY
   .rename_i j hj
    split at sY
    .rename_i hok
     cases sY;obtain⟨k1,k2⟩:=VR hok;refine PE.imp (G8 (lU hc) hgt hmt Q7 (BM (G8 nI hg hm boot_range (BM (ha r _ hj) CL hs) (he:=hs)) CL uX) (he:=uX)) λσ H Q ⟨F0,H0,F,at_,k⟩=>?_;refine⟨F0,H0,F,at_,λv F1 H1 x1 r1=>⟨j,by rw[r1.int_inv],λl hl=>?_⟩⟩;refine⟨l,0,j,rfl,ZJ,by omega,by omega,by omega,by omega,λl2 vI=>?_⟩;have x2:=x1.lay' (o:=.rng 0 j) hl;have x3:=x2.lay (o:=.tup ((Ah (j-0).toNat).map λ(k:Nat)=>V.int (0+k))) vI;have rp:=lW (K:=X.K) (F:=upd F1 l2 (.tup ((Ah (j-0).toNat).map λ(k:Nat)=>V.int (0+k)))) 0 j.toNat;have ej:(j-0).toNat=j.toNat:=by omega
     refine k _ _ _ x3 (.tup ZJ ?_ ?_)
     .rw[ej];exact rp.1
     .rw[ej]at rp ⊢;exact rp.2
    .cases sY
   .cases sY
  .cases hd
 .cases hd
theorem kP{H:Hp}{q:HM.B}{v:V}{fp:List Addr}{ds:z5}(sub:Zs F H)(r:Az K F H q v fp)(h:HM.gm q=Z ds):∃a,v=.ref a/\EH K F H a ds:=by
 cases r with
 |pl r =>
  cases r with
  |tup h1 h2 h3=>cases h;exact⟨_,rfl,.tup (.of (sub _ _ h1)) ⟨h2,h3⟩⟩
  | @tupk a x h1=>cases h;exact⟨_,rfl,.tup (.inr h1) (.one (.str x))⟩
  |lst h1 h2 h3=>cases h;exact⟨_,rfl,.lst (sub.seq h1) ⟨h2,h3⟩⟩
  |dct _ _ _ _=>cases h
  |fn _=>cases h
  |non=>cases h
  |bl _=>cases h
  |int _=>cases h
  |str _=>cases h
 |ol h1 r=>cases h;exact⟨_,rfl,.lst (.of h1) r⟩
 |hd _ _ _ _=>cases h
 |hf _=>cases h
 | @ok a kvs vvs h1 h2 h3 =>
  cases h;refine⟨_,rfl,?_⟩;have e:(kvs.map λp=>HM.Bv p.1)=vvs.map λp=>HM.Bv p.1:=by
   have:=congrArg (GC HM.Bv) h2
   rwa [Aq,Aq]at this
  rw[e];exact .dk h1
 | @ot a kvs vvs h1 h2 h3 =>
  cases h;refine⟨_,rfl,?_⟩;have e:(kvs.map λp=>Bj (p.1.map HM.Bv))=vvs.map λp=>Bj (p.1.map HM.Bv):=by
   have:=congrArg (GC λk:List sL=>Bj (k.map HM.Bv)) h2
   rwa [Aq,Aq]at this
  rw[e];exact .dt h1
 | @otl a kvs vvs ls h1 h2 h3 h4 =>
  cases h;refine⟨_,rfl,?_⟩;have e:(kvs.map λp=>Bj (p.1.map HM.Bv))=vvs.map λp=>Bj (p.1.map HM.Bv):=by
   have:=congrArg (GC λk:List sL=>Bj (k.map HM.Bv)) h2
   rwa [Aq,Aq]at this
  rw[e];exact .dt h1
theorem NC(hm:X.mg "sorted"=Z_)(hc:X.calm=Aa)(ha:XB X a f)(hg:Gl X "sorted":=by rfl)(hs:Ag [a] X.env=[(Ab,eval a X.env)]:=by rfl):XF X (.Call (.Name "sorted" p) [a] [] pos) (HM.NZ f):=by
 intro r d h;unfold HM.NZ at h;split at h
 .rename_i x hx
  split at h
  .rename_i ds sY
   obtain⟨ds',h1,h2⟩:=Ak.mp h;subst h2;refine PE.imp (FE (au hc) hg hm NI (Fq ha hx hs) (he:=hs)) λσ H Q ⟨F0,H0,F,at_,k⟩=>?_;refine⟨F0,H0,F,at_,λv fp F1 H1 x1 r1=>?_⟩;obtain⟨l,e1,xu⟩:=kP x1.sub r1 sY;subst e1;exact⟨l,F1,ds,ds',rfl,x1.sub,xu,h1,λl' ws hl' rs=>Hg (P:=λv _ H'=>Q v H') x1.tups rs hl' k⟩
  .cases h
 .cases h
theorem jW(hc:X.calm=Aa):A7 X (.type "set") (λxs H Q=>∃p ns,xs=[.ref p]/\tQ X.K H p (ns.map V.int)/\(∀n∈ns,0<=n/\n<8)/\∀l,H l=Z_->Q (.ref l) (upd H l (.ext λh=>CZ X.prog X.w h l (HM.tL [] ns)))):=by intro su s σ H xs us Q I r h;obtain⟨p,ns,rfl,hq,hb,q⟩:=h;obtain⟨u,rfl,rx⟩:=vals1 r;cases rx;obtain⟨sy,rv,pl,hz⟩:=I.list hq;refine ju (I.ok.hd hc) pl.isList (by simpa using JF rv) hb λh' tk hS kp=>?_;have hS':=hS;obtain⟨o,es,ep,t,ho,_⟩:=hS';refine⟨.ref s.heap.objs.size,_,I.laid (a:=s.heap.objs.size) (o:=.ext λh=>CZ X.prog X.w h s.heap.objs.size (HM.tL [] ns)) (λb o e=>kp b o (Ar e) e) (Aj _) ?_,rfl,q _ (I.hok.fresh (Aj _))⟩;exact⟨hS,⟨o,ho⟩,λh1 h2 x kk=>x.at' kk⟩
theorem m6(hc:X.calm=Aa):A7 X (.builtin "sorted") (λxs H Q=>∃p L,xs=[.ref p]/\H p=Z (.ext λh=>CZ X.prog X.w h p L)/\∀l,H l=Z_->Q (.ref l) (upd H l (.lst ((HM.sortI L).map V.int)))):=by
 intro su s σ H xs us Q I r h;obtain⟨p,L,rfl,hp,q⟩:=h;obtain⟨u,rfl,rx⟩:=vals1 r;cases rx;obtain⟨hX,_,_⟩:=(show Z6 X.prog X.w H s.heap p (.ext λh=>CZ X.prog X.w h p L) from I.hok p _ hp);obtain⟨o,es,ep,t,ho,vk,hd,yA,uM,hpl,ht⟩:=hX;have hsz:=wb hpl;have uf:=ht.few;have raw:Dl X.w s.heap p es ep t:=⟨⟨o,ho,vk,hd⟩,by rw[hsz];exact ht.fits,hsz,ht.w⟩;refine Py kind_sorted plain_sorted entry_sorted (args_sorted1 _) ?_;unfold Builtin.«sorted»;refine Ac (m:=checkCount "sorted" 1 1 _) (Ae ?_);refine Ac (LL (VB (es:=es) (ep:=ep) (t:=t)) (I.ok.hd hc) raw (by rw[BR];omega) λh' tk acc kp _ sW=>?_);have uT:acc.toList.length=es.size:=by rw[Bk];exact sW.1
 have hI:IntsAre acc.toList ((Dm X.w p es ep).toList.map DF):=by
  have key:∀(us:z8) (xs:List (Int×Value)),BC us=xs.length->(∀(i:Nat) u,us[i]?=Z u->∃e,xs[i]?=Z e/\u=e.2)->(∀e∈xs,∃n t,e=((intKind X.prog X.w).hash n,DA n t))->IntsAre us (xs.map DF):=by
   intro us
   induction us with
   |nil=>intro xs hl _ _;cases xs with|nil=>exact .nil|cons _ _=>simp at hl
   |cons u us ih =>
    intro xs hl hk he;cases xs with
    |nil=>simp at hl
    |cons x xs=>obtain⟨e,e1,e2⟩:=hk 0 u rfl;simp at e1;subst e1;obtain⟨n,t,e3⟩:=he x (An ..);rw[e2,e3];exact .cons n t (ih xs (by simpa using hl) (λi u e=>hk (i+1) u (by simpa using e)) λe h=>he e (Ao _ h))
  refine key acc.toList (Dm X.w p es ep).toList (by rw[uT,Bk,RA]) (λi u e=>?_) λe h=>yA e ((NL X.w p es ep).mem_iff.mp h);obtain⟨e',e1,e2⟩:=sW.2 i u (by rw[<-Ca];exact e);exact⟨e',by rw[Ca];exact e1,e2⟩
 refine Ac (OV ?_ (by rw[uT,BR];omega));have vN:(h'.push (seqObj "list" acc.toList.toArray 0)).get? h'.objs.size=Z (seqObj "list" acc.toList.toArray 0):=A1 _ rfl;show wpAny _ _ _ _ _ {s with heap:=h'.push (seqObj "list" acc.toList.toArray 0),toks:=tk};refine Ac (Cd (E7 Pt ⟨_,vN,rfl⟩ Pj (list_sort_tree vN hI (by omega) λout ns' a1 a2 a3=>⟨_,rfl,?_⟩) (Pr _)));refine Ae ⟨_,rfl,?_⟩;have e:ns'=HM.sortI L:=Xs (a2.trans (((NL X.w p es ep).map DF).trans uM)) a3;have hl:ns'.length<64:=by rw[a2.length_eq,<-hI.length,uT];omega
 obtain⟨ee,he⟩:=sortedHeap_at (out:=out) vN;have I1:Inv X su σ H {s with heap:=h',toks:=tk}:=I.kept kp;refine⟨.ref h'.objs.size,_,I1.laid (a:=h'.objs.size) (o:=.lst (ns'.map V.int)) (t':=tk) (λb o e1=>?_) (Aj _) ⟨by rw[Ad,BR];omega,out.toList,ee,RH a1,by simpa using he⟩,rfl,?_⟩
 .exact RG (Aw (Ar e1)) (Au _ e1)
 .rw[e];exact q _ (I1.hok.fresh (Aj _))
theorem Y5(hm:X.mg "sorted"=Z_)(u9:X.mg "set"=Z_)(hc:X.calm=Aa)(ha:XB X a f)(hg:Gl X "sorted":=by rfl)(vq:Gl X "set":=by rfl)(hs:Ag [a] X.env=[(Ab,eval a X.env)]:=by rfl)(uX:Ag [Ki (.Name "set" p') [a] [] pos'] X.env=[(Ab,eval (Ki (.Name "set" p') [a] [] pos') X.env)]:=by rfl):XF X (.Call (.Name "sorted" p) [.Call (.Name "set" p') [a] [] pos'] [] pos) (HM.aQ f):=by
 intro r d h;unfold HM.aQ at h;split at h
 .rename_i x hx
  split at h
  .rename_i ds sY
   split at h
   .rename_i ns uF
    split at h
    .rename_i xO
     cases h;refine PE.imp (FE (m6 hc) hg hm NI (BM (G8 (jW hc) vq u9 Vc (Fq ha hx hs) (he:=hs)) CL uX) (he:=uX)) λσ H Q ⟨F0,H0,F,at_,k⟩=>?_;refine⟨F0,H0,F,at_,λv fp F1 H1 x1 r1=>?_⟩;obtain⟨l,vs,e1,hq,rs⟩:=JG x1.sub r1 sY;subst e1;rw[G9 uF rs]at hq;refine⟨l,ns,rfl,hq,λn hn=>?_,λl2 vI=>⟨l2,_,rfl,ZJ,λl3 hl3=>?_⟩⟩
     .have:=Ay.mp xO n hn
      rw[Bn,decide_eq_true_eq,decide_eq_true_eq]at this;exact this
     .have x2:=x1.lay' (o:=.ext λh=>CZ X.prog X.w h l2 (HM.tL [] ns)) vI
      exact Hg (P:=λv _ H'=>Q v H') x2 (IB _) hl3 k
    .cases h
   .cases h
  .cases h
 .cases h
end
end
end HP
namespace HP
open PySem PySem.Spec PyProof.Rows L2
variable[FX]
section
variable{wd:Bool}{q:HM.B}{r:HM.Env}{i:Int}{ns:zZ}{ds:z5}
section
variable{X:Cx}{a b:Expr}{fa:HM.EF}{f:HM.BF}{pos:Pos}
theorem Q1(i:Int):∀ns:zZ,inV (.int i) (ns.map V.int)=ns.contains i
 |[]=>rfl
 |n::ns=>by have ih:=Q1 i ns;unfold inV at ih ⊢;rw[Ai,Fe,ih,List.contains_cons];show(n==i||_)=(i==n||_);rw[show(n==i)=(i==n) from GG.mpr ⟨λh=>beq_iff_eq.mpr (beq_iff_eq.mp h).symm,λh=>beq_iff_eq.mpr (beq_iff_eq.mp h).symm⟩]
theorem RC:∀ns:zZ,(ns.map V.int).all Bz=Aa
 |[]=>rfl
 |n::ns=>by rw[Ai,BS,RC ns];rfl
theorem iw{d:PyData}(h:HM.WJ fa f r=Z d):∃i q ds ns,fa r=Z (.int i)/\f r=Z q/\HM.Cz q=Z ds/\HM.Cg ds=Z ns/\d=.bool (ns.contains i):=by
 unfold HM.WJ at h;split at h
 .split at h
  .split at h
   .obtain⟨c,h1,h2⟩:=Ak.mp h
    obtain⟨ns,h3,h4⟩:=Ak.mp h1;exact⟨_,_,_,ns,by assumption,by assumption,by assumption,h3,by rw[<-h2,<-h4]⟩
   .cases h
  .cases h
 .cases h
theorem mT{d:PyData}(h:HM.aH fa f r=Z d):∃i q ds ns,fa r=Z (.int i)/\f r=Z q/\HM.Cz q=Z ds/\HM.Cg ds=Z ns/\d=.bool (!ns.contains i):=by
 unfold HM.aH at h;split at h
 .split at h
  .split at h
   .obtain⟨c,h1,h2⟩:=Ak.mp h
    obtain⟨ns,h3,h4⟩:=Ak.mp h1;exact⟨_,_,_,ns,by assumption,by assumption,by assumption,h3,by rw[<-h2,<-h4]⟩
   .cases h
  .cases h
 .cases h
theorem gz(ha:XE X a fa)(hb:XB X b f)(h1:fa r=Z (.int i))(h2:f r=Z q)(h3:HM.Cz q=Z ds)(h4:HM.Cg ds=Z ns){op:CmpOp}(ho:uc X (BL op) (rIn X.K wd))(hm:CY op b=Ab):PE X (.Compare a [op] [b] pos) (yu X.K r λ_ F' _ v=>v=.bl (if wd then !ns.contains i else ns.contains i)):=by
 refine PE.imp (VP ho (ha r _ h1) (hb r q h2) hm) λσ H Q ⟨F0,H0,F,at_,k⟩=>?_;refine⟨F0,H0,F,at_,λv F1 H1 x1 r1=>⟨F0,H0,F1,at_.grow x1,λw F2 H2 x2 ⟨fp,r2⟩=>?_⟩⟩;obtain⟨p,vs,e1,hq,rs⟩:=Lq x2.sub r2 h3;cases r1;rw[G9 h4 rs]at hq;refine⟨p,_,e1,hq,rfl,RC ns,k _ F2 H2 (x1.trans x2) ?_⟩;rw[Q1]
theorem jd(ha:XE X a fa)(hb:XB X b f)(h1:fa r=Z (.int i))(h2:f r=Z q)(h3:HM.Cz q=Z ds)(h4:HM.Cg ds=Z ns){op:CmpOp}(ho:uc X (BL op) (rIn X.K wd))(hm:CY op b=Ab):PT X (.Compare a [op] [b] pos) λσ H Q=>vA X.K r σ H λF0 H0 F=>∀F' H',sR F H F' H'->Q (if wd then !ns.contains i else ns.contains i) H':=by
 refine PT.imp (QQ ho (ha r _ h1) (hb r q h2) hm) λσ H Q ⟨F0,H0,F,at_,k⟩=>?_;refine⟨F0,H0,F,at_,λv F1 H1 x1 r1=>⟨F0,H0,F1,at_.grow x1,λw F2 H2 x2 ⟨fp,r2⟩=>?_⟩⟩;obtain⟨p,vs,e1,hq,rs⟩:=Lq x2.sub r2 h3;cases r1;rw[G9 h4 rs]at hq;refine⟨p,_,e1,hq,rfl,RC ns,_,rfl,?_⟩;rw[Q1];exact k F2 H2 (x1.trans x2)
theorem fI(ha:XE X a fa)(hb:XB X b f)(hm:CY .In b=Ab:=by rfl):XE X (.Compare a [.In] [b] pos) (HM.WJ fa f):=by intro r d h;obtain⟨i,q,ds,ns,h1,h2,h3,h4,rfl⟩:=iw h;refine PE.imp (gz ha hb h1 h2 h3 h4 jJ hm) λσ H Q ⟨F0,H0,F,at_,k⟩=>⟨F0,H0,F,at_,λv F' H' x e=>k v F' H' x ?_⟩;subst e;exact .bl _
theorem kx(ha:XE X a fa)(hb:XB X b f)(hm:CY .NotIn b=Ab:=by rfl):XT X (.Compare a [.NotIn] [b] pos) (HM.tV (HM.aH fa f)):=by intro r d h;obtain⟨i,q,ds,ns,h1,h2,h3,h4,e⟩:=mT (Gj h);cases e;exact jd ha hb h1 h2 h3 h4 mV hm
theorem Qy(hb:XB X b f)(he:∀tU,isTrue b X.env tU=(do let v <-tU;standAt b.pos;holding [v] (truthy v)):=by intro _;rfl):XT X b (HM.DH f):=by
 intro r c h;unfold HM.DH at h;split at h
 .rename_i ds hd
  cases h;refine PT.imp (gH (hb r _ hd) he) λσ H Q ⟨F0,H0,F,at_,k⟩=>?_;refine⟨F0,H0,F,at_,λv F1 H1 x1 ⟨fp,r1⟩=>?_⟩;obtain⟨p,vs,e1,hq,rs⟩:=JG x1.sub r1 (ds:=ds) rfl;subst e1;refine⟨_,.inl ⟨vs,hq,rfl⟩,?_⟩;have:=k F1 H1 x1;have e:ds.isEmpty=vs.isEmpty:=by have:=rs.1;cases ds<;>cases vs<;>simp_all
  rwa [e]at this
 .cases h
end
end
section
variable{kt:Nat}{px py:Pos}{x y:Str}
section
variable{X:Cx}{c e:Expr}{fa:HM.EF}{t:HM.TF}{g:HM.SF}{pos:Pos}{body:List Stmt}
theorem JI(n:Nat)(vM:X.xe=λ_ _=>False)(hc:XT X c t)(hb:wj X body g):XS X (.While c body [] pos) (HM.JC n t g):=by
 intro r o ho;have ho:HM.Z9 t g n r=Z o:=ho;have pb:uw X body (λE σ H=>∃r o,g r=Z o/\zo X.K r o E σ H):=λsu s σ H E I ⟨r,o,h1,h2⟩=>hb r o h1 su s σ H E I h2;have pc:PT X c (λσ H Q=>∃r b,t r=Z b/\vA X.K r σ H λF0 H0 F=>∀F' H',sR F H F' H'->Q b H'):=λsu s σ H Q I ⟨r,b,h1,h2⟩=>hc r b h1 su s σ H Q I h2;refine PS.imp (iV (Rh vM) pc pb) λE σ H ⟨F0,H0,F,at_,k⟩=>?_;refine⟨λm σ H=>∃F r,At X.K F0 H0 F H r σ/\HM.Z9 t g m r=Z o,⟨n,F,r,at_,ho⟩,?_⟩
 rintro m σ H ⟨F2,r2,uo,go⟩
 cases m with
 |zero=>cases go
 |succ m =>
  unfold HM.Z9 at go;split at go
  .rename_i ht
   refine⟨r2,Aa,ht,F0,H0,F2,uo,λF' H' x=>?_⟩;dsimp only;rw[if_pos rfl];have ue:=uo.grow x;have a4:=ue.rebase;refine⟨λσ' H'=>∃F r,At X.K F0 H0 F H' r σ'/\HM.Z9 t g m r=Z o,λσ' H' q=>⟨m,Jc m,q⟩,?_⟩;split at go
   .rename_i r' hr
    exact⟨_,_,hr,F',H0,F',a4,λσ' F' H' a'=>⟨F',r',a'.unbase ue.ext ue.nt0,go⟩⟩
   .rename_i r' hr
    exact⟨_,_,hr,F',H0,F',a4,λσ' F' H' a'=>⟨F',r',a'.unbase ue.ext ue.nt0,go⟩⟩
   .rename_i r' hr
    cases go;exact⟨_,_,hr,F',H0,F',a4,λσ' F' H' a'=>k σ' F' H' (a'.unbase ue.ext ue.nt0)⟩
   .rename_i d hr
    cases go;exact⟨_,_,hr,F',H0,F',a4,λv F' H' x q=>k v F' H' (ue.ext.unbase x) q⟩
   .cases go
  .rename_i ht
   cases go;refine⟨r2,Ab,ht,F0,H0,F2,uo,λF' H' x=>?_⟩;dsimp only;rw[if_neg (by simp)];exact k σ F' H' (uo.grow x)
  .cases go
theorem gN{i j:Nat}{pt:Pos}(hc:X.calm=Aa)(hN:X.N.Nodup)(hi:X.N[i]?=Z x)(hj:X.N[j]?=Z y)(hx:Loc X.env.scope x)(hy:Loc X.env.scope y)(hf:X.fn x=Aa\/X.env.scope.names.lookup x=Z .local)(hg:X.fn y=Aa\/X.env.scope.names.lookup y=Z .local)(h1:(E1 [.Name x px,.Name y py] X.env).length=2:=by rfl)(h2:(E1 [.Name x px,.Name y py] X.env).findIdx? (·.1)=Z_:=by rfl):PG X (.Tuple [.Name x px,.Name y py] kt pt) (Uz X.K 2 (P7 (MN i) (P7 (MN j) Um))) :=
 U1 hc (Nx (JD hN hi hx hf) (Nx (JD hN hj hy hg) V2)) h1 h2
theorem hJ(i j:Nat){pt:Pos}{iter:Expr}{fi:HM.IF}(hN:X.N.Nodup)(vM:X.xe=λ_ _=>False)(hc:X.calm=Aa)(hi:XI X (.Tuple [.Name x px,.Name y py] kt pt) iter fi)(hb:wj X body g)(zG:X.N[i]?=Z x:=by rfl)(hjy:X.N[j]?=Z y:=by rfl)(hx:Loc X.env.scope x:=by first|exact AB rfl|exact Ap rfl)(hy:Loc X.env.scope y:=by first|exact AB rfl|exact Ap rfl)(hf:X.fn x=Aa\/X.env.scope.names.lookup x=Z .local:=by first|exact .inl rfl|exact .inr rfl)(hf2:X.fn y=Aa\/X.env.scope.names.lookup y=Z .local:=by first|exact .inl rfl|exact .inr rfl)(h1:(E1 [.Name x px,.Name y py] X.env).length=2:=by rfl)(h2:(E1 [.Name x px,.Name y py] X.env).findIdx? (·.1)=Z_:=by rfl)(hs:∀x,GN iter X.env x=pure x:=by intro _;rfl):XS X (.For (.Tuple [.Name x px,.Name y py] kt pt) iter body [] pos) (HM.lR i j fi g):=by
 intro r o ho;unfold HM.lR at ho;split at ho
 .rename_i ds sY
  split at ho
  .rename_i u3
   have pb:uw X body (λE σ H=>∃r o,g r=Z o/\zo X.K r o E σ H):=λsu s σ H E I ⟨r,o,h1,h2⟩=>hb r o h1 su s σ H E I h2;refine PS.imp (Vd (Rh vM) hc (hi r ds sY) (gN hc hN zG hjy hx hy hf hf2 h1 h2) pb hs) λE σ H ⟨F0,H0,F,at_,k⟩=>?_;refine⟨F0,H0,F,at_,λJ F1 H1 x1 it=>?_⟩;refine⟨λn m σ H=>∃F r,At X.K F0 H0 F H r σ/\Zs F1 F/\n+m=ds.length/\HM.NX i j g (ds.drop n) r=Z o,⟨ds.length,F1,r,at_.grow x1,Zs.refl _,by omega,ho⟩,?_⟩
   rintro n m σ H ⟨F2,r2,uo,s2,hn,go⟩
   obtain⟨yX,yW⟩:=it F2 H s2 uo.sub;cases m with
   |zero =>
    have e:n=ds.length:=by omega
    subst e;rw[TN]at go;cases go;exact .inl ⟨yW,k σ F2 H uo⟩
   |succ m =>
    have tf:n<BC ds:=by omega
    rw[Ul tf]at go;obtain⟨j1,j2⟩:=yX n ds[n] (AK tf);refine .inr ⟨j1,λσ' H'=>∃F r,At X.K F0 H0 F H' r σ'/\Zs F1 F/\HM.NX i j g (ds.drop (n+1)) r=Z o,λσ' H' ⟨F,r,a1,a2,a3⟩=>⟨m,by omega,F,r,a1,a2,by omega,a3⟩,λy H' hy=>?_⟩;obtain⟨e1,ry⟩:=j2 y H' hy;subst e1;obtain⟨F3,ue,s3,ry⟩:∃F3,At X.K F0 H0 F3 H' r2 σ/\Zs F1 F3/\Rep X.K F3 ds[n] y:=⟨_,uo.grow uo.refl.tups,s2.trans (Fy uo.sub),ry⟩;have zA:∃d1 d2,ds[n]=.tuple [d1,d2]:=by
     unfold HM.NX at go;split at go
     .cases ‹_=[]›
     .rename_i d1 d2 q hq
      injection hq with hq _
      exact⟨d1,d2,hq⟩
     .cases go
    obtain⟨d1,d2,zA⟩:=zA;rw[zA]at ry go;obtain⟨pa,v1,v2,e7,yc,rx1,rx2⟩:=WV ry;subst e7;have a3:=(ue.set (i:=i) rx1).set (i:=j) rx2;have a4:=a3.rebase;refine⟨pa,[v1,v2],rfl,.of (ue.sub _ _ yc),rfl,v1,[v2],rfl,v2,[],rfl,rfl,?_⟩;dsimp only[HM.NX]at go;split at go
    .rename_i r' hr
     exact⟨_,_,hr,F3,H0,F3,a4,λσ' F' H' a'=>⟨F',r',a'.unbase ue.ext ue.nt0,s3.trans a'.ext.ff,go⟩⟩
    .rename_i r' hr
     exact⟨_,_,hr,F3,H0,F3,a4,λσ' F' H' a'=>⟨F',r',a'.unbase ue.ext ue.nt0,s3.trans a'.ext.ff,go⟩⟩
    .rename_i r' hr
     cases go;exact⟨_,_,hr,F3,H0,F3,a4,λσ' F' H' a'=>k σ' F' H' (a'.unbase ue.ext ue.nt0)⟩
    .rename_i d hr
     cases go;exact⟨_,_,hr,F3,H0,F3,a4,λv F' H' x q=>k v F' H' (ue.ext.unbase x) q⟩
    .cases go
  .cases ho
 .cases ho
end
end
section
variable{r:HM.Env}{ds:z5}{x:PyData}{u:Value}
section
variable{X:Cx}{a b:Expr}{fa:HM.EF}{f:HM.BF}{pos:Pos}
theorem Vq{e:Value->Bool}{f:PyData->Bool}:∀{ds:z5} {us:z8},BC ds=us.length->(∀(i:Nat) d u,ds[i]?=Z d->us[i]?=Z u->e u=f d)->us.any e=ds.any f
 |[],[],_,_=>rfl
 |[],_::_,hl,_=>by simp at hl
 |_::_,[],hl,_=>by simp at hl
 |d::ds,u::us,hl,k=>by rw[Fe,Fe,k 0 d u rfl rfl,Vq (ds:=ds) (us:=us) (by simpa using hl) λi d u e1 e2=>k (i+1) d u (by simpa using e1) (by simpa using e2)]
def PX(K:Af)(wd:Bool):R2:=λvx vy H Q=>∃F p xs x ds,Zs F H/\vy=.ref p/\(tQ K H p xs\/uH K H p xs)/\Rep K F x vx/\Zu K F ds xs/\HM.CN x=Aa/\ds.all HM.CN=Aa /\
 Q (.bl (if wd then !ds.any λd=>BN d x else ds.any λd=>BN d x)) H
open Classical in
noncomputable def C2 (h:Heap) (x:PyData) (u:Value):Bool:=decide (∃d as,Reads h u d as/\d.canLay0=Aa/\BN d x=Aa)
theorem U5{h:Heap}{d:PyData}{as:List Addr}(r:Reads h u d as)(hl:d.canLay0=Aa):C2 h x u=BN d x:=by
 classical
 unfold C2;cases q:BN d x with
 |true=>exact decide_eq_true ⟨d,as,r,hl,q⟩
 |false=>refine decide_eq_false λ⟨d',as',r',hl',q'⟩=>?_;rw[SeqAt.Reads.unique d d' u as as' hl r r']at q;rw[q]at q';cases q'
theorem Nv{k:Nat}(hr:AA k X.A){su:z7}{s:Shared}{σ:L2.St}{H F:Hp}{vx:V}{xs:List V}{sy:z8}(I:Inv X su σ H s)(sub:Zs F H)(rx:Rep X.K F x vx)(ru:RelV vx u)(rs:Zu X.K F ds xs)(rv:sC xs sy)(px:HM.CN x=Aa)(pd:ds.all HM.CN=Aa):(∀y∈sy,SeqAt.EqAt X.A.in1 s y u (C2 s.heap x y))/\sy.any (C2 s.heap x)=ds.any λd=>BN d x:=by
 obtain⟨x1,x2⟩:=JJ px;obtain⟨as,hx⟩:=rx.reads I sub x1 u ru;have hun:=hr.un;have each:∀(i:Nat) d y,ds[i]?=Z d->sy[i]?=Z y->(∃bs,Reads s.heap y d bs)/\d.canLay0=Aa/\d.depth<=60:=λi d y e1 e2=>by
  have hi:i<BC xs:=by rw[<-rs.1];exact(Bf.mp e1).1
  obtain⟨y',q1,q2⟩:=rv.get (AK hi);rw[e2]at q1;cases q1;have hp:=JJ (Ay.mp pd d (Bo e1));exact⟨(rs.2 i d _ e1 (AK hi)).reads I sub hp.1 y q2,hp⟩
 have hl:BC ds=sy.length:=rs.1.trans rv.length;refine⟨λy hy=>?_,Vq hl λi d y e1 e2=>?_⟩
 .obtain⟨i,hi,e⟩:=Jk hy
  have hi':i<BC ds:=by omega
  obtain⟨⟨bs,q⟩,h1,h2⟩:=each i ds[i] y (AK hi') (by rw[AK hi,e]);rw[U5 q h1];refine SeqAt.eqAt_reads _ _ _ _ _ _ _ _ q hx h1 x1 ?_;have:min (ds[i]).depth x.depth<=60:=Bp (T2 _ _) h2;show X.A.units+1+_<_;omega
 .obtain⟨⟨bs,q⟩,h1,_⟩:=each i d y e1 e2
  exact U5 q h1
theorem df{k:Nat}(hr:AA k X.A):uc X (BL .In) (PX X.K Ab):=by
 intro su s σ H vx vy v u Q I r1 r2 ⟨F,p,xs,x,ds,sub,e,hq,rx,rs,px,pd,q⟩;subst e;cases r2;rcases hq with hq|hq
 .obtain⟨sy,r,pl,hz⟩:=I.list hq
  obtain⟨h1,h2⟩:=Nv hr I sub rx r1 rs r px pd;refine SeqAt.in_listAt (C2 s.heap x) pl.isList (λw hw=>h1 w (by simpa using hw)) ⟨.bl _,H,I,rfl,?_⟩;rw[show sy.toArray.any (C2 s.heap x)=sy.any (C2 s.heap x) by simp,h2];exact q
 .obtain⟨sy,r,pl,hz⟩:=I.tuple hq
  obtain⟨h1,h2⟩:=Nv hr I sub rx r1 rs r px pd;refine SeqAt.in_tupleAt (C2 s.heap x) pl (λw hw=>h1 w (by simpa using hw)) ⟨.bl _,H,I,rfl,?_⟩;rw[show sy.toArray.any (C2 s.heap x)=sy.any (C2 s.heap x) by simp,h2];exact q
theorem jV{k:Nat}(hr:AA k X.A):uc X (BL .NotIn) (PX X.K Aa):=by
 intro su s σ H vx vy v u Q I r1 r2 ⟨F,p,xs,x,ds,sub,e,hq,rx,rs,px,pd,q⟩;subst e;cases r2;rcases hq with hq|hq
 .obtain⟨sy,r,pl,hz⟩:=I.list hq
  obtain⟨h1,h2⟩:=Nv hr I sub rx r1 rs r px pd;refine SeqAt.notIn_listAt (C2 s.heap x) pl.isList (λw hw=>h1 w (by simpa using hw)) ⟨.bl _,H,I,rfl,?_⟩;rw[show sy.toArray.any (C2 s.heap x)=sy.any (C2 s.heap x) by simp,h2];exact q
 .obtain⟨sy,r,pl,hz⟩:=I.tuple hq
  obtain⟨h1,h2⟩:=Nv hr I sub rx r1 rs r px pd;refine SeqAt.notIn_tupleAt (C2 s.heap x) pl (λw hw=>h1 w (by simpa using hw)) ⟨.bl _,H,I,rfl,?_⟩;rw[show sy.toArray.any (C2 s.heap x)=sy.any (C2 s.heap x) by simp,h2];exact q
theorem Xn{c:Bool}(h:HM.M1 ds x=Z c):HM.CN x=Aa/\ds.all HM.CN=Aa/\c=ds.any λd=>BN d x:=by
 unfold HM.M1 at h;split at h
 .rename_i hp
  rw[Bn]at hp;cases h;exact⟨hp.1,hp.2,rfl⟩
 .cases h
theorem iB{d:PyData}(h:HM.Ej fa f r=Z d):∃x q ds,fa r=Z x/\f r=Z q/\HM.Cz q=Z ds/\HM.CN x=Aa/\ds.all HM.CN=Aa/\d=.bool (ds.any λd=>BN d x):=by
 unfold HM.Ej at h;split at h
 .split at h
  .split at h
   .obtain⟨c,h1,h2⟩:=Ak.mp h
    obtain⟨h3,h4,h5⟩:=Xn h1;exact⟨_,_,_,by assumption,by assumption,by assumption,h3,h4,by rw[<-h2,<-h5]⟩
   .cases h
  .cases h
 .cases h
theorem mf{d:PyData}(h:HM.CO fa f r=Z d):∃x q ds,fa r=Z x/\f r=Z q/\HM.Cz q=Z ds/\HM.CN x=Aa/\ds.all HM.CN=Aa/\d=.bool (!ds.any λd=>BN d x):=by
 unfold HM.CO at h;split at h
 .split at h
  .split at h
   .obtain⟨c,h1,h2⟩:=Ak.mp h
    obtain⟨h3,h4,h5⟩:=Xn h1;exact⟨_,_,_,by assumption,by assumption,by assumption,h3,h4,by rw[<-h2,<-h5]⟩
   .cases h
  .cases h
 .cases h
theorem WE{wd:Bool}{q:HM.B}(ha:XE X a fa)(hb:XB X b f)(h1:fa r=Z x)(h2:f r=Z q)(h3:HM.Cz q=Z ds)(p1:HM.CN x=Aa)(p2:ds.all HM.CN=Aa){op:CmpOp}(ho:uc X (BL op) (PX X.K wd))(hm:CY op b=Ab):PT X (.Compare a [op] [b] pos) λσ H Q=>vA X.K r σ H λF0 H0 F=>∀F' H',sR F H F' H'->Q (if wd then !ds.any λd=>BN d x else ds.any λd=>BN d x) H':=by
 refine PT.imp (QQ ho (ha r _ h1) (hb r q h2) hm) λσ H Q ⟨F0,H0,F,at_,k⟩=>?_;refine⟨F0,H0,F,at_,λv F1 H1 x1 r1=>⟨F0,H0,F1,at_.grow x1,λw F2 H2 x2 ⟨fp,r2⟩=>?_⟩⟩;obtain⟨p,vs,e1,hq,rs⟩:=Lq x2.sub r2 h3;exact⟨F2,p,vs,x,ds,x2.sub,e1,hq,r1.mono x2.ff,rs,p1,p2,_,rfl,k F2 H2 (x1.trans x2)⟩
theorem Qx{k:Nat}(hr:AA k X.A)(ha:XE X a fa)(hb:XB X b f)(hm:CY .In b=Ab:=by rfl):XT X (.Compare a [.In] [b] pos) (HM.tV (HM.Ej fa f)):=by intro r d h;obtain⟨x,q,ds,h1,h2,h3,h4,h5,e⟩:=iB (Gj h);cases e;exact WE ha hb h1 h2 h3 h4 h5 (df hr) hm
theorem LC{k:Nat}(hr:AA k X.A)(ha:XE X a fa)(hb:XB X b f)(hm:CY .NotIn b=Ab:=by rfl):XT X (.Compare a [.NotIn] [b] pos) (HM.tV (HM.CO fa f)):=by intro r d h;obtain⟨x,q,ds,h1,h2,h3,h4,h5,e⟩:=mf (Gj h);cases e;exact WE ha hb h1 h2 h3 h4 h5 (jV hr) hm
end
end
section
variable{q:HM.B}{r:HM.Env}{F H:Hp}{fp:List Addr}{K:Af}
section
variable{X:Cx}{a b c e:Expr}{fa fb fc:HM.EF}{f:HM.BF}{pos p:Pos}{es:List Expr}
theorem rdT{F':Hp}{a:Addr}{vvs:List (List sL×V)}(r:Rd F a (.dT vvs))(s:Bd F F'):Rd F' a (.dT vvs):=r.imp (λh=>s _ _ h) λ⟨o,h⟩=>⟨o,s _ _ h⟩
theorem MO{a b:Addr}{kvs:List (List sL×V)}{k:List sL}(e:Rd H a (.dT kvs))(eb:H b=Z (.tup (k.map kV))):BZ H a (.ref b) (AW kvs k):=.inr ⟨kvs,k,b,e,rfl,eb,rfl⟩
theorem NA{v:V}{kvs:List (List sL×PyData)}(sub:Zs F H)(r:Az K F H q v fp)(h:HM.QF q=Z kvs):∃l vvs,v=.ref l/\Rd H l (.dT vvs)/\AU K F kvs vvs:=by
 cases r with
 |pl r =>
  cases r with
  | @dct l es kvs' vvs h1 h2 h3 h4=>subst h2;have h:HM.Cv (HM.Zq kvs')=Z kvs:=h;rw[HM.sE]at h;cases h;refine⟨l,vvs,rfl,Lo h1 sub,h3,?_,h4⟩;have:=congrArg BC h3;rw[Ad,Ad]at this;rw[Ad,Ad,this]
  |fn _=>cases h
  |tupk _=>cases h
  |tup _ _ _=>cases h
  |lst _ _ _=>cases h
  |non=>cases h
  |bl _=>cases h
  |int _=>cases h
  |str _=>cases h
 |ol _ _=>cases h
 |ok _ _ _=>cases h
 | @ot l kvs vvs h1 h2 h3=>cases h;exact⟨l,vvs,rfl,.inl h1,h2,h3⟩
 | @hd l o es kvs' vvs h1 h2 h3 h4=>subst h2;have h:HM.Cv (HM.Zq kvs')=Z kvs:=h;rw[HM.sE]at h;cases h;exact⟨l,vvs,rfl,.inr ⟨o,sub _ _ h1⟩,h3,h4⟩
 |hf _=>cases h
 |otl _ _ _ _=>cases h
theorem WW{d:PyData}(h:HM.Ct fa f r=Z d):∃x q kvs y,fa r=Z x/\f r=Z q/\HM.QF q=Z kvs/\HM.Be x=Z y/\d=.bool (HM.Zk kvs y).isSome:=by
 unfold HM.Ct at h;split at h
 .split at h
  .split at h
   .obtain⟨y,h1,h2⟩:=Ak.mp h
    exact⟨_,_,_,y,by assumption,by assumption,by assumption,h1,h2.symm⟩
   .cases h
  .cases h
 .cases h
theorem lX{d:PyData}(h:HM.LS fa f r=Z d):∃x q kvs y,fa r=Z x/\f r=Z q/\HM.QF q=Z kvs/\HM.Be x=Z y/\d=.bool (!(HM.Zk kvs y).isSome):=by
 unfold HM.LS at h;split at h
 .split at h
  .split at h
   .obtain⟨y,h1,h2⟩:=Ak.mp h
    exact⟨_,_,_,y,by assumption,by assumption,by assumption,h1,h2.symm⟩
   .cases h
  .cases h
 .cases h
theorem Vg(hu:X.A.units+1<cLine)(ha:XE X a fa)(hb:XB X b f)(hm:CY .In b=Ab:=by rfl):XE X (.Compare a [.In] [b] pos) (HM.Ct fa f):=by intro r d h;obtain⟨x,q,kvs,y,h1,h2,h3,h4,rfl⟩:=WW h;refine PE.imp (dn (Vn hu (ha r x h1) (hb r q h2)) hm) λσ H Q ⟨F0,H0,F,at_,k⟩=>?_;refine⟨F0,H0,F,at_,λv F1 H1 x1 r1=>⟨F0,H0,F1,at_.grow x1,λw F2 H2 x2 ⟨fp,r2⟩=>?_⟩⟩;obtain⟨l,vvs,e1,e2,T⟩:=NA x2.sub r2 h3;obtain⟨bb,rfl,uG⟩:=Em h4 (r1.mono x2.ff);exact⟨l,_,e1,MO e2 (x2.sub _ _ uG),k _ F2 H2 (x1.trans x2) (by rw[T.some_iff];exact .bl _)⟩
theorem fH(hu:X.A.units+1<cLine)(ha:XE X a fa)(hb:XB X b f)(hm:CY .In b=Ab:=by rfl):XT X (.Compare a [.In] [b] pos) (HM.tV (HM.Ct fa f)):=by intro r d h;obtain⟨x,q,kvs,y,h1,h2,h3,h4,e⟩:=WW (Gj h);cases e;refine PT.imp (Qh (Vn hu (ha r x h1) (hb r q h2)) hm) λσ H Q ⟨F0,H0,F,at_,k⟩=>?_;refine⟨F0,H0,F,at_,λv F1 H1 x1 r1=>⟨F0,H0,F1,at_.grow x1,λw F2 H2 x2 ⟨fp,r2⟩=>?_⟩⟩;obtain⟨l,vvs,e1,e2,T⟩:=NA x2.sub r2 h3;obtain⟨bb,rfl,uG⟩:=Em h4 (r1.mono x2.ff);exact⟨l,_,e1,MO e2 (x2.sub _ _ uG),_,rfl,by rw[T.some_iff];exact k F2 H2 (x1.trans x2)⟩
theorem Yq(hu:X.A.units+1<cLine)(ha:XE X a fa)(hb:XB X b f)(hm:CY .NotIn b=Ab:=by rfl):XT X (.Compare a [.NotIn] [b] pos) (HM.tV (HM.LS fa f)):=by intro r d h;obtain⟨x,q,kvs,y,h1,h2,h3,h4,e⟩:=lX (Gj h);cases e;refine PT.imp (Qh (XH hu (ha r x h1) (hb r q h2)) hm) λσ H Q ⟨F0,H0,F,at_,k⟩=>?_;refine⟨F0,H0,F,at_,λv F1 H1 x1 r1=>⟨F0,H0,F1,at_.grow x1,λw F2 H2 x2 ⟨fp,r2⟩=>?_⟩⟩;obtain⟨l,vvs,e1,e2,T⟩:=NA x2.sub r2 h3;obtain⟨bb,rfl,uG⟩:=Em h4 (r1.mono x2.ff);exact⟨l,_,e1,MO e2 (x2.sub _ _ uG),_,rfl,by rw[T.some_iff];exact k F2 H2 (x1.trans x2)⟩
theorem CK(hu:X.A.units+1<cLine)(ha:XB X a f)(hk:XE X b fb)(hs:KH b:=by intro _ _;rfl):XE X (.Subscript a b pos) (HM.ZI f fb):=by
 intro r d h;unfold HM.ZI at h;split at h
 .rename_i q hq
  split at h
  .rename_i kvs hd
   split at h
   .rename_i x hx
    split at h
    .rename_i y hy
     refine PE.imp (QV hu (ha r q hq) (hk r x hx) hs) λσ H Q ⟨F0,H0,F,at_,kk⟩=>?_;refine⟨F0,H0,F,at_,λv F1 H1 x1 ⟨fp,r1⟩=>⟨F0,H0,F1,at_.grow x1,λw F2 H2 x2 r2=>?_⟩⟩;obtain⟨l,vvs,e1,e2,T⟩:=NA x1.sub r1 hd;have e2':=rdT e2 x2.hh;have T':AU X.K F2 kvs vvs:=⟨T.1,T.2.mono x2.ff⟩;obtain⟨bb,rfl,uG⟩:=Em hy r2;obtain⟨u,q1,q2⟩:=T'.look.1 d h;exact⟨l,u,e1,by rw[<-q1];exact MO e2' (x2.sub _ _ uG),kk u F2 H2 (x1.trans x2) q2⟩
    .cases h
   .cases h
  .cases h
 .cases h
structure yL(X:Cx)(es:List Expr)(f:HM.AF):Prop where
 len:∀r ds,f r=Z ds->ds.length=es.length
 pa:∀r ds,f r=Z ds->PA X es λσ H Q=>vA X.K r σ H λF0 H0 F=>∀vs F' H',sR F H F' H'->Zu X.K H' ds vs->Q vs H'
theorem Az.lent{v:V}{d:PyData}(sub:Zs F H)(r:Az K F H q v fp)(h:HM.frz q=Z d):Rep K H d v:=by
 cases r with
 |pl r=>cases h;exact r.mono sub
 |ol h1 r=>cases h;exact .lst (.of h1) r.1 (r.mono sub).2
 |ok _ _ _=>cases h
 |hd h1 he hk r=>cases h;exact(Rep.dct (.inr ⟨_,h1⟩) he hk r.2).mono sub
 |hf h1=>cases h;exact(Rep.fn h1).mono sub
 |ot h1 hk r=>cases h;exact .dct (.inl h1) rfl hk (r.mono sub).2
 |otl _ _ _ _=>cases h
end
end
section
variable{g:HM.AF}{F:Hp}
section
variable{X:Cx}{a b c e:Expr}{fa fb fc:HM.EF}{f:HM.BF}{pos p:Pos}{es:List Expr}
theorem Vf(h:XA X es g):yL X es g :=
 ⟨h.len,λr ds hd=>PA.imp (h.pa r ds hd) λσ H Q ⟨F0,H0,F,at_,k⟩=>⟨F0,H0,F,at_,λvs F' H' x q=>k vs F' H' x (q.mono x.sub)⟩⟩
theorem LD(ha:XE X e fa)(hr:yL X es g)(hs:Ag (e::es) X.env=(Ab,eval e X.env)::Ag es X.env:=by rfl):yL X (e::es) (HM.Zb fa g):=by
 refine⟨λr ds h=>?_,λr ds h=>?_⟩
 .unfold HM.Zb at h
  split at h
  .obtain⟨xs,h1,h2⟩:=Ak.mp h
   subst h2;rw[Av,Av,hr.len r xs h1]
  .cases h
 unfold HM.Zb at h;split at h
 .rename_i x hx
  obtain⟨xs,h1,h2⟩:=Ak.mp h;subst h2;refine PA.imp (BM (ha r x hx) (hr.pa r xs h1) hs) λσ H Q ⟨F0,H0,F,at_,k⟩=>?_;exact⟨F0,H0,F,at_,λv F1 H1 x1 r1=>⟨F0,H0,F1,at_.grow x1,λvs F2 H2 x2 r2=>k (v::vs) F2 H2 (x1.trans x2) (.cons ((r1.mono x2.ff).mono x2.sub) r2)⟩⟩
 .cases h
theorem Xh(ha:XB X e f)(hr:yL X es g)(hs:Ag (e::es) X.env=(Ab,eval e X.env)::Ag es X.env:=by rfl):yL X (e::es) (HM.Zb (HM.MY f) g):=by
 refine⟨λr ds h=>?_,λr ds h=>?_⟩
 .unfold HM.Zb at h
  split at h
  .obtain⟨xs,h1,h2⟩:=Ak.mp h
   subst h2;rw[Av,Av,hr.len r xs h1]
  .cases h
 unfold HM.Zb at h;split at h
 .rename_i x hx
  obtain⟨xs,h1,h2⟩:=Ak.mp h;subst h2;obtain⟨q,hq,hf⟩:=T8.mp hx;refine PA.imp (BM (ha r q hq) (hr.pa r xs h1) hs) λσ H Q ⟨F0,H0,F,at_,k⟩=>?_;exact⟨F0,H0,F,at_,λv F1 H1 x1 ⟨fp,r1⟩=>⟨F0,H0,F1,at_.grow x1,λvs F2 H2 x2 r2=>k (v::vs) F2 H2 (x1.trans x2) (.cons ((r1.lent x1.sub hf).monoT x2.hh) r2)⟩⟩
 .cases h
theorem Rep.flat{K:Af}{F':Hp}{d:PyData}{v:V}(r:Rep K F d v)(h:HM.Lb d=Aa):Rep K F' d v:=by
 cases r with
 |non=>exact .non
 |bl b=>exact .bl b
 |int i=>exact .int i
 |str x=>exact .str x
 |tupk _=>cases h
 |tup _ _ _=>cases h
 |lst _ _ _=>cases h
 |dct _ _ _ _=>cases h
 |fn _=>cases h
theorem sR.forget{H F'' H'':Hp}(s:Zs F H)(n:uJ F)(x:sR (C6 H) H F'' H''):sR F H F H'' :=
 ⟨Zs.refl F,x.hh,(n.sub s).trans (x.ff.trans x.sub),λ_ _ z=>.inl z,x.tab,id⟩
theorem j9{k:Nat}{x:Str}{M:z5->Option PyData}(C:Callee X.prog X.w X.K X.mg X.base k x M)(hr:AA k X.A)(ha:yL X (e::es) g)(hg:Gl X x:=by rfl)(va:(x==("__debug__":Str))=Ab:=by decide)(he:Ag (e::es) X.env=(Ab,eval e X.env)::Ag es X.env:=by rfl)(hpl:(backTo pos (Ag es X.env)).any (·.1)=Ab:=by rfl):XE X (.Call (.Name x p) (e::es) [] pos) (HM.YD M g):=by
 intro r d hd;unfold HM.YD at hd;split at hd
 .rename_i ds sY
  split at hd
  .rename_i d' hM
   split at hd
   .rename_i hflat
    cases hd;obtain⟨fa,fd,ps,hl,F,hm,hk,hb⟩:=C.ex;refine PE.imp (Na (E:=E0) F hr hg hm hk hb .nil MT (ha.pa r ds sY) va he hpl) λσ H Q ⟨F0,H0,F1,at_,k⟩=>?_;refine⟨F0,H0,F1,at_,λvs F' H' x q=>?_⟩;show spD X.K ps.length M (vs++[]) H' Q E0;rw[Ba];exact⟨C6 H',ds,d,by rw[<-q.1];exact hl ds d hM,Rn,at_.tbx x,.drop,q.drop',hM,λv F2 H2 x2 q2=>k v F' H2 (x.trans (sR.forget x.sub (at_.ntx x) x2)) (q2.flat hflat)⟩
   .cases hd
  .cases hd
 .cases hd
end
end
section
variable{X:Cx}{a b c e:Expr}{fa fb fc:HM.EF}{f:HM.BF}{pos p:Pos}
theorem j8{op op':CmpOp}{g g':PyData->PyData->Option PyData}(o:D0 X op g)(o':D0 X op' g')(ha:XE X a fa)(hb:XE X b fb)(hc:XE X c fc)(hm:lastMarks [op,op'] [b,c]=Ab:=by with_unfolding_all rfl):XT X (.Compare a [op,op'] [b,c] pos) (HM.tV (HM.IG g g' fa fb fc)):=by
 intro r t ht;have hd:=Gj ht;unfold HM.IG at hd;obtain⟨R,o1,o2⟩:=o.ex;obtain⟨R',o1',o2'⟩:=o'.ex;split at hd
 .rename_i x hx
  split at hd
  .rename_i y hy
   split at hd
   .rename_i hg
    split at hd
    .rename_i z hz
     refine PT.imp (W0 o1 o1' (ha r x hx) (hb r y hy) (hc r z hz) hm) λσ H Q ⟨F0,H0,F,at_,k⟩=>?_;refine⟨F0,H0,F,at_,λv F1 H1 x1 r1=>⟨F0,H0,F1,at_.grow x1,λw F2 H2 x2 r2=>?_⟩⟩;refine o2 F2 H2 x y _ v w _ x2.sub hg (r1.mono x2.ff) r2 λu ru=>?_;refine⟨Aa,ru.bool_inv,HN ⟨F0,H0,F2,(at_.grow x1).grow x2,λw' F3 H3 x3 r3=>?_⟩⟩;exact o2' F3 H3 y z _ w w' _ x3.sub hd (r2.mono x3.ff) r3 λu' ru'=>⟨t,ru'.bool_inv,k F3 H3 ((x1.trans x2).trans x3)⟩
    .cases hd
   .rename_i hg
    cases hd;refine PT.imp (W0 o1 o1' (ha r x hx) (hb r y hy) Lu hm) λσ H Q ⟨F0,H0,F,at_,k⟩=>?_;refine⟨F0,H0,F,at_,λv F1 H1 x1 r1=>⟨F0,H0,F1,at_.grow x1,λw F2 H2 x2 r2=>?_⟩⟩;refine o2 F2 H2 x y _ v w _ x2.sub hg (r1.mono x2.ff) r2 λu ru=>?_;exact⟨Ab,ru.bool_inv,HJ ⟨Ab,rfl,k F2 H2 (x1.trans x2)⟩⟩
   .cases hd
  .cases hd
 .cases hd
end
section
variable{p1 p2 p3:Pos}{x:Str}
section
variable{X:Cx}{a b c e:Expr}{fa fb fc:HM.EF}{f:HM.BF}{pos p:Pos}{es:List Expr}
theorem ku(i:Nat)(ha:XB X a f)(hN:X.N[i]?=Z x:=by rfl)(hv:vd X.env.scope x:=by first|exact AB rfl|exact Ap (AB rfl)|exact Ap (Ap rfl))(hd:(x==("__debug__":Str))=Ab:=by decide)(tF:(x==("__classdict__":Str))=Ab:=by decide)(tZ:Hu (.Name x p1) "extend" X.env (eval (.Name x p1) X.env)=eval (.Name x p1) X.env:=by rfl)(uf:((backTo p3 (Ag [a] X.env)).all (λx=>!x.1)&&(Kk p3 (Kl [] X.env)).all (λx=>x.1.isSome)&&decide (([a]:List Expr).length+([]:List Keyword).length+(if([]:List Keyword).isEmpty then 0 else 1)<30))=Aa:=by rfl)(tX:(p2.endLine==p3.line)=Aa:=by rfl)(hs:Ag [a] X.env=[(Ab,eval a X.env)]:=by rfl):XS X (.Expr (.Call (.Attribute (.Name x p1) "extend" p2) [a] [] p3) pos) (HM.YG i f):=by
 intro r o h;unfold HM.YG at h;split at h
 .rename_i ds sY
  split at h
  .rename_i es xC
   split at h
   .rename_i hz
    cases h;refine PS.imp (Lg (MS MB PySem.F.slot_list_extend PySem.F.type_list_extend jX (Dt hN hv hd tF) (BM (ha r _ xC) CL hs) tZ uf tX hs rfl)) λE σ H ⟨F0,H0,F,at_,k⟩=>?_;obtain⟨l,vs,e1,e2,e3,_⟩:=at_.chgList (es:=ds) sY;refine⟨.ref l,e1,.inl ⟨rfl,_,tQ.of e2⟩,F0,H0,F,at_,λv F1 H1 x1 ⟨fp,r1⟩=>?_⟩;have t5:=at_.grow x1;obtain⟨l',vs',f1,f2,f3,f4⟩:=t5.chgList (es:=ds++es) sY;rw[e1]at f1;cases f1;cases r1 with
    | @ol b _ us hb rs =>
     refine⟨_,b,vs',us,rfl,rfl,f2,hb,?_,k _ F1 _ (f4 _ (f3.append rs))⟩;have e4:=f3.1;have e6:=rs.1;have e5:(1000000:Nat)<=sizeLine:=by decide
     unfold HM.big at hz;omega
   .cases h
  .cases h
 .cases h
theorem fG(i j:Nat){y:Str}{p4:Pos}(hN:X.N.Nodup)(hNi:X.N[i]?=Z x:=by rfl)(hNj:X.N[j]?=Z y:=by rfl)(hx:Loc X.env.scope x:=by first|exact AB rfl|exact Ap rfl)(hv:vd X.env.scope y:=by first|exact AB rfl|exact Ap (AB rfl)|exact Ap (Ap rfl))(hd:(y==("__debug__":Str))=Ab:=by decide)(tF:(y==("__classdict__":Str))=Ab:=by decide)(tZ:Hu (.Name y p1) "pop" X.env (eval (.Name y p1) X.env)=eval (.Name y p1) X.env:=by rfl)(tX:(p2.endLine==p3.line)=Aa:=by rfl)(hs:Et (.Call (.Attribute (.Name y p1) "pop" p2) [] [] p3) (Z (.Name x p4)) pos.line X.env=pure Ab:=by rfl)(hf:X.fn x=Aa\/X.env.scope.names.lookup x=Z .local:=by first|exact .inl rfl|exact .inr rfl):XS X (.Assign [.Name x p4] (.Call (.Attribute (.Name y p1) "pop" p2) [] [] p3) pos) (HM.gF i j):=by
 intro r o h;unfold HM.gF at h;split at h
 .rename_i ds sY
  split at h
  .rename_i d hd'
   cases h;refine PS.imp (Qv hN hNi hx (dD MB PySem.F.slot_list_pop PySem.F.type_list_pop de (Dt hNj hv hd tF) tZ tX) hs hf) λE σ H ⟨F0,H0,F,at_,k⟩=>?_;obtain⟨l,vs,e1,e2,e3,e4⟩:=at_.chgList (es:=ds.dropLast) sY;obtain⟨v,q1,q2⟩:=e3.get hd';refine⟨.ref l,e1,.inl ⟨rfl,_,tQ.of e2⟩,l,vs,v,rfl,rfl,e2,by rw[<-e3.1];exact q1,k _ F _ ((e4 _ ?_).set q2)⟩;rw[ba,ba,<-e3.1];exact e3.take _
  .cases h
 .cases h
def spF(K:Af)(n:Nat)(M:z5->Option PyData):Sp:=λvs H Q _=>∃F ds ys,BC vs=n/\Zs F H/\Tb H/\uJ F/\Zu K F ds vs/\M ds=Z (.list ys)/\∀l us F' H',sR F H F' H'->H' l=Z (.lst us)->Zu K F' ys us->F' l=Z_->H l=Z_->Q (.ref l) H'
structure G4(P:Program)(w:World)(K:Af)(mg:z6)(base:Heap)(k:Nat)(x:Str)(M:z5->Option PyData):Prop where
 ex:∃f fd ps,(∀ds d,M ds=Z d->ds.length=ps.length)/\CF P w K mg base uU k f fd ps (spF K ps.length M)/\mg x=Z (.ref f)/\E6 K (.ref f)=Aa/\Binds K fd ps []
theorem G4.mono{P:Program}{w:World}{K:Af}{mg:z6}{base:Heap}{j k:Nat}{x:Str}{M:z5->Option PyData}(C:G4 P w K mg base j x M)(h:j<=k):G4 P w K mg base k x M:=by obtain⟨f,fd,ps,l,F,r⟩:=C.ex;exact⟨f,fd,ps,l,F.mono h,r⟩
theorem j7{k:Nat}{g:HM.AF}{M:z5->Option PyData}(C:G4 X.prog X.w X.K X.mg X.base k x M)(hr:AA k X.A)(ha:XA X (e::es) g)(hg:Gl X x:=by rfl)(va:(x==("__debug__":Str))=Ab:=by decide)(he:Ag (e::es) X.env=(Ab,eval e X.env)::Ag es X.env:=by rfl)(hpl:(backTo pos (Ag es X.env)).any (·.1)=Ab:=by rfl):XF X (.Call (.Name x p) (e::es) [] pos) (HM.RB M g):=by
 intro r d hd;unfold HM.RB at hd;split at hd
 .rename_i ds sY
  split at hd
  .rename_i ys hM
   cases hd;obtain⟨fa,fd,ps,hl,F,hm,hk,hb⟩:=C.ex;refine PE.imp (Na (E:=E0) F hr hg hm hk hb .nil MT (ha.pa r ds sY) va he hpl) λσ H Q ⟨F0,H0,F1,at_,k⟩=>?_;refine⟨F0,H0,F1,at_,λvs F' H' x q=>?_⟩;show spF X.K ps.length M (vs++[]) H' Q E0;rw[Ba];refine⟨F',ds,ys,by rw[<-q.1];exact hl ds _ hM,x.sub,at_.tbx x,at_.ntx x,q,hM,λl us F2 H2 x2 h1 h2 h3 h4=>k _ F2 H2 (x.trans x2) ⟨[l],.ol h1 h2,by simp,λa ha=>?_⟩⟩;obtain rfl:a=l:=by simpa using ha
   exact⟨h3,x.hh.free h4⟩
  .cases hd
 .cases hd
theorem lD{P:Program}{w:World}{K:Af}{mg:z6}{base:Heap}{k:Nat}{qual:Str}{st:Stmt}{f:Addr}{fd:FuncData}{N ps:z9}{e:Expr}{g:HM.BF}(Fn:vB K x qual st f fd)(S:Zv N ps (Zf st))(hm:mg x=Z (.ref f))(hb:Binds K fd ps [])(vj:B4 st=[.Return (Z e) p1])(xB:∀r b,g r=Z b->∃ys,b=.ol ys)(body:∀(sN:Value) (A:Around) (outer:List Env) (s:Shared) (H:Hp) (E:XK),AA k (A.deeper (envOfC qual (Zf st) s.heap.objs.size f sN))->XF (Eg uU P w K mg base N qual (Zf st) f sN A outer s H E).nox e g):G4 P w K mg base (k+1) x (HM.fnOf ps.length N.length (HM.ZG (HM.tS g))):=by
 have hpl:BC ps<=BC N:=by have:=congrArg BC S.pre;rw[Ec]at this;omega
 refine⟨f,fd,ps,λds d h=>?_,Fn.ok S (λvs H Q E h=>?_) (λsN A outer s H vs Q E hr h=>?_),hm,Fn.kp,hb⟩
 .unfold HM.fnOf at h
  split at h
  .assumption
  .cases h
 .obtain⟨_,_,_,h,_⟩:=h
  exact h
 .obtain⟨F,ds,ys,hl,sub,tb,nt,q,hM,kk⟩:=h
  unfold HM.fnOf at hM;split at hM
  .rename_i sY
   have a0:=Lw (N:=N) sub tb nt q (by omega);have hg:g (HM.aS N.length ds)=Z (.ol ys):=by
    split at hM
    .rename_i r hr'
     cases hq:HM.tS g (HM.aS N.length ds)with
     |none=>unfold HM.ZG at hr';rw[hq]at hr';cases hr'
     |some d=>unfold HM.ZG at hr';rw[hq]at hr';cases hr'
    .rename_i d' hr'
     cases hM;obtain⟨d,h1,h2⟩:=Ak.mp hr';cases h2;obtain⟨b,h3,h4⟩:=T8.mp h1;obtain⟨zs,rfl⟩:=xB _ _ h3;cases h4;exact h3
    .cases hM
   rw[vj];refine⟨_,VM (Qg (body sN A outer s H E hr _ _ hg)),F,H,F,a0,λv F' H' x ⟨fp,r1,nd,hn⟩=>?_⟩;cases r1 with
   | @ol l _ us h1 h2=>exact kk l us F' H' x h1 h2 (hn l (by simp)).1 (hn l (by simp)).2
  .cases hM
theorem je(i:HM.IF)(c:HM.TF)(e:HM.EF)(r:HM.Env)(b:HM.B)(h:HM.Zt i c e r=Z b):∃ys,b=.ol ys:=by
 unfold HM.Zt at h;split at h
 .split at h
  .obtain⟨ys,_,h2⟩:=Ak.mp h
   exact⟨ys,h2.symm⟩
  .cases h
 .cases h
end
end
section
variable{tg:Expr}{b':HM.B}{K:Af}
section
variable{K:Af}{F H F0 H0 G:Hp}{a b:Addr}{ob u:HO}{vvs:List (List sL×V)}{d:PyData}{v:V}{ds:z5}{vs:List V}{r:HM.Env}{σ:L2.St}{i:Nat}{es:List (PyData×PyData)}
theorem BG(h:b≠a):sw a ob G b=G b:=by unfold sw;rw[if_neg h]
theorem Gg:sw a ob G a=(G a).map λ_=>ob:=by unfold sw;rw[if_pos rfl]
theorem VY(s:Zs F H):Zs (sw a ob F) (sw a ob H):=λb o z=>by
 by_cases hb:b=a
 .subst hb
  rw[Gg]at z ⊢;obtain⟨x,h1,h2⟩:=Ak.mp z;rw[s _ _ h1,<-h2];rfl
 .rw[BG hb]at z ⊢;exact s b o z
theorem UK(hG:∀u,G a=Z u->u=.dT vvs):sw a (.dT vvs) (sw a ob G)=G:=by
 funext b
 by_cases hb:b=a
 .subst hb
  rw[Gg,Gg];cases h:G b with
  |none=>rfl
  |some u=>rw[hG u h];rfl
 .rw[BG hb,BG hb]
theorem Dk.nt(h:Dk vvs u):(∀xs,u≠.tup xs)/\(∀xs,u≠.lst xs)/\(∀o xs,u≠.frz o (.lst xs))/\(∀ps,u≠.tbl ps)/\(∀x,u≠.own x):=by rcases h with h|⟨o,h⟩<;>subst h<;>exact⟨λ_ z=>(by cases z),λ_ z=>(by cases z),λ_ _ z=>(by cases z),λ_ z=>(by cases z),λ_ z=>(by cases z)⟩
theorem Rep.sw(hF:∀u,F a=Z u->Dk vvs u)(uk:Dk vvs ob)(r:Rep K F d v):Rep K (HP.sw a ob F) d v:=by
 induction r with
 |non=>exact .non
 |bl b=>exact .bl b
 |int i=>exact .int i
 |str x=>exact .str x
 |fn h=>exact .fn (FX.sw hF uk h)
 |tupk h=>exact .tupk h
 | @tup b ds vs h hl _ ih=>exact .tup (by rw[BG (λz=>(hF _ (z▸h)).nt.1 _ rfl)];exact h) hl ih
 | @lst b ds vs h hl _ ih =>
  refine .lst ?_ hl ih;rcases h with h|h
  .refine .inl ?_
   have hb:b≠a:=λz=>by
    rcases h with h|⟨o,h⟩
    .exact(hF _ (z▸h)).nt.2.1 _ rfl
    .exact(hF _ (z▸h)).nt.2.2.1 _ _ rfl
   unfold Rd;rw[BG hb];exact h
  .exact .inr h
 | @dct b es kvs vvs' h he hk _ ih =>
  refine .dct ?_ he hk ih
  by_cases hb:b=a
  .subst hb
   have:vvs'=vvs/\∃u,F b=Z u:=by
    rcases h with h|⟨o,h⟩
    .rcases hF _ h with z|⟨o',z⟩
     .cases z;exact⟨rfl,_,h⟩
     .cases z
    .rcases hF _ h with z|⟨o',z⟩
     .cases z
     .cases z;exact⟨rfl,_,h⟩
   obtain⟨rfl,u,hu⟩:=this;unfold Rd;rw[Gg,hu];rcases uk with z|⟨o,z⟩
   .subst z;exact .inl rfl
   .subst z;exact .inr ⟨o,rfl⟩
  .unfold Rd
   rw[BG hb];exact h
theorem Zu.sw(hF:∀u,F a=Z u->Dk vvs u)(uk:Dk vvs ob)(r:Zu K F ds vs):Zu K (HP.sw a ob F) ds vs:=⟨r.1,λi d v h1 h2=>(r.2 i d v h1 h2).sw hF uk⟩
theorem sR.sw(x:sR F0 H0 F H)(hH:∀u,H a=Z u->Dk vvs u)(uk:Dk vvs ob):sR (HP.sw a ob F0) (HP.sw a ob H0) (HP.sw a ob F) (HP.sw a ob H) :=
 ⟨VY x.ff,x.hh.sw,VY x.sub,λb o z=>by
  by_cases hb:b=a
  .subst hb
   rw[Gg]at z;obtain⟨u,h1,h2⟩:=Ak.mp z;rcases x.new b u h1 with q|q|⟨xs,e,q⟩
   .exact .inl (by rw[Gg,q,<-h2];rfl)
   .exact .inr (.inl (by rw[Gg,q];rfl))
   .exact absurd e ((hH _ (x.sub _ _ h1)).nt.1 xs)
  .rw[BG hb]at z
   rcases x.new b o z with q|q
   .exact .inl (by rw[BG hb];exact q)
   .refine .inr ?_
    unfold ym;rw[BG hb];exact q,λt=>(x.tab (t.unsw uk)).sw hH,λt b o z=>by
  unfold HP.sw at z;split at z
  .obtain⟨u,_,e⟩:=Ak.mp z
   subst e;exact uk.ntt
  .rename_i hb
   refine x.nts (λc u y=>?_) b o z
   by_cases hc:c=a
   .subst hc;exact(hH _ (x.sub _ _ (x.ff _ _ y))).ntt
   .exact t c u (by rw[BG hc];exact y)⟩
theorem At.sw(e:At K F0 H0 F H r σ)(zM:F a=Z u)(hu:Dk vvs u)(uk:Dk vvs ob)(nh:∀(i:Nat) (es:List (PyData×PyData)),r[i]?≠Z (Z (HM.B.hd es))):At K (HP.sw a ob F0) (HP.sw a ob H0) (HP.sw a ob F) (HP.sw a ob H) r σ:=by
 obtain⟨fp,e⟩:=e;have hF:∀u,F a=Z u->Dk vvs u:=λu' h=>by rw[zM]at h;cases h;exact hu
 have hH:∀u,H a=Z u->Dk vvs u:=λu' h=>by rw[e.sub _ _ zM]at h;cases h;exact hu
 have own:∀i,∀c∈fp i,c≠a:=λi c hc z=>by rw[<-z,(e.own i c hc).1]at zM;cases zM
 refine⟨fp,e.ext.sw hH uk,e.len,λi b h=>?_,e.emp,λi b h=>?_,e.nd,e.dis,e.tb.sw (vvs:=vvs) (λu' z=>by have q:=e.ext.hh.back z (e.sub _ _ zM) hu.nt.2.2.2.1;rw[q];exact hu),λb o z=>?_⟩
 rotate_left 2
 .unfold HP.sw at z
  split at z
  .obtain⟨u,_,e⟩:=Ak.mp z
   subst e;exact uk.ntt
  .exact e.nt b o z
 .obtain⟨v,h1,h2⟩:=e.at_ i b h
  refine⟨v,h1,?_⟩;have own:=own i;generalize fp i=f at h2 own;cases h2 with
  |pl q=>exact .pl (q.sw hF uk)
  |ol k q=>exact .ol (by rw[BG (own _ (by simp))];exact k) (q.sw hF uk)
  |ok k hk q=>exact .ok (by rw[BG (own _ (by simp))];exact k) hk (q.sw hF uk)
  |ot k hk q=>exact .ot (by rw[BG (own _ (by simp))];exact k) hk (q.sw hF uk)
  |otl k hk hv q=>refine .otl (by rw[BG (own _ (by simp))];exact k) hk hv λi ds l h1 h2=>?_;obtain⟨vs,q1,q2⟩:=q i ds l h1 h2;exact⟨vs,by rw[BG (own l (Ao _ (Bo h2)))];exact q1,q2.sw hF uk⟩
  |hd _ _ _ _=>exact absurd h (nh _ _)
  |hf _=>exact absurd h (nh _ _)
 .rw[BG (own i b h),BG (own i b h)]
  exact e.own i b h
theorem xh{x:Option V}(h:σ[i]?=Z x):σ.set i x=σ:=by obtain⟨h1,h2⟩:=Bf.mp h;rw[<-h2];exact PF h1
theorem At.say(e:At K F0 H0 F H r σ)(h1:σ[i]?=Z (Z v))(q:Az K F H b' v []):At K F0 H0 F H (r.set i (Z b')) σ:=by
 have:=e.store (i:=i) q Ff (λa h=>by simp at h) λ_ _ _ _ _ _ h=>by simp at h
 rwa [xh h1]at this
theorem At.loosen(e:At K F0 H0 F H r σ)(h:r[i]?=Z (Z (.hd es))):At K F0 H0 F H (r.set i (Z (.pl (.dict es)))) σ:=by
 obtain⟨v,fp,h1,h2⟩:=e.any h;cases h2 with
 |hd k1 k2 k3 k4=>exact e.say h1 (.pl (.dct (.inr ⟨_,k1⟩) k2 k3 k4.2))
 |hf k1=>exact e.say h1 (.pl (.fn k1))
theorem UH(h:r.all (λq=>!HM.ZZ q)=Aa)(i:Nat)(es:List (PyData×PyData)):r[i]?≠Z (Z (.hd es)):=λz=>by have:=Ay.mp h _ (Bo z);cases this
theorem jq(h:(r.set i Z_).all (λq=>!HM.ZZ q)=Aa)(hb:∀es,b'≠.hd es)(j:Nat)(es:List (PyData×PyData)):(r.set i (Z b'))[j]?≠Z (Z (.hd es)):=λz=>by
 by_cases hj:i=j
 .subst hj
  by_cases hi:i<BC r
  .rw[Fg hi]at z
   injection z with z
   injection z with z
   exact hb _ z
  .rw[KA (by rw[Ex];omega)]at z
   cases z
 .rw[CU hj]at z
  exact UH h j es (by rw[CU hj];exact z)
end
section
variable{X:Cx}{su:z7}{σ:L2.St}{H:Hp}{s:Shared}{a:Addr}{u ob:HO}{vvs:List (List sL×V)}
theorem MR{h:Heap}{o:HO}{b:Addr}(ha:H a=Z u)(hu:Dk vvs u)(x:Z6 X.prog X.w H h b o):Z6 X.prog X.w (sw a ob H) h b o :=
 x.stay (λ_ _ _ q=>q) (λc q=>by rw[BG (λz=>by rw[z,ha]at q;cases q;exact hu.nt.2.2.2.2 _ rfl)];exact q) λc xs q=>by rw[BG (λz=>by rw[z,ha]at q;cases q;exact hu.nt.1 _ rfl)];exact q
theorem Qt(I:Inv X su σ H s)(ha:H a=Z u)(hu:Dk vvs u)(ok:Z6 X.prog X.w (sw a ob H) s.heap a ob)(hn:∀o w,X.H₀ a≠Z (.frz o w)):Inv X su σ (HP.sw a ob H) s:=by
 have none':∀b,H b=Z_->HP.sw a ob H b=Z_:=λb h=>by rw[BG (λz=>by rw[z,ha]at h;cases h)];exact h
 refine⟨I.ok,I.os,I.bare,⟨I.base.keep,I.base.slot,λb o h1 h2 h3=>none' b (I.base.free b o h1 h2 h3),I.base.there,λb xs h=>?_,λb o w h=>?_,λb ps h=>?_⟩,I.loc,I.cell,none' _ I.free,λx c h=>none' _ (I.freeC x c h),λp hp=>?_,λb o h=>?_,I.len⟩
 .have q:=I.base.tups b xs h
  rw[BG (λz=>by rw[z,ha]at q;cases q;exact hu.nt.1 _ rfl)];exact q
 .have q:=I.base.frzs b o w h
  rw[BG (λz=>hn o w (by rw[<-z];exact h))];exact q
 .obtain⟨m,q⟩:=I.base.tbls b ps h
  exact⟨m,by rw[BG (λz=>by rw[z,ha]at q;cases q;exact hu.nt.2.2.2.1 _ rfl)];exact q⟩
 .have q:=I.pin p hp
  exact⟨q.1,none' _ q.2.1,q.2.2⟩
 .by_cases hb:b=a
  .subst hb
   rw[Gg,ha]at h;cases h;exact ok
  .rw[BG hb]at h
   exact MR ha hu (I.hok b o h)
theorem G1(i:Nat){st:Stmt}{g:HM.SF}(h:XS X st g):XS X st (HM.C4 i g):=by
 intro r o ho;unfold HM.C4 at ho;split at ho
 case h_2=>exact h r o ho
 rename_i es hr;split at ho
 case isFalse=>cases ho
 rename_i tp;have nh:=UH tp;intro su s σ H E I ⟨F0,H0,F,at_,k⟩;obtain⟨v,h1,h2⟩:=at_.plain hr;cases h2 with
 | @dct a _ kvs vvs hd he hk hrr =>
  have rs:∀{F':Hp},Zs F F'->Zu X.K F' (kvs.map (·.2)) (vvs.map (·.2)):=λs=>by refine Zu.mono ⟨?_,hrr⟩ s;have:=congrArg BC hk;rw[Ad,Ad]at this ⊢;exact this
  rcases hd with hd|⟨q,hd⟩
  .have zL:=at_.sub _ _ hd
   obtain⟨z,y,xs,rl,q,ua,ep,e1,c1⟩:=(show Z6 X.prog X.w H s.heap a (.dT vvs) from I.hok a _ zL);have hn:∀o w,X.H₀ a≠Z (.frz o w):=λo w z=>by have:=I.base.frzs _ _ _ z;rw[zL]at this;cases this
   have I1:=Qt (ob:=.frz q (.dT vvs)) I zL (.inl rfl) ⟨e1,MR zL (.inl rfl) ⟨z,y,xs,rl,q,ua,ep,e1,c1⟩⟩ hn;have t5:=at_.sw (ob:=.frz q (.dT vvs)) hd (.inl rfl) (.inr ⟨q,rfl⟩) nh;have Ra:HP.sw a (.frz q (.dT vvs)) F a=Z (.frz q (.dT vvs)):=by rw[Gg,hd];rfl
   have hFd:∀u,F a=Z u->Dk vvs u:=λu z=>by rw[hd]at z;cases z;exact .inl rfl
   have uo:=(t5.say (i:=i) h1 (.hd Ra he hk (Zu.sw hFd (.inr ⟨q,rfl⟩) (rs (Zs.refl F))))).rebase;have e0:HP.sw a (.dT vvs) (HP.sw a (.frz q (.dT vvs)) F0)=F0:=UK λu z=>by have:=at_.ext.ff _ _ z;rw[hd]at this;cases this;rfl
   have e1:HP.sw a (.dT vvs) (HP.sw a (.frz q (.dT vvs)) H0)=H0:=UK λu z=>by exact at_.ext.hh.back z zL λ_ w=>by cases w
   split at ho
   .rename_i r' hg
    split at ho
    case h_2=>cases ho
    rename_i es' hr';split at ho
    case isFalse=>cases ho
    rename_i hall';cases ho;refine sO (h _ _ hg su s σ _ {nx:=λσ' H'=>∃F',At X.K (HP.sw a (.frz q (.dT vvs)) F) (HP.sw a (.frz q (.dT vvs)) H0) F' H' r' σ',rt:=λ_ _=>False,bk:=λ_ _=>False,ct:=λ_ _=>False} I1 ⟨_,_,_,uo,λσ' F' H' a'=>⟨F',a'⟩⟩) λfl s' z=>?_;cases fl with
    |next=>obtain⟨σ',H',I',F',a'⟩:=z;have Fa:=a'.ext.ff _ _ Ra;have Ha:=a'.sub _ _ Fa;have a3:=((At.unbase t5.ext (t5.nt0) a').loosen hr').sw (ob:=.dT vvs) Fa (.inr ⟨q,rfl⟩) (.inl rfl) (jq hall' λ_ z=>by cases z);rw[e0,e1]at a3;exact⟨σ',_,Qt I' Ha (.inr ⟨q,rfl⟩) (MR Ha (.inr ⟨q,rfl⟩) (KU I'.hok (.inr ⟨q,Ha⟩))) hn,k σ' _ _ a3⟩
    |brk=>obtain⟨_,_,_,z⟩:=z;exact z.elim
    |cont=>obtain⟨_,_,_,z⟩:=z;exact z.elim
    |ret u=>obtain⟨_,_,_,_,_,z⟩:=z;exact z.elim
   .rename_i d hg
    cases ho;refine sO (h _ _ hg su s σ _ {nx:=λ_ _=>False,bk:=λ_ _=>False,ct:=λ_ _=>False,rt:=λv' H'=>∃F',sR (HP.sw a (.frz q (.dT vvs)) F) (HP.sw a (.frz q (.dT vvs)) H0) F' H'/\Rep X.K F' d v'} I1 ⟨_,_,_,uo,λv' F' H' x q=>⟨F',x,q⟩⟩) λfl s' z=>?_;cases fl with
    |ret u=>obtain⟨v',σ',H',I',rv,F',x',r'⟩:=z;have Fa:=x'.ff _ _ Ra;have Ha:=x'.sub _ _ Fa;have x3:=(sR.unbase t5.ext x').sw (a:=a) (vvs:=vvs) (ob:=.dT vvs) (λu z=>by rw[Ha]at z;cases z;exact .inr ⟨q,rfl⟩) (.inl rfl);rw[e0,e1]at x3;exact⟨v',σ',_,Qt I' Ha (.inr ⟨q,rfl⟩) (MR Ha (.inr ⟨q,rfl⟩) (KU I'.hok (.inr ⟨q,Ha⟩))) hn,rv,k v' _ _ x3 (r'.sw (λu z=>by rw[Fa]at z;cases z;exact .inr ⟨q,rfl⟩) (.inl rfl))⟩
    |next=>obtain⟨_,_,_,z⟩:=z;exact z.elim
    |brk=>obtain⟨_,_,_,z⟩:=z;exact z.elim
    |cont=>obtain⟨_,_,_,z⟩:=z;exact z.elim
   .cases ho
  .have uo:=at_.say (i:=i) h1 (.hd hd he hk (rs (Zs.refl F)))
   split at ho
   .rename_i r' hg
    split at ho
    case h_2=>cases ho
    rename_i es' hr';split at ho
    case isFalse=>cases ho
    cases ho;exact h _ _ hg su s σ H E I ⟨F0,H0,F,uo,λσ' F' H' a'=>k σ' F' H' (a'.loosen hr')⟩
   .rename_i d hg
    cases ho;exact h _ _ hg su s σ H E I ⟨F0,H0,F,uo,k⟩
   .cases ho
 |fn hv =>
  have uo:=at_.say (i:=i) h1 (.hf hv);split at ho
  .rename_i r' hg
   split at ho
   case h_2=>cases ho
   rename_i es' hr';split at ho
   case isFalse=>cases ho
   cases ho;exact h _ _ hg su s σ H E I ⟨F0,H0,F,uo,λσ' F' H' a'=>k σ' F' H' (a'.loosen hr')⟩
  .rename_i d hg
   cases ho;exact h _ _ hg su s σ H E I ⟨F0,H0,F,uo,k⟩
  .cases ho
def Itd(a:Addr)(o:Obj):It :=
 ⟨λi H=>∃vvs q,H a=Z (.frz o (.dT vvs))/\vvs[i]?=Z q,λi H x H'=>H'=H/\∀vvs,H a=Z (.frz o (.dT vvs))->∃q b,vvs[i]?=Z q/\x=.ref b/\H b=Z (.tup (q.1.map kV)),λi H=>∃vvs,H a=Z (.frz o (.dT vvs))/\vvs.length<=i⟩
theorem k9{α β:Type}{R:α->β->Prop}{l:List α}{m:List β}(r:Paired R l m):∀{i:Nat} {x:α},l[i]?=Z x->∃y,m[i]?=Z y/\R x y:=by
 induction r with
 |nil=>intro i x e;simp at e
 | @cons p q _ _ hq _ ih =>
  intro i x e;cases i with
  |zero=>rw[PL]at e;cases e;exact⟨q,rfl,hq⟩
  |succ i=>rw[EB]at e ⊢;exact ih e
theorem kj{P:Program}{w:World}(a it:Addr)(o:Obj)(es:Array DictEntry)(ep:Nat)(hd:o.data=.dict es ep):wt P w K tg (Itd a o) [it] it (λi h=>h.IsKeyIter it a i es.size ep) where
 mem:=by simp
 obj:=λi h st b hb=>by
  have e:b=it:=by simpa using hb
  subst e;obtain⟨o,e,c,d⟩:=st;exact⟨o,e,λv z=>by rw[d]at z;cases z⟩
 keep:=λi h h' st k=>st.at λo e=>k it (by simp) o e
 item:=by
  intro X hP hw hK hc i su s σ H E I hf st hg;subst hP hw hK;obtain⟨vvs,q,hH,hq⟩:=hg;obtain⟨h1,z,lo,xs,tH,o2,es2,ep2,h2,h3,h4,h5,h6⟩:=(show Z6 X.prog X.w H s.heap a (.frz o (.dT vvs)) from I.hok a _ hH);rw[h1]at h2;cases h2;rw[hd]at h4;cases h4;obtain⟨f0,f1,f2,f3,f4,f5⟩:=hf it (by simp);obtain⟨p,hp,hr1,hr2,_⟩:=k9 tH hq;have he:es[i]?=Z (entryOfKey (IW (BV X.prog X.w)) p):=by rw[<-Ca,h5,AD,hp];rfl
  refine Xr st ⟨o,h1,h3,hd⟩ he λh' st' sb=>?_;have I1:Inv X su σ H {s with heap:=h'}:=I.turned (t':=s.toks) (λb o hb e=>(sb.2 b hb).trans e) f0 f1 f3 f4 f5;obtain⟨oi,e,c,d⟩:=id st';refine⟨_,rfl,MU (s:={s with heap:=h'}) e c d (by decide) ⟨.ref p.2.1,H,I1,rfl,⟨rfl,λvv hv=>?_⟩,st',λb hb=>(hf b hb).1⟩⟩;rw[hH]at hv;cases hv;exact⟨q,p.2.1,hq,rfl,hr2⟩
 done:=by
  intro X hP hw hK hc i su s σ H E I hf st hg;subst hP hw hK;obtain⟨vvs,hH,hq⟩:=hg;obtain⟨h1,z,lo,xs,tH,o2,es2,ep2,h2,h3,h4,h5,h6⟩:=(show Z6 X.prog X.w H s.heap a (.frz o (.dT vvs)) from I.hok a _ hH);rw[h1]at h2;cases h2;rw[hd]at h4;cases h4;obtain⟨f0,f1,f2,f3,f4,f5⟩:=hf it (by simp);have hl:BC vvs=xs.length:=FV tH;have xC:es.size=xs.length:=by rw[<-Bk,h5,Ad]
  exact VH (I.ok.hd hc) st ⟨o,h1,h3,hd⟩ (by omega) λh' eb=>⟨rfl,I.turned (t':=s.toks) (λb o hb e=>eb b o hb e) f0 f1 f3 f4 f5⟩
 self:=λ_ _ _ _ _ st h=>wpAny_pyIter_keyiter st h
theorem eX{l:Expr}{tl:TE}(hl:PE X l tl):PI X tg l (λσ H R=>tl σ H λx H1=>∃a o vvs,x=.ref a/\H1 a=Z (.frz o (.dT vvs))/\R (Itd a o) H1):=by
 intro su s σ H R I h;refine sO (hl su s σ H _ I h) λv s1 ⟨x,H1,I1,r1,a,o,vvs,e,hH,q⟩=>?_;subst e;cases r1;obtain⟨h1,z,lo,xs,tH,o2,es,ep,h2,h3,h4,h5,h6⟩:=(show Z6 X.prog X.w H1 s1.heap a (.frz o (.dT vvs)) from I1.hok a _ hH);rw[h1]at h2;cases h2;refine Xq lo ⟨o,h1,h3,h4⟩ ⟨s1.heap.objs.size,[s1.heap.objs.size],_,_,H1,rfl,I1.kept (t':=s1.toks) λb o e=>Au _ e,kj a _ o es ep h4,⟨_,A1 _ rfl,rfl,rfl⟩,λb hb=>?_,q⟩;obtain rfl:b=s1.heap.objs.size:=by simpa using hb
 exact I1.fpOk (Aj _) (I1.hok.fresh (Aj _))
theorem ir{F:Hp}{a:Addr}{o:Obj}{kvs:List (List sL×PyData)}{vvs:List (List sL×V)}(h:F a=Z (.frz o (.dT vvs)))(hk:kvs.map (·.1)=vvs.map (·.1)):yl K (Itd a o) (kvs.map λp=>.tuple (p.1.map HM.Bv)) F:=by
 intro F' H s1 s2;have hH:=s2 _ _ (s1 _ _ h);have hl:BC kvs=vvs.length:=by
  have:=congrArg BC hk
  rwa [Ad,Ad]at this
 refine⟨λi d hd=>?_,vvs,hH,by rw[Ad,hl];exact Aj _⟩;rw[AD]at hd;obtain⟨q,hq,hd⟩:=Ak.mp hd;subst hd;have hi:i<BC vvs:=by rw[<-hl];exact(Bf.mp hq).1
 have hw:vvs[i]?=Z vvs[i]:=AK hi;have hw1:vvs[i].1=q.1:=by
  have:(kvs.map (·.1))[i]?=(vvs.map (·.1))[i]?:=by rw[hk]
  rw[AD,AD,hq,hw]at this;exact(DE this).symm
 refine⟨⟨vvs,_,hH,hw⟩,λx H' hy=>?_⟩;obtain⟨e,y⟩:=hy;refine⟨e,?_⟩;obtain⟨q',b,e1,e2,e3⟩:=y vvs hH;rw[hw]at e1;cases e1;subst e2;rw[hw1]at e3;have rk:=LA (K:=K) (F:=Bt F' H) q.1;exact .tup (QZ e3) rk.1 rk.2
theorem G7(i:Nat){x:Str}{pos:Pos}(hN:X.N[i]?=Z x:=by rfl)(hv:vd X.env.scope x:=by first|exact AB rfl|exact Ap (AB rfl)|exact Ap (Ap rfl))(hd:(x==("__debug__":Str))=Ab:=by decide)(tF:(x==("__classdict__":Str))=Ab:=by decide):XI X tg (.Name x pos) (HM.AM i):=by
 intro r ds h;have row:∀{d:PyData},r[i]?=Z (Z (.pl d))->HM.Cz (.pl d)=Z ds->HM.Zy (HM.sD (HM.Za i)) r=Z ds:=λ{d} h1 h2=>by
  have e:HM.Za i r=Z d:=by unfold HM.Za;rw[h1]
  unfold HM.Zy HM.sD;rw[e];exact h2
 unfold HM.AM at h;split at h
 .rename_i q;exact ZK (Zc i hN hv hd tF) r ds (row q h)
 .rename_i q;exact ZK (Zc i hN hv hd tF) r ds (row q h)
 .rename_i es q
  obtain⟨kvs,h1,h2⟩:=Ak.mp h;subst h2;refine PI.imp (eX (Dt hN hv hd tF)) λσ H R ⟨F0,H0,F,at_,k⟩=>?_;obtain⟨v,fp,g1,g2⟩:=at_.any q;cases g2 with
  | @hd a o _ kvs' vvs k1 k2 k3 k4=>subst k2;rw[HM.sE]at h1;cases h1;exact⟨.ref a,g1,a,o,vvs,rfl,at_.sub _ _ k1,k _ F H at_.refl (ir k1 k3)⟩
  |hf _=>cases h1
 .cases h
end
end
end HP
namespace HP
open PySem
variable{S:Addr}
abbrev mdA(I S:Addr)(dv:Value):Args:=⟨[.ref I,.none,.ref S],[(FY "default",dv)]⟩
theorem M9:(toString "min" ++ toString ".loop":String) = "min.loop":=by decide
theorem eO(a dv:Value):argsOk "min" ⟨[a],[(FY "default",dv)]⟩:=by unfold argsOk;kernel_rfl
section
variable{prog:Program}{w:World}{A:Around}{R:Result->Shared->Prop}{I:Addr}{fp wr:List Addr}{n:Nat}{P:Nat->Value->Prop}{St:Nat->Heap->Prop}
theorem ik(W:Walks prog w A.in1 I fp wr n P St)(bt:Nat->Nat->Bool)(hc:CmpOf prog w A.in1 .Lt P bt)(hf:S∉fp)(dv:Value):∀(k j:Nat) (s:Shared) (b:Value) (ep:Nat),n=j+1+k->St (j+1) s.heap->P (argBest bt j) b ->s.heap.get? S=Z {cls:=.type "list",dict:=Z_,data:=.seq #[b,b] ep,slots:=#[]} ->(∀v h' tk,P (argBest bt (n-1)) v->(∀x o,x∉wr->x≠S->s.heap.get? x=Z o->h'.get? x=Z o)->R (.ok (.ret v)) {s with heap:=h',toks:=tk}) ->codeAny (model prog w) A (.builtin "min.loop" (mdA I S dv)) R s:=by
 have hw:S∉wr:=λh=>hf (W.sub _ h);intro k
 induction k with
 |zero =>
  intro j s b ep hn st pb gS out;have hn:n=j+1:=by omega
  subst hn;refine DW T5 ?_;rw[Ez Jm _];show wpAny _ A.in1 (seqItems? (.ref S) >>= _) _ _ s;refine Ac (Mu gS rfl ?_);show wpAny _ A.in1 (tryCatch (pyNext (.ref I)) _ >>= _) _ _ s;refine Ac (Mt (W.done s _ _ st λh1 tk keep=>?_));have yh:=keep S _ hw gS;show wpAny _ A.in1 (updateSeq S (λ_=>#[]) >>= _) _ _ _;exact Ac (TX yh rfl (Ac (Mz (Ae (out b _ tk pb λx o hx hS e=>(Jn _ _ (Bi hS)).trans (keep x o hx e))))))
 |succ k ih =>
  intro j s b ep hn st pb gS out;refine DW T5 ?_;rw[Ez Jm _];show wpAny _ A.in1 (seqItems? (.ref S) >>= _) _ _ s;refine Ac (Mu gS rfl ?_);show wpAny _ A.in1 (tryCatch (pyNext (.ref I)) _ >>= _) _ _ s;refine Ac (Mt (W.item (j+1) s _ _ (by omega) st λv h1 tk pv st1 keep=>?_));have yh:=keep S _ hw gS;show wpAny _ A.in1 (tryCatch (holding [v,v] (richCompare .Lt v b >>= _)) _ >>= _) _ _ _;refine Ac (Mt (Cd (Ac (hc (j+1) (argBest bt j) v b _ _ _ pv pb (Ac (Cd (E8 (Ac (Mz (Ae ?_))))))))));have xT:argBest bt (j+1)=if bt (j+1) (argBest bt j)then j+1 else argBest bt j:=rfl
  cases hb:bt (j+1) (argBest bt j)with
  |true =>
   rw[hb,if_pos rfl]at xT;simp only[if_true];refine Ac (TX yh rfl (Ac (Mz ?_)));rw[M9];refine Ae ⟨Gz Jm _,ih (j+1) _ v _ (by omega) (W.frame _ _ _ st1 λx hx o e=>?_) (by rw[xT];exact pv) (Fi _ yh rfl) λv' h2 zm p' vE=>?_⟩
   .exact(Jn _ _ (λz:S=x=>hf (by rw[z];exact hx))).trans e
   .exact out v' h2 zm p' λx o hx hS e=>vE x o hx hS ((Jn _ _ (Bi hS)).trans (keep x o hx e))
  |false=>rw[hb,if_neg (by simp)]at xT;simp only[B9,if_false];refine Ac (Mz ?_);rw[M9];exact Ae ⟨Gz Jm _,ih (j+1) _ b ep (by omega) st1 (by rw[xT];exact pb) yh λv' h2 zm p' vE=>out v' h2 zm p' λx o hx hS e=>vE x o hx hS (keep x o hx e)⟩
theorem gw(W:Walks prog w A.in1 I fp wr n P St)(bt:Nat->Nat->Bool)(hc:CmpOf prog w A.in1 .Lt P bt)(hf:S∉fp)(dv:Value){s:Shared}{ep:Nat}(st:St 0 s.heap)(gS:s.heap.get? S=Z {cls:=.type "list",dict:=Z_,data:=.seq #[] ep,slots:=#[]})(o0:n=0->∀h' tk,(∀x o,x∉wr->x≠S->s.heap.get? x=Z o->h'.get? x=Z o)->R (.ok (.ret dv)) {s with heap:=h',toks:=tk})(o1:0<n->∀v h' tk,P (argBest bt (n-1)) v->(∀x o,x∉wr->x≠S->s.heap.get? x=Z o->h'.get? x=Z o)->R (.ok (.ret v)) {s with heap:=h',toks:=tk}):codeAny (model prog w) A (.builtin "min.loop" (mdA I S dv)) R s:=by
 have hw:S∉wr:=λh=>hf (W.sub _ h);refine DW T5 ?_;rw[Ez Jm _];show wpAny _ A.in1 (seqItems? (.ref S) >>= _) _ _ s;refine Ac (Mu gS rfl ?_);show wpAny _ A.in1 (tryCatch (pyNext (.ref I)) _ >>= _) _ _ s
 by_cases h0:n=0
 .subst h0
  refine Ac (Mt (W.done s _ _ st λh1 tk keep=>?_));show wpAny _ A.in1 (rule _ >>= _) _ _ _;exact Ac (wpAny_rule (Ae (o0 rfl h1 tk λx o hx _ e=>keep x o hx e)))
 .refine Ac (Mt (W.item 0 s _ _ (by omega) st λv h1 tk pv st1 keep=>?_))
  have yh:=keep S _ hw gS;show wpAny _ A.in1 (updateSeq S (λ_=>#[v,v]) >>= _) _ _ _;refine Ac (TX yh rfl ?_);rw[M9];refine Ae ⟨Gz Jm _,ik W bt hc hf dv (n-1) 0 _ v _ (by omega) (W.frame _ _ _ st1 λx hx o e=>?_) pv (Fi _ yh rfl) λv' h2 zm p' vE=>?_⟩
  .exact(Jn _ _ (λz:S=x=>hf (by rw[z];exact hx))).trans e
  .exact o1 (by omega) v' h2 zm p' λx o hx hS e=>vE x o hx hS ((Jn _ _ (Bi hS)).trans (keep x o hx e))
end
end HP
namespace HP
open PySem PySem.Spec PyProof.Rows L2
variable{cs:z5}{K:Af}{st:Stmt}{x:Str}
variable[FX]
theorem Rep.fn_inv{F:Hp}{t:Nat}{v:V}(h:Rep K F (HM.sM t cs) v):∃a,v=.ref a/\FX.fv t cs F a:=by
 cases h with
 | @dct a es kvs vvs h he hk hr =>
  cases kvs with
  |nil=>cases he
  |cons p r =>
   injection he with h1 _
   injection h1 with h2 _
   cases h2
 |fn h=>exact⟨_,rfl,h⟩
theorem i7{d:PyData}{t:Nat}(h:HM.K0 d=Z (t,cs)):d=HM.sM t cs:=by
 unfold HM.K0 at h;split at h
 .cases h;rfl
 .cases h
structure zU(mg:z6)(x:Str)(t:Nat):Prop where
 ex:∃f,mg x=Z (.ref f)/\∀F,FX.fv t [] F f
section
variable{X:Cx}{pos p:Pos}{e a b:Expr}{es:List Expr}{f:HM.AF}
theorem M3{t:Nat}(h:zU X.mg x t)(hg:Gl X x:=by rfl)(hd:(x==("__debug__":Str))=Ab:=by decide):XE X (.Name x pos) (HM.eC (HM.sM t [])):=by obtain⟨f,hm,hv⟩:=h.ex;exact LF (V3 hg hm (v:=.ref f) rfl hd) λF=>.fn (hv F)
structure EK(P:Program)(w:World)(K:Af)(mg:z6)(base:Heap)(k:Nat)(ap:HM.AP):Prop where
 fn:∀{t:Nat} {cs:z5} {F:Hp} {a:Addr},FX.fv t cs F a->∀{A:Around} {outer:List Env} {s:Shared} {H:Hp},DY P w K mg base A outer s H->Zs F H->Tp a s.heap
 run:∀{t:Nat} {cs:z5} {F:Hp} {a:Addr},FX.fv t cs F a->∀{A:Around} {outer:List Env} {s:Shared} {H:Hp},DY P w K mg base A outer s H->Zs F H ->
  ∀{us:z8} {vs:List V} {ds:z5} {d:PyData} {Q:VK},AA k A->Tb H->uJ F->sC vs us->Zu K F ds vs->ap t cs ds=Z d->(∀v F' H',sR F H F' H'->Rep K F' d v->Q v H') ->
   codeAny (model P w) A (.call (.ref a) ⟨us,[]⟩) (CR uU outer P w H s Q E0) s
theorem EK.mono{P:Program}{w:World}{K:Af}{mg:z6}{base:Heap}{j k:Nat}{ap:HM.AP}(C:EK P w K mg base j ap)(h:j<=k):EK P w K mg base k ap :=
 ⟨C.fn,by intro t cs F a q A outer s H e z us vs ds d Q hr;exact C.run q e z (hr.mono h)⟩
theorem Rj{k:Nat}{ap:HM.AP}(C:EK X.prog X.w X.K X.mg X.base k ap)(hr:AA k X.A)(i:Nat)(ha:XA X (e::es) f)(hN:X.N[i]?=Z x:=by rfl)(hv:vd X.env.scope x:=by first|exact AB rfl|exact Ap (AB rfl)|exact Ap (Ap rfl))(hd:(x==("__debug__":Str))=Ab:=by decide)(tF:(x==("__classdict__":Str))=Ab:=by decide)(he:Ag (e::es) X.env=(Ab,eval e X.env)::Ag es X.env:=by rfl)(hpl:(backTo pos (Ag es X.env)).any (·.1)=Ab:=by rfl):XE X (.Call (.Name x p) (e::es) [] pos) (HM.Fw ap i f):=by
 intro r d h;unfold HM.Fw at h;split at h
 case h_2=>cases h
 rename_i d0 hs;split at h
 case h_2=>cases h
 rename_i t cs hu;split at h
 case h_2=>cases h
 rename_i ds sY;obtain rfl:=i7 hu;intro su s σ H Q I ⟨F0,H0,F1,at_,kk⟩;obtain⟨v,h1,h2⟩:=at_.plain hs;obtain⟨q,rfl,fv⟩:=h2.fn_inv;refine Kp (sO (Dt hN hv hd tF su s σ H (λv' H'=>v'=.ref q/\H'=H) I ⟨_,h1,rfl,rfl⟩) λu s1 ⟨v',H1,I1,r1,e1,e2⟩=>?_);subst e1 e2;obtain rfl:u=Bl q:=r1;refine PySem.W.callWith_F (C.fn fv I1.env0 at_.sub) (sO (ha.pa r ds sY pos su s1 σ H1 (λvs H2=>∃F2,sR F1 H1 F2 H2/\Zu X.K F2 ds vs) I1 ⟨F0,H0,F1,at_,λvs F2 H2 x2 q2=>⟨F2,x2,q2⟩⟩) λus s2 ⟨vs,H2,I2,r2,F2,x2,q2⟩=>?_) he hpl;have fv2:=FX.mono fv x2.ff;refine⟨C.fn fv2 I2.env0 x2.sub,Mn (Fc (C.run fv2 I2.env0 x2.sub hr (at_.tbx x2) (at_.ntx x2) r2 q2 h λv F' H' x3 q3=>kk v F' H' (x2.trans x3) q3) λrs s' hq=>?_)⟩;cases rs with
 |error e=>exact B7 hq
 |ok fl =>
  cases fl with
  |ret u=>exact I2.after hq
  |next=>exact B7 hq
  |brk=>exact B7 hq
  |cont=>exact B7 hq
def spN(K:Af)(n:Nat)(M:z5->Option (List (List sL×PyData))):Sp:=λvs H Q _=>∃F ds kvs,BC vs=n/\Zs F H/\Tb H/\uJ F/\Zu K F ds vs/\M ds=Z kvs /\
 ∀l vvs F' H',sR F H F' H'->H' l=Z (.dT vvs)->kvs.map (·.1)=vvs.map (·.1)->Zu K F' (kvs.map (·.2)) (vvs.map (·.2))->F' l=Z_->H l=Z_->Q (.ref l) H'
structure G3(P:Program)(w:World)(K:Af)(mg:z6)(base:Heap)(k:Nat)(x:Str)(M:z5->Option (List (List sL×PyData))):Prop where
 ex:∃f fd ps,(∀ds d,M ds=Z d->ds.length=ps.length)/\CF P w K mg base uU k f fd ps (spN K ps.length M)/\mg x=Z (.ref f)/\E6 K (.ref f)=Aa/\Binds K fd ps []
theorem G3.mono{P:Program}{w:World}{K:Af}{mg:z6}{base:Heap}{j k:Nat}{x:Str}{M:z5->Option (List (List sL×PyData))}(C:G3 P w K mg base j x M)(h:j<=k):G3 P w K mg base k x M:=by obtain⟨f,fd,ps,l,F,r⟩:=C.ex;exact⟨f,fd,ps,l,F.mono h,r⟩
theorem Zu.flat{K:Af}{F F':Hp}{ds:z5}{vs:List V}(r:Zu K F ds vs)(h:∀d∈ds,HM.Lb d=Aa):Zu K F' ds vs :=
 ⟨r.1,λi d v h1 h2=>(r.2 i d v h1 h2).flat (h d (Bo h1))⟩
theorem j6{k:Nat}{g:HM.AF}{M:z5->Option (List (List sL×PyData))}(C:G3 X.prog X.w X.K X.mg X.base k x M)(hr:AA k X.A)(ha:yL X (e::es) g)(hg:Gl X x:=by rfl)(va:(x==("__debug__":Str))=Ab:=by decide)(he:Ag (e::es) X.env=(Ab,eval e X.env)::Ag es X.env:=by rfl)(hpl:(backTo pos (Ag es X.env)).any (·.1)=Ab:=by rfl):XF X (.Call (.Name x p) (e::es) [] pos) (HM.Ry M g):=by
 intro r d hd;unfold HM.Ry at hd;split at hd
 case h_2=>cases hd
 rename_i ds sY;split at hd
 case h_2=>cases hd
 rename_i kvs hM;split at hd
 case isFalse=>cases hd
 rename_i uS;cases hd;obtain⟨fa,fd,ps,hl,F,hm,hk,hb⟩:=C.ex;refine PE.imp (Na (E:=E0) F hr hg hm hk hb .nil MT (ha.pa r ds sY) va he hpl) λσ H Q ⟨F0,H0,F1,at_,kk⟩=>?_;refine⟨F0,H0,F1,at_,λvs F' H' x q=>?_⟩;show spN X.K ps.length M (vs++[]) H' Q E0;rw[Ba];refine⟨C6 H',ds,kvs,by rw[<-q.1];exact hl ds _ hM,Rn,at_.tbx x,.drop,q.drop',hM,λl vvs F2 H2 x2 h1 h2 h3 h4 h5=>?_⟩;refine kk _ F' H2 (x.trans (sR.forget x.sub (at_.ntx x) x2)) ⟨[l],.ot h1 h2 (h3.flat λd hd=>?_),by simp,λc hc=>?_⟩
 .obtain⟨q,h6,rfl⟩:=Al.mp hd
  exact Ay.mp uS q h6
 .obtain rfl:c=l:=by simpa using hc
  exact⟨x.sub.free h5,x.hh.free h5⟩
def tSn(K:Af)(r:HM.Env)(kvs:List (List sL×PyData)):TS:=λE σ H=>vA K r σ H λF0 H0 F=>∀l vvs F' H',sR F0 H0 F' H'->H' l=Z (.dT vvs)->kvs.map (·.1)=vvs.map (·.1)->Zu K F' (kvs.map (·.2)) (vvs.map (·.2))->F' l=Z_->H0 l=Z_->E.rt (.ref l) H'
def XSn(X:Cx)(xX:List Stmt)(m:HM.NF):Prop:=∀r kvs,m r=Z kvs->uw X xX (tSn X.K r kvs)
theorem Wr{rest:List Stmt}{g:HM.SF}{m:HM.NF}(h1:XS X st g)(h2:XSn X rest m):XSn X (st::rest) (HM.K3 g m):=by
 intro r kvs h;unfold HM.K3 at h;split at h
 .rename_i r' q
  refine uw.imp (Nw (h1 r _ q) (h2 r' kvs h)) λE σ H ⟨F0,H0,F,at_,k⟩=>?_;exact⟨F0,H0,F,at_,λσ' F' H' at'=>⟨F0,H0,F',at',k⟩⟩
 .cases h
theorem fR(j:Nat){p1:Pos}(hN:X.N[j]?=Z x:=by rfl)(hv:vd X.env.scope x:=by first|exact AB rfl|exact Ap (AB rfl)|exact Ap (Ap rfl))(hd:(x==("__debug__":Str))=Ab:=by decide)(tF:(x==("__classdict__":Str))=Ab:=by decide):XSn X [.Return (Z (.Name x p)) p1] (HM.KZ j):=by
 intro r kvs h;unfold HM.KZ at h;split at h
 .rename_i kvs' hs
  cases h;refine uw.imp (Nw (Qg (Dt hN hv hd tF)) NO) λE σ H ⟨F0,H0,F,⟨fp,at_⟩,k⟩=>?_;obtain⟨v,h1,h2⟩:=at_.at_ j _ hs;generalize wA:fp j=fj at h2;cases h2 with
  | @ot l _ vvs hl hk q=>have ho:=at_.own j l (by rw[wA];simp);exact⟨_,h1,k l vvs F H at_.ext hl hk q ho.1 ho.2⟩
 .cases h
theorem la{P:Program}{w:World}{mg:z6}{base:Heap}{k:Nat}{qual:Str}{f:Addr}{fd:FuncData}{N ps:z9}{m:HM.NF}(Fn:vB K x qual st f fd)(S:Zv N ps (Zf st))(hm:mg x=Z (.ref f))(hb:Binds K fd ps [])(body:∀(sN:Value) (A:Around) (outer:List Env) (s:Shared) (H:Hp) (E:XK),AA k (A.deeper (envOfC qual (Zf st) s.heap.objs.size f sN))->XSn (Eg uU P w K mg base N qual (Zf st) f sN A outer s H E).nox (B4 st) m):G3 P w K mg base (k+1) x (HM.yn ps.length N.length m):=by
 have hpl:BC ps<=BC N:=by have:=congrArg BC S.pre;rw[Ec]at this;omega
 refine⟨f,fd,ps,λds d h=>?_,Fn.ok S (λvs H Q E h=>?_) (λsN A outer s H vs Q E hr h=>?_),hm,Fn.kp,hb⟩
 .unfold HM.yn at h
  split at h
  .assumption
  .cases h
 .obtain⟨_,_,_,h,_⟩:=h
  exact h
 .obtain⟨F,ds,kvs,hl,sub,tb,nt,q,hM,kk⟩:=h
  unfold HM.yn at hM;split at hM
  .rename_i sY
   exact⟨_,body sN A outer s H E hr _ _ hM,F,H,F,Lw (N:=N) sub tb nt q (by omega),λl vvs F' H' x h1 h2 h3 h4 h5=>kk l vvs F' H' x h1 h2 h3 h4 h5⟩
  .cases hM
theorem kQ(hc:X.calm=Aa){su:z7}{s:Shared}{σ:L2.St}{H:Hp}{l:Addr}{ns:zZ}{Q:VK}(I:Inv X su σ H s)(hq:tQ X.K H l (ns.map V.int))(q:Q (match ns.min? with|some i=>.int i|none=>.non) H):wpAny (model X.prog X.w) X.A (call (.builtin "min") [.ref l] [(FY "default",.none)]) (EP X su σ Q) X.xe s:=by
 obtain⟨sy,rv,pl,hz⟩:=I.list hq;have hi:=JF rv;obtain⟨xs,e⟩:=hi.allInts.items;have uF:ns=xs.toList.map (·.1):=by rw[<-hi.numsOf,<-nums_intItems,<-e]
 have hl:=pl.isList;rw[e]at hl;refine PyProof.Rows.kmk_tree PySem.F.kind_min PySem.F.plain_min PySem.F.entry_min (eO _ _) ?_;refine Ac (OR (show Builtin.Builtins.bindParams "min" ["key","default"] 0 ⟨[],[(FY "default",.none)]⟩=pure [Z_,Z .none] from rfl) ?_);refine Ac (Ae ?_);refine Ac (iter_intList hl λs2 e2 st wA hlI=>?_);subst e2;refine Ac (Ey ?_);rw[M9];generalize hIT:s.heap.push {cls:=.type "list_iterator",data:=.fields #[.ref l,.int 0 0]}=h1 at st wA;have z1:h1.objs.size=s.heap.objs.size+1:=by rw[<-hIT];exact GP ..
 have k1:∀b o,s.heap.get? b=Z o->h1.get? b=Z o:=λb o e=>by rw[<-hIT];exact Au _ e
 have W:=OO (prog:=X.prog) (w:=X.w) (A:=X.A.in1) (I.ok.hd hc) s.heap.objs.size l hlI (intItems xs);have wO:h1.objs.size∉[s.heap.objs.size,l]:=λz=>FU _ (wA _ z);have old:∀{h':Heap} {oS:Obj},(∀x o,x∉[s.heap.objs.size]->x≠h1.objs.size->(h1.push oS).get? x=Z o->h'.get? x=Z o)->∀b o,s.heap.get? b=Z o->h'.get? b=Z o:=λhk b o e=>by have hb:=Ar e;exact hk b o (λz=>by rw[Ax.mp z]at hb;exact FU _ hb) (Aw (by rw[z1];exact Je hb)) (Au _ (k1 b o e))
 refine Ae ⟨Gz Jm _,gw W (λi j=>decide (numAt xs i<numAt xs j)) (CmpOf.ints_lt (numAt xs) λ_ _=>intItems_at) wO .none (W.frame _ _ _ st λb _ o e=>Au _ e) (A1 _ rfl) (λh0 h' tk hk=>?_) λh0 v h' tk hP hk=>?_⟩
 .have e0:ns=[]:=by
   rw[uF];have:xs.size=0:=by simpa [intItems]using h0
   rw[Array.eq_empty_of_size_eq_zero this];rfl
  subst e0;exact⟨.non,H,I.kept (t':=tk) (old hk),rfl,q⟩
 .have h0':0<xs.size:=by simpa [intItems]using h0
  have hP':(intItems xs)[argBest (λi j=>decide (numAt xs i<numAt xs j)) (xs.size-1)]?=Z v:=by simpa [intItems]using hP
  obtain⟨t,rfl⟩:=intItems_at hP';obtain⟨g1,g2⟩:=argBest_lt (numAt xs) (xs.size-1);have hm:ns.min?=Z (numAt xs (argBest (λi j=>decide (numAt xs i<numAt xs j)) (xs.size-1))):=by
   refine Hy.mpr ⟨?_,λa ha=>?_⟩
   .rw[uF,numAt_eq];exact getD_mem (by rw[Ad,Bk];omega)
   .rw[uF]at ha
    obtain⟨j,hj,rfl⟩:=mem_getD ha;rw[Ad,Bk]at hj;rw[<-numAt_eq];exact g2 j (by omega)
  rw[hm]at q;exact⟨.int _,H,I.kept (t':=tk) (old hk),⟨t,rfl⟩,q⟩
theorem QA{f:HM.BF}{kp p2:Pos}{j:Nat}(hm:X.mg "min"=Z_)(hc:X.calm=Aa)(ha:XB X a f)(hg:Gl X "min":=by rfl)(hs:Ag [a] X.env=[(Ab,eval a X.env)]:=by rfl)(he:backTo pos (Ag [a] X.env)=(Ab,eval a X.env)::backTo pos (Ag [] X.env):=by rfl)(hpl:(backTo pos (Ag [a] X.env)).any (·.1)=Ab:=by rfl):XE X (.Call (.Name "min" p) [a] [⟨Z "default",.Constant .none j p2,kp⟩] pos) (HM.Fv f):=by
 intro r d h;unfold HM.Fv at h;split at h
 case h_2=>cases h
 rename_i x hx;split at h
 case h_2=>cases h
 rename_i ds sY;split at h
 case h_2=>cases h
 rename_i ns uF;cases h;intro su s σ H Q I ⟨F0,H0,F,at_,k⟩;refine Kp (K8 I hg hm Vv ?_);refine callWith_kw (sO (Fq ha hx hs pos su s σ H (λvs H1=>∃v fp F1,vs=[v]/\sR F H F1 H1/\Az X.K F1 H1 x v fp) I ⟨F0,H0,F,at_,λv fp F' H' x1 r1=>⟨v,fp,F',rfl,x1,r1⟩⟩) λus s1 ⟨vs,H1,I1,rv,v,fp,F1,e1,x1,r1⟩=>?_) he hpl;subst e1;obtain⟨u,rfl,ru⟩:=vals1 rv;obtain⟨l,ws,rfl,hq,rs⟩:=JG x1.sub r1 sY;obtain rfl:u=Bl l:=ru;rw[G9 uF rs]at hq;refine kws_cons (sO (Vj su s1 σ H1 (λv' H'=>v'=.non/\H'=H1) I1 ⟨rfl,rfl⟩) λu2 s2 ⟨v',H2,I2,r2,e2,e3⟩=>?_);subst e2 e3;obtain rfl:u2=By:=r2;refine kws_nil ?_;refine kQ hc I2 hq ?_;refine k _ F1 H2 x1 ?_;cases ns.min? with
 |none=>exact .non
 |some i=>exact .int i
end
end HP
namespace HP
open PySem PySem.Spec PyProof.Rows L2
section
variable{F:Hp}{K:Af}
abbrev uC:FX where
 tl:=[]
 fv:=λ_ _ _ _=>False
 sw:=λ_ _ h=>h
 drop:=λh=>h
 mono:=λh _=>h
structure vo(K:Af)(F:Hp)(p:Addr)(params:Arguments)(body:Expr)(scope:Scope)(names:z9)(cs:z5):Prop where
 ex:∃(qual:Str) (pm uY:Value) (c:Addr) (oc:Obj) (sJ:List (Str×Addr)),
  F p=Z (Bg p (Ph "<lambda>" qual params body scope sJ pm c uY))/\F c=Z (Bg c oc)/\QS oc qual /\
  (∀x y a,sJ.lookup x=Z a->sJ.lookup y=Z a->x=y)/\(∀y∈scope.names,y.2=.free->(sJ.lookup y.1).isSome=Aa) /\
  (∀x a,sJ.lookup x=Z a->∃o v,F a=Z (Bg a o)/\o.data=.cell v) /\
  names.length=cs.length/\∀(i:Nat) (x:Str) (d:PyData),names[i]?=Z x->cs[i]?=Z d->∃a o u v,sJ.lookup x=Z a/\F a=Z (Bg a o)/\o.data=.cell (Z u)/\RelV v u/\@Rep uC K F d v
section
variable{K:Af}{F F':Hp}{p:Addr}{params:Arguments}{body:Expr}{scope:Scope}{names:z9}{cs:z5}
theorem vo.mono(h:vo K F p params body scope names cs)(s:Zs F F'):vo K F' p params body scope names cs:=by
 obtain⟨qual,pm,uY,c,oc,sJ,h1,h2,h3,h4,h5,h6,h7,h8⟩:=h.ex;refine⟨qual,pm,uY,c,oc,sJ,s _ _ h1,s _ _ h2,h3,h4,h5,λx a e=>?_,h7,λi x d e1 e2=>?_⟩
 .obtain⟨o,u,q1,q2⟩:=h6 x a e
  exact⟨o,u,s _ _ q1,q2⟩
 .obtain⟨a,o,u,v,q1,q2,q3,q4,q5⟩:=h8 i x d e1 e2
  exact⟨a,o,u,v,q1,s _ _ q2,q3,q4,@Rep.mono uC _ _ _ _ _ q5 s⟩
theorem vo.drop(h:vo K F p params body scope names cs):vo K (C6 F) p params body scope names cs:=by
 obtain⟨qual,pm,uY,c,oc,sJ,h1,h2,h3,h4,h5,h6,h7,h8⟩:=h.ex;refine⟨qual,pm,uY,c,oc,sJ,FF h1 rfl,FF h2 rfl,h3,h4,h5,λx a e=>?_,h7,λi x d e1 e2=>?_⟩
 .obtain⟨o,u,q1,q2⟩:=h6 x a e
  exact⟨o,u,FF q1 rfl,q2⟩
 .obtain⟨a,o,u,v,q1,q2,q3,q4,q5⟩:=h8 i x d e1 e2
  exact⟨a,o,u,v,q1,FF q2 rfl,q3,q4,@Rep.drop uC _ _ _ _ q5⟩
theorem vo.sw{a:Addr}{ob:HO}{vvs:List (List sL×V)}(hF:∀u,F a=Z u->Dk vvs u)(uk:Dk vvs ob)(h:vo K F p params body scope names cs):vo K (HP.sw a ob F) p params body scope names cs:=by
 have key:∀{b:Addr} {o:Obj},F b=Z (Bg b o)->HP.sw a ob F b=Z (Bg b o):=λ{b o} e=>by
  have hb:b≠a:=λz=>by subst z;have:=@Dk.te uC _ _ (hF _ e);cases this
  unfold HP.sw;rw[if_neg hb];exact e
 obtain⟨qual,pm,uY,c,oc,sJ,h1,h2,h3,h4,h5,h6,h7,h8⟩:=h.ex;refine⟨qual,pm,uY,c,oc,sJ,key h1,key h2,h3,h4,h5,λx a e=>?_,h7,λi x d e1 e2=>?_⟩
 .obtain⟨o,u,q1,q2⟩:=h6 x a e
  exact⟨o,u,key q1,q2⟩
 .obtain⟨a,o,u,v,q1,q2,q3,q4,q5⟩:=h8 i x d e1 e2
  exact⟨a,o,u,v,q1,key q2,q3,q4,@Rep.sw uC _ _ _ _ _ _ _ hF uk q5⟩
end
theorem Rep.up[FX]{d:PyData}{v:V}(r:@Rep uC K F d v):Rep K F d v:=by
 induction r with
 |non=>exact .non
 |bl b=>exact .bl b
 |int i=>exact .int i
 |str x=>exact .str x
 |tup h hl _ ih=>exact .tup h hl ih
 |tupk h=>exact .tupk h
 |lst h hl _ ih=>exact .lst h hl ih
 |dct h he hk _ ih=>exact .dct h he hk ih
 |fn h=>exact h.elim
theorem Rep.cutF[FX]{F':Hp}(hF:∀b o,F b=Z o->te o=Ab->F' b=Z o){d:PyData}{v:V}(r:Rep K F d v):∀n,HM.uh n d=Aa->@Rep uC K F' d v:=by
 induction r with
 |non=>intro _ _;exact @Rep.non uC _ _
 |bl b=>intro _ _;exact @Rep.bl uC _ _ b
 |int i=>intro _ _;exact @Rep.int uC _ _ i
 |str x=>intro _ _;exact @Rep.str uC _ _ x
 |tupk h=>intro _ _;exact @Rep.tupk uC _ _ _ _ h
 |tup h hl _ ih =>
  intro n hn;cases n with
  |zero=>cases hn
  |succ n=>exact @Rep.tup uC _ _ _ _ _ (hF _ _ h rfl) hl λi d v h1 h2=>ih i d v h1 h2 n (Ay.mp hn d (Bo h1))
 |lst h hl _ ih =>
  intro n hn;cases n with
  |zero=>cases hn
  |succ n =>
   refine @Rep.lst uC _ _ _ _ _ ?_ hl λi d v h1 h2=>ih i d v h1 h2 n (Ay.mp hn d (Bo h1));rcases h with(h|⟨o,h⟩)|h
   .exact .inl (.inl (hF _ _ h rfl))
   .exact .inl (.inr ⟨o,hF _ _ h rfl⟩)
   .exact .inr h
 | @dct a es kvs vvs h he hk _ ih =>
  intro n hn;cases n with
  |zero=>cases hn
  |succ n =>
   refine @Rep.dct uC _ _ _ _ kvs vvs ?_ he hk λi d v h1 h2=>ih i d v h1 h2 n ?_
   .rcases h with h|⟨o,h⟩
    .exact .inl (hF _ _ h rfl)
    .exact .inr ⟨o,hF _ _ h rfl⟩
   .subst he
    rw[AD]at h1;obtain⟨q,h3,h4⟩:=Ak.mp h1;subst h4;have hm:(Bj (q.1.map HM.Bv),q.2)∈HM.Zq kvs:=Al.mpr ⟨q,Bo h3,rfl⟩;have:=Ay.mp hn _ hm;rw[Bn]at this;exact this.2
 |fn h =>
  intro n hn;cases n with
  |zero=>cases hn
  |succ n=>have:=Ay.mp hn _ (An ..);cases this
end
section
variable{a b:Addr}{G H:Hp}{C:List Addr}{o:Obj}
theorem Rep0.cut{K:Af}{F F':Hp}(hF:∀b o,F b=Z o->te o=Ab->F' b=Z o){d:PyData}{v:V}(r:@Rep uC K F d v):@Rep uC K F' d v:=by
 induction r with
 |non=>exact @Rep.non uC _ _
 |bl b=>exact @Rep.bl uC _ _ b
 |int i=>exact @Rep.int uC _ _ i
 |str x=>exact @Rep.str uC _ _ x
 |tupk h=>exact @Rep.tupk uC _ _ _ _ h
 |tup h hl _ ih=>exact @Rep.tup uC _ _ _ _ _ (hF _ _ h rfl) hl ih
 |lst h hl _ ih =>
  refine @Rep.lst uC _ _ _ _ _ ?_ hl ih;rcases h with(h|⟨o,h⟩)|h
  .exact .inl (.inl (hF _ _ h rfl))
  .exact .inl (.inr ⟨o,hF _ _ h rfl⟩)
  .exact .inr h
 | @dct a es kvs vvs h he hk _ ih =>
  refine @Rep.dct uC _ _ _ _ kvs vvs ?_ he hk ih;rcases h with h|⟨o,h⟩
  .exact .inl (hF _ _ h rfl)
  .exact .inr ⟨o,hF _ _ h rfl⟩
 |fn h=>exact h.elim
def A5(C:List Addr)(H:Hp):Hp:=λb=>if b∈C then Z_ else H b
theorem Lj(h:b∈C):A5 C H b=Z_:=by unfold A5;rw[if_pos h]
theorem B3(h:b∉C):A5 C H b=H b:=by unfold A5;rw[if_neg h]
theorem Nq{o:HO}(h:A5 C H b=Z o):b∉C/\H b=Z o:=by
 unfold A5 at h;split at h
 .cases h
 .exact⟨by assumption,h⟩
def Fj(C:List Addr)(G H:Hp):Hp:=λb=>if b∈C then G b else H b
theorem Im(h:b∈C):Fj C G H b=G b:=by unfold Fj;rw[if_pos h]
theorem DN(h:b∉C):Fj C G H b=H b:=by unfold Fj;rw[if_neg h]
section
variable{P:Program}{w:World}{C:List Addr}{G H H':Hp}{h h':Heap}
theorem Hk(x:Z6 P w H h a (Bg a o)):h.get? a=Z o:=x.1
theorem M8(e:h.get? a=Z o):Z6 P w H h a (Bg a o):=⟨e,⟨o,e⟩,λh1 h2 q k=>k o q⟩
theorem tR.cut(x:tR P w H h)(hC:∀c∈C,∀o,H c=Z o->te o=Aa):tR P w (A5 C H) h:=λa o e=>by
 obtain⟨_,e⟩:=Nq e;have out:∀{b:Addr} {u:HO},H b=Z u->te u=Ab->A5 C H b=Z u:=λ{b u} q t=>by rw[B3 λz=>by rw[hC b z u q]at t;cases t];exact q
 exact(x a o e).stay (λ_ _ _ q=>q) (λb q=>out q rfl) λb xs q=>out q rfl
theorem tR.put(x:tR P w H h)(hn:∀c∈C,H c=Z_)(hC:∀c∈C,∀u,G c=Z u->∃o,u=Bg c o/\h.get? c=Z o):tR P w (Fj C G H) h:=λa o e=>by
 have out:∀{b:Addr} {u:HO},H b=Z u->Fj C G H b=Z u:=λ{b u} q=>by rw[DN λz=>by rw[hn b z]at q;cases q];exact q
 by_cases ha:a∈C
 .rw[Im ha]at e
  obtain⟨ob,rfl,hb⟩:=hC a ha o e;exact M8 hb
 .rw[DN ha]at e
  exact(x a o e).stay (λ_ _ _ q=>q) (λb q=>out q) λb xs q=>out q
end
structure Ny(scope:Scope)(x:Str)(names:z9):Prop where
 kind:scope.kind=.function
 co:scope.isCoroutine=Ab
 gen:scope.isGenerator=Ab
 nocell:∀y∈scope.names,y.2≠.cell
 par:scope.names.lookup x=Z .local
 free:∀n∈names,scope.names.lookup n=Z .free
 nd:(x::names).Nodup
def K5(P:Program)(w:World)(K:Af)(mg:z6)(base:Heap)(N:z9)(qual:Str)(scope:Scope)(f:Addr)(cd:Value)(sJ:List (Str×Addr))(A:Around)(outer:List Env)(s:Shared)(H:Hp):Cx where
 prog:=P
 w:=w
 K:=K
 mg:=mg
 base:=base
 A:=A.deeper (Jg qual scope s.heap.objs.size f cd sJ)
 N:=N
 s₀:=s
 H₀:=H
 env:=Jg qual scope s.heap.objs.size f cd sJ
 outer:=outer
 stack:=Jg qual scope s.heap.objs.size f cd sJ::outer
 ex:=[]
 calm:=Aa
 fn:=λ_=>Ab
 pn:=[]
 xe:=λ_ _=>False
section
variable{P:Program}{w:World}{K:Af}{mg:z6}{base:Heap}{A:Around}{outer:List Env}{s:Shared}{H:Hp}{k:Nat}
theorem kD{qual x:Str}{scope:Scope}{names:z9}{f:Addr}{cd:Value}{sJ:List (Str×Addr)}(S:Ny scope x names)(hd:A.handled=Z_)(e0:DY P w K mg base A outer s H)(inj:∀y z a,sJ.lookup y=Z a->sJ.lookup z=Z a->y=z)(has:∀y∈scope.names,y.2=.free->(sJ.lookup y.1).isSome=Aa)(vF:∀y a,sJ.lookup y=Z a->H a=Z_/\∃o v,s.heap.get? a=Z o/\o.data=.cell v){v:V}{u:Value}(rv:RelV v u){vs:List V}(sA:BC names=vs.length)(wo:∀(i:Nat) (y:Str) (v':V),names[i]?=Z y->vs[i]?=Z v'->∃a o u',sJ.lookup y=Z a/\s.heap.get? a=Z o/\o.data=.cell (Z u')/\RelV v' u'){h':Heap}{tk:Nat}(uF:h'.Ns s.heap.objs.size λy=>[(x,u)].reverse.lookup y)(t7:Fd s.heap.objs.size (s.heap.push {cls:=.type "frame",data:=.dict #[]}) h'):Inv (K5 P w K mg base (x::names) qual scope f cd sJ A outer s H) [] (Z v::vs.map Z) H {s with heap:=h',toks:=tk}:=by
 have hk:∀b o,s.heap.get? b=Z o->h'.get? b=Z o:=λb o e=>t7.extBut b o (Aw (Ar e)) (Au _ e);have xx:∀b:Addr,b∉(K5 P w K mg base (x::names) qual scope f cd sJ A outer s H).ex:=λb z=>absurd (show b∈([]:List Addr) from z) (by simp);refine⟨⟨e0.mod,S.kind,rfl,rfl,Aj _,inj,λy hy=>?_,λy c z=>absurd (show Ab=Aa from z) (by simp),λ_=>hd,a7 e0.frames,.inr ⟨rfl,rfl⟩,λb z=>absurd z (xx b),e0.bs,e0.bsz,λb _ _=>xx b,λb z=>absurd z (xx b),e0.funs,e0.frf⟩,
  rfl,e0.bare,Un.kept hk,⟨_,uF,λi y v' h1 h2 h3=>?_⟩,λy c e=>?_,e0.hok.fresh (Aj _),λy c e=>(vF y c e).1,λp hp=>absurd (show p∈([]:z7) from hp) (by simp),e0.hok.kept hk,?_⟩
 .have hy:scope.names.lookup y=Z .cell\/scope.names.lookup y=Z .free:=hy
  rcases hy with hy|hy
  .exact absurd rfl (S.nocell _ (HH hy))
  .exact DB.mp (has _ (HH hy) rfl)
 .cases i with
  |zero=>have e1:x=y:=DE h1;have e2:v=v':=DE (DE h2);subst e1 e2;exact⟨u,rv,.inl ⟨S.par,by simp⟩⟩
  |succ i=>have h1:names[i]?=Z y:=h1;have h2:(vs.map Z)[i]?=Z (Z v'):=h2;rw[AD]at h2;obtain⟨v2,h4,h5⟩:=Ak.mp h2;cases h5;obtain⟨a,o,u',q1,q2,q3,q4⟩:=wo i y v' h1 h4;exact⟨u',q4,.inr ⟨.inr (S.free y (Bo h1)),a,q1,o,hk _ _ q2,q3⟩⟩
 .obtain⟨_,o,v',q1,q2⟩:=vF y c e
  exact⟨v',o,hk _ _ q1,q2⟩
 .show(Z v::vs.map Z).length=(x::names).length
  rw[Av,Av,Ad,sA]
end
end
end HP
namespace HP
open PySem PySem.Spec PyProof.Rows L2
variable[FX]
def uK(sJ:List (Str×Addr)):List Addr:=sJ.filterMap λq=>sJ.lookup q.1
theorem Yc{sJ:List (Str×Addr)}{a:Addr}:a∈uK sJ↔∃y,sJ.lookup y=Z a:=by unfold uK;rw[CT];exact⟨λ⟨q,_,h⟩=>⟨q.1,h⟩,λ⟨y,h⟩=>⟨(y,a),HH h,h⟩⟩
theorem Tb.cut{P:Program}{w:World}{C:List Addr}{H:Hp}{h:Heap}(t:Tb H)(x:tR P w H h)(hC:∀c∈C,∃o v,H c=Z (Bg c o)/\o.data=.cell v):Tb (A5 C H):=λT q hT=>by
 obtain⟨ps,h1,h2,h3⟩:=t T q hT;refine⟨ps,?_,h2,λpos c hc=>?_⟩
 .rw[B3 λz=>by
   obtain⟨o,v,e,_⟩:=hC T z;rw[h1]at e;cases e]
  exact h1
 .obtain⟨a,o,e1,e2,e3⟩:=h3 pos c hc
  refine⟨a,o,e1,?_,e3⟩;rw[B3 λz=>by obtain⟨o',v,f1,f2⟩:=hC a z;have g1:=Hk (x a _ e2);have g2:=Hk (x a _ f1);rw[g1]at g2;cases g2;obtain⟨vs,tt,d1,_⟩:=e3;rw[d1]at f2;cases f2];exact e2
section
variable{P:Program}{w:World}{K:Af}{mg:z6}{base:Heap}{k:Nat}
theorem QP{params:Arguments}{body:Expr}{scope:Scope}{x:Str}{names:z9}{g:HM.EF}(S:Ny scope x names)(ur:∀(qual:Str) (sJ:List (Str×Addr)) (pm cd uY u:Value),bindArgs (PySem.W.kla_fn "<lambda>" qual params body scope sJ pm cd uY) ⟨[u],[]⟩=pure [(x,u)])(uD:∀(qual:Str) (f:Addr) (cd:Value) (sJ:List (Str×Addr)) (A:Around) (outer:List Env) (s:Shared) (H:Hp),AA k (A.deeper (Jg qual scope s.heap.objs.size f cd sJ))->XE (K5 P w K mg base (x::names) qual scope f cd sJ A outer s H) body g){A:Around}{outer:List Env}{s:Shared}{F H:Hp}{p:Addr}{cs:z5}(C:vo K F p params body scope names cs)(e0:DY P w K mg base A outer s H)(sub:Zs F H)(hr:AA (k+1) A)(tb:Tb H)(nt:uJ F){us:z8}{vs:List V}{ds:z5}{d:PyData}{Q:VK}(rv:sC vs us)(rs:Zu K F ds vs)(wC:HM.Ib 1 names.length g cs ds=Z d)(kk:∀v F' H',sR F H F' H'->Rep K F' d v->Q v H'):codeAny (model P w) A (.call (.ref p) ⟨us,[]⟩) (CR uU outer P w H s Q E0) s:=by
 unfold HM.Ib at wC;split at wC
 case isFalse=>cases wC
 rename_i hc;obtain⟨uj,vI,hnf⟩:=hc;obtain⟨d0,rfl⟩:=List.length_eq_one_iff.mp uj;obtain⟨v0,vs',rfl,r0,rs'⟩:=rs.cons_inv;obtain rfl:=rs'.nil_inv;obtain⟨u0,rfl,ru0⟩:=vals1 rv;have hnf0:HM.uh 20 d0=Aa:=by rw[BS,Bn]at hnf;exact hnf.1
 obtain⟨qual,pm,uY,c,oc,sJ,h1,h2,h3,h4,h5,h6,h7,h8⟩:=C.ex;generalize hCs:uK sJ=Cs;have yF:∀a,a∈Cs↔∃y,sJ.lookup y=Z a:=λa=>by rw[<-hCs];exact Yc
 have yE:∀a∈Cs,∃o v,F a=Z (Bg a o)/\o.data=.cell v/\s.heap.get? a=Z o:=λa ha=>by obtain⟨y,e⟩:=(yF a).mp ha;obtain⟨o,v,q1,q2⟩:=h6 y a e;exact⟨o,v,q1,q2,Hk (e0.hok a _ (sub _ _ q1))⟩
 have hCt:∀a∈Cs,∀o,H a=Z o->te o=Aa:=λa ha o e=>by obtain⟨ob,v,q1,_,_⟩:=yE a ha;rw[sub _ _ q1]at e;cases e;rfl
 have xF:∀a∈Cs,H a≠Z_:=λa ha z=>by obtain⟨ob,v,q1,_,_⟩:=yE a ha;rw[sub _ _ q1]at z;cases z
 have vD:∀b,H b=Z_->A5 Cs H b=Z_:=λb e=>by
  by_cases hb:b∈Cs
  .exact Lj hb
  .rw[B3 hb];exact e
 have e1:DY P w K mg base A outer s (A5 Cs H):=⟨e0.frames,e0.mod,λb o e=>⟨(e0.bs b o e).1,vD b (e0.bs b o e).2⟩,e0.bsz,e0.funs,λb hb=>vD b (e0.frf b hb),tR.cut e0.hok hCt,e0.bare⟩;have KX:K.In s.heap:=e0.mod.kin.keeps λb o e=>(e0.bs b o e).1;have lim:s.heap.NoLimit:=e0.mod.nolimit.keeps λb o e=>(e0.bs b o e).1;have tF:s.heap.CodeRec (.ref c) qual:=by obtain⟨vs,t,d1,d2⟩:=h3;exact⟨c,oc,vs,t,rfl,Hk (e0.hok c _ (sub _ _ h2)),d1,d2⟩
 refine PySem.W.kla_callFunE hr.depth (Hk (e0.hok p _ (sub _ _ h1))) rfl S.co S.gen rfl tF ?_;rw[ur];refine Ae (Ud S.nocell (λy hy=>by rw[Ax.mp hy];exact S.par) (λh' uF t7=>⟨lim.fresh _ t7,?_⟩) S.kind);show codeAny _ _ (.expr body (Jg qual scope s.heap.objs.size p (.ref c) sJ)) _ _;have hvs:∃wv:List V,BC names=wv.length/\(∀(i:Nat) (y:Str) (v':V),names[i]?=Z y->wv[i]?=Z v'->∃a o u',sJ.lookup y=Z a/\s.heap.get? a=Z o/\o.data=.cell (Z u')/\RelV v' u')/\Zu K (A5 Cs F) cs wv:=by
  have step:∀n,n<=BC cs->∃wv:List V,BC wv=n/\∀(i:Nat) (y:Str) (d:PyData) (v':V),names[i]?=Z y->cs[i]?=Z d->wv[i]?=Z v'->(∃a o u',sJ.lookup y=Z a/\s.heap.get? a=Z o/\o.data=.cell (Z u')/\RelV v' u')/\Rep K (A5 Cs F) d v':=by
   intro n
   induction n with
   |zero=>exact λ_=>⟨[],rfl,λi y d v' _ _ h=>by simp at h⟩
   |succ n ih =>
    intro hn;obtain⟨wv,l1,l2⟩:=ih (by omega);have hy:n<BC names:=by omega
    have hd:n<BC cs:=by omega
    obtain⟨a,o,u',v',q1,q2,q3,q4,q5⟩:=h8 n names[n] cs[n] (AK hy) (AK hd);refine⟨wv++[v'],by rw[AE,l1];rfl,λi y d v2 g1 g2 g3=>?_⟩
    by_cases hi:i<n
    .rw[DU (by omega)]at g3
     exact l2 i y d v2 g1 g2 g3
    .have uR:i=n:=by
      have:=(Bf.mp g3).1;rw[AE,l1]at this;have:i<n+1:=this;omega
     subst uR;rw[Fh (by omega),l1,Nat.sub_self]at g3;rw[AK hy]at g1;rw[AK hd]at g2;cases g1;cases g2;cases g3;refine⟨⟨a,o,u',q1,Hk (e0.hok a _ (sub _ _ q2)),q3,q4⟩,?_⟩;refine(Rep0.cut (λb ob z t=>?_) q5).up;rw[B3 λhb=>by obtain⟨ob',v,w1,_,_⟩:=yE b hb;rw[w1]at z;cases z;cases t];exact z
  obtain⟨wv,l1,l2⟩:=step cs.length (Aj _);refine⟨wv,by omega,λi y v' g1 g3=>?_,by omega,λi d v' g2 g3=>?_⟩
  .have hi:=(Bf.mp g3).1
   exact(l2 i y cs[i] v' g1 (AK (by omega)) g3).1
  .have hi:=(Bf.mp g3).1
   exact(l2 i names[i] d v' (AK (by omega)) g2 g3).2
 obtain⟨wv,wl,wc,wr⟩:=hvs;have cutF:∀b o,F b=Z o->te o=Ab->A5 Cs F b=Z o:=λb ob z t=>by rw[B3 λhb=>by obtain⟨ob',v,w1,_,_⟩:=yE b hb;rw[w1]at z;cases z;cases t];exact z
 have r0':Rep K (A5 Cs F) d0 v0:=(Rep.cutF cutF r0 20 hnf0).up;have sub1:Zs (A5 Cs F) (A5 Cs H):=λb o e=>by obtain⟨hb,e⟩:=Nq e;rw[B3 hb];exact sub _ _ e
 have yv:uJ (A5 Cs F):=λb o e=>nt b o (Nq e).2;have tb1:Tb (A5 Cs H):=tb.cut e0.hok λa ha=>by obtain⟨o,v,q1,q2,_⟩:=yE a ha;exact⟨o,v,sub _ _ q1,q2⟩
 have I:=kD (qual:=qual) (f:=p) (cd:=.ref c) (tk:=s.toks+1) S hr.hd e1 h4 h5 (λy a e=>by obtain⟨o,v,q1,q2,q3⟩:=yE a ((yF a).mpr ⟨y,e⟩);exact⟨Lj ((yF a).mpr ⟨y,e⟩),o,v,q3,q2⟩) ru0 wl wc uF t7;have a0:At K (A5 Cs F) (A5 Cs H) (A5 Cs F) (A5 Cs H) ((d0::cs).map λd=>Z (HM.B.pl d)) (Z v0::wv.map Z):=by
  have:=Lw (N:=x::names) sub1 tb1 yv (Zu.cons r0' wr) (by rw[Av,Av];omega);have e3:HM.aS (x::names).length (d0::cs)=(d0::cs).map λd=>Z (HM.B.pl d):=by unfold HM.aS;rw[Av,Av,show names.length+1-(BC cs+1)=0 by omega];exact Ba _
  have e4:L2.start (x::names) (v0::wv)=Z v0::wv.map Z:=by unfold L2.start;rw[Av,Av,show names.length+1-(BC wv+1)=0 by omega];exact Ba _
  rw[e3,e4]at this;exact this
 refine PySem.W.kla_codeExpr (CQ (uD qual p (.ref c) sJ A outer s (A5 Cs H) (hr.deeper _) _ _ wC [] _ _ _ (λv' H'=>∃F',sR (A5 Cs F) (A5 Cs H) F' H'/\Rep K F' d v') I ⟨_,_,_,a0,λv' F' H' x' q'=>⟨F',x',q'⟩⟩) (λu' s' hq=>?_) λe s' hq=>B7 hq);obtain⟨v',H',I',ru',F',x',q'⟩:=hq;have un:Un (vP outer) [] (A5 Cs H) H' s.heap s'.heap:=I'.base;have nfs:∀a∈Cs,a∉vP outer:=λa ha hb=>xF a ha (e0.frf a hb);have kc:∀a∈Cs,∃o,H a=Z (Bg a o)/\F a=Z (Bg a o)/\s'.heap.get? a=Z o/\H' a=Z_:=λa ha=>by obtain⟨o,v,q1,q2,q3⟩:=yE a ha;exact⟨o,sub _ _ q1,q1,un.keep a o q3 (Lj ha) (nfs a ha) (by simp),un.free a o q3 (Lj ha) (by simp)⟩
 have out:∀{b:Addr} {o:HO},H b=Z o->te o=Ab->b∉Cs:=λ{b o} e t hb=>by rw[hCt b hb o e]at t;cases t
 have outN:∀{b:Addr},H b=Z_->b∉Cs:=λ{b} e hb=>xF b hb e;have outT:∀{b:Addr} {ps:Array Value},H b=Z (.tbl ps)->b∉Cs:=λ{b ps} e hb=>by obtain⟨o,q,_⟩:=kc b hb;rw[e]at q;cases q
 refine⟨v',Fj Cs H H',I'.os,I'.bare,⟨λb o e n hb hx=>?_,λb o e n hb hx=>?_,λb o e n hx=>?_,un.there,λb xs e=>?_,λb o u e=>?_,λb ps e=>?_⟩,tR.put I'.hok (λa ha=>by obtain⟨_,_,_,_,q⟩:=kc a ha;exact q) (λa ha u e=>?_),ru',kk v' (Fj Cs F F') (Fj Cs H H') ⟨λb o e=>?_,λb o e=>?_,λb o e=>?_,λb o e=>?_,λt=>?_,λn b o e=>?_⟩ (q'.mono λb o e=>?_)⟩
 .exact un.keep b o e (vD b n) hb hx
 .exact un.slot b o e (vD b n) hb hx
 .rw[DN (outN n)];exact un.free b o e (vD b n) hx
 .have hb:=out e rfl
  rw[DN hb];exact un.tups b xs (by rw[B3 hb];exact e)
 .have hb:=out e rfl
  rw[DN hb];exact un.frzs b o u (by rw[B3 hb];exact e)
 .have hb:=outT e
  rw[DN hb];exact un.tbls b ps (by rw[B3 hb];exact e)
 .obtain⟨o,q1,_,q3,_⟩:=kc a ha
  rw[q1]at e;cases e;exact⟨o,rfl,q3⟩
 .by_cases hb:b∈Cs
  .rw[Im hb];exact e
  .rw[DN hb];exact x'.ff b o (by rw[B3 hb];exact e)
 .by_cases hb:b∈Cs
  .exact .of (by rw[Im hb];exact e)
  .exact(x'.hh b o (by rw[B3 hb];exact e)).cong (DN hb)
 .by_cases hb:b∈Cs
  .rw[Im hb]at e ⊢;exact sub _ _ e
  .rw[DN hb]at e ⊢;exact x'.sub _ _ e
 .by_cases hb:b∈Cs
  .rw[Im hb]at e;exact .inl e
  .rw[DN hb]at e
   rcases x'.new b o e with q|q
   .exact .inl (Nq q).2
   .refine .inr ?_
    unfold ym at q ⊢;rw[B3 hb]at q;exact q
 .exact(x'.tab tb1).keep λa o e _=>by rw[DN λhb=>by obtain⟨_,_,_,_,q⟩:=kc a hb;rw[e]at q;cases q];exact e
 .by_cases hb:b∈Cs
  .rw[Im hb]at e;exact n b o e
  .rw[DN hb]at e;exact x'.nts yv b o e
 .rw[DN λhb=>by
   obtain⟨_,_,_,_,q⟩:=kc b hb;rw[x'.sub _ _ e]at q;cases q]
  exact e
end
section
variable{b:Addr}{o:HO}{F H:Hp}
theorem lL{a b:Int}{cv:Value}(l:z8)(h:TriplesOk l):∀(pos:Pos) (c:Value),Kj pos (l++[rawInt a,rawInt b,cv])=Z c->Kj pos l=Z c\/c=cv:=by
 fun_induction TriplesOk l with
 |case1 =>
  intro pos c e;simp only[GH,Kj,rawInt]at e;split at e
  .cases e;exact .inr rfl
  .cases e
 |case2 x t y u z rest ih =>
  intro pos c e;simp only[TK,Kj]at e ⊢;split at e
  .rename_i hq
   rw[if_pos hq];exact .inl e
  .rename_i hq
   rw[if_neg hq];exact ih h pos c e
 |case3=>exact h.elim
def BMod(base:Heap)(mg:z6):Prop:=∃bm o,mg "__builtins__"=Z (.ref bm)/\bm≠Mo/\bm≠BD/\base.get? bm=Z o/\o.cls=.type "module"/\o.dict=Z Mo/\o.data=.plain
structure Qb(X:Cx)(t:Nat)(params:Arguments)(body:Expr)(scope:Scope)(names:z9)(is:List Nat):Prop where
 code:∃c P,X.env.code=.ref c/\FT X.K c P=Aa/\(P,X.env.qual ++ "<lambda>")∈FX.tl/\∀q,(P,q)∈FX.tl->q=X.env.qual ++ "<lambda>"
 bm:BMod X.base X.mg
 dflt:defaultsOf params X.env=([],[])
 len:BC is=names.length
 at_:∀(j i:Nat) (x:Str),is[j]?=Z i->names[j]?=Z x->X.N[i]?=Z x/\X.env.scope.names.lookup x=Z .cell
 cells:∀y∈scope.names,y.2=.free->X.env.scope.names.lookup y.1=Z .cell
 free:∀x∈names,(x,Hr)∈scope.names
 own:∀x,X.fn x=Aa
 good:∀F p cs,vo X.K F p params body scope names cs->FX.fv t cs F p
section
variable{X:Cx}{t:Nat}{params:Arguments}{body:Expr}{scope:Scope}{names:z9}{is:List Nat}{pos uI p:Pos}
structure Made(X:Cx)(params:Arguments)(body:Expr)(scope:Scope)(H H':Hp)(q:Addr)(sJ:List (Str×Addr)):Prop where
 ex:∃(pm uY:Value) (c:Addr) (oc:Obj),H' q=Z (Bg q (Ph "<lambda>" (X.env.qual ++ "<lambda>") params body scope sJ pm c uY))/\H' c=Z (Bg c oc)/\QS oc (X.env.qual ++ "<lambda>")
 hh:Bd H H'
 tb:Tb H'
theorem iY(L:Qb X t params body scope names is){su:z7}{s:Shared}{σ:L2.St}(I:Inv X su σ H s)(tb:Tb H){sJ:List (Str×Addr)}(tN:closureFor scope X.env=pure sJ):wpAny (model X.prog X.w) X.A (eval (.Lambda params body scope uI) X.env) (λu s'=>∃q H',u=.ref q/\Inv X su σ H' s'/\Made X params body scope H H' q sJ) X.xe s:=by
 obtain⟨c,P,hc,hh,hm,hu⟩:=L.code;obtain⟨ps,hP,ht,hg⟩:=tb P _ hm;have gP:s.heap.get? P=Z (Kw ps):=I.hok P _ hP;have Ns:=I.mod.glob.keeps I.bk;have CH:PySem.W.CodeHd s.heap c P:=aU I.kIn hh;obtain⟨bm,ob,b1,b2,b3,b4,b5,b6,b7⟩:=L.bm;have gb:=I.bk _ _ b4;have hbP:bm≠P:=λz=>by rw[z,gP]at gb;cases gb;cases b5
 have hgP:BD≠P:=λz=>by obtain⟨o,es,ep,e,hd,_⟩:=Ns;rw[z,gP]at e;cases e;cases hd
 have BA:s.heap.BuiltinsAt X.mg P:=⟨bm,ob,b1,b2,b3,hbP,gb,b5,b6,b7⟩;refine PySem.W.kla_eval L.dflt ?_;cases hq:Kj uI ps.toList with
 |some cv =>
  obtain⟨a,oc,rfl,h1,h2⟩:=hg uI cv hq;refine PySem.W.kla_makeFunctionHit tN I.ok.glob Ns hc CH gP ht hq BA λuY h' tk hk hz=>?_;generalize uk:Ph "<lambda>" (X.env.qual ++ "<lambda>") params body scope sJ ((X.mg "__name__").getD .none) a uY=fo;have hn:H h'.objs.size=Z_:=I.hok.fresh hz;have xn:∀b o,s.heap.get? b=Z o->(h'.push fo).get? b=Z o:=λb o e=>Au _ (hk b o e);have gq:(h'.push fo).get? h'.objs.size=Z fo:=by rw[<-uk];exact A1 _ rfl
  refine⟨h'.objs.size,upd H h'.objs.size (Bg h'.objs.size fo),rfl,?_,⟨_,uY,a,oc,by rw[ZJ,<-uk],?_,h2⟩,.of (HL hn),tb.same (HL hn)⟩
  .subst uk
   exact I.laid (t':=tk) xn hz (M8 gq)
  .rw[ZE (Dy h1 hn)];exact h1
 |none =>
  refine PySem.W.kla_makeFunction tN I.ok.glob Ns hc CH gP ht hq hgP BA λc' uY h' tk hx y8 tf hrec htab=>?_;generalize uk:Ph "<lambda>" (X.env.qual ++ "<lambda>") params body scope sJ ((X.mg "__name__").getD .none) c' uY=fo;generalize hps:ps++#[rawInt uI.line,rawInt uI.col,Bl c']=ps2 at htab;obtain⟨c2,oc,vs,tq,e2,goc,d1,d2⟩:=hrec;cases e2;have zJ:H c'=Z_:=I.hok.fresh y8;have hqn:H h'.objs.size=Z_:=I.hok.fresh (Bp y8 (F8 tf));have hcq:c'≠h'.objs.size:=Aw tf;have hcP:c'≠P:=λz=>by rw[z,hP]at zJ;cases zJ
  have hqP:h'.objs.size≠P:=λz=>by rw[z,hP]at hqn;cases hqn
  have gq:(h'.push fo).get? h'.objs.size=Z fo:=by rw[<-uk];exact A1 _ rfl
  have gc:(h'.push fo).get? c'=Z oc:=Au _ goc;have gP2:(h'.push fo).get? P=Z (Kw ps2):=Au _ htab;have xn:∀b o,b≠P->s.heap.get? b=Z o->(h'.push fo).get? b=Z o:=λb o hb e=>Au _ (hx b o hb e);generalize hH':upd (upd (upd H P (.tbl ps2)) c' (Bg c' oc)) h'.objs.size (Bg h'.objs.size fo)=H';have aq:H' h'.objs.size=Z (Bg h'.objs.size fo):=by rw[<-hH',ZJ]
  have ac:H' c'=Z (Bg c' oc):=by rw[<-hH',ZE hcq,ZJ]
  have aP:H' P=Z (.tbl ps2):=by rw[<-hH',ZE (Bi hqP),ZE (Bi hcP),ZJ]
  have ao:∀b,b≠h'.objs.size->b≠c'->b≠P->H' b=H b:=λb n1 n2 n3=>by rw[<-hH',ZE n1,ZE n2,ZE n3]
  have t5:∀b o,H b=Z o->b≠P->H' b=Z o:=λb o e n=>by rw[ao b (Dy e hqn) (Dy e zJ) n];exact e
  have nP:∀b o,H b=Z o->(∀ps,o≠.tbl ps)->b≠P:=λb o e n z=>by rw[z,hP]at e;cases e;exact n _ rfl
  have old:∀b o,s.heap.get? b=Z o->b≠h'.objs.size/\b≠c':=λb o e=>by have hb:=Ar e;exact⟨Aw (BP hb (Bp y8 (F8 tf))),Aw (BP hb y8)⟩
  have hokN:tR X.prog X.w H' (h'.push fo):=λb o e=>by
   by_cases n1:b=h'.objs.size
   .subst n1;rw[aq]at e;cases e;exact M8 gq
   .by_cases n2:b=c'
    .subst n2;rw[ac]at e;cases e;exact M8 gc
    .by_cases n3:b=P
     .subst n3;rw[aP]at e;cases e;exact gP2
     .rw[ao b n1 n2 n3]at e
      refine(I.hok b o e).stay (λd u hd z=>xn d u (λy=>?_) z) (λd z=>t5 d _ z (nP d _ z λ_ y=>by cases y)) λd xs z=>t5 d _ z (nP d _ z λ_ y=>by cases y);rcases hd with y2|y2
      .exact n3 (y2▸y)
      .exact nP d _ y2 (λ_ q=>by cases q) y
  have un:Un X.fs [] H H' s.heap (h'.push fo):=by
   refine⟨λb o e n hb hx=>?_,λb o e n hb hx=>?_,λb o e n hx=>?_,λb o e hx=>?_,λb xs e=>t5 b _ e (nP b _ e λ_ y=>by cases y),λb o u e=>t5 b _ e (nP b _ e λ_ y=>by cases y),λb pp e=>?_⟩
   .exact xn b o (λz=>by rw[z,hP]at n;cases n) e
   .exact⟨o.slots,xn b o (λz=>by rw[z,hP]at n;cases n) e⟩
   .obtain⟨n1,n2⟩:=old b o e
    rw[ao b n1 n2 (λz=>by rw[z,hP]at n;cases n)];exact n
   .by_cases n3:b=P
    .exact⟨_,by rw[n3];exact gP2⟩
    .exact⟨o,xn b o n3 e⟩
   .by_cases n3:b=P
    .subst n3
     rw[hP]at e;cases e;exact⟨_,by rw[aP,<-hps]⟩
    .exact⟨#[],by rw[t5 b _ e n3];simp⟩
  refine⟨h'.objs.size,H',rfl,?_,⟨_,uY,c',oc,by rw[aq,<-uk],ac,vs,tq,d1,d2⟩,λb o e=>?_,λT q hT=>?_⟩
  .exact I.un (t':=tk) un hokN
  .by_cases n3:b=P
   .subst n3
    rw[hP]at e;cases e;exact⟨_,aP⟩
   .exact .of (t5 b o e n3)
  .by_cases n3:T=P
   .subst n3
    obtain rfl:=hu q hT;refine⟨ps2,aP,?_,λpos' cc xo=>?_⟩
    .rw[<-hps,Array.toList_append]
     exact TriplesOk_snoc _ _ _ _ ht
    .rw[<-hps,Array.toList_append]at xo
     rcases lL _ ht _ _ xo with e|e
     .obtain⟨a,o,q1,q2,q3⟩:=hg pos' cc e
      exact⟨a,o,q1,t5 a _ q2 (nP a _ q2 λ_ y=>by cases y),q3⟩
     .exact⟨c',oc,e,ac,vs,tq,d1,d2⟩
   .obtain⟨ps',w1,w2,w3⟩:=tb T q hT
    refine⟨ps',t5 T _ w1 n3,w2,λpos' cc xo=>?_⟩;obtain⟨a,o,q1,q2,q3⟩:=w3 pos' cc xo;exact⟨a,o,q1,t5 a _ q2 (nP a _ q2 λ_ y=>by cases y),q3⟩
theorem W9{r:HM.Env}:∀{is:List Nat} {cs:z5},HM.Ye is r=Z cs->cs.length=is.length/\∀(j i:Nat),is[j]?=Z i->∃d,cs[j]?=Z d/\r[i]?=Z (Z (.pl d))
 |[],cs,h=>by cases h;exact⟨rfl,λj i e=>by simp at e⟩
 |i::is,cs,h=>by
  unfold HM.Ye at h;split at h
  .rename_i d hd
   obtain⟨cs',h1,h2⟩:=Ak.mp h;subst h2;obtain⟨l,k⟩:=W9 h1;refine⟨by rw[Av,Av,l],λj i' e=>?_⟩;cases j with
   |zero=>cases e;exact⟨d,rfl,hd⟩
   |succ j=>exact k j i' e
  .cases h
def D1(F H:Hp):Hp:=λb=>match H b with
 |some (.ext φ)=>Z (.ext φ)
 |_=>F b
theorem Nu{a:Addr}{o:Obj}(h:H a=Z (Bg a o)):D1 F H a=Z (Bg a o):=by unfold D1 Bg at *;rw[h]
theorem Q2(h:D1 F H b=Z o):(H b=Z o/\te o=Aa)\/F b=Z o:=by
 unfold D1 at h;split at h
 .rename_i φ e
  cases h;exact .inl ⟨e,rfl⟩
 .exact .inr h
theorem eI(s:Zs F H)(h:F b=Z o):D1 F H b=Z o:=by have h2:=s b o h;unfold D1;rw[h2];cases o<;>first|rfl|exact h
theorem YA{k:Nat}{x:Str}{M:z5->Option PyData}{e:Expr}{fa:HM.EF}(C:Callee X.prog X.w X.K X.mg X.base k x M)(hr:AA k X.A)(L:Qb X t params body scope names is)(ha:XE X e fa)(hg:Gl X x:=by rfl)(va:(x==("__debug__":Str))=Ab:=by decide)(he:Ag [e,.Lambda params body scope uI] X.env=(Ab,eval e X.env)::Ag [.Lambda params body scope uI] X.env:=by rfl)(he2:Ag [.Lambda params body scope uI] X.env=[(Ab,eval (.Lambda params body scope uI) X.env)]:=by rfl)(hpl:(backTo pos (Ag [.Lambda params body scope uI] X.env)).any (·.1)=Ab:=by rfl):XE X (.Call (.Name x p) [e,.Lambda params body scope uI] [] pos) (HM.LR M t is fa):=by
 intro r d hd;unfold HM.LR at hd;split at hd
 case h_2=>cases hd
 rename_i d1 hd1;split at hd
 case h_2=>cases hd
 rename_i cs wM;split at hd
 case isFalse=>cases hd
 rename_i hnc;split at hd
 case h_2=>cases hd
 rename_i d' hM;split at hd
 case isFalse=>cases hd
 rename_i u7;cases hd;obtain⟨fa',fd,ps,hl,FN,hm,hk,hb⟩:=C.ex;intro su s σ H Q I ⟨F0,H0,F,at_,kk⟩;obtain⟨sJ,tN,zc,hc2⟩:=Sw (scope:=scope) (env:=X.env) λy hy hf=>I.ok.has _ (.inl (L.cells y hy hf));refine Kp (QE I hg hm ?_ va);have lamPE:PE X (.Lambda params body scope uI) λσ' H' Q'=>Tb H'/\∀q H2,Made X params body scope H' H2 q sJ->Q' (.ref q) H2:=λpins' s' σ' H' Q' I' ⟨tb',k'⟩=>sO (iY L I' tb' tN) λu s2 ⟨q,H2,e1,I2,m⟩=>by subst e1;exact⟨.ref q,H2,I2,rfl,k' q H2 m⟩
 refine bq (h₀:=X.base) I.ok.mod.kin hk (sO (BM (ha r d1 hd1) (BM lamPE CL he2) he pos su s σ H (λvs H2=>∃v1 F1 H1 q,vs=[v1,.ref q]/\sR F H F1 H1/\Rep X.K F1 d1 v1/\Made X params body scope H1 H2 q sJ) I
  ⟨F0,H0,F,at_,λv F1 H1 x1 r1=>⟨at_.tbx x1,λq H2 m=>⟨v,F1,H1,q,rfl,x1,r1,m⟩⟩⟩) λus s2 ⟨vs,H2,I2,rv,v1,F1,H1,q,ev,x1,r1,m⟩=>⟨I2.kIn,?_⟩) he hpl
 subst ev;have t5:=at_.grow x1;have tb1:=at_.tbx x1;have yv:=at_.ntx x1;generalize hCs:uK sJ=Cs;have yF:∀a,a∈Cs↔∃y,sJ.lookup y=Z a:=λa=>by rw[<-hCs];exact Yc
 have yG:∀a∈Cs,∃y o v,X.env.cells.lookup y=Z a/\s2.heap.get? a=Z o/\o.data=.cell v/\H2 a=Z_:=λa ha=>by obtain⟨y,e⟩:=(yF a).mp ha;have e1:=zc y a e;obtain⟨v,o,h1,h2⟩:=I2.cell y a e1;exact⟨y,o,v,e1,h1,h2,I2.freeC y a e1⟩
 generalize hG:(λa:Addr=>(s2.heap.get? a).map (Bg a))=G;have hGo:∀{a:Addr} {o:Obj},s2.heap.get? a=Z o->G a=Z (Bg a o):=λ{a o} e=>by rw[<-hG];show Mj _ _=_;rw[e];rfl
 generalize hH3:Fj Cs G H2=H3;have xS:∀{a:Addr},a∈Cs->∃o v,H3 a=Z (Bg a o)/\s2.heap.get? a=Z o/\o.data=.cell v:=λ{a} ha=>by obtain⟨y,o,v,_,g1,g2,_⟩:=yG a ha;exact⟨o,v,by rw[<-hH3,Im ha];exact hGo g1,g1,g2⟩
 have uE:∀{a:Addr},a∉Cs->H3 a=H2 a:=λ{a} ha=>by rw[<-hH3,DN ha]
 have xY:Zs H2 H3:=λb o z=>by rw[uE λhb=>by obtain⟨_,_,_,_,_,_,g⟩:=yG b hb;rw[g]at z;cases z];exact z
 have cge:∀a∈Cs,X.s₀.heap.objs.size<=a:=λa ha=>by obtain⟨y,_,_,e1,_⟩:=yG a ha;exact I.ok.cab y a (L.own y) e1
 have hok3:tR X.prog X.w H3 s2.heap:=by rw[<-hH3];refine tR.put I2.hok (λa ha=>by obtain⟨_,_,_,_,_,_,g⟩:=yG a ha;exact g) λa ha u e=>?_;obtain⟨y,o,v,_,g1,g2,_⟩:=yG a ha;rw[hGo g1]at e;cases e;exact⟨o,rfl,g1⟩
 have E2:=I2.env0;have cfr:∀b∈vP X.stack,b∉Cs:=λb hb hc=>by
  obtain⟨y,o,v,e1,g1,g2,_⟩:=yG b hc;rcases As.mp (I2.stkSub b hb)with z|z
  .exact I2.cne y b e1 z
  .obtain⟨_,o',ho',_⟩:=I.ok.funs.mem z
   exact absurd (BP (Ar ho') (cge b hc)) (FU _)
 have E3:DY X.prog X.w X.K X.mg X.base X.A X.stack s2 H3:=⟨E2.frames,E2.mod,λb o z=>⟨(E2.bs b o z).1,by rw[uE λhb=>absurd (BP (Ar z) (Bp I.ok.bsz (cge b hb))) (FU _)];exact(E2.bs b o z).2⟩,E2.bsz,E2.funs,λb hb=>by rw[uE (cfr b hb)];exact E2.frf b hb,hok3,E2.bare⟩;have s12:Zs F1 H2:=λb o z=>m.hh.ntb (x1.sub b o z) (yv b o z);have s13:Zs F1 H3:=s12.trans xY;have ff:Zs F1 (D1 F1 H3):=λb o z=>eI s13 z;have s33:Zs (D1 F1 H3) H3:=λb o z=>by
  rcases Q2 z with⟨w,_⟩|w
  .exact w
  .exact s13 b o w
 have nt3:uJ (D1 F1 H3):=λb o z=>by
  rcases Q2 z with⟨w1,w2⟩|w
  .unfold D1 at z
   split at z
   .cases z;rfl
   .exact yv b o z
  .exact yv b o w
 have tb3:Tb H3:=m.tb.same xY;obtain⟨pm,uY,c,oc,m1,m2,m3⟩:=m.ex;obtain⟨cl1,cl2⟩:=W9 wM;have clo:vo X.K (D1 F1 H3) q params body scope names cs:=by
  refine⟨_,pm,uY,c,oc,sJ,Nu (xY _ _ m1),Nu (xY _ _ m2),m3,λy z a g1 g2=>I.ok.inj y z a (zc y a g1) (zc z a g2),hc2,λy a g=>?_,by rw[cl1,L.len],λj y dj g1 g2=>?_⟩
  .obtain⟨o,v,w1,w2,w3⟩:=xS ((yF a).mpr ⟨y,g⟩)
   exact⟨o,v,Nu w1,w3⟩
  .have hj:j<BC is:=by rw[L.len];exact(Bf.mp g1).1
   obtain⟨dj',g3,g4⟩:=cl2 j is[j] (AK hj);rw[g2]at g3;cases g3;obtain⟨hN,wa⟩:=L.at_ j is[j] y (AK hj) g1;obtain⟨v,w1,w2⟩:=t5.plain g4;obtain⟨mm,_,hloc⟩:=I2.loc;obtain⟨u,ru,lk⟩:=hloc is[j] y v hN w1 (.inr (.inl wa));have vJ:=hc2 _ (L.free y (Bo g1)) rfl;obtain⟨a,uT⟩:=DB.mp vJ;rcases lk with⟨k1,_⟩|⟨_,a',k1,o,k2,k3⟩
   .rw[show X.env.kindOf y=Z .cell from wa]at k1;cases k1
   .rw[zc y a uT]at k1
    cases k1;obtain⟨o',v',z1,z2,z3⟩:=xS ((yF a).mpr ⟨y,uT⟩);rw[k2]at z2;cases z2;refine⟨a,o,u,v,uT,Nu z1,k3,ru,Rep.cutF (λb ob z _=>ff b ob z) w2 20 ?_⟩;exact Ay.mp hnc dj (Bo g2)
 have fv:=L.good _ _ _ clo;have sA:=hl _ _ hM;refine Mn (Fc (FN.run X.A X.stack s2 H3 ⟨us,[]⟩ us [v1,.ref q] (λv H4=>∃F4,sR (D1 F1 H3) H3 F4 H4/\Rep X.K F4 d v) E0 hr E3 (by
  have:=hb s2 us I2.kIn (by rw[Ba,<-rv.length];exact sA)
  rwa [Ba]at this) rv ⟨D1 F1 H3,_,d,sA,s33,tb3,nt3,.cons (r1.mono ff) (.one (.fn fv)),hM,λv F4 H4 x4 q4=>⟨F4,x4,q4⟩⟩) λrs s4 hq=>?_)
 cases rs with
 |error e=>exact B7 hq
 |ok fl =>
  cases fl with
  |next=>exact B7 hq
  |brk=>exact B7 hq
  |cont=>exact B7 hq
  |ret u =>
   obtain⟨v,H4,os,bare,un,yP,ru,F4,x4,q4⟩:=hq;have c4:∀{a:Addr},a∈Cs->∃o v,H4 a=Z (Bg a o)/\s2.heap.get? a=Z o/\s4.heap.get? a=Z o/\o.data=.cell v:=λ{a} ha=>by obtain⟨o,v,w1,w2,w3⟩:=xS ha;have w4:H4 a=Z (Bg a o):=x4.hh.ntb w1 rfl;exact⟨o,v,w4,w2,Hk (yP a _ w4),w3⟩
   have wR:∀{b:Addr} {o:HO},H2 b=Z o->b∉Cs:=λ{b o} z hb=>by obtain⟨_,_,_,_,_,_,g⟩:=yG b hb;rw[g]at z;cases z
   generalize hF5:(λb:Addr=>match F4 b with|some o=>if te o=Aa then F1 b else Z o|none=>Z_)=F5;have f5:∀{b:Addr} {o:HO},F5 b=Z o->(F4 b=Z o/\te o=Ab)\/F1 b=Z o:=λ{b o} z=>by
    rw[<-hF5]at z;dsimp only at z;split at z
    .rename_i o' w
     split at z
     .exact .inr z
     .rename_i n
      cases z;exact .inl ⟨w,by simpa using n⟩
    .cases z
   have f5a:∀{b:Addr} {o:HO},F4 b=Z o->te o=Ab->F5 b=Z o:=λ{b o} z n=>by rw[<-hF5];dsimp only;rw[z];dsimp only;rw[if_neg (by rw[n];simp)]
   have f5b:∀{b:Addr} {o:HO},F1 b=Z o->F5 b=Z o:=λ{b o} z=>by
    have w:=x4.ff b o (ff b o z)
    by_cases n:te o=Aa
    .rw[<-hF5];dsimp only;rw[w];dsimp only;rw[if_pos n];exact z
    .exact f5a w (by simpa using n)
   have sub5:Zs F5 (A5 Cs H4):=λb o z=>by
    rcases f5 z with⟨w,n⟩|w
    .rw[B3 λhb=>by
      obtain⟨_,_,g,_⟩:=c4 hb;rw[x4.sub b o w]at g;cases g;cases n]
     exact x4.sub b o w
    .rw[B3 (wR (s12 b o w))]
     exact x4.sub b o (x4.ff b o (ff b o w))
   refine I2.after ⟨v,A5 Cs H4,os,bare,⟨λb o e n hb hx=>?_,λb o e n hb hx=>?_,λb o e n hx=>?_,un.there,λb xs e=>?_,λb o w e=>?_,λb pp e=>?_⟩,tR.cut yP (λa ha o e=>?_),ru,kk v F5 (A5 Cs H4) (x1.trans ⟨λb o z=>f5b z,λb o z=>?_,sub5,λb o z=>?_,λtb=>?_,λ_ b o z=>?_⟩) ((Rep.cutF (λb o z n=>f5a z n) q4 20 u7).up)⟩
   .by_cases hc:b∈Cs
    .obtain⟨o',_,_,w2,w3,_⟩:=c4 hc
     rw[e]at w2;cases w2;exact w3
    .exact un.keep b o e (by rw[uE hc];exact n) hb hx
   .exact un.slot b o e (by rw[uE (cfr b hb)];exact n) hb hx
   .by_cases hc:b∈Cs
    .exact Lj hc
    .rw[B3 hc];exact un.free b o e (by rw[uE hc];exact n) hx
   .rw[B3 (wR e)];exact un.tups b xs (xY _ _ e)
   .rw[B3 (wR e)];exact un.frzs b o w (xY _ _ e)
   .rw[B3 (wR e)];exact un.tbls b pp (xY _ _ e)
   .obtain⟨o',_,g,_⟩:=c4 ha
    rw[g]at e;cases e;rfl
   ·-- ve things stay
    have z2:=m.hh b o z;have key:∀{u:HO},H2 b=Z u->DJ (A5 Cs H4) b u:=λ{u} w=>(x4.hh b u (xY b u w)).cong (B3 (wR w));cases o<;>first|exact key z2|(obtain⟨pp,w⟩:=z2;exact(show ∃ps',_ from key w))
   .rcases f5 z with⟨w,n⟩|w
    .rcases x4.new b o w with y|y
     .rcases Q2 y with⟨_,y2⟩|y2
      .rw[n]at y2;cases y2
      .exact .inl y2
     .refine .inr ?_
      have xp:b∉Cs:=λhb=>by
       obtain⟨o',_,g,_⟩:=xS hb;rcases y with y|⟨xs,_,y⟩
       .rw[g]at y;cases y
       .rw[g]at y;cases y
      rcases y with y|⟨xs,y1,y2⟩
      .rw[uE xp]at y
       exact .inl (m.hh.free y)
      .rw[uE xp]at y2
       cases w1:H1 b with
       |none=>exact .inl w1
       |some u =>
        have:=m.hh.back w1 y2 λ_ q=>by cases q
        subst this;exact .inr ⟨xs,y1,w1⟩
    .exact .inl w
   .refine(x4.tab tb3).cut yP λa ha=>?_
    obtain⟨o,v',g1,_,_,g4⟩:=c4 ha;exact⟨o,v',g1,g4⟩
   .rcases f5 z with⟨w,_⟩|w
    .exact x4.nts nt3 b o w
    .exact yv b o w
end
end
end HP
namespace HP
open PySem
end HP
namespace HP
open PySem PySem.Spec PyProof.Rows L2
section
variable{a c f:Addr}{A:Around}{fd:FuncData}{base:Heap}{H:Hp}{tabs:List (Addr×Addr)}{outer:List Env}{N:z9}{P:Program}{K:Af}{s:Shared}{st:Stmt}{qual x:Str}{mg:z6}
structure KQ(K:Af)(x qual:Str)(st:Stmt)(f:Addr)(fd:FuncData)(c:Addr):Prop where
 ex:∃(oc:Value) (od:Option Addr) (kV ub pm:Value) (an:Option Addr) (ct:Value) (vh:Array (Option Value)),
  fd=DT x qual (El st) (B4 st) (Zf st) .none kV ub pm an (.ref c) ct/\K.lookup f=Z ⟨oc,od,.func fd,vh⟩/\Hv K (.ref c) qual=Aa
 kp:E6 K (.ref f)=Aa
theorem eR{oc:Value}{od an:Option Addr}{vh:Array (Option Value)}{kV ub pm ct:Value}(l:K.lookup f=Z ⟨oc,od,.func (DT x qual (El st) (B4 st) (Zf st) .none kV ub pm an (.ref c) ct),vh⟩)(h:Hv K (.ref c) qual=Aa)(k:E6 K (.ref f)=Aa):KQ K x qual st f (DT x qual (El st) (B4 st) (Zf st) .none kV ub pm an (.ref c) ct) c:=⟨⟨oc,od,kV,ub,pm,an,ct,vh,rfl,l,h⟩,k⟩
section
variable[FX]
theorem Ym{w:World}{k:Nat}{ps:z9}{g:HM.SF}(Fn:KQ K x qual st f fd c)(S:Zv N ps (Zf st))(hm:mg x=Z (.ref f))(hb:Binds K fd ps [])(body:∀(A:Around) (outer:List Env) (s:Shared) (H:Hp) (E:XK),AA k (A.deeper (envOfC qual (Zf st) s.heap.objs.size f (.ref c)))->wj (Eg uU P w K mg base N qual (Zf st) f (.ref c) A outer s H E).nox (B4 st) g):Callee P w K mg base (k+1) x (HM.fnOf ps.length N.length g):=by
 have hpl:BC ps<=BC N:=by have:=congrArg BC S.pre;rw[Ec]at this;omega
 refine⟨f,fd,ps,λds d h=>?_,?_,hm,Fn.kp,hb⟩
 .unfold HM.fnOf at h
  split at h
  .assumption
  .cases h
 .obtain⟨oc,od,kV,ub,pm,an,ct,vh,rfl,lk,tF⟩:=Fn.ex
  refine UG lk tF S (λvs H Q E h=>by obtain⟨_,_,_,h,_⟩:=h;exact h) λA outer s H vs Q E hr h=>?_;obtain⟨F,ds,d,hl,sub,tb,nt,q,hM,kk⟩:=h;unfold HM.fnOf at hM;split at hM
  .rename_i sY
   have a0:=Lw (N:=N) sub tb nt q (by omega);split at hM
   .rename_i r hr'
    cases hM;exact⟨_,(body A outer s H E hr _ _ hr').nox,F,H,F,a0,λσ F' H' a'=>kk .non F' H' a'.ext .non⟩
   .rename_i d' hr'
    cases hM;exact⟨_,(body A outer s H E hr _ _ hr').nox,F,H,F,a0,λv F' H' x q=>kk v F' H' x q⟩
   .cases hM
  .cases hM
def MP(N:z9)(sc scope:Scope)(names:z9)(is:List Nat):Bool :=
 decide (BC is=names.length)&&(is.zip names).all (λq=>decide (N[q.1]?=Z q.2)&&decide (sc.names.lookup q.2=Z .cell))&&scope.names.all (λy=>decide (y.2≠.free)||decide (sc.names.lookup y.1=Z .cell))&&names.all λx=>decide ((x,Hr)∈scope.names)
theorem Xp{X:Cx}{t:Nat}{params:Arguments}{body:Expr}{scope sc:Scope}{names:z9}{is:List Nat}{T:Addr}{q:Str}(ck:MP N sc scope names is=Aa)(h1:FT X.K c T=Aa)(h2:(T,q)∈FX.tl)(h3:∀q',(T,q')∈FX.tl->q'=q)(bm:BMod X.base X.mg)(good:∀F p cs,vo X.K F p params body scope names cs->FX.fv t cs F p)(hN:X.N=N:=by rfl)(hs:X.env.scope=sc:=by rfl)(hc:X.env.code=.ref c:=by rfl)(hq:X.env.qual ++ "<lambda>"=q:=by rfl)(hd:defaultsOf params X.env=([],[]):=by rfl)(ho:∀x,X.fn x=Aa:=by exact λ_=>rfl):Qb X t params body scope names is:=by
 unfold MP at ck;rw[Bn,Bn,Bn]at ck;obtain⟨⟨⟨k1,k2⟩,k3⟩,k4⟩:=ck;refine⟨⟨c,T,hc,h1,by rw[hq];exact h2,λq' z=>by rw[hq];exact h3 q' z⟩,bm,hd,of_decide_eq_true k1,λj i x e1 e2=>?_,λy hy hf=>?_,λx hx=>?_,ho,good⟩
 .have:(i,x)∈is.zip names:=Bo (i:=j) (by rw[bN];exact⟨e1,e2⟩)
  have:=Ay.mp k2 _ this;rw[Bn]at this;rw[hN,hs];exact⟨of_decide_eq_true this.1,of_decide_eq_true this.2⟩
 .have:=Ay.mp k3 y hy
  rw[Ew]at this;rw[hs];rcases this with z|z
  .exact absurd hf (of_decide_eq_true z)
  .exact of_decide_eq_true z
 .exact of_decide_eq_true (Ay.mp k4 x hx)
theorem V0{w:World}(Fn:vB K x qual st f fd)(hm:mg x=Z (.ref f))(ha:mg x=Z (.ref a))(e0:DY P w K mg base A outer s H):Tp a s.heap:=by rw[hm]at ha;cases ha;obtain⟨oc,od,kV,ub,pm,an,sN,ct,vh,rfl,lk,tF⟩:=Fn.ex;have KX:K.In s.heap:=e0.mod.kin.keeps λb o e=>(e0.bs b o e).1;exact⟨_,_,_,_,KX _ _ lk⟩
theorem WQ{w:World}{k:Nat}{M:z5->Option PyData}(C:Callee P w K mg base k x M)(ha:mg x=Z (.ref a)){F:Hp}(e0:DY P w K mg base A outer s H)(sub:Zs F H){us:z8}{vs:List V}{ds:z5}{d:PyData}{Q:VK}(hr:AA k A)(tb:Tb H)(nt:uJ F)(rv:sC vs us)(rs:Zu K F ds vs)(hM:M ds=Z d)(kk:∀v F' H',sR F H F' H'->Rep K F' d v->Q v H'):codeAny (model P w) A (.call (.ref a) ⟨us,[]⟩) (CR uU outer P w H s Q E0) s:=by
 obtain⟨f,fd,ps,hl,FN,hm,hk,hb⟩:=C.ex;rw[hm]at ha;cases ha;have KX:K.In s.heap:=e0.mod.kin.keeps λb o e=>(e0.bs b o e).1;have sA:BC vs=ps.length:=by rw[<-rs.1];exact hl _ _ hM
 refine FN.run A outer s H ⟨us,[]⟩ us vs Q E0 hr e0 ?_ rv ⟨F,ds,d,sA,sub,tb,nt,rs,hM,kk⟩;have:=hb s us KX (by rw[Ba,<-rv.length];exact sA)
 rwa [Ba]at this
end
def MV(tabs:List Addr)(H:Hp):Prop:=(∀b,H b=Z_\/(∃o xs,H b=Z (.frz o (.lst xs)))\/H b=Z (.tbl #[]))/\∀T∈tabs,H T=Z (.tbl #[])
theorem jC{w:World}{mb:z6}{k:Nat}{fa:Addr}{sp:Sp}{s₁:Shared}{vs:z8}{ns:zZ}(hT:∀q∈tabs,FT K q.1 q.2=Aa/\K.lookup q.2=Z_/\s₁.heap.get? q.2=Z (Kw #[]))(KX:K.In s₁.heap)(uF:s₁.heap.Ns BD mg)(hb:s₁.heap.Ns Mo mb)(uG:∀x:Str,x ≠ "__name__"->mb x=CD x)(hlim:s₁.heap.NoLimit)(hg:s₁.gens=#[])(ha:s₁.heap.get? a=Z {cls:=.type "list",data:=.seq vs.toArray})(hi:IntsAre vs ns)(hl:BC ns<=sizeLine)(hr:AA k callerA)(hbm:PyProof.Rows.BMain s₁.heap mg)(F:∀base:Heap,K.In base->base.Ns BD mg->BMod base mg->CF P w K mg base uU k fa fd [x] sp)(ur:∀(s:Shared) (u:Value),BindsTo s fd ⟨[u],[]⟩ [(x,u)])(ya:∀H:Hp,MV (tabs.map (·.2)) H->tQ K H a (ns.map V.int)->sp [.ref a] H (λv _=>v=.bl Aa) λ_ _ _=>False):codeAny (model P w) callerA (.call (.ref fa) ⟨[.ref a],[]⟩) (λr s'=>r=.ok (.ret (.bool Aa))/\OldK s₁.heap s'.heap/\s'.os=s₁.os/\AllBare s'.gens) s₁:=by
 have rv:=Xv hi;have lenV:=hi.length;have tne:∀q∈tabs,q.2≠a:=λq hq z=>by have:=(hT q hq).2.2;rw[z,ha]at this;cases this
 have core:∀oS:Option HO,(oS=Z_\/∃o xs,oS=Z (.frz o (.lst xs)))->(∀H:Hp,H a=oS->tQ K H a (ns.map V.int))->(∀H:Hp,∀u,oS=Z u->Z6 P w H s₁.heap a u)->(oS≠Z_->K.lookup a=Z_) ->
   codeAny (model P w) callerA (.call (.ref fa) ⟨[.ref a],[]⟩) (λr s'=>r=.ok (.ret (.bool Aa))/\OldK s₁.heap s'.heap/\s'.os=s₁.os/\AllBare s'.gens) s₁:=by
  intro oS hO hS hok0 hK;generalize hH:(λb:Addr=>if b=a then oS else if b∈tabs.map (·.2)then Z (HO.tbl #[])else Z_)=H;have Ha:H a=oS:=by rw[<-hH];exact if_pos rfl
  have Ht:∀T∈tabs.map (·.2),H T=Z (.tbl #[]):=λT hT'=>by obtain⟨q,hq,e⟩:=Al.mp hT';rw[<-hH];show(if T=a then oS else if T∈tabs.map (·.2)then Z (HO.tbl #[])else Z_)=_;rw[if_neg (by rw[<-e];exact tne q hq),if_pos hT']
  have Hc:∀b u,H b=Z u->(b=a/\oS=Z u)\/(b∈tabs.map (·.2)/\u=.tbl #[]):=λb u e=>by
   rw[<-hH]at e;dsimp only at e;split at e
   .rename_i h;exact .inl ⟨h,e⟩
   .split at e
    .rename_i h;cases e;exact .inr ⟨h,rfl⟩
    .cases e
  have wQ:∀T∈tabs.map (·.2),s₁.heap.get? T=Z (Kw #[])/\K.lookup T=Z_/\∃c,FT K c T=Aa:=λT hT'=>by obtain⟨q,hq,e⟩:=Al.mp hT';subst e;exact⟨(hT q hq).2.2,(hT q hq).2.1,q.1,(hT q hq).1⟩
  have hok:tR P w H s₁.heap:=λb u e=>by
   rcases Hc b u e with⟨rfl,e'⟩|⟨h,rfl⟩
   .exact hok0 H u e'
   .exact(wQ b h).1
  have vf:∀{b:Addr} {o:Obj},s₁.heap.get? b=Z o->H b=Z_->(Fl s₁.heap H).get? b=Z o:=λe n=>iO e n;have xx:∀{b:Addr} {o:Obj} {es:Array DictEntry} {ep:Nat},s₁.heap.get? b=Z o->o.data=.dict es ep->H b=Z_:=λ{b o es ep} e d=>by
   cases q:H b with
   |none=>rfl
   |some u =>
    rcases Hc b u q with⟨rfl,_⟩|⟨h,_⟩
    .rw[ha]at e;cases e
     have d':Data.seq vs.toArray _=Data.dict es ep:=d;cases d'
    .rw[(wQ b h).1]at e;cases e;cases d
  have nsK:∀{b:Addr} {m:z6},s₁.heap.Ns b m->(Fl s₁.heap H).Ns b m:=λ{b m} ⟨o,es,ep,e,d,r⟩=>⟨o,es,ep,vf e (xx e d),d,r⟩;have hKb:K.In (Fl s₁.heap H):=λb o e=>vf (KX b o e) (by
   cases q:H b with
   |none=>rfl
   |some u =>
    rcases Hc b u q with⟨rfl,e'⟩|⟨h,_⟩
    .rw[hK (by rw[e'];simp)]at e;cases e
    .rw[(wQ b h).2.1]at e;cases e)
  have hM:Mod K mg (Fl s₁.heap H):=⟨hKb,nsK uF,⟨mb,nsK hb,uG⟩,let ⟨mc,h1,h2⟩:=hlim;⟨mc,nsK h1,h2⟩⟩;have e0:DY P w K mg (Fl s₁.heap H) callerA [] s₁ H:=⟨rfl,hM,λb o e=>ez e,Mx (kK _ _),trivial,λb hb=>absurd (show b∈([]:List Addr) from hb) (by simp),hok,.of_eq hg⟩;have hOT:MV (tabs.map (·.2)) H:=⟨λb=>by
   cases q:H b with
   |none=>exact .inl rfl
   |some u =>
    rcases Hc b u q with⟨_,e'⟩|⟨_,rfl⟩
    .rcases hO with z|⟨o,xs,z⟩
     .rw[z]at e';cases e'
     .rw[z]at e';cases e';exact .inr (.inl ⟨o,xs,rfl⟩)
    .exact .inr (.inr rfl),Ht⟩
  have hBM:BMod (Fl s₁.heap H) mg:=by
   obtain⟨bm,ob,b1,b2,b3,b4,b5,b6⟩:=hbm;refine⟨bm,ob,b1,b2,λz=>?_,vf b3 ?_,b4,b5,b6⟩
   .obtain⟨o,es,ep,e,d,_⟩:=uF
    rw[z,e]at b3;cases b3;rw[b6]at d;cases d
   .cases q:H bm with
    |none=>rfl
    |some u =>
     rcases Hc bm u q with⟨z,_⟩|⟨h,_⟩
     .rw[z,ha]at b3;cases b3;exact absurd (show(GB "list":Value)=.type "module" from b4) (by decide)
     .rw[(wQ bm h).1]at b3;cases b3;cases b4
  refine Fc ((F _ hKb (nsK uF) hBM).run callerA [] s₁ H ⟨[.ref a],[]⟩ [.ref a] [.ref a] _ _ hr e0 (ur s₁ (.ref a)) (.cons rfl .nil) (ya H hOT (hS H Ha))) λr s' h=>?_;cases r with
  |error e=>exact B7 h
  |ok fl =>
   cases fl with
   |next=>exact B7 h
   |brk=>exact B7 h
   |cont=>exact B7 h
   |ret u =>
    obtain⟨v,H',os,bare,un,hok',r',q⟩:=h;have q':v=.bl Aa:=q;subst q';obtain rfl:u=Value.bool Aa:=r';refine⟨rfl,⟨λb o e=>?_,λb o e=>un.there b o e (by simp)⟩,os,bare⟩;cases q:H b with
    |none=>exact .inl (un.keep b o e q (by intro z;exact absurd (show b∈([]:List Addr) from z) (by simp)) (by simp))
    |some u =>
     rcases Hc b u q with⟨rfl,e'⟩|⟨h,rfl⟩
     .rcases hO with z|⟨ob,xs,z⟩
      .rw[z]at e';cases e'
      .rw[z]at e';cases e'
       have z2:=un.frzs _ ob _ q;obtain⟨e1,_⟩:=hok _ _ q;obtain⟨e2,_⟩:=hok' _ _ z2;rw[e]at e1;cases e1;exact .inl e2
     .obtain⟨g1,_,c,g3⟩:=wQ b h
      rw[g1]at e;cases e;obtain⟨more,z2⟩:=un.tbls b _ q;have z3:s'.heap.get? b=Z {cls:=.none,data:=.fields (#[]++more)}:=hok' b _ z2;refine .inr (.inl ⟨((aU KX g3).tab g1).isCodeTable,rfl,#[],more,rfl,z3⟩)
 cases hk:K.lookup a with
 |some o=>have e:=KX a o hk;rw[ha]at e;cases e;exact core Z_ (.inl rfl) (λH _=>.inr ⟨_,vs.toArray,_,hk,rfl,rfl,rfl,by rw[AR,lenV];exact hl,by simpa using rv⟩) (λH u z=>by cases z) λz=>absurd rfl z
 |none=>refine core (Z (.frz {cls:=.type "list",data:=.seq vs.toArray} (.lst (ns.map V.int)))) (.inr ⟨_,_,rfl⟩) (λH e=>.inl (.inr ⟨_,e⟩)) (λH u z=>?_) λ_=>hk;cases z;exact⟨ha,by rw[Ad];exact hl,vs,_,rv,ha⟩
theorem iS{l:TV}{n k:Nat}{q:Program}{vb:z9}{XP:z6->Heap->Prop}{YP:World->Heap->Prop}{d:DefRec}{K:Params->Af}{sp:World->Sp}(hn:l.most=Z n)(hn2:n<=sizeLine)(zI:d.params.defaults=[])(hr:AA k callerA)(hY:∀(w:World) (h:Heap),YP w h->(K w.params).In h)(hYT:∀(w:World) (h:Heap),YP w h->∀q∈tabs,h.get? q.2=Z (Kw #[]))(hT:∀(w:World),∀q∈tabs,FT (K w.params) q.1 q.2=Aa/\(K w.params).lookup q.2=Z_)
  (F:∀(w:World) (mg:z6) (fa:Addr) (h:Heap),(K w.params).In h->h.Ns BD mg->mg d.name=Z (.ref fa) ->
   ∃fd:FuncData,(∀(s:Shared) (u:Value),BindsTo s fd ⟨[u],[]⟩ [(x,u)]) /\
    ∀base:Heap,(K w.params).In base->base.Ns BD mg->BMod base mg->CF l.prog w (K w.params) mg base uU k fa fd [x] (sp w))
  (ya:∀(w:World) (H:Hp) (a:Addr) (ns:zZ),BC ns<=n->MV (tabs.map (·.2)) H->tQ (K w.params) H a (ns.map V.int)->sp w [.ref a] H (λv _=>v=.bl Aa) λ_ _ _=>False):
  PySem.W.WalkO q vb XP YP l.row.toRowW d [] (λf vs=>PySem.call f vs):=by
 refine Att.qN hn zI λw s₀ s₁ mg mb fa o pm cd ub a vs ns G Y ho hd tF zC yQ xb sA hg=>?_;have KX:=hY w _ Y;obtain⟨fd,hb,hF⟩:=F w mg fa _ KX G.T.g zC;exact jC (λq hq=>⟨(hT w q hq).1,(hT w q hq).2,hYT w _ Y q hq⟩) KX G.T.g G.T.b G.T.builtins G.T.nolimit hg yQ xb (Bp sA hn2) hr G.T.bmain hF hb λH hO hS=>ya w H a ns sA hO hS
end
def cQ:Stmt->Option (Arguments×Expr×Scope)
 | .Return (Z (.Call _ [_,.Lambda a b s _] _ _)) _=>Z (a,b,s)
 | .Assign _ (.Call _ [_,.Lambda a b s _] _ _) _=>Z (a,b,s)
 | .Return (Z (.Call _ [_] [⟨_,.Lambda a b s _,_⟩] _)) _=>Z (a,b,s)
 |_=>Z_
def QL(st:Stmt):Arguments×Expr×Scope:=((B4 st).findSome? cQ).getD default
abbrev ML(st:Stmt):Arguments:=(QL st).1
abbrev Jt(st:Stmt):Expr:=(QL st).2.1
abbrev Ei(st:Stmt):Scope:=(QL st).2.2
theorem M7{P:Program}{w:World}{K:Af}{mg:z6}{base:Heap}{A:Around}{outer:List Env}{s:Shared}{F H:Hp}{p:Addr}{params:Arguments}{body:Expr}{scope:Scope}{names:z9}{cs:z5}(C:vo K F p params body scope names cs)(e0:DY P w K mg base A outer s H)(sub:Zs F H):Tp p s.heap:=by
 obtain⟨qual,pm,uY,c,oc,sJ,h1,_⟩:=C.ex;exact⟨_,_,_,_,Hk (e0.hok p _ (sub _ _ h1))⟩
section
variable[FX]
theorem qu{K:Af}{M:z5->Option PyData}{H:Hp}{a:Addr}{ns:zZ}{tabs:List Addr}(hO:MV tabs H)(ht:∀T q,(T,q)∈FX.tl->T∈tabs)(hS:tQ K H a (ns.map V.int))(hM:M [.list (HM.uQ ns)]=Z (.bool Aa)):spD K 1 M [.ref a] H (λv _=>v=.bl Aa) λ_ _ _=>False:=by
 refine⟨C6 H,[.list (HM.uQ ns)],.bool Aa,rfl,Rn,λT q hT=>⟨#[],hO.2 T (ht T q hT),trivial,λpos c hc=>by cases hc⟩,.drop,.one (Rep.drop (.lst hS (IB (K:=K) (F:=H) ns).1 (IB ns).2)),hM,λv F1 H1 _ r=>r.bool_inv⟩
end
end HP
namespace HP
open PySem PySem.Spec PyProof.Rows L2
variable[FX]
end HP
namespace HP
open PySem PySem.W PyProof.Rows
end HP
namespace HP
open PySem PySem.Spec PyProof.Rows L2
variable[FX]
inductive HK(K:Af)(F H:Hp)(p:Addr):z5->Prop where
 |fz {o0:Obj} {kvs:List (List sL×V)} (h:H p=Z (.frz o0 (.dT kvs))):HK K F H p (kvs.map λq=>.tuple (q.1.map HM.Bv))
section
variable{X:Cx}{su:z7}{σ:L2.St}{H F:Hp}{s:Shared}{p:Addr}{ds:z5}
theorem HK.gath(I:Inv X su σ H s)(sub:Zs F H)(h:HK X.K F H p ds):Gth X s ds (Bt F H) p:=by
 cases h with
 | @fz o0 kvs h =>
  obtain⟨_,z,lo,xs,tH,o,es,ep,h1,h2,h3,h4,h5⟩:=(show Z6 X.prog X.w H s.heap p (.frz o0 (.dT kvs)) from I.hok p _ h);have hl:BC kvs=xs.length:=FV tH;have xC:es.size=xs.length:=by rw[<-Bk,h4,Ad]
  have hm:CI s.heap p es ep:=⟨o,h1,h2,h3⟩;refine⟨xs.map λq=>V.ref q.2.1,?_,λA E R hh k=>LL (We (es:=es) (ep:=ep) lo) hh hm (by omega) λh' tk acc kp hsz sW=>k _ h' tk ?_ kp⟩
  .clear h4 xC hl z h h5
   induction tH with
   |nil=>exact .nil
   | @cons p0 _ _ _ hq _ ih=>obtain⟨q1,q2,_⟩:=hq;rw[Ai,Ai];refine .cons ?_ ih;have rk:=LA (K:=X.K) (F:=Bt F H) p0.1;exact .tup (QZ q2) rk.1 rk.2
  .refine Ij (by have q:acc.toList.length=acc.size:=Bk;rw[Ad,q,sW.1,xC]) λi v u e1 e2=>?_
   obtain⟨e,q1,q2⟩:=sW.2 i u (by rw[<-Ca];exact e2);subst q2;rw[AD]at e1;obtain⟨q,e3,e4⟩:=Ak.mp e1;subst e4;rw[<-Ca,h4,AD,e3]at q1;cases q1;rfl
theorem mq(hc:X.calm=Aa):A7 X (.builtin "sorted") (λxs H Q=>∃p F ds ds',xs=[.ref p]/\Zs F H/\HK X.K F H p ds/\HM.EO ds=Z ds'/\∀l ws,H l=Z_->Zu X.K (Bt F H) ds' ws->Q (.ref l) (upd H l (.lst ws))):=aG (Src:=HK X.K) hc λI sub h=>HK.gath I sub h
def Ux(K:Af)(F H:Hp)(p:Addr)(ds:z5):Prop:=EH K F H p ds\/HK K F H p ds
theorem m7(hc:X.calm=Aa):A7 X (.builtin "sorted") (λxs H Q=>∃p F ds ds',xs=[.ref p]/\Zs F H/\Ux X.K F H p ds/\HM.EO ds=Z ds'/\∀l ws,H l=Z_->Zu X.K (Bt F H) ds' ws->Q (.ref l) (upd H l (.lst ws))):=by
 intro su s σ H xs us Q I r ⟨p,F,ds,ds',e,sub,xu,hs,q⟩;rcases xu with xu|xu
 .exact au hc su s σ H xs us Q I r ⟨p,F,ds,ds',e,sub,xu,hs,q⟩
 .exact mq hc su s σ H xs us Q I r ⟨p,F,ds,ds',e,sub,xu,hs,q⟩
end
section
variable{X:Cx}{a b c e:Expr}{f:HM.BF}{pos p:Pos}{es:List Expr}
theorem Yz(hm:X.mg "sorted"=Z_)(hc:X.calm=Aa)(ha:XB X a f)(hg:Gl X "sorted":=by rfl)(hs:Ag [a] X.env=[(Ab,eval a X.env)]:=by rfl):XF X (.Call (.Name "sorted" p) [a] [] pos) (HM.FP f):=by
 intro r d h;unfold HM.FP at h;split at h
 case h_2=>cases h
 rename_i es hx;split at h
 case h_2=>cases h
 rename_i kvs hk;obtain⟨ds',h1,h2⟩:=Ak.mp h;subst h2;refine PE.imp (FE (m7 hc) hg hm NI (Fq ha hx hs) (he:=hs)) λσ H Q ⟨F0,H0,F,at_,k⟩=>?_;refine⟨F0,H0,F,at_,λv fp F1 H1 x1 r1=>?_⟩;have key:∃l,v=.ref l/\Ux X.K F1 H1 l (kvs.map λp=>.tuple (p.1.map HM.Bv)):=by
  cases r1 with
  |pl r =>
   cases r with
   | @dct a es' kvs' vvs hr he hkk _ =>
    subst he;have e:kvs=kvs':=by rw[HM.sE]at hk;cases hk;rfl
    subst e;have e2:(kvs.map λp=>Bj (p.1.map HM.Bv))=vvs.map λp=>Bj (p.1.map HM.Bv):=by
     have:=congrArg (GC λk:List sL=>Bj (k.map HM.Bv)) hkk
     rwa [Aq,Aq]at this
    refine⟨a,rfl,?_⟩;rw[e2];rcases hr with hr|⟨o,hr⟩
    .exact .inl (.dt (x1.sub _ _ hr))
    .exact .inr (.fz (x1.sub _ _ hr))
   |fn _=>cases hk
 obtain⟨l,rfl,xu⟩:=key;exact⟨l,F1,_,ds',rfl,x1.sub,xu,h1,λl' ws hl' rs=>Hg (P:=λv _ H'=>Q v H') x1.tups rs hl' k⟩
end
end HP
namespace HP
open PySem PySem.Spec PyProof.Rows L2
section
variable{prog:Program}{w:World}{A:Around}{E:z4}{s:Shared}
theorem oo{d:Addr}{n:Nat}(hd:(d==CB)=Ab):MeetsIn prog w (Builtin.«dict.__len__» ⟨[.ref d],[]⟩) (λ_ R s=>(∃es ep,CI s.heap d es ep/\es.size=n)/\R (.ok (.ret (.int n s.toks))) {s with toks:=s.toks+1}) :=
 .of_wp λA R s ⟨⟨es,ep,⟨o,ho,hc,xQ⟩,hn⟩,h⟩=>by show wpAny _ _ (dictSize d >>= _) _ _ s;unfold dictSize;refine Ac (Ac (ME ho xQ (Ae ?_)));show wpAny _ _ (Builtin.Dict.pendingCount d >>= _) _ _ s;refine Ac (wpAny_pendingCount_other hd ?_);refine wpAny_ret_mkInt ?_;rw[Nat.add_zero,hn];exact h
theorem eY{d:Addr}{es:Array DictEntry}{ep:Nat}{Q:z4}(hd:(d==CB)=Ab)(hm:CI s.heap d es ep)(uZ:(es.size:Int)<2 ^ 63)(h:Q (.int es.size (s.toks+1)) {s with toks:=s.toks+1+1}):wpAny (model prog w) A (call (.builtin "len") [.ref d]) Q E s:=by
 refine Py kind_len plain_len entry_len (args_len1 _) ?_;unfold Builtin.«len»;refine Ac (m:=oneArg "len" _) (Ae ?_);refine Ac (m:=callSpecial? (.ref d) (FY "__len__")) (wpAny_callSpecial?_slot (name:=FY "__len__") hm.typeIs F.slot_dict_len
  (call_meetsIn F.slot_dict_len hm.typeIs F.entry_dict_len (F.args_dict_len_1 _) (oo (n:=es.size) hd) ⟨⟨es,ep,hm,rfl⟩,?_⟩))
 show wpAny _ _ _ _ _ {s with toks:=s.toks+1};refine Ac (Cd (Ae ?_));refine Ac (Mz ?_);show wpAny _ _ (if((es.size:Nat):Int)<0 then _ else _) _ _ _;rw[if_neg (by omega)];show wpAny _ _ (if((es.size:Nat):Int) ≥ 2 ^ 63 then _ else _) _ _ _;rw[if_neg (by omega)];exact Ac (wpAny_mkInt (Ae ⟨_,rfl,h⟩))
end
variable[FX]
section
variable{X:Cx}{a b c e:Expr}{f:HM.BF}{pos p:Pos}{es:List Expr}
omit [FX]in
theorem kE:A7 X (.builtin "len") (λxs H Q=>∃p kvs,xs=[.ref p]/\Rd H p (.dT kvs)/\Q (.int kvs.length) H):=by
 intro su s σ H xs us Q I r h;obtain⟨p,kvs,rfl,hr,q⟩:=h;obtain⟨u,rfl,ru⟩:=vals1 r;cases ru;have ob:Z6 X.prog X.w H s.heap p (.dT kvs):=by
  rcases hr with hr|⟨o,hr⟩
  .exact I.hok p _ hr
  .exact(show Z6 X.prog X.w H s.heap p (.frz o (.dT kvs)) from I.hok p _ hr).2
 obtain⟨z,lo,xs,tH,o,es,ep,h1,h2,h3,h4,h5⟩:=ob;have hl:BC kvs=xs.length:=FV tH;have xC:es.size=xs.length:=by rw[<-Bk,h4,Ad]
 have hm:CI s.heap p es ep:=⟨o,h1,h2,h3⟩;have e:es.size=kvs.length:=by omega
 refine eY lo hm (by rw[BR]at z;omega) ?_;rw[e];exact⟨.int kvs.length,H,I.tok _,⟨s.toks+1,rfl⟩,q⟩
theorem Nh(hm:X.mg "len"=Z_)(ha:XB X a f)(hg:Gl X "len":=by rfl)(hs:Ag [a] X.env=[(Ab,eval a X.env)]:=by rfl):XE X (.Call (.Name "len" p) [a] [] pos) (HM.DK f):=by
 intro r d h;unfold HM.DK at h;split at h
 case h_2=>cases h
 rename_i es hx;split at h
 case h_2=>cases h
 rename_i kvs hk;cases h;refine PE.imp (FE kE hg hm U6 (Fq ha hx hs) (he:=hs)) λσ H Q ⟨F0,H0,F,at_,k⟩=>?_;refine⟨F0,H0,F,at_,λv fp F1 H1 x1 r1=>?_⟩;cases r1 with
 |pl r =>
  cases r with
  | @dct a es' kvs' vvs hr he hkk _ =>
   subst he;have e:kvs=kvs':=by rw[HM.sE]at hk;cases hk;rfl
   subst e;have e2:BC kvs=vvs.length:=by
    have:=congrArg BC hkk
    rwa [Ad,Ad]at this
   refine⟨a,vvs,rfl,Lo hr x1.sub,?_⟩;rw[<-e2];exact k (.int kvs.length) F1 H1 x1 (.int _)
  |fn _=>cases hk
end
end HP
namespace HT
open PySem PySem.Spec PyProof.Rows L2
end HT
namespace HP
open PySem PySem.Spec PyProof.Rows L2
end HP
namespace HP
open PySem PySem.Spec PyProof.Rows L2
variable[FX]
end HP
namespace HP
open PySem PySem.Spec PyProof.Rows L2
section
variable[FX]{X:Cx}{e:Expr}{t:HM.TF}
theorem fF(i:Nat)(h:XT X e t):XT X e (HM.UP i t):=by intro r c hc su s σ H Q I ⟨F0,H0,F,at_,k⟩;obtain⟨F1,_,s1,a1⟩:=at_.freeze i;exact h (HM.NG i r) c hc su s σ H Q I ⟨F0,H0,F1,a1,λF' H' x=>k F H' ⟨Zs.refl F,x.hh,(s1.trans x.ff).trans x.sub,λ_ _ h=>.inl h,x.tab,id⟩⟩
end
end HP
namespace HP
open PySem PySem.W PyProof.Rows
section
variable{prog:Program}{w:World}{A:Around}{E:z4}{s:Shared}
theorem WS:∀{vs:z8} {ns:zZ},IntsAre vs ns->ItemsAre (intKind prog w) ns vs
 |_,_,.nil=>.nil
 |_,_,.cons n t h=>.cons (Km _ _ _ _) (WS h)
theorem du{h:Heap}{b:Addr}{t:zZ}(x:TI h b t):IsTupleKey (intKind prog w) h t b:=by obtain⟨o,sy,n,e1,e2,e3,e4⟩:=x;exact⟨o,sy,n,e1,e2,e3,WS e4⟩
end
end HP
namespace HP
open PySem PySem.Spec PyProof.Rows L2
variable[FX]
section
variable{X:Cx}{su:z7}{σ:L2.St}{H FS:Hp}{s:Shared}
theorem mx{K:Af}{F:Hp}{t:zZ}{v:V}(rp:Rep K F (.tuple (HM.uQ t)) v):∃c,v=.ref c/\F c=Z (.tup (t.map V.int)):=by
 generalize hq:HM.uQ t=q at rp;cases rp with
 | @tupk b x h1 =>
  exfalso;cases t with
  |nil=>cases hq
  |cons a t =>
   injection hq with e1 _
   cases e1
 | @tup b _ xs hb hl hr=>subst hq;have ev:=G9 (F:=F) (QO t) ⟨hl,hr⟩;subst ev;exact⟨b,rfl,hb⟩
variable{k:Nat}{params:Arguments}{body:Expr}{scope:Scope}{x:Str}{q:Addr}{ts:z0}{ws:List V}{sy:z8}{P:PySem.Fin->Shared->Prop}{E:z4}
end
end HP
namespace HP
open PySem PySem.W PyProof.Rows
end HP
namespace HP
open PySem PySem.Spec PyProof.Rows L2
variable[FX]
end HP
namespace HP
open PySem PySem.Spec PySem.W PySem.Calls PyProof.Rows L2
variable[FX]
end HP
namespace HP
open PySem PyProof.Rows
section
variable{i j m:Nat}
def wK(m:Nat)(p:Dz):Dz :=
 if p.more > 0 then {p with j:=p.j+1,more:=p.more-1}else
 {p with j:=(Co m p.i p.perturb).1,more:=Cp m (Co m p.i p.perturb).1-(Co m p.i p.perturb).1,i:=(Co m p.i p.perturb).1,perturb:=(Co m p.i p.perturb).2}
def AG(m:Nat):Nat->Dz->Dz
 |0,p=>p
 |n+1,p=>AG m n (wK m p)
theorem He{m:Nat}:∀(a b:Nat) (p:Dz),AG m (a+b) p=AG m b (AG m a p)
 |0,b,p=>by rw[Nat.zero_add];rfl
 |a+1,b,p=>by rw[Nat.add_right_comm];exact He a b (wK m p)
theorem jI(n:Nat)(p:Dz):AG m (n+1) p=wK m (AG m n p):=He n 1 p
theorem Yd(p:Dz):(wK m p).dummy=p.dummy:=by unfold wK;split<;>rfl
theorem Yj{m:Nat}:∀(n:Nat) (p:Dz),(AG m n p).dummy=p.dummy
 |0,_=>rfl
 |n+1,p=>(Yj n (wK m p)).trans (Yd p)
def wx(m:Nat)(h:Int):Dz:=⟨A9 h%(m+1),Cp m (A9 h%(m+1))-A9 h%(m+1),A9 h%(m+1),A9 h,Z_⟩
def sU(m:Nat)(h:Int)(k:Nat):Nat:=(AG m k (wx m h)).j
def lst(m i b:Nat):Dz:=⟨i,Cp m i-i,i,b,Z_⟩
def uW(m:Nat):Nat->Nat×Nat->Nat×Nat
 |0,x=>x
 |n+1,x=>uW m n (Co m x.1 x.2)
theorem Li{m:Nat}:∀(a b:Nat) (x:Nat×Nat),uW m (a+b) x=uW m b (uW m a x)
 |0,b,x=>by rw[Nat.zero_add];rfl
 |a+1,b,x=>by rw[Nat.add_right_comm];exact Li a b _
theorem gd(m i:Nat):Cp m i-i<=9:=by unfold Cp;split<;>omega
theorem Qs(m i:Nat):i<=Cp m i:=by unfold Cp;split<;>omega
theorem VQ(h:i<=m):Cp m i<=m:=by unfold Cp;split<;>omega
theorem Qr{m:Nat}:∀(k j more i b:Nat),k<=more->AG m k ⟨j,more,i,b,Z_⟩=⟨j+k,more-k,i,b,Z_⟩
 |0,j,more,i,b,_=>rfl
 |k+1,j,0,i,b,h=>by omega
 |k+1,j,more+1,i,b,h=>by have e:wK m ⟨j,more+1,i,b,Z_⟩=⟨j+1,more,i,b,Z_⟩:=rfl;show AG m k (wK m ⟨j,more+1,i,b,Z_⟩)=_;rw[e,Qr k (j+1) more i b (by omega)];congr 1<;>omega
theorem Wj(j more i b:Nat):AG m (more+1) ⟨j,more,i,b,Z_⟩=lst m (Co m i b).1 (Co m i b).2:=by rw[jI,Qr more j more i b (Aj _),Nat.sub_self];rfl
theorem reach{m:Nat}:∀(n i b:Nat),∃N,N<=10*n/\n<=N/\AG m N (lst m i b)=lst m (uW m n (i,b)).1 (uW m n (i,b)).2
 |0,i,b=>⟨0,Aj _,Aj _,rfl⟩
 |n+1,i,b=>by obtain⟨N,h1,h2,h3⟩:=reach n (Co m i b).1 (Co m i b).2;have hr:=gd m i;refine⟨(Cp m i-i+1)+N,by omega,by omega,?_⟩;rw[He];have:AG m (Cp m i-i+1) (lst m i b)=lst m (Co m i b).1 (Co m i b).2:=Wj _ _ _ _;rw[this,h3];rfl
theorem Qq{m:Nat}:∀(n i b:Nat),(uW m n (i,b)).2=b / 32 ^ n
 |0,i,b=>by simp[uW]
 |n+1,i,b=>by have:=Qq (m:=m) n ((i*5+1+b / 32)%(m+1)) (b / 32);show(uW m n ((i*5+1+b / 32)%(m+1),b / 32)).2=_;rw[this,Nat.div_div_eq_div_mul,Nat.pow_succ,Nat.mul_comm 32]
theorem VC(m i b:Nat):(Co m i b).1<=m:=MD (ON _ (Mw m))
theorem U7{m:Nat}:∀(n i b:Nat),i<=m->(uW m n (i,b)).1<=m
 |0,i,b,h=>h
 |n+1,i,b,h=>U7 n _ _ (VC m i b)
def orb(m:Nat):Nat->Nat×Nat->List Nat
 |0,_=>[]
 |n+1,x=>x.1::orb m n (Co m x.1 x.2)
theorem VF{m:Nat}:∀(n:Nat) (x:Nat×Nat) {j:Nat},j∈orb m n x->∃k,k<n/\(uW m k x).1=j
 |0,x,j,h=>by cases h
 |n+1,x,j,h=>by
  rcases As.mp h with rfl|h
  .exact⟨0,Mw _,rfl⟩
  .obtain⟨k,hk,e⟩:=VF n _ h
   exact⟨k+1,by omega,e⟩
def Mk(m:Nat):Prop:=m=7\/m=31\/m=127
theorem fU(hm:Mk m):((Ah (m+1)).all λj=>(orb m (m+1) (0,0)).contains j)=Aa/\(uW m (m+1) (0,0))=(0,0):=by rcases hm with rfl|rfl|rfl<;>exact⟨by decide +kernel,by decide +kernel⟩
theorem eQ(n i:Nat):uW m n (i,0)=((uW m n (i,0)).1,0):=by have:=Qq (m:=m) n i 0;rw[Nat.zero_div]at this;exact Prod.ext rfl this
theorem cG(hm:Mk m)(hi:i<=m)(hj:j<=m):∃n,n<=m/\(uW m n (i,0)).1=j:=by
 obtain⟨h1,h2⟩:=fU hm;have key:∀x,x<=m->∃k,k<=m/\(uW m k (0,0)).1=x:=λx hx=>by have:=Ay.mp h1 x (AI.mpr (Nat.lt_succ_of_le hx));obtain⟨k,hk,e⟩:=VF _ _ (Ue.mp this);exact⟨k,MD hk,e⟩
 obtain⟨a,ha,ea⟩:=key i hi;obtain⟨b,hb,eb⟩:=key j hj;have ei:uW m a (0,0)=(i,0):=by rw[eQ,ea]
 by_cases hab:a<=b
 .refine⟨b-a,by omega,?_⟩
  rw[<-ei,<-Li,Nat.add_sub_cancel' hab,eb]
 .refine⟨m+1+b-a,by omega,?_⟩
  rw[<-ei,<-Li,show a+(m+1+b-a)=(m+1)+b by omega,Li,h2,eb]
theorem fP(h:Int):A9 h<2 ^ 64:=by unfold A9;omega
theorem Xo(hm:Mk m)(h:Int)(hj:j<=m):∃n,n<=13+m/\(uW m n (A9 h%(m+1),A9 h)).1=j:=by
 have hb:=fP h;have h13:=Qq (m:=m) 13 (A9 h%(m+1)) (A9 h);have h65:(32:Nat) ^ 13=2 ^ 65:=by decide
 have hz:A9 h / 32 ^ 13=0:=Nat.div_eq_of_lt (by rw[h65];omega);rw[hz]at h13;obtain⟨n,hn,e⟩:=cG hm (U7 13 (A9 h%(m+1)) (A9 h) (MD (ON _ (Mw m)))) hj;refine⟨13+n,by omega,?_⟩;rw[Li,show uW m 13 (A9 h%(m+1),A9 h)=((uW m 13 (A9 h%(m+1),A9 h)).1,0) from Prod.ext rfl h13];exact e
theorem km(hm:Mk m)(h:Int)(hj:j<=m):∃N,N<10*Eu m/\sU m h N=j:=by obtain⟨n,hn,e⟩:=Xo hm h hj;obtain⟨N,h1,_,h3⟩:=reach (m:=m) n (A9 h%(m+1)) (A9 h);refine⟨N,by unfold Eu;omega,?_⟩;unfold sU;have:wx m h=lst m (A9 h%(m+1)) (A9 h):=rfl;rw[this,h3];exact e
def Pok(m:Nat)(p:Dz):Prop:=p.i<=m/\p.j+p.more<=m
theorem f7{p:Dz}(h:Pok m p):Pok m (wK m p):=by
 unfold wK;split
 .exact⟨h.1,by have:=h.2;dsimp only;omega⟩
 .have h1:=VC m p.i p.perturb
  have h2:=VQ h1;have h3:=Qs m (Co m p.i p.perturb).1;refine⟨h1,?_⟩;dsimp only;omega
theorem VI{m:Nat}:∀(n:Nat) {p:Dz},Pok m p->Pok m (AG m n p)
 |0,_,h=>h
 |n+1,p,h=>VI n (f7 h)
theorem QI(m:Nat)(h:Int)(k:Nat):sU m h k<=m:=by have h1:A9 h%(m+1)<=m:=MD (ON _ (Mw m));have h2:=VQ h1;have h3:=Qs m (A9 h%(m+1));have:=(VI (m:=m) k (p:=wx m h) ⟨h1,by unfold wx;dsimp only;omega⟩).2;unfold sU;omega
theorem jQ{t:SetTable}(hd:t.dummies=#[])(hr:Dq t.place)(j:Nat):(j∈t.place.toList/\∃i,t.slot j=.live i/\t.place[i]?=Z j)\/(j∉t.place.toList/\t.slot j=.empty):=by
 by_cases q:t.place[Am t.place j]?=Z j
 .left
  refine⟨?_,Am t.place j,?_,q⟩
  .rw[<-Ca]at q
   exact Bo q
  .unfold Tj
   dsimp only;rw[if_pos (by simpa using q)]
 .right
  constructor
  .intro hj
   obtain⟨i,hi,e⟩:=Jk hj;obtain⟨b1,b2,b3⟩:=Iy hr j;have hi':i<t.place.size:=by simpa using hi
   have ge:t.place.getD i 0=j:=by simpa [Dh,hi']using e
   have tf:Am t.place j<=i:=by apply Kz;intro z;have:=b2 i z;omega
   by_cases hq:Am t.place j=i
   .apply q
    rw[hq,Ga hi'];simpa using e
   .have hl:Am t.place j<i:=by omega
    have h1:=hr.lt hi' hl;have h2:=b3 _ (Aj _) (by omega);omega
  .unfold Tj
   dsimp only;rw[if_neg (by simpa using q),hd,has_none,if_neg (by simp)]
theorem V9{t:SetTable}(hd:t.dummies=#[])(hr:Dq t.place)(hashAt:Nat->Int)(h:Int):∀(sI N:Nat) (p:Dz),p.dummy=Z_->N<sI->(AG t.mask N p).j∉t.place.toList ->∃k,k<=N/\(∀k',k'<k->(AG t.mask k' p).j∈t.place.toList/\∀i,t.place[i]?=Z (AG t.mask k' p).j->hashAt i≠h) /\
      (((AG t.mask k p).j∉t.place.toList /\ HE t hashAt h sI p = Z (.empty (AG t.mask k p).j Z_)) \/
        ((AG t.mask k p).j∈t.place.toList/\k<N/\∃i,t.slot (AG t.mask k p).j=.live i/\t.place[i]?=Z (AG t.mask k p).j/\hashAt i=h/\HE t hashAt h sI p=Z (.candidate (AG t.mask k p).j i (AG t.mask (k+1) p))))
  | 0,N,p,_,hN,_=>by omega
  | sI + 1, N, p, hp, hN, he => by
    have inj:∀{i i':Nat} {j:Nat},t.place[i]?=Z j->t.place[i']?=Z j->i=i':=λ{i i' j} e1 e2=>by
      obtain⟨l1,f1⟩:=HB.mp e1
      obtain⟨l2,f2⟩:=HB.mp e2
      rcases Tr i i' with z | z | z
      · have := hr.lt l2 z
        simp[Dh,l1,l2,f1,f2]at this
      · exact z
      · have := hr.lt l1 z
        simp[Dh,l1,l2,f1,f2]at this
    rcases jQ hd hr p.j with⟨q,i,e,ei⟩ | ⟨q,e⟩
    · have hN0 : N ≠ 0 := fun z => by subst z; exact he q
      obtain⟨N',rfl⟩:∃N',N=N'+1:=⟨N-1,by omega⟩
      by_cases hq:hashAt i=h
      · refine ⟨0, BQ _, fun k' hk => absurd hk (Pg _), .inr ⟨q, Mw _, i, e, ei, hq, ?_⟩⟩
        unfold HE
        rw[e]
        dsimp only
        rw[if_pos (by simpa using hq)]
        rfl
      · obtain ⟨k, hk, hb, hor⟩ := V9 hd hr hashAt h sI N' (wK t.mask p) ((Yd p).trans hp) (by omega) he
        have w6:HE t hashAt h (sI+1) p=HE t hashAt h sI (wK t.mask p):=by
          conv=>lhs; unfold HE
          rw[e]
          dsimp only
          rw[if_neg (by simpa using hq)]
          rfl
        refine⟨k+1,by omega,λk' hk'=>?_,?_⟩
        · cases k' with
          | zero=>exact⟨q,λi' e'=>by rw[inj e' ei]; exact hq⟩
          | succ k'=>exact hb k' (by omega)
        · rw [w6]
          rcases hor with⟨a1,a2⟩ | ⟨a1,a2,a3⟩
          · exact .inl ⟨a1,a2⟩
          · exact .inr ⟨a1,by omega,a3⟩
    · refine ⟨0, BQ _, fun k' hk => absurd hk (Pg _), .inl ⟨q, ?_⟩⟩
      unfold HE
      rw[e,hp]
      rfl
end
section
variable{owner:Array (Option Nat)}{b:Bool}{hs:zZ}{j m:Nat}
def Fr(owner:Array (Option Nat))(j:Nat):Prop:=(owner.getD j (Z 0)).isNone=Aa
theorem Qp:Fr owner j↔owner[j]?=Z Z_:=by
 unfold Fr;rw[Pz];cases h:owner[j]? with
 |none=>simp
 |some x=>cases x<;>simp
theorem VN{m:Nat}{owner:Array (Option Nat)}:∀(sI n i b:Nat),n<sI->Fr owner (uW m n (i,b)).1 ->∃k,(∀k',k'<k->¬Fr owner (AG m k' (lst m i b)).j)/\Fr owner (AG m k (lst m i b)).j/\PH m owner sI i b=Z (AG m k (lst m i b)).j
 |0,n,i,b,h,_=>by omega
 |sI+1,n,i,b,h,hf=>by
  have hr:=Qs m i;have uR:∀k,k<Cp m i+1-i->(AG m k (lst m i b)).j=i+k:=λk hk=>by unfold lst;rw[Qr k i _ i b (by omega)]
  unfold PH;cases q:(Ah (Cp m i+1-i)).find? λk=>(owner.getD (i+k) (Z 0)).isNone with
  |some k =>
   obtain⟨q1,q2,q3⟩:=bI.mp q;have q2:=AI.mp q2;refine⟨k,λk' hk' vJ=>?_,?_,?_⟩
   .rw[uR k' (by omega)]at vJ
    have:=q3 k' hk';unfold Fr at vJ;rw[vJ]at this;cases this
   .rw[uR k q2]
    exact q1
   .rw[uR k q2]
  |none =>
   have q':=List.find?_eq_none.mp q;have u6:∀k,k<Cp m i+1-i->¬Fr owner (i+k):=λk hk vJ=>q' k (AI.mpr hk) vJ;have hn:n≠0:=λz=>by subst z;exact u6 0 (by omega) hf
   obtain⟨n',rfl⟩:∃n',n=n'+1:=⟨n-1,by omega⟩;obtain⟨k,k1,k2,k3⟩:=VN sI n' (Co m i b).1 (Co m i b).2 (by omega) hf;have vC:AG m (Cp m i-i+1) (lst m i b)=lst m (Co m i b).1 (Co m i b).2:=Wj _ _ _ _;refine⟨Cp m i-i+1+k,λk' hk'=>?_,?_,?_⟩
   .by_cases hk:k'<Cp m i+1-i
    .rw[uR k' hk]
     exact u6 k' hk
    .obtain⟨k'',rfl⟩:∃k'',k'=Cp m i-i+1+k'':=⟨k'-(Cp m i-i+1),by omega⟩
     rw[He,vC];exact k1 k'' (by omega)
   .rw[He,vC]
    exact k2
   .rw[He,vC]
    exact k3
theorem jz(hm:Mk m)(h:Int)(hj:j<=m)(hf:Fr owner j):∃k,(∀k',k'<k->¬Fr owner (sU m h k'))/\Fr owner (sU m h k)/\PH m owner (Eu m) (A9 h%(m+1)) (A9 h)=Z (sU m h k):=by
 obtain⟨n,hn,e⟩:=Xo hm h hj;exact VN (Eu m) n _ _ (by unfold Eu;omega) (by rw[e];exact hf)
structure Ge(m:Nat)(owner:Array (Option Nat))(hs:zZ):Prop where
 size:owner.size=m+1
 at_:∀(j k:Nat),owner[j]?=Z (Z k)->k<BC hs/\∃n,sU m (hs.getD k 0) n=j/\∀n',n'<n->∃k',owner[sU m (hs.getD k 0) n']?=Z (Z k')
 all:∀k,k<BC hs->∃j:Nat,owner[j]?=Z (Z k)
 one:∀(j j' k:Nat),owner[j]?=Z (Z k)->owner[j']?=Z (Z k)->j=j'
theorem Ge.nil(m:Nat):Ge m (Pf (m+1) Z_) []:=by
 have no:∀j k,(Pf (m+1) (Z_:Option Nat))[j]?≠Z (Z k):=λj k h=>by rw[Array.getElem?_replicate]at h;split at h<;>simp at h
 exact⟨Array.size_replicate,λj k h=>absurd h (no j k),λk hk=>absurd hk (Pg _),λj j' k h _=>absurd h (no j k)⟩
theorem Ge.room(o:Ge m owner hs)(hl:BC hs<=m):∃j,j<=m/\Fr owner j:=by
 apply Jj;intro u6;have hk:∀j,j∈Ah (m+1)->∃k,owner[j]?=Z (Z k):=λj hj=>by
  have hj':=AI.mp hj;have tf:j<owner.size:=by rw[o.size];exact hj'
  cases q:owner[j]with
  |none=>exact absurd ⟨j,by omega,Qp.mpr (by rw[Ga tf,q])⟩ u6
  |some k=>exact⟨k,by rw[Ga tf,q]⟩
 let f:Nat->Nat:=λj=>(owner.getD j Z_).getD 0
 have hf:∀j k,owner[j]?=Z (Z k)->f j=k:=λj k e=>by show(owner.getD j Z_).getD 0=k;rw[Pz,e];rfl
 have u7:((Ah (m+1)).map f).Nodup:=by refine Kn.mpr (Uh (R:=λa b=>a<b) (λ{a b} ha hb hab e=>?_) T4);obtain⟨ka,ea⟩:=hk a ha;obtain⟨kb,eb⟩:=hk b hb;rw[hf a ka ea,hf b kb eb]at e;subst e;have:=o.one a b ka ea eb;omega
 have:=BW (l₂:=Ah hs.length) u7 λx hx=>by obtain⟨j,hj,rfl⟩:=Al.mp hx;obtain⟨k,e⟩:=hk j hj;rw[hf j k e];exact AI.mpr (o.at_ j k e).1
 rw[Ad,DC,DC]at this;omega
def Ln(m:Nat)(acc:Option (Array (Option Nat)×Nat))(h:Int):Option (Array (Option Nat)×Nat):=do
 let (owner,k) <-acc
 let j <-PH m owner (Eu m) (A9 h%(m+1)) (A9 h)
 pure (owner.setIfInBounds j (Z k),k+1)
theorem l8(m:Nat)(hs:zZ):O9 m hs.toArray=(hs.foldl (Ln m) (Z (Pf (m+1) Z_,0))).map (·.1):=by unfold O9;rw[<-Array.foldl_toList];rfl
theorem Wx{m:Nat}(hm:Mk m):∀(rest done:zZ) (owner:Array (Option Nat)),Ge m owner done->(done++rest).length<=m ->∃owner',rest.foldl (Ln m) (Z (owner,done.length))=Z (owner',(done++rest).length)/\Ge m owner' (done++rest)
 |[],done,owner,o,_=>⟨owner,by rw[Ba];rfl,by rw[Ba];exact o⟩
 |h::rest,done,owner,o,hl=>by
  rw[AE,Av]at hl;obtain⟨j0,hj0,hf0⟩:=o.room (by omega);obtain⟨k,k1,k2,k3⟩:=jz hm h hj0 hf0;have hple:=QI m h k;generalize hj:sU m h k=j at *;have hsz:j<owner.size:=by rw[o.size];omega
  have xM:∀x,(owner.setIfInBounds j (Z done.length))[x]?=if j=x then Z (Z done.length)else owner[x]?:=λx=>by
   rw[Array.getElem?_setIfInBounds]
   by_cases q:j=x
   .subst q;rw[if_pos rfl,if_pos hsz,if_pos rfl]
   .rw[if_neg q,if_neg q]
  have ud:=Qp.mp k2;have wZ:∀x y,owner[x]?=Z (Z y)->(owner.setIfInBounds j (Z done.length))[x]?=Z (Z y):=λx y e=>by rw[xM,if_neg (λz=>by subst z;rw[ud]at e;cases e)];exact e
  have hgd:∀x,x<BC done->(done++[h]).getD x 0=done.getD x 0:=λx hx=>by rw[HA,HA,DU hx]
  have yz:(done++[h]).getD done.length 0=h:=by rw[HA,Fh (Aj _),Nat.sub_self];rfl
  have o':Ge m (owner.setIfInBounds j (Z done.length)) (done++[h]):=by
   refine⟨by rw[Array.size_setIfInBounds];exact o.size,λx y e=>?_,λy hy=>?_,λx x' y e e'=>?_⟩
   .rw[xM]at e
    by_cases q:j=x
    .subst q
     rw[if_pos rfl]at e;cases e;refine⟨by simp,k,by rw[yz];exact hj,λn' hn'=>?_⟩;rw[yz];have hnf:=k1 n' hn';have hpl:=QI m h n';have tf:sU m h n'<owner.size:=by rw[o.size];omega
     cases q:owner[sU m h n']with
     |none=>exact absurd (Qp.mpr (by rw[Ga tf,q])) hnf
     |some z=>exact⟨z,wZ _ _ (by rw[Ga tf,q])⟩
    .rw[if_neg q]at e
     obtain⟨a1,n,a2,a3⟩:=o.at_ x y e;refine⟨by rw[AE];omega,n,by rw[hgd y a1];exact a2,λn' hn'=>?_⟩;obtain⟨z,hz⟩:=a3 n' hn';rw[hgd y a1];exact⟨z,wZ _ _ hz⟩
   .rw[AE,Hz]at hy
    by_cases q:y=done.length
    .subst q
     exact⟨j,by rw[xM,if_pos rfl]⟩
    .obtain⟨x,hx⟩:=o.all y (by omega)
     exact⟨x,wZ _ _ hx⟩
   .rw[xM]at e e'
    by_cases q:j=x
    .by_cases q':j=x'
     .omega
     .rw[if_pos q]at e
      cases e;rw[if_neg q']at e';have:=(o.at_ x' _ e').1;omega
    .rw[if_neg q]at e
     by_cases q':j=x'
     .rw[if_pos q']at e'
      cases e';have:=(o.at_ x _ e).1;omega
     .rw[if_neg q']at e'
      exact o.one x x' y e e'
  have w6:Ln m (Z (owner,done.length)) h=Z (owner.setIfInBounds j (Z done.length),(done++[h]).length):=by unfold Ln;simp only[Option.bind_eq_bind,Option.bind_some];rw[k3];simp
  obtain⟨owner',e1,e2⟩:=Wx hm rest (done++[h]) _ o' (by simp;omega);refine⟨owner',?_,by simpa using e2⟩;rw[DX,w6,e1];simp
theorem kW(hm:Mk m)(hl:BC hs<=m):∃owner,O9 m hs.toArray=Z owner/\Ge m owner hs:=by obtain⟨owner,e,o⟩:=Wx hm hs [] _ (Ge.nil m) (by simpa using hl);refine⟨owner,?_,by simpa using o⟩;rw[l8];have:(hs.foldl (Ln m) (Z (Pf (m+1) Z_,0)))=_:=e;rw[this];rfl
structure vR(b:Bool)(t:SetTable)(hs:zZ):Prop where
 dum:t.dummies=#[]
 rise:Dq t.place
 led:t.led=b
 plain:t.plain=Aa
 mask:Mk t.mask
 top:∀j∈t.place.toList,j<=t.mask
 len:BC hs=t.place.size
 few:t.place.size<=t.mask
 path:∀q∈t.place.toList.zip hs,∃k,sU t.mask q.2 k=q.1/\∀k',k'<k->sU t.mask q.2 k'∈t.place.toList
theorem vR.fresh(b:Bool):vR b (Pc 0 0 b) []:=⟨rfl,.nil,rfl,rfl,.inl rfl,λj hj=>by simp[Pc]at hj,rfl,BQ _,λq hq=>by simp at hq⟩
theorem vR.fits{b:Bool}{t:SetTable}{hs:zZ}(h:vR b t hs){n:Nat}(hn:n=t.place.size):t.fits n=Aa:=by have:=h.few;unfold Ku Hq;rw[h.dum,hn];simpa using this
theorem vR.free{t:SetTable}(h:vR b t hs):∃j,j<=t.mask/\j∉t.place.toList:=by
 apply Jj;intro u6;have:=BW (l₁:=Ah (t.mask+1)) (l₂:=t.place.toList) List.nodup_range λx hx=>by apply Jj;intro q;exact u6 ⟨x,MD (AI.mp hx),q⟩
 have hf:=h.few;rw[DC,Bk]at this;omega
theorem kH(hm:Mk m)(hl:BC hs<=m)(fg mv:Nat)(ld:Bool):∃t tm,Ti m fg mv ld Aa hs.toArray=Z (t,tm)/\tm.toList.Perm (Ah hs.length)/\vR ld t (tm.toList.map λk=>hs.getD k 0)/\t.mask=m:=by
 obtain⟨owner,e,o⟩:=kW hm hl;generalize hlive:(Ah (m+1)).filterMap (λj=>(owner.getD j Z_).map (j,·))=live;have uA:∀j k,(owner.getD j Z_).map (j,·)=Z k↔k.1=j/\owner[j]?=Z (Z k.2):=λj k=>by
  rw[Pz,Ak]
  constructor
  .rintro ⟨y,hy,rfl⟩
   refine⟨rfl,?_⟩;cases q:owner[j]? with
   |none=>rw[q]at hy;cases hy
   |some z=>rw[q]at hy;exact congrArg Z hy
  .rintro ⟨h1,h2⟩
   exact⟨k.2,by rw[h2];rfl,by rw[<-h1]⟩
 have tE:∀k:Nat×Nat,k∈live↔owner[k.1]?=Z (Z k.2):=λk=>by
  rw[<-hlive,CT]
  constructor
  .rintro ⟨j,_,h2⟩
   obtain⟨rfl,h4⟩:=(uA j k).mp h2;exact h4
  .intro h
   refine⟨k.1,AI.mpr ?_,(uA k.1 k).mpr ⟨rfl,h⟩⟩;rw[<-o.size];exact(HB.mp h).1
 have hup:live.Pairwise λa b=>a.1<b.1:=by rw[<-hlive];refine List.Pairwise.filterMap _ (λa a' haa b hb b' hb'=>?_) T4;obtain⟨h1,_⟩:=(uA a b).mp hb;obtain⟨h2,_⟩:=(uA a' b').mp hb';omega
 have uq:(live.map (·.2)).Perm (Ah hs.length):=by
  refine(bw ?_ List.nodup_range).mpr λk=>?_
  .refine Kn.mpr (Uh (λ{a b} ha hb hab e=>?_) hup)
   have h1:=(tE a).mp ha;have h2:=(tE b).mp hb;rw[e]at h1;have:=o.one _ _ _ h1 h2;omega
  .rw[AI]
   constructor
   .intro h
    obtain⟨x,hx,rfl⟩:=Al.mp h;exact(o.at_ _ _ ((tE x).mp hx)).1
   .intro h
    obtain⟨j,hj⟩:=o.all k h;exact Al.mpr ⟨(j,k),(tE (j,k)).mpr hj,rfl⟩
 have sA:BC live=hs.length:=by
  have:=uq.length_eq
  rwa [Ad,DC]at this
 refine⟨{mask:=m,place:=(live.map (·.1)).toArray,dummies:=#[],finger:=fg,led:=ld,moves:=mv,plain:=Aa},(live.map (·.2)).toArray,?_,by simpa using uq,⟨rfl,?_,rfl,rfl,hm,?_,by simp,?_,?_⟩,rfl⟩
 .unfold Ti
  rw[e];show Z _=_;rw[hlive]
 .show(live.map (·.1)).Pairwise _
  exact Kn.mpr hup
 .intro j hj
  obtain⟨x,hx,rfl⟩:=Al.mp (show j∈live.map (·.1) from hj);have:=(HB.mp ((tE x).mp hx)).1;have:=o.size;dsimp only;omega
 .show(live.map (·.1)).length<=m
  rw[Ad,sA];exact hl
 .intro q hq
  have hz:(live.map (·.1)).zip ((live.map (·.2)).map λk=>hs.getD k 0)=live.map λx=>(x.1,hs.getD x.2 0):=by rw[Aq,List.zip_map'];rfl
  have hq':q∈(live.map (·.1)).zip ((live.map (·.2)).map λk=>hs.getD k 0):=hq;rw[hz]at hq';obtain⟨x,hx,rfl⟩:=Al.mp hq';obtain⟨_,n,h1,h2⟩:=o.at_ _ _ ((tE x).mp hx);refine⟨n,h1,λn' hn'=>?_⟩;obtain⟨k',hk'⟩:=h2 n' hn';exact Al.mpr ⟨(_,k'),(tE (_,k')).mpr hk',rfl⟩
theorem W3{α β:Type}:∀(n:Nat) (l:List α) (r:List β),(l.zip r).take n=(l.take n).zip (r.take n)
 |0,_,_=>rfl
 |n+1,[],_=>rfl
 |n+1,x::l,[]=>rfl
 |n+1,x::l,y::r=>congrArg ((x,y)::·) (W3 n l r)
theorem Ws{α β:Type}:∀(n:Nat) (l:List α) (r:List β),(l.zip r).drop n=(l.drop n).zip (r.drop n)
 |0,_,_=>rfl
 |n+1,[],_=>rfl
 |n+1,x::l,[]=>by simp
 |n+1,x::l,y::r=>Ws n l r
theorem vR.ins{t:SetTable}(T:vR b t hs){h:Int}{k:Nat}(hj:sU t.mask h k∉t.place.toList)(hb:∀k',k'<k->sU t.mask h k'∈t.place.toList)(hf:t.place.size+1<=t.mask):vR b {t with place:=AQ t.place (Am t.place (sU t.mask h k)) (sU t.mask h k)} (hs.take (Am t.place (sU t.mask h k))++h::hs.drop (Am t.place (sU t.mask h k))):=by
 have hpl:=QI t.mask h k;generalize hjj:sU t.mask h k=j at *;have e2:t.place[Am t.place j]?≠Z j:=λe=>hj (by rw[<-Ca]at e;exact Bo e);obtain⟨b1,_,_⟩:=Iy T.rise j;have hins:=MH t.place (Am t.place j) j;have tE:∀x,x∈t.place.toList->x∈(AQ t.place (Am t.place j) j).toList:=λx hx=>by refine(GF t.place (Am t.place j) j).mem_iff.mpr ?_;rw[GK];exact CW _ hx
 have uR:j∈(AQ t.place (Am t.place j) j).toList:=by refine(GF t.place (Am t.place j) j).mem_iff.mpr ?_;rw[GK];exact Cc _ (Ax.mpr rfl)
 refine⟨T.dum,RE T.rise e2,T.led,T.plain,T.mask,λx hx=>?_,?_,?_,λq hq=>?_⟩
 .have:=(GF t.place (Am t.place j) j).mem_iff.mp hx
  rw[GK]at this;rcases Bb.mp this with q|q
  .exact T.top x q
  .rw[Ax.mp q];exact hpl
 .dsimp only
  rw[sQ,AE,Av,Ec,Jd,T.len];omega
 .dsimp only
  rw[sQ];exact hf
 .dsimp only at hq ⊢
  rw[hins]at hq;rw[List.zip_append (by rw[Ec,Ec,T.len,Bk])]at hq;have old:q∈t.place.toList.zip hs->∃k,sU t.mask q.2 k=q.1/\∀k',k'<k->sU t.mask q.2 k'∈(AQ t.place (Am t.place j) j).toList:=λhq=>by obtain⟨k,h1,h2⟩:=T.path q hq;exact⟨k,h1,λk' hk'=>tE _ (h2 k' hk')⟩
  rcases Bb.mp hq with z|z
  .refine old ?_
   rw[<-W3]at z;exact Uc z
  .rw[List.zip_cons_cons]at z
   rcases As.mp z with z|z
   .subst z
    exact⟨k,hjj,λk' hk'=>tE _ (hb k' hk')⟩
   .refine old ?_
    rw[<-Ws]at z;exact List.mem_of_mem_drop z
end
section
variable{x:Addr}{Q:Bool->Shared->Prop}{ks:zZ}
section
variable{prog:Program}{w:World}{A:Around}{E:z4}{s:Shared}{a:Addr}
theorem Wu(hk:IsTupleKey (intKind prog w) s.heap ks x)(h:Q Ab s):wpAny (model prog w) A (O4 8 (.ref x)) Q E s:=by
 have hT:=hk.typeIs;obtain⟨o,items,n,ho,_,hd,hi⟩:=hk;unfold O4;refine Ac (wpAny_typeOf hT ?_);dsimp only;rw[if_pos (by decide)];refine Ac (Ae ?_);simp only[Ms,B9,if_false];refine Ac (Mu ho hd ?_);dsimp only;refine Ac ?_;show wpAny _ _ (forIn items _ _) _ _ s;rw[<-Array.forIn_toList];refine TJ _ (λrest r s'=>r.1=Z_/\s'=s/\∀v∈rest,Pq v=Aa) _ ?_ ?_ _ _ ⟨rfl,rfl,hi.byValue⟩
 .rintro v rest r s' ⟨hr,rfl,tp⟩
  have hv:=tp v An;have e:O4 7 v=pure Ab:=by
   cases v with
   |ref a=>simp[Pq]at hv
   |_=>unfold O4;rfl
  rw[e];refine Ac (Ae ?_);simp only[B9,if_false];exact Ae ⟨rfl,rfl,λu hu'=>tp u (Ao _ hu')⟩
 .rintro ⟨r1,r2⟩ s' ⟨hr,rfl,_⟩
  simp only at hr;subst hr;exact Ae h
theorem ic(hk:IsTupleKey (intKind prog w) s.heap ks x)(ys:z8)(hy:∀y∈ys,∃z t,y=.ref z/\IsTupleKey (intKind prog w) s.heap t z)(h:Q Ab s):wpAny (model prog w) A (searchCouldBeSeen (.ref x) ys) Q E s:=by
 unfold searchCouldBeSeen;refine Ac ?_;refine TJ _ (λrest r s'=>r.1=Z_/\s'=s/\∀y∈rest,∃z t,y=.ref z/\IsTupleKey (intKind prog w) s.heap t z) _ ?_ ?_ _ _ ⟨rfl,rfl,hy⟩
 .rintro v rest r s' ⟨hr,rfl,tp⟩
  obtain⟨z,t,rfl,hz⟩:=tp v An;have yq:∀y∈rest,∃z t,y=.ref z/\IsTupleKey (intKind prog w) s'.heap t z:=λu hu'=>tp u (Ao _ hu');dsimp only
  by_cases q:(x==z||Pq (.ref x)&&Pq (.ref z))=Aa
  .rw[if_pos q]
   exact Ae ⟨rfl,rfl,yq⟩
  .rw[if_neg q]
   refine Ac (wpAny_eqIsQuiet_tuple hk ?_);simp only[Ms,B9,if_false];refine Ac (wpAny_eqIsQuiet_tuple hz ?_);simp only[Ms,B9,if_false];refine Ac (Wu hk ?_);simp only[B9,if_false];refine Ac (Wu hz ?_);simp only[B9,if_false];exact Ae ⟨rfl,rfl,yq⟩
 .rintro ⟨r1,r2⟩ s' ⟨hr,rfl,_⟩
  simp only at hr;subst hr;exact Ae h
theorem jZ(hk:IsTupleKey (intKind prog w) s.heap ks x)(h:Q Aa s):wpAny (model prog w) A (OP 8 (.ref x)) Q E s:=by
 have hT:=hk.typeIs;obtain⟨o,items,n,ho,_,hd,hi⟩:=hk;have tp:∀v∈items.toList,∃m t,v=.int m t:=by
  have:∀{l:zZ} {vs:z8},ItemsAre (intKind prog w) l vs->∀v∈vs,∃m t,v=DA m t:=by
   intro l vs hx
   induction hx with
   |nil=>intro v hv;cases hv
   | @cons k v ks vs h1 _ ih =>
    intro u hu;rcases As.mp hu with rfl|hu
    .obtain⟨t,rfl⟩:=Value.isInt_shape h1
     exact⟨_,_,rfl⟩
    .exact ih u hu
  exact this hi
 unfold OP;refine Ac (TC hT F.slot_tuple_hash.lookup ?_);dsimp only;refine Ac (Mu ho hd ?_);refine Ac ?_;show wpAny _ _ (forIn items _ _) _ _ s;rw[<-Array.forIn_toList];refine TJ _ (λrest r s'=>r.1=Z_/\s'=s/\∀v∈rest,∃m t,v=.int m t) _ ?_ ?_ _ _ ⟨rfl,rfl,tp⟩
 .rintro v rest r s' ⟨hr,rfl,tp⟩
  obtain⟨m,t,rfl⟩:=tp v An;have e:OP 7 (.int m t)=pure Aa:=by unfold OP;rfl
  rw[e];refine Ac (Ae ?_);simp only[Ms,B9,if_false];exact Ae ⟨rfl,rfl,λu hu'=>tp u (Ao _ hu')⟩
 .rintro ⟨r1,r2⟩ s' ⟨hr,rfl,_⟩
  simp only at hr;subst hr;exact Ae h
end
end
section
variable(prog:Program)(w:World)
abbrev hT(t:zZ):Int:=tupleKeyHash (intKind prog w) t
abbrev eT(q:zZ×Addr):Int×Value:=(hT prog w q.1,.ref q.2)
def CJ(h:Heap)(a:Addr)(X:List (zZ×Addr)):Prop:=∃(o:Obj) (es:Array (Int×Value)) (ep:Nat) (t:SetTable) (xs:List (zZ×Addr)),h.get? a=Z o/\o.ExactSet/\o.data=.set es ep t/\es.toList=xs.map (eT prog w) /\
 xs.Perm X/\vR (!w.params.followText "set-order") t (xs.map λq=>hT prog w q.1)/\t.place.size*5<t.mask*3
end
section
variable{prog:Program}{w:World}{A:Around}{E:z4}{s:Shared}{a:Addr}
theorem cx{m:Nat}(h:Mk m):(m%2==0)=Ab:=by rcases h with rfl|rfl|rfl<;>rfl
theorem eW{o:Obj}{es:Array (Int×Value)}{ep:Nat}{t:SetTable}{xs:List (zZ×Addr)}{b:Bool}{x:Addr}{key:zZ}{Q:SetFound->Shared->Prop}(hu:A.units<cLine)(ho:s.heap.get? a=Z o)(hd:o.data=.set es ep t)(he:es.toList=xs.map (eT prog w))(hx:∀q∈xs,IsTupleKey (intKind prog w) s.heap q.1 q.2)(T:vR b t (xs.map λq=>hT prog w q.1))(hk:IsTupleKey (intKind prog w) s.heap key x)(h1:key∈xs.map (·.1)->Q (.there Z_) s)(h2:key∉xs.map (·.1)->∀k,sU t.mask (hT prog w key) k∉t.place.toList->(∀k',k'<k->sU t.mask (hT prog w key) k'∈t.place.toList)->Q (.free (sU t.mask (hT prog w key) k) Ab) s):wpAny (model prog w) A (setSearch a (.ref x) (hT prog w key) Aa) Q E s:=by
 have sA:es.size=xs.length:=by rw[<-Bk,he,Ad]
 have yb:t.place.size=xs.length:=by rw[<-T.len,Ad]
 have uZ:t.fits es.size=Aa:=T.fits (by rw[sA,yb]);have wN:∀i,es[i]?=xs[i]?.map (eT prog w):=λi=>by rw[<-Ca,he,AD]
 obtain⟨j0,hj0,yd⟩:=T.free;obtain⟨N,hN,hNj⟩:=km T.mask (hT prog w key) hj0;rw[<-hNj]at yd;have hturn:10*Eu t.mask<=1420:=by unfold Eu;rcases T.mask with e|e|e<;>rw[e]<;>decide
 have main:∀(sI n:Nat) (uO:Option Dz),N<n+sI->n<=N->uO.getD (t.probeStart (hT prog w key))=AG t.mask n (wx t.mask (hT prog w key)) ->
   (∀k',k'<n->sU t.mask (hT prog w key) k'∈t.place.toList/\∀(i:Nat) (q:zZ×Addr),t.place[i]?=Z (sU t.mask (hT prog w key) k')->xs[i]?=Z q->q.1≠key) ->
   wpAny (model prog w) A (OU a (.ref x) (hT prog w key) Aa sI uO) Q E s:=by
  intro sI
  induction sI with
  |zero=>intro n uO h1 h2;omega
  |succ sI ih =>
   intro n uO hf hn vj hbef;unfold OU;refine Ac (GJ ho hd uZ ?_);dsimp only;have hgw:t.gaveWay=Ab:=cx T.mask;rw[hgw];simp only[B9,if_false];have yp:∀F:Nat->Int,(∀i,F i=(es[i]?.map (·.1)).getD 0)->∃k,k<=N-n/\(∀k',k'<k->sU t.mask (hT prog w key) (n+k')∈t.place.toList/\∀i:Nat,t.place[i]?=Z (sU t.mask (hT prog w key) (n+k'))->(es[i]?.map (·.1)).getD 0≠hT prog w key) /\
     ((sU t.mask (hT prog w key) (n+k)∉t.place.toList/\t.probe F (hT prog w key) (uO.getD (t.probeStart (hT prog w key)))=Z (.empty (sU t.mask (hT prog w key) (n+k)) Z_)) \/
     (sU t.mask (hT prog w key) (n+k)∈t.place.toList/\k<N-n/\∃i:Nat,t.slot (sU t.mask (hT prog w key) (n+k))=.live i/\t.place[i]?=Z (sU t.mask (hT prog w key) (n+k))/\(es[i]?.map (·.1)).getD 0=hT prog w key /\
      t.probe F (hT prog w key) (uO.getD (t.probeStart (hT prog w key)))=Z (.candidate (sU t.mask (hT prog w key) (n+k)) i (AG t.mask (n+k+1) (wx t.mask (hT prog w key)))))):=λF hF=>by
    rw[vj];have hp:∀k,(AG t.mask k (AG t.mask n (wx t.mask (hT prog w key)))).j=sU t.mask (hT prog w key) (n+k):=λk=>by rw[<-He];rfl
    have hp':∀k,AG t.mask k (AG t.mask n (wx t.mask (hT prog w key)))=AG t.mask (n+k) (wx t.mask (hT prog w key)):=λk=>(He n k _).symm;have:=V9 T.dum T.rise F (hT prog w key) (10*Eu t.mask) (N-n) (AG t.mask n (wx t.mask (hT prog w key))) (by rw[Yj];rfl) (by omega) (by rw[hp,show n+(N-n)=N by omega];exact yd);simp only[hp]at this;simp only[hp',hF]at this;exact this
   generalize hg:(uO.getD (t.probeStart (hT prog w key)))=st at yp ⊢;obtain⟨k,hk1,xn,hk3⟩:=yp _ (λi=>rfl);have hbef':∀k',k'<n+k->sU t.mask (hT prog w key) k'∈t.place.toList/\∀(i:Nat) (q:zZ×Addr),t.place[i]?=Z (sU t.mask (hT prog w key) k')->xs[i]?=Z q->q.1≠key:=λk' hk'=>by
    by_cases z:k'<n
    .exact hbef k' z
    .obtain⟨c,rfl⟩:∃c,k'=n+c:=⟨k'-n,by omega⟩
     obtain⟨z1,z2⟩:=xn c (by omega);refine⟨z1,λi q e1 e2 e3=>z2 i e1 ?_⟩;rw[wN,e2];show hT prog w q.1=_;rw[e3]
   rcases hk3 with⟨a1,a2⟩|⟨a1,a2,i,a3,a4,a5,a6⟩
   .have a2':∀F:Nat->Int,F=(λi=>(es[i]?.map (·.1)).getD 0)->t.probe F (hT prog w key) st=Z (.empty (sU t.mask (hT prog w key) (n+k)) Z_):=λF e=>by rw[e];exact a2
    rw[a2']
    rotate_left
    .rfl
    dsimp only;refine Ae (h2 (λhm=>?_) (n+k) a1 λk' hk'=>(hbef' k' hk').1);obtain⟨q,hq,rfl⟩:=Al.mp hm;obtain⟨i,hi,e⟩:=Jk hq;have hi':i<t.place.size:=by omega
    have e1:xs[i]?=Z q:=by rw[AK hi,e]
    have e2:t.place[i]?=Z t.place[i]:=Ga hi';have hz:(t.place[i],hT prog w q.1)∈t.place.toList.zip (xs.map λq=>hT prog w q.1):=by refine Bo (i:=i) ?_;rw[bN];refine⟨by rw[Ca];exact e2,?_⟩;rw[AD,e1];rfl
    obtain⟨kk,b1,b2⟩:=T.path _ hz;dsimp only at b1 b2;rcases Tr kk (n+k)with z|z|z
    .exact(hbef' kk z).2 i q (by rw[b1];exact e2) e1 rfl
    .rw[<-z,b1]at a1
     exact a1 (Array.getElem_mem_toList hi')
    .exact a1 (b2 _ z)
   .have a6':∀F:Nat->Int,F=(λi=>(es[i]?.map (·.1)).getD 0)->t.probe F (hT prog w key) st=Z (.candidate (sU t.mask (hT prog w key) (n+k)) i (AG t.mask (n+k+1) (wx t.mask (hT prog w key)))):=λF e=>by rw[e];exact a6
    rw[a6']
    rotate_left
    .rfl
    dsimp only;have hi:i<BC xs:=by have:=(HB.mp a4).1;omega
    have e1:xs[i]?=Z xs[i]:=AK hi;have ei:es[i]?=Z (eT prog w xs[i]):=by rw[wN,e1];rfl
    have hy:=hx _ (GI hi);generalize xs[i]=y at *;have rest:wpAny (model prog w) A (do
      let Z (_,y):=es[i]?|OQ "internal:set-entry"
      let equal <-holding [y] (eqBool y (.ref x))
      let (es',_,t') <-setState a
      if Aa&&equal then return .there Z_
      let Z same:=t'.sameMemory t.moves t.mask|OQ "set.changed-during-lookup:is-the-new-block-at-the-old-address"
      let still <-match(if same then t'.slot (sU t.mask (hT prog w key) (n+k))else .empty)with
       | .live i'=>match es'[i']? with
        |some (_,y')=>do pure (if <-isSame y' y then Z i' else Z_)
        |none=>pure Z_
       |_=>pure Z_
      match still with
      |none=>rule "set.search.anew";OU a (.ref x) (hT prog w key) Aa sI Z_
      |some i'=>if equal then return .there (Z i')else OU a (.ref x) (hT prog w key) Aa sI (Z (AG t.mask (n+k+1) (wx t.mask (hT prog w key))))) Q E s:=by
     rw[ei];dsimp only;refine Ac (Cd (wpAny_eqBool_tuple hu hy hk ?_));refine Ac (GJ ho hd uZ ?_);dsimp only
     by_cases q:y.1=key
     .rw[decide_eq_true q]
      simp only[GA,↓reduceIte];exact Ae (h1 (Al.mpr ⟨y,Bo e1,q⟩))
     .rw[decide_eq_false q]
      simp only[Pd,B9,↓reduceIte];have hsm:t.sameMemory t.moves t.mask=Z Aa:=by unfold SetTable.sameMemory;rw[if_pos (beq_self_eq_true _)]
      rw[hsm];dsimp only;simp only[↓reduceIte];rw[a3];dsimp only;rw[ei];dsimp only;refine Ac (wpAny_isSame_ref_self (Ac (Ae ?_)));simp only[↓reduceIte];refine ih (n+k+1) _ (by omega) (by omega) rfl λk' hk'=>?_
      by_cases z:k'<n+k
      .exact hbef' k' z
      .obtain rfl:k'=n+k:=by omega
       refine⟨a1,λi' q' f1 f2=>?_⟩;have:i'=i:=by
        obtain⟨l1,g1⟩:=HB.mp f1;obtain⟨l2,g2⟩:=HB.mp a4;rcases Tr i' i with z|z|z
        .have:=T.rise.lt l2 z
         simp[Dh,l1,l2,g1,g2]at this
        .exact z
        .have:=T.rise.lt l1 z
         simp[Dh,l1,l2,g1,g2]at this
       subst this;rw[e1]at f2;cases f2;exact q
    by_cases hl:t.led=Aa
    .rw[hl]
     simp only[Ms,B9,if_false];exact rest
    .rw[Bool.not_eq_true]at hl
     rw[hl];simp only[GO,if_true];refine Ac (ic hk _ (λy hy=>?_) ?_)
     .obtain⟨e,he',rfl⟩:=Al.mp hy
      have hm:e∈es.toList:=by have:=aX.mp he';have:=(Array.mem_filter.mp this).1;exact aX.mpr this
      rw[he]at hm;obtain⟨q,hq,rfl⟩:=Al.mp hm;exact⟨q.2,q.1,rfl,hx q hq⟩
     .simp only[B9,if_false]
      exact rest
 exact main 100000 0 Z_ (by omega) (BQ _) rfl λk' hk'=>absurd hk' (Pg _)
end
section
variable{prog:Program}{w:World}{A:Around}{E:z4}{s:Shared}{a:Addr}{Y:List (zZ×Addr)}
theorem eD{t:SetTable}(h:t.dummies=#[])(j:Nat):t.put j=({t with place:=AQ t.place (Am t.place j) j},Am t.place j):=by
 unfold SetTable.put;dsimp only;rw[h,has_none];cases t
 simp_all
def A2(Y:List (zZ×Addr))(q:zZ×Addr):List (zZ×Addr):=if(Y.map (·.1)).contains q.1 then Y else Y++[q]
theorem CJ.at'{h h':Heap}(x:CJ prog w h a Y)(k:∀o,h.get? a=Z o->h'.get? a=Z o):CJ prog w h' a Y:=let ⟨o,es,ep,t,xs,h1,r⟩:=x;⟨o,es,ep,t,xs,k _ h1,r⟩
theorem cD{b:Bool}{t:SetTable}{es:Array (Int×Value)}{xs:List (zZ×Addr)}(T:vR b t (xs.map λq=>hT prog w q.1))(he:es.toList=xs.map (eT prog w)){xg m:Nat}(hw:PU xg-1=m)(hm:Mk m)(hl:BC xs<=m):∃(t':SetTable) (tm:Array Nat) (xs':List (zZ×Addr)),t.relaid (es.map (·.1)) xg=Z (t',tm)/\(tm.filterMap (es[·]?)).toList=xs'.map (eT prog w)/\xs'.Perm xs/\vR b t' (xs'.map λq=>hT prog w q.1)/\t'.mask=m:=by
 have hh:es.map (·.1)=(xs.map λq=>hT prog w q.1).toArray:=by apply TM.mp;rw[Array.toList_map,he,Aq];rfl
 obtain⟨t',tm,e1,e2,e3,e4⟩:=kH hm (hs:=xs.map λq=>hT prog w q.1) (by rw[Ad];exact hl) t.finger (t.movedTo m) t.led;rw[Ad]at e2;have wN:∀i:Nat,es[i]?=xs[i]?.map (eT prog w):=λi=>by rw[<-Ca,he,AD]
 have uR:∀k∈tm.toList,k<BC xs:=λk hk=>AI.mp (e2.mem_iff.mp hk);have vi:∀k,k<BC xs->xs[k]?=Z (xs.getD k ([],0)):=λk hk=>by rw[HA,AK hk];rfl
 refine⟨t',tm,tm.toList.map λk=>xs.getD k ([],0),?_,?_,?_,?_,e4⟩
 .unfold SetTable.relaid
  rw[hw,hh,T.plain];exact e1
 .rw[bP,Aq]
  have:∀l:List Nat,(∀k∈l,k<BC xs)->l.filterMap (λk=>es[k]?)=l.map (eT prog w∘λk=>xs.getD k ([],0)):=by
   intro l
   induction l with
   |nil=>intro _;rfl
   |cons k l ih=>intro hl;have h1:=hl k (An ..);rw[GD,wN,vi k h1,ih λx hx=>hl x (Ao _ hx)];rfl
  exact this _ uR
 .refine(e2.map _).trans (.of_eq ?_)
  apply List.ext_getElem?;intro i;rw[AD]
  by_cases hi:i<BC xs
  .rw[Ub hi]
   exact(vi i hi).symm
  .rw[KA (by rw[DC];omega),KA (by omega)]
   rfl
 .have hc:(tm.toList.map λk=>xs.getD k ([],0)).map (λq=>hT prog w q.1)=tm.toList.map λk=>(xs.map λq=>hT prog w q.1).getD k 0:=by
   rw[Aq];refine E9 λk hk=>?_;rw[HA,AD,vi k (uR k hk)];rfl
  rw[hc,<-T.led];exact e3
theorem iJ{x:Addr}{key:zZ}{Q:Bool->Shared->Prop}(hu:A.units<cLine)(hX:CJ prog w s.heap a Y)(hY:∀q∈Y,IsTupleKey (intKind prog w) s.heap q.1 q.2)(hk:IsTupleKey (intKind prog w) s.heap key x)(hL:BC Y<64)(h:∀b h',Fd a s.heap h'->CJ prog w h' a (A2 Y (key,x))->Q b {s with heap:=h'}):wpAny (model prog w) A (OZ a (.ref x) (hT prog w key)) Q E s:=by
 obtain⟨o,es,ep,t,xs,ho,vk,hd,he,uM,T,hroom⟩:=hX;have hx:∀q∈xs,IsTupleKey (intKind prog w) s.heap q.1 q.2:=λq hq=>hY q (uM.mem_iff.mp hq);have sA:es.size=xs.length:=by rw[<-Bk,he,Ad]
 have yb:t.place.size=xs.length:=by rw[<-T.len,Ad]
 have hLx:BC Y=xs.length:=uM.length_eq.symm;have uZ:t.fits es.size=Aa:=T.fits (by rw[sA,yb]);unfold OZ setAddHashedIn;refine Cd (Ac (GJ ho hd uZ ?_));dsimp only;have hbs:byScan (.ref x) es=Ab:=rfl;rw[hbs];simp only[B9,if_false];refine Ac (eW hu ho hd he hx T hk (λhm=>?_) λhm k hk1 xn=>?_)
 .dsimp only
  refine Ae ?_;have e:s={s with heap:=s.heap}:=by cases s;rfl
  rw[e];refine h Ab s.heap (Tv a s.heap) ⟨o,es,ep,t,xs,ho,vk,hd,he,?_,T,hroom⟩;unfold A2;rw[if_pos (Ue.mpr ((uM.map _).mem_iff.mp hm))];exact uM
 .dsimp only
  refine Ac (GJ ho hd uZ ?_);dsimp only;rw[eD T.dum];dsimp only;have w8:=T.mask;have hmle:t.mask<=127:=by rcases w8 with e|e|e<;>omega
  have uf:t.place.size+1<=t.mask:=by rcases w8 with e|e|e<;>omega
  have T1:=T.ins hk1 xn uf;have hpl:=T.plain;generalize hp:Am t.place (sU t.mask (hT prog w key) k)=p at *;generalize hj:sU t.mask (hT prog w key) k=j at *;have hple:p<=BC xs:=by rw[<-hp,<-yb];exact(Iy T.rise j).1
  rw[hpl];simp only[↓reduceIte];refine Ac (jZ hk ?_);simp only[↓reduceIte];have zH:(AQ es p (hT prog w key,Bl x)).toList=(xs.take p++(key,x)::xs.drop p).map (eT prog w):=by rw[MH,he,BB,Ai,OY,OX]
  have hh1:(xs.map λq=>hT prog w q.1).take p++hT prog w key::(xs.map λq=>hT prog w q.1).drop p=(xs.take p++(key,x)::xs.drop p).map λq=>hT prog w q.1:=by rw[BB,Ai,OY,OX]
  rw[hh1]at T1;have wm:(xs.take p++(key,x)::xs.drop p).Perm (A2 Y (key,x)):=by unfold A2;rw[if_neg (λz=>hm ((uM.map _).mem_iff.mpr (Ue.mp z)))];refine List.perm_middle.trans ?_;rw[a8];exact(List.perm_append_singleton _ _).symm.trans (uM.append_right _)
  have uj:(xs.take p++(key,x)::xs.drop p).length=xs.length+1:=by rw[AE,Av,Ec,Jd];omega
  have uL:(AQ es p (hT prog w key,Bl x)).size=es.size+1:=sQ _ _ _;have vX:(AQ t.place p j).size=t.place.size+1:=sQ _ _ _;generalize hE:AQ es p (hT prog w key,Bl x)=ua at zH uL ⊢;generalize hX1:xs.take p++(key,x)::xs.drop p=xs1 at *;have zy:ua.size<=sizeLine:=by rw[BR];omega
  have hpw:({t with place:=AQ t.place p j,plain:=Aa}:SetTable)={t with place:=AQ t.place p j}:=by cases t;simp_all
  rw[hpw]
  clear hpw
  generalize ht1:({t with place:=AQ t.place p j}:SetTable)=t1 at *;have zD:t1.mask=t.mask:=by rw[<-ht1]
  have hz2:t1.place.size=t.place.size+1:=by rw[<-ht1];exact vX
  have hd1:t1.dummies=#[]:=T1.dum;refine Ac (O8 ho hd ?_ zy);have wW:=EC s.heap a (Dg ua t1);have hg:(s.heap.update a (Dg ua t1)).get? a=Z {o with data:=.set ua (ep+1) t1}:=by
   have:=Fi (Dg ua t1) ho (by rw[Hw _ _ hd];rfl)
   rwa [Hw _ _ hd]at this
  by_cases hf:t1.tooFull=Aa
  .rw[hf]
   simp only[GO,GA,↓reduceIte];have hfull:(t.place.size+1)*5 ≥ t.mask*3:=by unfold Ja Hq at hf;rw[hd1,hz2,zD]at hf;simpa using hf
   obtain⟨m,u9,hmk,yT,hsz⟩:∃m,PU (Tn (es.size+1))-1=m/\Mk m/\(BC xs+1)*5<m*3/\¬PU (Tn (es.size+1)) > sizeLine:=by
    rcases w8 with e|e|e
    .have:es.size+1=5:=by omega
     rw[this];exact⟨31,by decide,.inr (.inl rfl),by omega,by rw[BR];decide⟩
    .have:es.size+1=19:=by omega
     rw[this];exact⟨127,by decide,.inr (.inr rfl),by omega,by rw[BR];decide⟩
    .omega
   obtain⟨t',tm,xs',r1,r2,r3,r4,r5⟩:=cD T1 zH u9 hmk (by omega);have hfit1:t1.fits ua.size=Aa:=T1.fits (by rw[uL,hz2,sA,yb]);unfold setRelay;refine Ac (Ac (GJ (s:={s with heap:=s.heap.update a (Dg ua t1)}) hg rfl hfit1 ?_));dsimp only;rw[if_neg hsz,r1];have hsz2:(tm.filterMap (ua[·]?)).size=ua.size:=by rw[<-Bk,r2,Ad,r3.length_eq,uj,uL,sA]
   refine Ac ?_;show wpAny _ _ (if((tm.filterMap (ua[·]?)).size != ua.size)=Aa then _ else pure (tm.filterMap (ua[·]?),t')) _ _ _;rw[hsz2,if_neg (by simp)];refine Ae ?_;dsimp only;refine O8 hg rfl ?_ (by rw[hsz2];exact zy);have hsb2:=EC (s.heap.update a (Dg ua t1)) a (Dg (tm.filterMap (ua[·]?)) t');have vq:((s.heap.update a (Dg ua t1)).update a (Dg (tm.filterMap (ua[·]?)) t')).get? a=Z {o with data:=.set (tm.filterMap (ua[·]?)) (ep+1+1) t'}:=by
    have:=Fi (Dg (tm.filterMap (ua[·]?)) t') hg (by rw[Hw (o:={o with data:=.set ua (ep+1) t1}) _ _ rfl];rfl)
    rwa [Hw (o:={o with data:=.set ua (ep+1) t1}) _ _ rfl]at this
   refine Ae (h Aa _ (wW.trans hsb2) ⟨_,_,_,_,xs',vq,vk,rfl,r2,r3.trans wm,r4,?_⟩);have:=r4.len;rw[Ad,r3.length_eq,uj]at this;rw[<-this,r5];exact yT
  .rw[Bool.not_eq_true]at hf
   rw[hf];simp only[Pd,B9,↓reduceIte];refine Ae (h Aa _ wW ⟨_,ua,ep+1,t1,xs1,hg,vk,rfl,zH,wm,T1,?_⟩);unfold Ja Hq at hf;rw[hd1]at hf;simpa using hf
end
section
variable{h:Heap}{qs:List (zZ×Addr)}
section
variable{prog:Program}{w:World}{A:Around}{E:z4}{s:Shared}{a:Addr}{Y:List (zZ×Addr)}
theorem P2{h':Heap}{t:zZ}{x:Addr}(k:IsTupleKey (intKind prog w) h t x)(m:∀b o,o.cls=.type "tuple"->h.get? b=Z o->h'.get? b=Z o):IsTupleKey (intKind prog w) h' t x :=
 let ⟨o,items,n,ho,hc,r⟩:=k;⟨o,items,n,m x o hc ho,hc,r⟩
theorem CJ.noT(x:CJ prog w h a Y){o:Obj}(e:h.get? a=Z o):o.cls≠.type "tuple":=by
 obtain⟨o',es,ep,t,xs,h1,h2,_⟩:=x;rw[h1]at e;cases e;rw[h2.1]
 decide
theorem iN{q z:zZ×Addr}(h:z∈A2 Y q):z∈Y\/z=q:=by
 unfold A2 at h;split at h
 .exact .inl h
 .rcases Bb.mp h with y|y
  .exact .inl y
  .exact .inr (Ax.mp y)
theorem jh(q:zZ×Addr):BC Y<=(A2 Y q).length:=by
 unfold A2;split
 .exact Aj _
 .rw[AE];omega
theorem Xw:∀(l Y:List (zZ×Addr)),BC Y<=(l.foldl A2 Y).length
 |[],_=>Aj _
 |q::l,Y=>Bp (jh q) (Xw l _)
theorem Rx:∀(l Y:List (zZ×Addr)) {z:zZ×Addr},z∈l.foldl A2 Y->z∈Y\/z∈l
 |[],_,_,h=>.inl h
 |q::l,Y,z,h=>by
  rcases Rx l _ h with y|y
  .rcases iN y with y|y
   .exact .inl y
   .exact .inr (by rw[y];exact An ..)
  .exact .inr (Ao _ y)
theorem KZ(h:Heap):CJ prog w (h.push (Ck w)) h.objs.size [] :=
 ⟨_,#[],0,_,[],A1 _ rfl,⟨rfl,rfl,rfl⟩,rfl,rfl,.nil,vR.fresh _,(by decide:(0:Nat)*5<7*3)⟩
variable{R:Result->Shared->Prop}{I:Addr}{fp wr:List Addr}{G:Array GenState->Array GenState->Prop}{P:Nat->Value->Prop}{St:Nat->Shared->Prop}
theorem kG(hu:A.units+1<cLine)(W:WalksS prog w A.in1 I fp wr G qs.length P St)(S:Addr)(wO:S∉fp)(wV:∀i v,P i v->∃q,qs[i]?=Z q/\v=.ref q.2)(hwr:∀i (s:Shared),St i s->∀b∈wr,∀o,s.heap.get? b=Z o->o.cls≠.type "tuple")(hB:(qs.foldl A2 []).length<64):∀(k i:Nat) (s:Shared),qs.length-i=k->i<=BC qs->St i s->CJ prog w s.heap S ((qs.take i).foldl A2 [])->(∀q∈qs,IsTupleKey (intKind prog w) s.heap q.1 q.2) ->(∀s',Moved (S::wr) G s s'->CJ prog w s'.heap S (qs.foldl A2 [])->R (.ok (.ret .none)) s') ->codeAny (model prog w) A (.builtin "set.update.loop" ⟨[.ref S,.ref I],[]⟩) R s:=by
 have zK:S∉wr:=λh=>wO (W.sub _ h);have tT:∀b∈wr,b∈S::wr:=λb hb=>Ao _ hb;intro k
 induction k with
 |zero =>
  intro i s hk hi vj hS _ hR;obtain rfl:i=qs.length:=by omega
  rw[List.take_length]at hS;refine DW F.entry_set_update_loop ?_;rw[Ez F.plain_set_update_loop _];show wpAny _ A.in1 (pyNext (.ref I) >>= _) _ _ s;refine Ac (W.done s _ _ vj λs' hm=>?_);show wpAny _ A.in1 (ret By) _ _ s';exact Ae (hR s' (hm.mono tT) (hS.at' λo e=>hm.heap S o zK e))
 |succ k ih =>
  intro i s hk hi vj hS hq hR;have tf:i<BC qs:=by omega
  refine DW F.entry_set_update_loop ?_;rw[Ez F.plain_set_update_loop _];show wpAny _ A.in1 (pyNext (.ref I) >>= _) _ _ s;refine Ac (W.item i s _ _ tf vj λv s' hP hst' hm=>?_);obtain⟨q,hqi,rfl⟩:=wV i v hP;have hqm:q∈qs:=Bo hqi;have hS':=hS.at' (h':=s'.heap) λo e=>hm.heap S o zK e;have hq':∀q∈qs,IsTupleKey (intKind prog w) s'.heap q.1 q.2:=λz hz=>P2 (hq z hz) λb o hc e=>hm.heap b o (λhb=>hwr i s vj b hb o e hc) e;show wpAny _ A.in1 (holding [Bl q.2] (setAdd S (.ref q.2)) >>= _) _ _ s';refine Ac (Cd ?_);unfold setAdd;refine Cd (Ac (wpAny_pyHash_tuple (A:=A.in1) hu (hq' q hqm) ?_));have e:A2 ((qs.take i).foldl A2 []) q=(qs.take (i+1)).foldl A2 []:=by rw[List.take_succ,hqi];show _=(qs.take i++[q]).foldl A2 [];rw[Tq];rfl
  have tE:∀z∈(qs.take i).foldl A2 [],z∈qs:=λz hz=>by
   rcases Rx _ _ hz with y|y
   .cases y
   .exact Uc y
  have sA:((qs.take i).foldl A2 []).length<64:=by
   refine Tz ?_ hB;have:=Xw (qs.drop i) ((qs.take i).foldl A2 [])
   rwa [<-Tq,a8]at this
  refine iJ (A:=A.in1) (s:={s' with toks:=s'.toks+(q.1.length+1)}) hu hS' (λz hz=>hq' z (tE z hz)) (hq' q hqm) sA λb h' t7 yD=>?_;rw[show(q.1,q.2)=q from rfl,e]at yD;have tM:∀{b:Addr} {o:Obj},o.cls=.type "tuple"->s'.heap.get? b=Z o->b≠S:=λhc e z=>by subst z;exact hS'.noT e hc
  refine Ae ⟨Gz F.plain_set_update_loop _,ih (i+1) _ (by omega) tf (W.frame _ s' _ _ hst' (Nat.le_add_right _ _) λb hb o e=>?_) yD (λz hz=>P2 (hq' z hz) λb o hc e=>?_) λs'' hm'' hS''=>?_⟩
  .rw[t7.2 b (λh:b=S=>wO (by rw[<-h];exact hb))];exact e
  .exact(t7.2 b (tM hc e)).trans e
  .refine hR s'' (Moved.trans W.gtrans ((hm.mono tT).then_heap (Nat.le_add_right _ _) λb o hb e=>?_) hm'') hS''
   rw[t7.2 b (λh:b=S=>hb (by rw[h];exact An))];exact e
set_option maxHeartbeats 3200000 in
theorem j3{l:Addr}{items:Array Value}{Q:z4}(hh:A.handled=Z_)(hu:A.units+3<cLine)(hl:s.heap.IsList l items)(hsz:items.size=qs.length)(hi:∀(i:Nat) v,items[i]?=Z v->∃q,qs[i]?=Z q/\v=.ref q.2)(hq:∀q∈qs,IsTupleKey (intKind prog w) s.heap q.1 q.2)(hB:(qs.foldl A2 []).length<64)(h:∀(h':Heap) (tk:Nat),CJ prog w h' s.heap.objs.size (qs.foldl A2 [])->(∀b o,b<s.heap.objs.size->s.heap.get? b=Z o->h'.get? b=Z o)->Q (.ref s.heap.objs.size) {s with heap:=h',toks:=tk}):wpAny (model prog w) A (call (.type "set") [.ref l]) Q E s:=by
 obtain⟨c,tl,hmro⟩:=Dj.mro;have hmade:=Dj.made;have tT:=Dj.sub;refine Mn (TZ ?_);show wpAny _ _ (callAny (.type "set") _) _ _ _;refine Ae ⟨Code.quiet_builtin _ (by decide +kernel),DW bH ?_⟩;rw[Around.under_plain (weight_type_call_type "set" [.ref l] []) rfl];have h1:=Dj.notType;have h2:=Dj.canCreate;have hct:=bp (.ref l)
 repeat (any_goals (first|assumption|wp_step))
 refine Fc (af (.ref l) (E:=E) (Q₁:=λobj s₁=>obj=.ref s.heap.objs.size/\s₁={s with heap:=s.heap.push (Ck w)}) ⟨rfl,rfl⟩) λr s₁ hr=>?_;cases r with
 |error e=>exact hr
 |ok fl =>
  cases fl with
  |ret obj =>
   obtain⟨rfl,rfl⟩:=hr;have hX:=KZ (prog:=prog) (w:=w) s.heap;have hS:(s.heap.push (Ck w)).get? s.heap.objs.size=Z (Ck w):=A1 _ rfl;have hT:Th {s with heap:=s.heap.push (Ck w)} (.ref s.heap.objs.size) "set":=⟨_,hS,rfl⟩;have hli:=Dj.init.lookup;have yf:=Dj.init.bind (.ref s.heap.objs.size)
   repeat (any_goals (first|assumption|wp_step))
   refine Fc (codeAny_call_builtin (R:=wants (λr s₂=>r=.none/\∃h' tk,s₂={s with heap:=h',toks:=tk}/\CJ prog w h' s.heap.objs.size (qs.foldl A2 []) /\
     (∀b o,b<s.heap.objs.size->s.heap.get? b=Z o->h'.get? b=Z o)) E) Dj.init.plain bo (check_set_init_1 hT ?_)) λr₂ s₂ yx=>?_
   .obtain⟨⟨ocls,w5,odata,v3⟩,xB,tN,nl,ye⟩:=hl
    simp only at tN ye;subst tN;subst ye;have hol':(s.heap.push (Ck w)).get? l=Z {cls:=.type "list",dict:=w5,data:=.seq items nl,slots:=v3}:=Au _ xB;have hsls:=aY;have hslf:=bz;have tM:(GB "list" == GB "dict")=Ab:=by decide
    have uj:(s.heap.push (Ck w)).IsList l items:=⟨_,hol',rfl,nl,rfl⟩;unfold Builtin.«set.__init__» noKeywords bV;generalize hPI:pyIter=PI
    wp_walk
    subst hPI;refine Pb uj (Ac (Px ?_));have zE:l<s.heap.objs.size:=Ar xB;have hh3:A.in1.in1.in1.handled=Z_:=by simp[hh]
    have yR:l≠(s.heap.push (Ck w)).objs.size:=by rw[GP];exact Aw (Je zE)
    have wO:s.heap.objs.size∉[(s.heap.push (Ck w)).objs.size,l]:=by rw[GP];simp only[As,Ax,O2,or_false,not_or];exact⟨Aw (Jc _),Jh zE⟩
    have Wl:=(OO (prog:=prog) (w:=w) hh3 _ l yR items).toS;rw[hsz]at Wl;refine kG (A:=A.in1.in1) hu Wl s.heap.objs.size wO (λi v hv=>hi i v hv) (λi s1 vj b hb o e hc=>?_) hB (qs.length-0) 0 _ (by omega) (BQ _)
     ⟨⟨_,A1 _ rfl,rfl,rfl⟩,uj.push _⟩ (hX.at' λo e=>Au _ e) (λz hz=>P2 (hq z hz) λb o _ e=>Au _ (Au _ e)) λs' hm hS'=>?_
    .obtain⟨⟨o1,f1,f2,_⟩,_⟩:=vj
     rw[Ax.mp hb,f1]at e;cases e;rw[f2]at hc;exact absurd (Value.type.inj hc) (by decide)
    obtain⟨h',g',d',tk',os'⟩:=s';have eg:g'=s.gens:=hm.gens;have ed:d'=s.drawn:=hm.drawn;have eo:os'=s.os:=hm.os;subst eg;subst ed;subst eo
    show wpAny _ _ _ _ _ _;refine Ae ?_;show wpAny _ _ (ret By) _ _ _;refine Ae ⟨rfl,h',tk',rfl,hS',λb o hb e=>?_⟩;refine hm.heap b o ?_ (Au _ (Au _ e));simp only[As,Ax,O2,or_false,not_or];exact⟨Aw hb,by rw[GP];exact Aw (Je hb)⟩
   .cases r₂ with
    |error e=>exact yx
    |ok fl₂ =>
     cases fl₂ with
     |ret r =>
      obtain⟨rfl,h',tk,rfl,hS',hk'⟩:=yx
      repeat (any_goals (first|assumption|wp_step))
      exact h _ _ hS' hk'
     |_=>exact yx.elim
  |_=>exact hr.elim
end
end
end HP
namespace HP
open PySem PySem.Spec PySem.W PySem.Calls PyProof.Rows L2
variable{F:Hp}{K:Af}
theorem mR{α β:Type}{f:α->β}:∀{l m:List β},l.Perm m->∀xs:List α,m=xs.map f->∃zs:List α,zs.Perm xs/\zs.map f=l:=by
 intro l m h
 induction h with
 |nil =>
  intro xs e;cases xs with
  |nil=>exact⟨[],.nil,rfl⟩
  |cons _ _=>cases e
 |cons x _ ih =>
  intro xs e;cases xs with
  |nil=>cases e
  |cons y ys =>
   injection e with e1 e2
   obtain⟨zs,h1,h2⟩:=ih ys e2;exact⟨y::zs,h1.cons y,by rw[Ai,h2,e1]⟩
 |swap x y l =>
  intro xs e
  match xs,e with
  |a::b::ys,e =>
   injection e with e1 e2
   injection e2 with e2 e3
   exact⟨b::a::ys,.swap _ _ _,by rw[Ai,Ai,e1,e2,e3]⟩
 |trans _ _ ih1 ih2=>intro xs e;obtain⟨zs,h1,h2⟩:=ih2 xs e;obtain⟨ws,h3,h4⟩:=ih1 zs h2.symm;exact⟨ws,h3.trans h1,h4⟩
theorem ji(Y:List (zZ×Addr))(q:zZ×Addr):(A2 Y q).map (·.1)=if(Y.map (·.1)).contains q.1 then Y.map (·.1)else Y.map (·.1)++[q.1]:=by
 unfold A2;split
 .rfl
 .rw[BB];rfl
theorem Ya:∀(qs Y:List (zZ×Addr)),(qs.foldl A2 Y).map (·.1)=HM.B5 (Y.map (·.1)) (qs.map (·.1))
 |[],Y=>rfl
 |q::qs,Y=>by
  rw[DX,Ya qs,ji,Ai];show _=if(Y.map (·.1)).contains q.1 then HM.B5 (Y.map (·.1)) (qs.map (·.1))else HM.B5 (Y.map (·.1)++[q.1]) (qs.map (·.1))
  split<;>rfl
variable[FX]
section
variable{X:Cx}{a b c e:Expr}{fa fb fc:HM.EF}{pos p:Pos}{f:HM.BF}
theorem UD{su:z7}{σ:L2.St}{H:Hp}{s:Shared}(I:Inv X su σ H s){b:Addr}{t:zZ}(h:H b=Z (.tup (t.map V.int))):TI s.heap b t:=by obtain⟨z,sy,rt,o,h1,h2,n,h3⟩:=(show Z6 X.prog X.w H s.heap b (.tup (t.map V.int)) from I.hok b _ h);exact⟨o,sy.toArray,n,h1,h2,h3,by simpa using JF rt⟩
theorem lx(hc:X.calm=Aa)(hr:X.A.units+64<cLine):A7 X (.type "set") (λxs H Q=>∃p,∃qs:List (zZ×Addr),xs=[.ref p]/\tQ X.K H p (qs.map λq=>V.ref q.2)/\(∀q∈qs,H q.2=Z (.tup (q.1.map V.int)))/\(qs.foldl A2 []).length<64 /\
  ∀l,H l=Z_->Q (.ref l) (upd H l (.ext λh=>CJ X.prog X.w h l (qs.foldl A2 [])))):=by
 intro su s σ H xs us Q I r h;obtain⟨p,qs,rfl,hq,hH,hB,q⟩:=h;obtain⟨u,rfl,rx⟩:=vals1 r;cases rx;obtain⟨sy,rv,pl,hz⟩:=I.list hq;have sA:=rv.length;rw[Ad]at sA;refine j3 (I.ok.hd hc) (by omega) pl.isList (by rw[AR,sA]) (λi v e=>?_) (λz hz=>du (UD I (hH z hz))) hB λh' tk hS kp=>?_
 .rw[List.getElem?_toArray]at e
  have hi:i<BC qs:=by rw[sA];exact(Bf.mp e).1
  obtain⟨u,hu,ru⟩:=rv.get (show(qs.map λq=>V.ref q.2)[i]?=Z (V.ref qs[i].2) by rw[AD,AK hi];rfl);rw[e]at hu;cases hu;cases ru;exact⟨qs[i],AK hi,rfl⟩
 .have hS':=hS
  obtain⟨o,es,ep,t,xs,ho,_⟩:=hS';refine⟨.ref s.heap.objs.size,_,I.laid (a:=s.heap.objs.size) (o:=.ext λh=>CJ X.prog X.w h s.heap.objs.size (qs.foldl A2 [])) (λb o e=>kp b o (Ar e) e) (Aj _) ?_,rfl,q _ (I.hok.fresh (Aj _))⟩;exact⟨hS,⟨o,ho⟩,λh1 h2 x kk=>x.at' kk⟩
theorem oq(hc:X.calm=Aa):A7 X (.builtin "sorted") (λxs H Q=>∃p,∃Y:List (zZ×Addr),xs=[.ref p]/\H p=Z (.ext λh=>CJ X.prog X.w h p Y)/\(∀q∈Y,H q.2=Z (.tup (q.1.map V.int))/\q.1≠[])/\Y.length<64 /\
  ∀l (us:List (zZ×Addr)),H l=Z_->us.Perm Y->us.map (·.1)=HM.Bc (Y.map (·.1))->Q (.ref l) (upd H l (.lst (us.map λq=>V.ref q.2)))):=by
 intro su s σ H xs us Q I r h;obtain⟨p,Y,rfl,hp,hY,zN,q⟩:=h;obtain⟨u,rfl,rx⟩:=vals1 r;cases rx;obtain⟨hX,_,_⟩:=(show Z6 X.prog X.w H s.heap p (.ext λh=>CJ X.prog X.w h p Y) from I.hok p _ hp);obtain⟨o,es,ep,t,xs,ho,vk,hd,he,uM,T,_⟩:=hX;have sA:es.size=xs.length:=by rw[<-Bk,he,Ad]
 have yb:es.size=t.place.size:=by rw[sA,<-T.len,Ad]
 have hxl:=uM.length_eq;have raw:Dl X.w s.heap p es ep t:=⟨⟨o,ho,vk,hd⟩,T.fits yb,yb,T.rise,T.led,T.plain⟩;refine Py kind_sorted plain_sorted entry_sorted (args_sorted1 _) ?_;unfold Builtin.«sorted»;refine Ac (m:=checkCount "sorted" 1 1 _) (Ae ?_);refine Ac (LL (VB (es:=es) (ep:=ep) (t:=t)) (I.ok.hd hc) raw (by rw[BR];omega) λh' tk acc kp _ sW=>?_);have uT:acc.toList.length=es.size:=by rw[Bk];exact sW.1
 obtain⟨zs,z1,z2⟩:=mR (NL X.w p es ep) xs he;have hzl:=z1.length_eq;have hacc':acc.toList=zs.map λq=>Bl q.2:=by apply List.ext_getElem (by rw[uT,Ad];omega);intro i h1 h2;obtain⟨e,e1,e2⟩:=sW.2 i acc.toList[i] (by rw[<-Ca];exact AK h1);rw[<-Ca,<-z2,AD]at e1;obtain⟨y,y1,y2⟩:=Ak.mp e1;rw[e2,<-y2];rw[Ad]at h2;rw[AK h2]at y1;cases y1;simp
 refine Ac (OV ?_ (by rw[uT,BR];omega));have vN:(h'.push (seqObj "list" acc.toList.toArray 0)).get? h'.objs.size=Z (seqObj "list" acc.toList.toArray 0):=A1 _ rfl;show wpAny _ _ _ _ _ {s with heap:=h'.push (seqObj "list" acc.toList.toArray 0),toks:=tk};have hzY:∀q∈zs,q∈Y:=λq hq=>uM.mem_iff.mp (z1.mem_iff.mp hq);have tf:(zs.map (·.1)).length=acc.toList.length:=by rw[hacc',Ad,Ad]
 have hT:∀(i:Nat) t,(zs.map (·.1))[i]?=Z t->∃b,acc.toList[i]?=Z (.ref b)/\TI (h'.push (seqObj "list" acc.toList.toArray 0)) b t:=λi t e=>by rw[AD]at e;obtain⟨y,y1,rfl⟩:=Ak.mp e;refine⟨y.2,by rw[hacc',AD,y1];rfl,?_⟩;exact(UD I (hY y (hzY y (Bo y1))).1).keep λo e=>Au _ (kp _ o e)
 refine Ac (Cd (E7 Pt ⟨_,vN,rfl⟩ Pj (WZ vN tf hT (.inr λt ht=>?_) (by omega) λpm hpp hs=>⟨_,rfl,?_⟩) (Pr _)))
 .obtain⟨y,hy,rfl⟩:=Al.mp ht
  exact(hY y (hzY y hy)).2
 .refine Ae ⟨_,rfl,?_⟩
  have tE:∀i∈pm,i<BC zs:=λi hi=>by have:=AI.mp (hpp.mem_iff.mp hi);omega
  have zx:∀i,i<BC zs->zs[i]?=Z (zs.getD i ([],0)):=λi hi=>by rw[HA,AK hi];rfl
  have hpz2:(pm.map λi=>zs.getD i ([],0)).Perm zs:=by
   refine(hpp.map _).trans (.of_eq ?_);apply List.ext_getElem?;intro i;rw[AD]
   by_cases hi:i<BC zs
   .rw[Ub (by omega)]
    exact(zx i hi).symm
   .rw[KA (by rw[DC];omega),KA (by omega)]
    rfl
  have hpY:=hpz2.trans (z1.trans uM);have vZ:(pm.map λi=>zs.getD i ([],0)).map (·.1)=pm.map λi=>(zs.map (·.1)).getD i []:=by rw[Aq];refine E9 λi hi=>?_;rw[HA (l:=zs.map (·.1)),AD,zx i (tE i hi)];rfl
  rw[<-vZ]at hs;have t6:=Yr (hpY.map (·.1)) hs;obtain⟨ee,hee⟩:=sortedHeap_at (vs:=acc.toList) (out:=(pm.map λi=>acc.toList.getD i By).toArray) vN;have I1:Inv X su σ H {s with heap:=h',toks:=tk}:=I.kept kp;have hvals:sC ((pm.map λi=>zs.getD i ([],0)).map λq=>V.ref q.2) (pm.map λi=>acc.toList.getD i By):=by rw[Aq];refine Ij (by simp) λk v u e1 e2=>?_;rw[AD]at e1 e2;obtain⟨i,hi,rfl⟩:=Ak.mp e1;rw[hi]at e2;cases e2;have:=zx i (tE i (Bo hi));show RelV (V.ref (zs.getD i ([],0)).2) (acc.toList.getD i By);rw[hacc',HA (l:=zs.map λq=>Bl q.2),AD,this];rfl
  refine⟨.ref h'.objs.size,_,I1.laid (a:=h'.objs.size) (o:=.lst ((pm.map λi=>zs.getD i ([],0)).map λq=>V.ref q.2)) (t':=tk) (λb o e1=>?_) (Aj _) ⟨by rw[Ad,hpY.length_eq,BR];omega,_,ee,hvals,by simpa using hee⟩,rfl,q _ _ (I1.hok.fresh (Aj _)) hpY t6⟩;exact RG (Aw (Ar e1)) (Au _ e1)
theorem iK{b:Addr}{t:zZ}(h:F b=Z (.tup (t.map V.int))):Rep K F (.tuple (HM.uQ t)) (.ref b):=.tup h (IB (K:=K) (F:=F) t).1 (IB (K:=K) (F:=F) t).2
theorem kC(us:List (zZ×Addr))(h:∀q∈us,F q.2=Z (.tup (q.1.map V.int))):Zu K F (HM.Mf (us.map (·.1))) (us.map λq=>V.ref q.2):=by unfold HM.Mf;refine⟨by simp,λi d v e1 e2=>?_⟩;rw[Aq,AD]at e1;rw[AD]at e2;obtain⟨q,hq,rfl⟩:=Ak.mp e1;rw[hq]at e2;cases e2;exact iK (h q (Bo hq))
theorem W2{K:Af}{F:Hp}:∀{ts:z0} {vs:List V},Zu K F (HM.Mf ts) vs->∃qs:List (zZ×Addr),vs=(qs.map λq=>V.ref q.2)/\qs.map (·.1)=ts/\∀q∈qs,F q.2=Z (.tup (q.1.map V.int))
 |[],vs,r=>⟨[],r.nil_inv,rfl,λq hq=>by cases hq⟩
 |t::ts,vs,r=>by
  obtain⟨v,us,rfl,r1,r2⟩:=r.cons_inv;obtain⟨c,rfl,hc⟩:=mx r1;obtain⟨qs,rfl,e2,h⟩:=W2 r2;refine⟨(t,c)::qs,rfl,by rw[Ai,e2],λq hq=>?_⟩;rcases As.mp hq with rfl|hq
  .exact hc
  .exact h q hq
theorem ak(hm:X.mg "sorted"=Z_)(u9:X.mg "set"=Z_)(hc:X.calm=Aa)(hr:X.A.units+64<cLine){p' pos':Pos}(ha:XB X a f)(hg:Gl X "sorted":=by rfl)(vq:Gl X "set":=by rfl)(hs:Ag [a] X.env=[(Ab,eval a X.env)]:=by rfl)(uX:Ag [Ki (.Name "set" p') [a] [] pos'] X.env=[(Ab,eval (Ki (.Name "set" p') [a] [] pos') X.env)]:=by rfl):XF X (.Call (.Name "sorted" p) [.Call (.Name "set" p') [a] [] pos'] [] pos) (HM.EY f):=by
 intro r d h;unfold HM.EY at h;split at h
 .rename_i x hx
  split at h
  .rename_i ds sY
   split at h
   .rename_i ts hts
    split at h
    .rename_i xO
     cases h;rw[Bn,decide_eq_true_eq]at xO;refine PE.imp (FE (oq hc) hg hm NI (BM (G8 (lx hc hr) vq u9 Vc (Fq ha hx hs) (he:=hs)) CL uX) (he:=uX)) λσ H Q ⟨F0,H0,F,at_,k⟩=>?_;refine⟨F0,H0,F,at_,λv fp F1 H1 x1 r1=>?_⟩;obtain⟨l,vs,e1,hq,rs⟩:=JG x1.sub r1 sY;subst e1;rw[Q5 hts]at rs;obtain⟨qs,rfl,e2,hF⟩:=W2 rs;have vZ:(qs.foldl A2 []).map (·.1)=HM.B5 [] ts:=by rw[Ya,e2];rfl
     have hB:(qs.foldl A2 []).length<64:=by have:=congrArg BC vZ;rw[Ad]at this;omega
     have tE:∀q∈qs.foldl A2 [],q∈qs:=λq hq=>(Rx qs [] hq).resolve_left (by simp);refine⟨l,qs,rfl,hq,λq hq=>x1.sub _ _ (hF q hq),hB,λl2 vI=>⟨l2,_,rfl,ZJ,λq hq=>⟨?_,?_⟩,hB,λl3 us hl3 uq hu=>?_⟩⟩
     .have h1:=x1.sub _ _ (hF q (tE q hq))
      unfold upd;rw[if_neg (λz=>by rw[z,vI]at h1;cases h1)];exact h1
     .have ht:q.1∈ts:=by rw[<-e2];exact Al.mpr ⟨q,tE q hq,rfl⟩
      have:=Ay.mp xO.2 q.1 ht;intro z;rw[z]at this;cases this
     .have x2:=x1.lay' (o:=.ext λh=>CJ X.prog X.w h l2 (qs.foldl A2 [])) vI
      have rp:=kC (K:=X.K) (F:=F1) us λq hq=>hF q (tE q (uq.mem_iff.mp hq));rw[hu,vZ]at rp;exact Hg (P:=λv _ H'=>Q v H') x2 rp hl3 k
    .cases h
   .cases h
  .cases h
 .cases h
end
end HP
namespace HM
open PySem
variable{r:Env}{ds:z5}{i n:Nat}{body:SF}
theorem Cj{α:Type}{c:TF}{e:EF}{r:Env}(g:α->D)(p:α->Bool)(f:α->D):∀(xs:List α),(∀x∈xs,c (Z (.pl (g x))::r)=Z (p x))->(∀x∈xs,p x=Aa->e (Z (.pl (g x))::r)=Z (f x))->Z3 c e r (xs.map g)=Z ((xs.filter p).map f)
 |[],_,_=>rfl
 |x::xs,h1,h2=>by
  have ih:=Cj g p f xs (λy hy=>h1 y (Ao _ hy)) (λy hy=>h2 y (Ao _ hy));have hc:=h1 x (An ..);rw[Ai];unfold Z3;rw[hc];cases hp:p x with
  |true=>have he:=h2 x (An ..) hp;dsimp only;rw[he];dsimp only;rw[ih,bG hp];rfl
  |false=>dsimp only;rw[ih,bF (by simp[hp])]
theorem CP{α:Type}{e:EF}(g:α->D)(f:α->D)(xs:List α)(h:∀x∈xs,e (Z (.pl (g x))::r)=Z (f x)):Z3 ZD e r (xs.map g)=Z (xs.map f):=by rw[Cj g (λ_=>Aa) f xs (λ_ _=>rfl) λx hx _=>h x hx,Kr.mpr λ_ _=>rfl]
theorem Dp{x:D}{xs:z5}{r':Env}{q:Option vz}(e:body (r.set i (Z (.pl x)))=Z (.nx r'))(h:Z7 i body xs r'=q):Z7 i body (x::xs) r=q:=by rw[Z7,e];exact h
theorem Nj{α:Type}(g:α->D)(P:List α->Env->Prop)(xs:List α)(r:Env)(h0:P [] r)(hs:∀pre x post r,xs=pre++x::post->P pre r->∃r',body (r.set i (Z (.pl (g x))))=Z (.nx r')/\P (pre++[x]) r'):∃r',Z7 i body (xs.map g) r=Z (.nx r')/\P xs r':=by
 have key:∀(post pre:List α) (r:Env),xs=pre++post->P pre r->∃r',Z7 i body (post.map g) r=Z (.nx r')/\P xs r':=by
  intro post
  induction post with
  |nil=>intro pre r e h;rw[Ba]at e;subst e;exact⟨r,rfl,h⟩
  |cons x post ih=>intro pre r e h;obtain⟨r1,h1,h2⟩:=hs pre x post r e h;obtain⟨r2,h3,h4⟩:=ih (pre++[x]) r1 (by rw[e,B8];rfl) h2;refine⟨r2,?_,h4⟩;rw[Ai];unfold Z7;rw[h1];exact h3
 exact key xs [] r rfl h0
abbrev dI(i:Int):D:=BK i
abbrev dN(k:Nat):D:=BK (k:Int)
theorem N0(ns:zZ):uQ ns=ns.map dI:=rfl
theorem Dc(n:Nat):JU 0 n=(Ah n).map dN:=by unfold JU;refine E9 λk _=>?_;show BK (0+(k:Int))=BK (k:Int);rw[Int.zero_add]
theorem FG(ns:zZ):Cg (ns.map dI)=Z ns:=by
 induction ns with
 |nil=>rfl
 |cons n ns ih=>show(Cg (ns.map dI)).map (n::·)=_;rw[ih];rfl
theorem N5(bs:List Bool):D8 (bs.map λb=>Bq b)=Z bs:=by
 induction bs with
 |nil=>rfl
 |cons b bs ih=>show(D8 (bs.map λb=>Bq b)).map (b::·)=_;rw[ih];rfl
abbrev sx(ns:zZ):D:=Bj (ns.map dI)
theorem ER{j:Nat}{d:D}(h:ds[j]?=Z d):vw ds (j:Int)=Z d:=by have hj:j<BC ds:=(Bf.mp h).1;unfold vw wz;rw[if_pos (by omega),if_pos (by omega)];simpa using h
theorem Nd{i:Int}{d:D}(h0:0<=i)(h:ds[i.toNat]?=Z d):vw ds i=Z d:=by
 have e:i=((i.toNat:Nat):Int):=by omega
 rw[e];exact ER (by simpa using h)
@[simp] theorem sk(d:D)(r:z5):vw (d::r) 0=Z d:=ER (j:=0) rfl
@[simp] theorem sj(a d:D)(r:z5):vw (a::d::r) 1=Z d:=ER (j:=1) rfl
@[simp] theorem sm(a b d:D)(r:z5):vw (a::b::d::r) 2=Z d:=ER (j:=2) rfl
@[simp] theorem sq(a b c d:D)(r:z5):vw (a::b::c::d::r) 3=Z d:=ER (j:=3) rfl
@[simp] theorem so(a b c e d:D)(r:z5):vw (a::b::c::e::d::r) 4=Z d:=ER (j:=4) rfl
theorem sd(i j:Int)(h:(A4 i||A4 j)=Aa):CG (.int i) (.int j)=Z (.int (i*j)):=by show(if A4 i||A4 j then Z (BK (i*j))else Z_)=_;rw[if_pos h]
@[simp] theorem sf:A4 7=Aa:=rfl
@[simp] theorem ql:A4 11=Aa:=rfl
@[simp] theorem qq:A4 13=Aa:=rfl
@[simp] theorem qf:A4 17=Aa:=rfl
@[simp] theorem qb:A4 19=Aa:=rfl
@[simp] theorem qo:A4 23=Aa:=rfl
@[simp] theorem qt:A4 29=Aa:=rfl
@[simp] theorem qd:A4 31=Aa:=rfl
@[simp] theorem qe:A4 37=Aa:=rfl
@[simp] theorem qi:A4 41=Aa:=rfl
@[simp] theorem qp:A4 43=Aa:=rfl
@[simp] theorem qc:A4 47=Aa:=rfl
@[simp] theorem pZ:A4 53=Aa:=rfl
@[simp] theorem qr:A4 59=Aa:=rfl
@[simp] theorem qm:A4 61=Aa:=rfl
@[simp] theorem qa:A4 67=Aa:=rfl
@[simp] theorem qh:A4 71=Aa:=rfl
@[simp] theorem qg:A4 73=Aa:=rfl
@[simp] theorem qw:A4 48271=Aa:=rfl
@[simp] theorem sh:A4 2=Aa:=rfl
@[simp] theorem qk:A4 3=Aa:=rfl
@[simp] theorem sg:A4 5=Aa:=rfl
theorem Rz{i:Int}(h1:-1000000000<i)(h2:i<1000000000):A4 i=Aa:=by
 unfold A4;have:i.natAbs<18446744073709551616:=by omega
 exact IU.mpr this
theorem Fz(h:n<1000000):v9 (n:Int)=Aa:=IU.mpr (by omega)
@[simp] theorem pV(i:Int):CN (.int i)=Aa:=rfl
@[simp] theorem pW(i:Bool):CN (.bool i)=Aa:=rfl
@[simp] theorem pX:CN .none=Aa:=rfl
@[simp] theorem sr(i j:Int):BN (.int i) (.int j)=(i==j):=rfl
structure Wk where
 many:Nat
 deeds:List z0
 looks:z0
 beg:zZ
 goal:zZ
noncomputable def ZY (dd:z0):D:=.tuple (dd.map sx)
def Wk.d(w:Wk):D:=.tuple [.int w.many,.tuple (w.deeds.map ZY),.tuple (w.looks.map sx),sx w.beg,sx w.goal]
abbrev qP(d:D):Option B:=Z (.pl d)
abbrev qQ(ds:z5):Option B:=Z (.ol ds)
abbrev qW(w:Wk):Option B:=Z (.pl w.d)
abbrev qT(c:zZ):Option B:=Z (.pl (sx c))
abbrev qL(C:z0):Option B:=Z (.pl (.list (C.map sx)))
abbrev qO(C:z0):Option B:=Z (.ol (C.map sx))
def Cr(n:Nat)(c:zZ):Prop:=c.Pairwise (· < ·)/\∀x∈c,0<=x/\x<(n:Int)
structure Wk.Ok(w:Wk):Prop where
 m1:2<=w.many
 m2:w.many<=5
 d1:1<=w.deeds.length
 d2:w.deeds.length<=3
 dl:∀dd∈w.deeds,BC dd=w.many
 dc:∀dd∈w.deeds,∀c∈dd,Cr w.many c
 l2:w.looks.length<=3
 ll:∀l∈w.looks,BC l=w.many
 lc:∀l∈w.looks,∀x∈l,0<=x/\x<=9
 b1:w.beg≠[]
 bc:Cr w.many w.beg
 g1:w.goal≠[]
 gc:Cr w.many w.goal
theorem Cr.len:∀{c:zZ},Cr n c->c.length<=n:=by
 have key:∀(c:zZ) (l:Int),c.Pairwise (· < ·)->(∀x∈c,l<=x/\x<(n:Int))->(c.length:Int)<=max 0 ((n:Int)-l):=by
  intro c
  induction c with
  |nil=>intro l _ _;simp;omega
  |cons x c ih=>intro l hp hb;have h1:=hb x (An ..);have h2:=ih (x+1) (Ed.mp hp).2 λy hy=>⟨by have:=(Ed.mp hp).1 y hy;omega,(hb y (Ao _ hy)).2⟩;rw[Av];omega
 intro c h;have:=key c 0 h.1 h.2;omega
theorem sortI_perm(ns:zZ):(sortI ns).Perm ns:=PV ns _
theorem ja(ns:zZ):(sortI ns).Pairwise (·<=·):=by have h:=PJ (le:=λa b:Int=>decide (a<=b)) (λa b c h1 h2=>by simp at *;omega) (λa b=>by simp;omega) ns;exact h.imp λh=>by simpa using h
theorem Y1:∀{ns:zZ},ns.Pairwise (·<=·)->ns.Nodup->ns.Pairwise (· < ·)
 |[],_,_=>.nil
 |n::ns,h,hn=>by obtain⟨h1,h2⟩:=Ed.mp h;obtain⟨n1,n2⟩:=CC.mp hn;refine Ed.mpr ⟨λx hx=>?_,Y1 h2 n2⟩;have:=h1 x hx;have:n≠x:=λe=>n1 (e▸hx);omega
theorem Np{ns:zZ}(hn:ns.Nodup)(hb:∀x∈ns,0<=x/\x<(n:Int)):Cr n (sortI ns) :=
 ⟨Y1 (ja ns) ((sortI_perm ns).nodup_iff.mpr hn),λx hx=>hb x ((sortI_perm ns).mem_iff.mp hx)⟩
theorem Rl(ns:zZ)(h:BC ns<64):EO (ns.map dI)=Z ((sortI ns).map dI):=by unfold EO;rw[if_pos (by rw[Ad];exact h),FG];rfl
theorem LB:∀(ns acc:zZ) (x:Int),x∈tL acc ns↔x∈acc\/x∈ns
 |[],acc,x=>by simp[tL]
 |n::ns,acc,x=>by
  unfold tL;split
  .rename_i h
   have h':n∈acc:=by simpa using h
   rw[LB ns acc x]
   constructor
   .rintro (h|h)
    .exact .inl h
    .exact .inr (Ao _ h)
   .rintro (h|h)
    .exact .inl h
    .rcases As.mp h with e|e
     .exact .inl (e▸h')
     .exact .inr e
  .rw[LB ns _ x,Bb,Ax,As]
   constructor
   .rintro ((h|h)|h)
    .exact .inl h
    .exact .inr (.inl h)
    .exact .inr (.inr h)
   .rintro (h|h|h)
    .exact .inl (.inl h)
    .exact .inl (.inr h)
    .exact .inr h
theorem Oq:∀(ns acc:zZ),acc.Nodup->(tL acc ns).Nodup
 |[],acc,h=>h
 |n::ns,acc,h=>by
  unfold tL;split
  .exact Oq ns acc h
  .rename_i hc
   have hc':n∉acc:=by simpa using hc
   refine Oq ns _ ?_;rw[Ee];exact⟨h,by simp,λa ha b hb=>by simp at hb;subst hb;exact λe=>hc' (e▸ha)⟩
end HM
namespace HG
open PySem HM
def Y4:SF :=
 (Zr (tw (xW (tV (Gn (Za 0) .bool)) (BX (tV (Gn (Za 0) .int)))) (ZG (eC (.bool Ab))) AL)
  (ZG (IG xG xG (Za 1) (Za 0) (Za 2))))
def Gu:z5->Option D:=fnOf 3 3 Y4
def X9:SF :=
 (ZG (GS (Gn (Za 0) .tuple) (IG xG xG (Za 1) (Z5 (Zg 0)) (Za 2))))
def D9:z5->Option D:=fnOf 3 3 X9
def EZ:SF :=
 (Zr (tw (BX (tV (Zi Gu (Zb (Za 3) (Zb (Za 2) (Zb (sG KY (Za 1) (eC (.int 1))) Zj)))))) (ZG (eC (.bool Ab))) AL)
  (ZN 2 (sG Bu (Za 3) (eC (.int 1)))))
def Ol:SF :=
 (Zr (tw (BX (tV (Gn (Za 0) .tuple))) (ZG (eC (.bool Ab))) AL)
  (Zr (ZN 2 (eC (.int 0)))
  (Zr (AH 3 (Zy (sD (Za 0))) EZ)
  (ZG (eC (.bool Aa))))))
def DQ:z5->Option D:=fnOf 2 4 Ol
def RY:SF :=
 (ZG (GS (Zi D9 (Zb (Za 0) (Zb (Za 1) (Zb (Za 1) Zj)))) (Cu (Zt (Zy (sD (Za 0))) ZD (Zi DQ (Zb (Za 0) (Zb (Za 2) Zj)))))))
def IA:z5->Option D:=fnOf 2 2 RY
def RX:SF :=
 (ZG (GS (Zi D9 (Zb (Za 0) (Zb (Za 1) (Zb (Za 1) Zj)))) (Cu (Zt (Zy (sD (Za 0))) ZD (Zi Gu (Zb (Za 0) (Zb (eC (.int 0)) (Zb (eC (.int 9)) Zj))))))))
def Iz:z5->Option D:=fnOf 2 2 RX
def Y3:SF :=
 (ZG (GS (Zi D9 (Zb (Za 0) (Zb (eC (.int 1)) (Zb (eC (.int 5)) Zj)))) (Cu (Zt (Zy (sD (Za 0))) ZD (Zi IA (Zb (Za 0) (Zb (Za 2) Zj)))))))
def L7:z5->Option D:=fnOf 2 2 Y3
def Y2:SF :=
 (ZG (GS (Zi D9 (Zb (Za 0) (Zb (eC (.int 0)) (Zb (eC (.int 4)) Zj)))) (Cu (Zt (Zy (sD (Za 0))) ZD (Zi Iz (Zb (Za 0) (Zb (Za 2) Zj)))))))
def L6:z5->Option D:=fnOf 2 2 Y2
def YT:SF :=
 (ZG (GS (Zi DQ (Zb (Za 0) (Zb (Za 1) Zj))) (sG vm (Z5 (Zg 0)) (eC (.int 0)))))
def LQ:z5->Option D:=fnOf 2 2 YT
def aF:SF :=
 (Zr (tw (xW (BX (tV (Zi D9 (Zb (Za 0) (Zb (eC (.int 5)) (Zb (eC (.int 5)) Zj)))))) (BX (tV (Zi Gu (Zb (sS (Zg 0) (eC (.int 0))) (Zb (eC (.int 1)) (Zb (eC (.int 8)) Zj))))))) (ZG (eC (.bool Ab))) AL)
  (Zr (ZN 1 (sS (Zg 0) (eC (.int 0))))
  (Zr (tw (xW (BX (tV (Zi L7 (Zb (sS (Zg 0) (eC (.int 1))) (Zb (Za 1) Zj))))) (BX (tV (Zi L6 (Zb (sS (Zg 0) (eC (.int 2))) (Zb (Za 1) Zj)))))) (ZG (eC (.bool Ab))) AL)
  (ZG (GS (Zi LQ (Zb (sS (Zg 0) (eC (.int 3))) (Zb (Za 1) Zj))) (Zi DQ (Zb (sS (Zg 0) (eC (.int 4))) (Zb (Za 1) Zj))))))))
def L5:z5->Option D:=fnOf 1 2 aF
def YS:SF :=
 (ZG (sS (Zg 0) (eC (.int 1))))
def Gx:z5->Option D:=fnOf 1 1 YS
def YR:SF :=
 (ZG (sS (Zg 0) (eC (.int 2))))
def IP:z5->Option D:=fnOf 1 1 YR
def Yy:SF :=
 (Zr (tw (BX (tV (Zi L5 (Zb (Za 0) Zj)))) Xa AL)
  (ZG (Za 0)))
def LJ:z5->Option D:=fnOf 1 1 Yy
def aO:SF :=
 (Zr (tw (BX (tV (Zi DQ (Zb (Za 1) (Zb (Z5 (sD (Zi IP (Zb (Za 0) Zj)))) Zj))))) Xa AL)
  (ZG (Za 1)))
def Mc:z5->Option D:=fnOf 2 2 aO
def Yx:SF :=
 (ZG (De (Zt (Zy (sD (Za 1))) ZD (sS (sD (sS (sD (Zi IP (Zb (Za 1) Zj))) (Za 0))) (Za 3)))))
def LI:z5->Option D:=fnOf 3 3 Yx
def aK:SF :=
 (Zr (ZN 3 (sS (sD (Zi Gx (Zb (Za 0) Zj))) (Za 2)))
  (ZG (Cu (Zt (Zy (sD (Za 1))) ZD (sG vm (Z5 (sD (sS (Zg 4) (Za 0)))) (eC (.int 0)))))))
def Me:z5->Option D:=fnOf 3 4 aK
def aj:SF :=
 (ZG (tS (Zt (CM (Z5 (sD (Zi Gx (Zb (Za 0) Zj))))) (tV (Zi Me (Zb (Za 1) (Zb (Za 2) (Zb (Za 0) Zj))))) (Za 0))))
def LX:z5->Option D:=fnOf 2 2 aj
def NW:SF :=
 (GU 4 (Za 6) (eC (.bool Aa)))
def NV:SF :=
 (AH 6 (Zy (sD (sS (Zg 3) (Za 5)))) NW)
def X8:SF :=
 (Zr (ZN 3 (sS (sD (Zi Gx (Zb (Za 0) Zj))) (Za 2)))
  (Zr (ZO 4 fDk)
  (Zr (AH 5 (Zy (sD (Za 1))) NV)
  (ZG (De (NZ (Zg 4)))))))
def JN:z5->Option D:=fnOf 3 7 X8
def NU:SF :=
 (mZ 3 (Zi LI (Zb (Za 0) (Zb (Za 1) (Zb (Za 4) Zj)))) (Za 4))
def X7:SF :=
 (Zr (ZO 3 UQ)
  (Zr (AH 4 (Zy (sD (Za 2))) NU)
  (ZG (tS (Zt (Zy (sD (tS (NZ (Zg 3))))) ZD (D2 (Zb (Za 0) (Zb (De (Xd 4 (Za 0))) Zj))))))))
def Df:z5->Option D:=fnOf 3 5 X7
def YQ:SF :=
 (Zr (tw (tV (sG vt (Za 1) (Z5 (Zg 0)))) (ZG (sS (Zg 0) (Za 1))) AL)
  (ZG (eC (.int 0))))
def Eb:z5->Option D:=fnOf 2 2 YQ
def Yw:SF :=
 (ZG (sG UR (sG UR (sG CG (Za 0) (eC (.int 48271))) (Za 1)) (Za 2)))
def ZR:z5->Option D:=fnOf 3 3 Yw
def SG:SF :=
 (Zr (ZO 3 (Zt (CM (Za 1)) (tV (sG vt (Zi ZR (Zb (sG Bu (sG Bu (Za 1) (sG CG (sG CG (eC (.int 31)) (Za 0)) (Za 0))) (sG CG (eC (.int 7)) (Za 0))) (Zb (eC (.int 9973)) (Zb (eC (.int 5)) Zj)))) (eC (.int 2)))) (Za 0)))
  (Zr (tw (tV (sG vt (Z5 (Zg 3)) (Za 2))) (ZO 3 (C3 (Zb (Zi ZR (Zb (Za 0) (Zb (eC (.int 9967)) (Zb (Za 1) Zj)))) Zj))) AL)
  (ZG (De (Zg 3)))))
def IK:z5->Option D:=fnOf 3 4 SG
def IJ:SF :=
 (Zr (ZN 4 (sG Bu (sG Bu (Za 0) (sG CG (sG CG (eC (.int 43)) (Za 3)) (Za 3))) (sG CG (eC (.int 11)) (Za 3))))
  (Zr (ZN 5 (Zi ZR (Zb (Za 4) (Zb (eC (.int 9949)) (Zb (eC (.int 10)) Zj)))))
  (Zr (ZO 6 (m5 (Zi ZR (Zb (Za 4) (Zb (eC (.int 9941)) (Zb (Za 1) Zj)))) (eC (.bool Aa))))
  (Zr (tw (tV (sG vt (Za 5) (eC (.int 3)))) (GU 6 (Zi ZR (Zb (Za 4) (Zb (eC (.int 9931)) (Zb (Za 1) Zj)))) (eC (.bool Aa))) AL)
  (Zr (Io 2 (De (NZ (Zg 6))))
  (tw (tV (sG tK (Za 5) (eC (.int 9)))) (lB 2 (eC (.int (-1))) (D2 Zj)) AL))))))
def YO:SF :=
 (Zr (ZO 2 (C3 Zj))
  (Zr (AH 3 (CM (Za 1)) IJ)
  (ZG (De (Zg 2)))))
def LP:z5->Option D:=fnOf 2 7 YO
def L4:SF :=
 (Zr (ZN 5 (sG dJ (sG KY (Za 4) (eC (.int 1))) (eC (.int 0))))
  (Zr (ZN 6 (sG c5 (sG Bu (Za 4) (eC (.int 1))) (sG KY (Za 1) (eC (.int 1)))))
  (Zr (ZN 7 (sG tK (Zi ZR (Zb (sG Bu (Za 0) (sG CG (eC (.int 17)) (Za 4))) (Zb (eC (.int 9929)) (Zb (eC (.int 6)) Zj)))) (eC (.int 1))))
  (Zr (Io 2 (De (aQ (K4 (C3 (Zb (Za 5) Zj)) (iq (C3 (Zb (Za 4) Zj)) (mX (Za 7)))))))
  (Io 3 (D2 (Zb (Za 6) Zj)))))))
def YN:SF :=
 (Zr (ZO 2 (C3 Zj))
  (Zr (ZO 3 (C3 Zj))
  (Zr (AH 4 (CM (Za 1)) L4)
  (ZG (D2 (Zb (De (Zg 2)) (Zb (De (Zg 3)) Zj)))))))
def LO:z5->Option D:=fnOf 2 8 YN
def LW:SF :=
 (Zr (ZN 7 (sG Bu (Zi Eb (Zb (Za 0) (Zb (sG Bu (sG Bu (Za 1) (eC (.int 4))) (Za 5)) Zj))) (sG CG (eC (.int 71)) (Za 5))))
  (Zr (ZN 8 (sG Bu (eC (.int 2)) (Zi ZR (Zb (Za 7) (Zb (eC (.int 9883)) (Zb (eC (.int 2)) Zj))))))
  (Io 6 (De (Zt (CM (Za 3)) ZD (Zi ZR (Zb (sG Bu (Za 8) (sG CG (sG CG (eC (.int 13)) (Za 0)) (Za 0))) (Zb (eC (.int 9871)) (Zb (Za 9) Zj)))))))))
def OG:SF :=
 (Io 4 (Zi LP (Zb (sG Bu (Zi Eb (Zb (Za 0) (Zb (sG Bu (sG Bu (Za 1) (eC (.int 1))) (Za 5)) Zj))) (sG CG (eC (.int 61)) (Za 5))) (Zb (Za 3) Zj))))
def L3:SF :=
 (Zr (ZN 2 (Zi Eb (Zb (Za 0) (Zb (Za 1) Zj))))
  (Zr (ZN 3 (sG Bu (eC (.int 2)) (Zi ZR (Zb (Za 2) (Zb (eC (.int 9923)) (Zb (eC (.int 4)) Zj))))))
  (Zr (tw (tV (sG vm (Z5 (Zg 0)) (eC (.int 63)))) (ZN 3 (sG Bu (eC (.int 2)) (Zi ZR (Zb (Za 2) (Zb (eC (.int 9923)) (Zb (eC (.int 6)) Zj)))))) AL)
  (Zr (ZO 4 (C3 Zj))
  (Zr (AH 5 (CM (sG Bu (eC (.int 1)) (Zi ZR (Zb (Za 2) (Zb (eC (.int 9907)) (Zb (eC (.int 3)) Zj)))))) OG)
  (Zr (tw (tV (sG tK (Zi ZR (Zb (Za 2) (Zb (eC (.int 9901)) (Zb (eC (.int 3)) Zj)))) (eC (.int 1)))) (ZO 4 (K4 (NY (sD (Zi LO (Zb (Zi Eb (Zb (Za 0) (Zb (sG Bu (Za 1) (eC (.int 1))) Zj))) (Zb (Za 3) Zj))))) (iz (Zg 4) Z_ (Z (eC (.int 1)))))) AL)
  (Zr (ZO 6 (C3 Zj))
  (Zr (AH 5 (CM (Zi ZR (Zb (Za 2) (Zb (eC (.int 9887)) (Zb (eC (.int 4)) Zj))))) LW)
  (Zr (ZN 9 (Zi IK (Zb (Zi Eb (Zb (Za 0) (Zb (sG Bu (Za 1) (eC (.int 7))) Zj))) (Zb (Za 3) (Zb (eC (.int 1)) Zj)))))
  (Zr (tw (tV (sG tK (Zi ZR (Zb (Za 2) (Zb (eC (.int 9859)) (Zb (eC (.int 3)) Zj)))) (eC (.int 1)))) (ZN 9 (oM (CM (Za 3)))) AL)
  (Zr (ZN 10 (Zi IK (Zb (Zi Eb (Zb (Za 0) (Zb (sG Bu (Za 1) (eC (.int 8))) Zj))) (Zb (Za 3) (Zb (eC (.int 1)) Zj)))))
  (ZG (D2 (Zb (Za 3) (Zb (De (Zg 4)) (Zb (De (Zg 6)) (Zb (Za 9) (Zb (Za 10) Zj))))))))))))))))))
def Gr:z5->Option D:=fnOf 2 11 L3
def aE:SF :=
 (ZG (De (Zt (CM (Z5 (sD (sS (Zg 0) (eC (.int 2)))))) (tV (sG vm (Zi ZR (Zb (sG Bu (Za 2) (sG CG (eC (.int 19)) (Za 0))) (Zb (eC (.int 9857)) (Zb (eC (.int 4)) Zj)))) (eC (.int 0)))) (Za 0))))
def L1:z5->Option D:=fnOf 2 2 aE
def EU:SF :=
 (Zr (tw (tV (sG tK (sS (sD (sS (sD (sS (Zg 0) (eC (.int 1)))) (Za 2))) (Za 4)) (D2 Zj))) (ZG (eC .none)) AL)
  (ZO 3 (K4 (Zg 3) (NY (sD (sS (sD (sS (sD (sS (Zg 0) (eC (.int 1)))) (Za 2))) (Za 4)))))))
def RW:SF :=
 (Zr (ZO 3 (C3 Zj))
  (Zr (AH 4 (Zy (sD (Za 1))) EU)
  (ZG (De (aQ (Zg 3))))))
def DS:z5->Option D:=fnOf 3 5 RW
def JW:SF :=
 (Zr (ZN 5 (De (Zt (Zy (sD (Za 1))) ZD (sS (sD (sS (sD (sS (Zg 1) (eC (.int 2)))) (Za 0))) (Za 5)))))
  (Zr (tw (tV (oC (Za 5) (Zg 3))) (oG 3 (Za 5)) AL)
  (mW 3 (Za 5) (Za 4))))
def aD:SF :=
 (Zr (ZO 3 UQ)
  (Zr (AH 4 (Zy (sD (Za 2))) JW)
  (ZG (tS (Zt (Zy (sD (tS (NZ (Zg 3))))) ZD (D2 (Zb (Za 0) (Zb (De (Xd 4 (Za 0))) Zj))))))))
def ZU:z5->Option D:=fnOf 3 6 aD
def ZA(ns:zZ)(k:Nat):Int:=if k<BC ns then ns.getD k 0 else 0
theorem Il(ns:zZ)(k:Nat):Eb [.list (ns.map dI),.int k]=Z (.int (ZA ns k)):=by
 simp[Eb,YQ,ZA]
 by_cases h:k<BC ns
 .have h':(k:Int)<(ns.length:Int):=by omega
  have e:vw (ns.map dI) (k:Int)=Z (.int ns[k]):=ER (by simp[h]);simp[h,h',e]
 .have h':¬(k:Int)<(ns.length:Int):=by omega
  simp[h,h']
def Z4(c p m:Int):Int:=c*48271%p%m
theorem DM(c p m:Int)(hp:0<p)(hm:0<m):ZR [.int c,.int p,.int m]=Z (.int (Z4 c p m)):=by simp[ZR,Yw,hp,hm,Z4]
theorem Er(c p m:Int)(hm:0<m):0<=Z4 c p m/\Z4 c p m<m:=⟨Int.emod_nonneg _ (by omega),Int.emod_lt_of_pos _ hm⟩
def crP(c:Int)(k:Nat):Bool:=decide (Z4 (c+31*(k:Int)*(k:Int)+7*(k:Int)) 9973 5<2)
def yH(c:Int)(n:Nat):zZ:=((Ah n).filter (crP c)).map λ(k:Nat)=>(k:Int)
def yk(c:Int)(n:Nat):zZ:=if(yH c n).length<1 then[Z4 c 9967 n]else yH c n
theorem Q0(n:Nat)(p:Nat->Bool):Cr n (((Ah n).filter p).map λ(k:Nat)=>(k:Int)):=by
 refine⟨?_,λx hx=>?_⟩
 .rw[Kn]
  refine List.Pairwise.imp (λ{a b} h=>?_) (List.Pairwise.filter p T4);omega
 .obtain⟨k,hk,rfl⟩:=Al.mp hx
  have:=AI.mp (AO.mp hk).1;omega
theorem UU(c:Int)(n:Nat)(hn:0<n):Cr n (yk c n)/\yk c n≠[]:=by
 unfold yk;split
 .refine⟨⟨by simp,λx hx=>?_⟩,by simp⟩
  have e:x=Z4 c 9967 n:=by simpa using hx
  rw[e];have:=Er c 9967 n (by omega);omega
 .rename_i h
  exact⟨Q0 n _,λe=>h (by rw[e];simp)⟩
theorem Xl(c:Int)(n:Nat)(hn:0<n)(hb:n<1000):IK [.int c,.int n,.int 1]=Z (sx (yk c n)):=by
 have hn':(0:Int)<(n:Int):=by omega
 have key:Z3 (tV (sG vt (Zi ZR (Zb (sG Bu (sG Bu (Za 1) (sG CG (sG CG (eC (.int 31)) (Za 0)) (Za 0))) (sG CG (eC (.int 7)) (Za 0))) (Zb (eC (.int 9973)) (Zb (eC (.int 5)) Zj)))) (eC (.int 2)))) (Za 0)
   [Z (.pl (.int c)),Z (.pl (.int n)),Z (.pl (.int 1)),Z_] (JU 0 n)=Z ((yH c n).map dI):=by
  rw[Dc];rw[Cj dN (crP c) dN]
  .unfold yH
   rw[Aq];rfl
  .intro k hk
   have hk':=AI.mp hk;have s2:A4 (31*(k:Int))=Aa:=Rz (by omega) (by omega);simp[DM,crP,s2]
  .intro k hk _
   simp
 have h1:v9 (n:Int)=Aa:=Fz (by omega);have h2:(JU 0 n).length<1000000:=by rw[Dc];simp;omega
 by_cases hl:(yH c n).length<1
 .have hl':((yH c n).length:Int)<1:=by omega
  have hm:=DM c 9967 n (by decide) hn';simp[IK,SG,h1,h2,key];simp[hl',yk,hl,hm]
 .have hl':¬((yH c n).length:Int)<1:=by omega
  simp[IK,SG,h1,h2,key];simp[hl',yk,hl]
def P0(c:Int)(n k:Nat):zZ :=
 let s:=c+43*(k:Int)*(k:Int)+11*(k:Int)
 if Z4 s 9949 10<3/\Z4 s 9941 n≠Z4 s 9931 n then[Z4 s 9941 n,Z4 s 9931 n]else[Z4 s 9941 n]
def Ef(c:Int)(n k:Nat):zZ:=if Z4 (c+43*(k:Int)*(k:Int)+11*(k:Int)) 9949 10=9 then[]else sortI (P0 c n k)
theorem gV(c:Int)(n k:Nat)(hn:0<n):Cr n (Ef c n k):=by
 unfold Ef;split
 .exact⟨.nil,λx hx=>by simp at hx⟩
 .unfold P0
  dsimp only;have b1:=Er (c+43*(k:Int)*(k:Int)+11*(k:Int)) 9941 n (by omega);have b2:=Er (c+43*(k:Int)*(k:Int)+11*(k:Int)) 9931 n (by omega);split
  .rename_i h
   refine Np (by simp[h.2]) λx hx=>?_;simp at hx;rcases hx with e|e<;>(subst e;assumption)
  .refine Np (by simp) λx hx=>?_
   simp at hx;subst hx;assumption
theorem gr(n:Nat):wz (n+1) (-1)=Z n:=by unfold wz;rw[if_neg (by decide),if_pos (by omega)];congr 1;omega
theorem jL(c:Int)(n k:Nat)(xK:z5)(o4 o5 o6:Option B)(hn:0<n)(hk:k<1000)(hl:BC xK<1000):∃r5 r6 r7,IJ [Z (.pl (.int c)),Z (.pl (.int n)),Z (.ol xK),Z (.pl (dN k)),o4,o5,o6]=Z (.nx [Z (.pl (.int c)),Z (.pl (.int n)),Z (.ol (xK++[sx (Ef c n k)])),Z (.pl (dN k)),r5,r6,r7]):=by
 have hn':(0:Int)<(n:Int):=by omega
 have s2:A4 (43*(k:Int))=Aa:=Rz (by omega) (by omega);have hl':BC xK<1000000:=by omega
 have m1:=DM (c+43*(k:Int)*(k:Int)+11*(k:Int)) 9949 10 (by decide) (by decide);have m2:=DM (c+43*(k:Int)*(k:Int)+11*(k:Int)) 9941 n (by decide) hn';have m3:=DM (c+43*(k:Int)*(k:Int)+11*(k:Int)) 9931 n (by decide) hn';unfold Ef P0;dsimp only;generalize Z4 (c+43*(k:Int)*(k:Int)+11*(k:Int)) 9949 10=wy at *;generalize Z4 (c+43*(k:Int)*(k:Int)+11*(k:Int)) 9941 n=a at *;generalize Z4 (c+43*(k:Int)*(k:Int)+11*(k:Int)) 9931 n=b at *;have t1:EO [BK a]=Z ((sortI [a]).map dI):=Rl [a] (by simp);have t2:EO [BK a,BK b]=Z ((sortI [a,b]).map dI):=Rl [a,b] (by simp)
 by_cases w3:wy<3
 .have w9:(wy==9)=Ab:=by simp;omega
  have w9':¬wy=9:=by omega
  by_cases ab:a=b
  .subst ab
   simp[IJ,s2,m1,m2,m3,w3,w9,w9',tj,Bv,hl',t1]
  .simp[IJ,s2,m1,m2,m3,w3,w9,w9',tj,ab,Bv,hl',t2]
 .by_cases w9:wy=9
  .subst w9
   simp[IJ,s2,m1,m2,tj,Bv,hl',t1,gr]
  .have w9':(wy==9)=Ab:=by simp[w9]
   simp[IJ,s2,m1,m2,w3,w9',w9,tj,Bv,hl',t1]
theorem eU(c:Int)(n:Nat)(hn:0<n)(hb:n<1000):LP [.int c,.int n]=Z (ZY ((Ah n).map λk=>Ef c n k)):=by
 have h1:v9 (n:Int)=Aa:=Fz (by omega);have h2:(JU 0 n).length<1000000:=by rw[Dc];simp;omega
 obtain⟨r',e1,o3,o4,o5,o6,p1⟩:=Nj (i:=3) (body:=IJ) dN (λ(s:List Nat) r=>∃o3 o4 o5 o6,r=[Z (.pl (.int c)),Z (.pl (.int n)),Z (.ol (s.map λk=>sx (Ef c n k))),o3,o4,o5,o6]) (Ah n)
  [Z (.pl (.int c)),Z (.pl (.int n)),Z (.ol []),Z_,Z_,Z_,Z_] ⟨Z_,Z_,Z_,Z_,rfl⟩ (by
   rintro s k post r vi ⟨o3,o4,o5,o6,rfl⟩
   have hk':k<n:=AI.mp (by rw[vi];simp);have hs:BC s<n:=by have:=congrArg BC vi;simp at this;omega
   obtain⟨r5,r6,r7,e⟩:=jL c n k (s.map λk=>sx (Ef c n k)) o4 o5 o6 hn (by omega) (by simp;omega);exact⟨_,e,Z (.pl (dN k)),r5,r6,r7,by simp⟩)
 subst p1;have hl:n<1000000:=by omega
 simp[LP,YO,h1,Dc,hl,e1,ZY]
def ahV(k:Nat):Int:=if(0:Int) > (k:Int)-1 then 0 else(k:Int)-1
def wI(n k:Nat):Int:=if(n:Int)-1<(k:Int)+1 then(n:Int)-1 else(k:Int)+1
def xq(c:Int)(k:Nat):zZ:=sortI (tL [] (ahV k::(if Z4 (c+17*(k:Int)) 9929 6=1 then[(k:Int)]else[])))
theorem dF(c:Int)(n k:Nat)(hk:k<n):Cr n (xq c k):=by
 unfold xq;have ha:0<=ahV k/\ahV k<n:=by unfold ahV;split<;>omega
 refine Np (Oq _ _ (by simp)) λx hx=>?_;rw[LB]at hx;rcases hx with h|h
 .simp at h
 .rcases As.mp h with e|e
  .subst e;exact ha
  .split at e
   .simp at e;subst e;omega
   .simp at e
theorem di(n k:Nat)(hk:k<n):Cr n [wI n k]:=by
 have ha:0<=wI n k/\wI n k<n:=by unfold wI;split<;>omega
 exact⟨by simp,λx hx=>by simp at hx;subst hx;exact ha⟩
theorem jN(c:Int)(n k:Nat)(ls rs:z5)(o4 o5 o6 o7:Option B)(hk:k<8)(h1:BC ls<1000)(h2:BC rs<1000):∃r4 r5 r6,L4 [Z (.pl (.int c)),Z (.pl (.int n)),Z (.ol ls),Z (.ol rs),Z (.pl (dN k)),o5,o6,o7]=Z (.nx [Z (.pl (.int c)),Z (.pl (.int n)),Z (.ol (ls++[sx (xq c k)])),Z (.ol (rs++[sx [wI n k]])),Z (.pl (dN k)),r4,r5,r6]):=by
 have h1':BC ls<1000000:=by omega
 have h2':BC rs<1000000:=by omega
 have m1:=DM (c+17*(k:Int)) 9929 6 (by decide) (by decide);have hk8:k=0\/k=1\/k=2\/k=3\/k=4\/k=5\/k=6\/k=7:=by omega
 have l1:MK [if(k:Int)-1<0 then 0 else(k:Int)-1,(k:Int)]=Aa:=by rcases hk8 with rfl|rfl|rfl|rfl|rfl|rfl|rfl|rfl<;>rfl
 have l2:MK [if(k:Int)-1<0 then 0 else(k:Int)-1]=Aa:=by rcases hk8 with rfl|rfl|rfl|rfl|rfl|rfl|rfl|rfl<;>rfl
 unfold xq;generalize Z4 (c+17*(k:Int)) 9929 6=a at *
 by_cases e:a=1
 .subst e
  simp[L4,m1,h1',h2',ahV,wI,Cg,N0,l1]
 .have e':(a==1)=Ab:=by simp[e]
  simp[L4,m1,h1',h2',ahV,wI,e,e',Cg,N0,l2]
theorem gO(c:Int)(n:Nat)(hb:n<=8):LO [.int c,.int n]=Z (.tuple [ZY ((Ah n).map λk=>xq c k),ZY ((Ah n).map λk=>[wI n k])]):=by
 have h1:v9 (n:Int)=Aa:=Fz (by omega);obtain⟨r',e1,o4,o5,o6,o7,p1⟩:=Nj (i:=4) (body:=L4) dN (λ(s:List Nat) r=>∃o4 o5 o6 o7,r=[Z (.pl (.int c)),Z (.pl (.int n)),Z (.ol (s.map λk=>sx (xq c k))),Z (.ol (s.map λk=>sx [wI n k])),o4,o5,o6,o7]) (Ah n)
  [Z (.pl (.int c)),Z (.pl (.int n)),Z (.ol []),Z (.ol []),Z_,Z_,Z_,Z_] ⟨Z_,Z_,Z_,Z_,rfl⟩ (by
   rintro s k post r vi ⟨o4,o5,o6,o7,rfl⟩
   have hk':k<n:=AI.mp (by rw[vi];simp);have hs:BC s<n:=by have:=congrArg BC vi;simp at this;omega
   obtain⟨r5,r6,r7,e⟩:=jN c n k (s.map λk=>sx (xq c k)) (s.map λk=>sx [wI n k]) o4 o5 o6 o7 (by omega) (by simp;omega) (by simp;omega);exact⟨_,e,Z (.pl (dN k)),r5,r6,r7,by simp⟩)
 subst p1;have hl:n<1000000:=by omega
 simp[LO,YN,h1,Dc,hl,e1,ZY]
section
variable(ns:zZ)(at_:Nat)
def ZV:Nat:=(2+Z4 (ZA ns at_) 9923 4).toNat
def C5:List z0:=(Ah (1+Z4 (ZA ns at_) 9907 3).toNat).map λk=>(Ah (ZV ns at_)).map λs=>Ef (ZA ns (at_+1+k)+61*(k:Int)) (ZV ns at_) s
def HY:List z0 :=
 if Z4 (ZA ns at_) 9901 3=1 then[(Ah (ZV ns at_)).map λk=>xq (ZA ns (at_+1)) k,(Ah (ZV ns at_)).map λk=>[wI (ZV ns at_) k]]++(C5 ns at_).take 1 else C5 ns at_
def GV(k:Nat):zZ:=(Ah (ZV ns at_)).map λ(s:Nat)=>Z4 (ZA ns (at_+4+k)+71*(k:Int)+13*(s:Int)*(s:Int)) 9871 (2+Z4 (ZA ns (at_+4+k)+71*(k:Int)) 9883 2)
def HX:z0:=(Ah (Z4 (ZA ns at_) 9887 4).toNat).map (GV ns at_)
def KS:zZ:=if Z4 (ZA ns at_) 9859 3=1 then(Ah (ZV ns at_)).map λ(k:Nat)=>(k:Int)else yk (ZA ns (at_+7)) (ZV ns at_)
def UO:zZ:=yk (ZA ns (at_+8)) (ZV ns at_)
def yt:Wk:=⟨ZV ns at_,HY ns at_,HX ns at_,KS ns at_,UO ns at_⟩
theorem Nc:2<=ZV ns at_/\ZV ns at_<=5:=by have:=Er (ZA ns at_) 9923 4 (by decide);unfold ZV;omega
theorem eZ:((ZV ns at_:Nat):Int)=2+Z4 (ZA ns at_) 9923 4:=by have:=Er (ZA ns at_) 9923 4 (by decide);unfold ZV;omega
theorem c6:(yt ns at_).Ok:=by
 have hm:=Nc ns at_;have hd3:=Er (ZA ns at_) 9907 3 (by decide);have dk:∀dd∈C5 ns at_,BC dd=ZV ns at_/\∀c∈dd,Cr (ZV ns at_) c:=by intro dd h;unfold C5 at h;obtain⟨k,_,rfl⟩:=Al.mp h;refine⟨by simp,λc hc=>?_⟩;obtain⟨s,_,rfl⟩:=Al.mp hc;exact gV _ _ _ (by omega)
 have dv:∀dd∈HY ns at_,BC dd=ZV ns at_/\∀c∈dd,Cr (ZV ns at_) c:=by
  intro dd h;unfold HY at h;split at h
  .rcases Bb.mp h with h|h
   .simp at h
    rcases h with rfl|rfl
    .refine⟨by simp,λc hc=>?_⟩
     obtain⟨s,hs,rfl⟩:=Al.mp hc;exact dF _ _ _ (AI.mp hs)
    .refine⟨by simp,λc hc=>?_⟩
     obtain⟨s,hs,rfl⟩:=Al.mp hc;exact di _ _ (AI.mp hs)
   .exact dk dd (Uc h)
  .exact dk dd h
 have lk:(C5 ns at_).length=(1+Z4 (ZA ns at_) 9907 3).toNat:=by unfold C5;simp
 have lv:1<=(HY ns at_).length/\(HY ns at_).length<=3:=by
  unfold HY;split
  .simp;omega
  .omega
 have hl4:=Er (ZA ns at_) 9887 4 (by decide);have lo:∀l∈HX ns at_,BC l=ZV ns at_/\∀x∈l,0<=x/\x<=9:=by intro l h;unfold HX at h;obtain⟨k,_,rfl⟩:=Al.mp h;unfold GV;refine⟨by simp,λx hx=>?_⟩;obtain⟨s,_,rfl⟩:=Al.mp hx;have h2:=Er (ZA ns (at_+4+k)+71*(k:Int)) 9883 2 (by decide);have h3:=Er (ZA ns (at_+4+k)+71*(k:Int)+13*(s:Int)*(s:Int)) 9871 (2+Z4 (ZA ns (at_+4+k)+71*(k:Int)) 9883 2) (by omega);omega
 have ll:(HX ns at_).length<=3:=by unfold HX;simp;omega
 have cb:=UU (ZA ns (at_+7)) (ZV ns at_) (by omega);have cg:=UU (ZA ns (at_+8)) (ZV ns at_) (by omega);have hb:KS ns at_≠[]/\Cr (ZV ns at_) (KS ns at_):=by
  unfold KS;split
  .refine⟨λe=>?_,?_⟩
   .have:=congrArg BC e
    simp at this;omega
   .have:=Q0 (ZV ns at_) λ_=>Aa
    rwa [Kr.mpr λ_ _=>rfl]at this
  .exact⟨cb.2,cb.1⟩
 exact⟨hm.1,hm.2,lv.1,lv.2,λdd h=>(dv dd h).1,λdd h=>(dv dd h).2,ll,λl h=>(lo l h).1,λl h=>(lo l h).2,hb.1,hb.2,cg.2,cg.1⟩
theorem lJ(k n:Nat)(c:Option B)(ds:z5)(o6 o7 o8 o9 zt:Option B)(hk:k<1000)(h1:BC ds<1000)(hn:0<n)(hb:n<1000):OG [Z (.pl (.list (ns.map dI))),Z (.pl (.int at_)),c,Z (.pl (.int n)),Z (.ol ds),Z (.pl (dN k)),o6,o7,o8,o9,zt] =Z (.nx [Z (.pl (.list (ns.map dI))),Z (.pl (.int at_)),c,Z (.pl (.int n)),Z (.ol (ds++[ZY ((Ah n).map λs=>Ef (ZA ns (at_+1+k)+61*(k:Int)) n s)])),Z (.pl (dN k)),o6,o7,o8,o9,zt]):=by
 have h1':BC ds<1000000:=by omega
 have hc:=Il ns (at_+1+k);have e:((at_+1+k:Nat):Int)=(at_:Int)+1+(k:Int):=by omega
 rw[e]at hc;have hd:=eU (ZA ns (at_+1+k)+61*(k:Int)) n hn hb;simp[OG,hc,hd,h1']
theorem lM(k n:Nat)(c o4:Option B)(ls:z5)(o7 o8 o9 zt:Option B)(hk:k<1000)(h1:BC ls<1000)(hn:n=ZV ns at_):∃r7 r8,LW [Z (.pl (.list (ns.map dI))),Z (.pl (.int at_)),c,Z (.pl (.int n)),o4,Z (.pl (dN k)),Z (.ol ls),o7,o8,o9,zt] =Z (.nx [Z (.pl (.list (ns.map dI))),Z (.pl (.int at_)),c,Z (.pl (.int n)),o4,Z (.pl (dN k)),Z (.ol (ls++[sx (GV ns at_ k)])),r7,r8,o9,zt]):=by
 have hb:=Nc ns at_;have h1':BC ls<1000000:=by omega
 have hc:=Il ns (at_+4+k);have e:((at_+4+k:Nat):Int)=(at_:Int)+4+(k:Int):=by omega
 rw[e]at hc;have m1:=DM (ZA ns (at_+4+k)+71*(k:Int)) 9883 2 (by decide) (by decide);have b1:=Er (ZA ns (at_+4+k)+71*(k:Int)) 9883 2 (by decide);have hok:v9 (n:Int)=Aa:=Fz (by omega);have hl:n<1000000:=by omega
 unfold GV;rw[<-hn];generalize Z4 (ZA ns (at_+4+k)+71*(k:Int)) 9883 2=mo at *;generalize ZA ns (at_+4+k)=cc at *;simp[LW,hc,m1,hok,h1',Dc,hl];rw[CP dN λ(s:Nat)=>dI (Z4 (cc+71*(k:Int)+13*(s:Int)*(s:Int)) 9871 (2+mo))]
 .refine⟨Z (.pl (.int (cc+71*(k:Int)))),Z (.pl (.int (2+mo))),?_⟩
  simp
 .intro s hs
  have hs':=AI.mp hs;have s2:A4 (13*(s:Int))=Aa:=Rz (by omega) (by omega);have m2:=DM (cc+71*(k:Int)+13*(s:Int)*(s:Int)) 9871 (2+mo) (by decide) (by omega);simp[s2,m2]
theorem i9(h:BC ns<=63):Gr [.list (ns.map dI),.int at_]=Z (yt ns at_).d:=by
 have hb:=Nc ns at_;have hmc:=eZ ns at_;have c0:=Il ns at_;have c1:=Il ns (at_+1);have c7:=Il ns (at_+7);have c8:=Il ns (at_+8);have e1:((at_+1:Nat):Int)=(at_:Int)+1:=by omega
 have e7:((at_+7:Nat):Int)=(at_:Int)+7:=by omega
 have e8:((at_+8:Nat):Int)=(at_:Int)+8:=by omega
 rw[e1]at c1;rw[e7]at c7;rw[e8]at c8;have m4:=DM (ZA ns at_) 9923 4 (by decide) (by decide);have m3:=DM (ZA ns at_) 9907 3 (by decide) (by decide);have b3:=Er (ZA ns at_) 9907 3 (by decide);have mw:=DM (ZA ns at_) 9901 3 (by decide) (by decide);have ml:=DM (ZA ns at_) 9887 4 (by decide) (by decide);have bl:=Er (ZA ns at_) 9887 4 (by decide);have mb:=DM (ZA ns at_) 9859 3 (by decide) (by decide);have wk:=gO (ZA ns (at_+1)) (ZV ns at_) (by omega);have k7:=Xl (ZA ns (at_+7)) (ZV ns at_) (by omega) (by omega);have k8:=Xl (ZA ns (at_+8)) (ZV ns at_) (by omega) (by omega);have sA:¬(63:Int)<(ns.length:Int):=by omega
 have ok3:v9 (1+Z4 (ZA ns at_) 9907 3)=Aa:=IU.mpr (by omega);have okl:v9 (Z4 (ZA ns at_) 9887 4)=Aa:=IU.mpr (by omega);have okm:v9 ((ZV ns at_:Nat):Int)=Aa:=Fz (by omega);obtain⟨r1,f1,o5,q1⟩:=Nj (i:=5) (body:=OG) dN (λ(s:List Nat) r=>∃o5,r=[Z (.pl (.list (ns.map dI))),Z (.pl (.int at_)),Z (.pl (.int (ZA ns at_))),Z (.pl (.int (ZV ns at_))),
   Z (.ol (s.map λk=>ZY ((Ah (ZV ns at_)).map λs=>Ef (ZA ns (at_+1+k)+61*(k:Int)) (ZV ns at_) s))),o5,Z_,Z_,Z_,Z_,Z_]) (Ah (1+Z4 (ZA ns at_) 9907 3).toNat)
  [Z (.pl (.list (ns.map dI))),Z (.pl (.int at_)),Z (.pl (.int (ZA ns at_))),Z (.pl (.int (ZV ns at_))),Z (.ol []),Z_,Z_,Z_,Z_,Z_,Z_] ⟨Z_,rfl⟩ (by
   rintro s k post r vi ⟨o5,rfl⟩
   have hk':=AI.mp (show k∈Ah (1+Z4 (ZA ns at_) 9907 3).toNat by rw[vi];simp);have hs:BC s<4:=by have:=congrArg BC vi;simp at this;omega
   have e:=lJ ns at_ k (ZV ns at_) (Z (.pl (.int (ZA ns at_)))) (s.map λk=>ZY ((Ah (ZV ns at_)).map λs=>Ef (ZA ns (at_+1+k)+61*(k:Int)) (ZV ns at_) s)) Z_ Z_ Z_ Z_ Z_ (by omega) (by simp;omega) (by omega) (by omega);exact⟨_,e,Z (.pl (dN k)),by simp⟩)
 subst q1;have lks:∀(o4 o5:Option B),∃r2,Z7 5 LW ((Ah (Z4 (ZA ns at_) 9887 4).toNat).map dN) [Z (.pl (.list (ns.map dI))),Z (.pl (.int at_)),Z (.pl (.int (ZA ns at_))),Z (.pl (.int (ZV ns at_))),o4,o5,Z (.ol []),Z_,Z_,Z_,Z_]=Z (.nx r2) /\
   ∃o5 o7 o8,r2=[Z (.pl (.list (ns.map dI))),Z (.pl (.int at_)),Z (.pl (.int (ZA ns at_))),Z (.pl (.int (ZV ns at_))),o4,o5,Z (.ol ((Ah (Z4 (ZA ns at_) 9887 4).toNat).map λk=>sx (GV ns at_ k))),o7,o8,Z_,Z_]:=by
  intro o4 o5;refine Nj (i:=5) (body:=LW) dN (λ(s:List Nat) r=>∃o5 o7 o8,r=[Z (.pl (.list (ns.map dI))),Z (.pl (.int at_)),Z (.pl (.int (ZA ns at_))),Z (.pl (.int (ZV ns at_))),
   o4,o5,Z (.ol (s.map λk=>sx (GV ns at_ k))),o7,o8,Z_,Z_]) (Ah (Z4 (ZA ns at_) 9887 4).toNat) _ ⟨o5,Z_,Z_,rfl⟩ ?_
  rintro s k post r vi ⟨o5,o7,o8,rfl⟩
  have hk':=AI.mp (show k∈Ah (Z4 (ZA ns at_) 9887 4).toNat by rw[vi];simp);have hs:BC s<4:=by have:=congrArg BC vi;simp at this;omega
  obtain⟨r7,r8,e⟩:=lM ns at_ k (ZV ns at_) (Z (.pl (.int (ZA ns at_)))) o4 (s.map λk=>sx (GV ns at_ k)) o7 o8 Z_ Z_ (by omega) (by simp;omega) rfl;exact⟨_,e,Z (.pl (dN k)),r7,r8,by simp⟩
 have n3:(1+Z4 (ZA ns at_) 9907 3).toNat<1000000:=by omega
 have nl:(Z4 (ZA ns at_) 9887 4).toNat<1000000:=by omega
 have nm:ZV ns at_<1000000:=by omega
 have hdk:((Ah (1+Z4 (ZA ns at_) 9907 3).toNat).map λk=>ZY ((Ah (ZV ns at_)).map λs=>Ef (ZA ns (at_+1+k)+61*(k:Int)) (ZV ns at_) s))=(C5 ns at_).map ZY:=by unfold C5;simp
 have tI:((Ah (Z4 (ZA ns at_) 9887 4).toNat).map λk=>sx (GV ns at_ k))=(HX ns at_).map sx:=by unfold HX;simp
 rw[hdk]at f1;simp only[tI]at lks;have dkl:(C5 ns at_).length<10:=by unfold C5;simp;omega
 unfold yt Wk.d HY KS UO;simp only
 by_cases w1:Z4 (ZA ns at_) 9901 3=1
 .have w1':(Z4 (ZA ns at_) 9901 3==1)=Aa:=by simp[w1]
  have cut:cutD ((C5 ns at_).map ZY) Z_ (Z 1)=((C5 ns at_).take 1).map ZY:=by unfold cutD zr;simp
  obtain⟨r2,f2,p5,p7,p8,q2⟩:=lks (Z (.ol (ZY ((Ah (ZV ns at_)).map λk=>xq (ZA ns (at_+1)) k)::ZY ((Ah (ZV ns at_)).map λk=>[wI (ZV ns at_) k])::List.take 1 ((C5 ns at_).map ZY)))) o5;subst q2;have c2:min 1 (C5 ns at_).length+1+1<1000000:=by omega
  have c3:(2:Nat)+min 1 (C5 ns at_).length<1000000:=by omega
  by_cases w2:Z4 (ZA ns at_) 9859 3=1
  .have w2':(Z4 (ZA ns at_) 9859 3==1)=Aa:=by simp[w2]
   simp[Gr,L3,c0,m4,<-hmc,sA,m3,ok3,Dc,n3,f1,mw,w1',c1,wk,cut,w1,ml,okl,nl,f2,c7,k7,mb,w2',okm,nm,c8,k8,w2,c2,c3]
  .have w2':(Z4 (ZA ns at_) 9859 3==1)=Ab:=by simp[w2]
   simp[Gr,L3,c0,m4,<-hmc,sA,m3,ok3,Dc,n3,f1,mw,w1',c1,wk,cut,w1,ml,okl,nl,f2,c7,k7,mb,w2',okm,nm,c8,k8,w2,c2,c3]
 .have w1':(Z4 (ZA ns at_) 9901 3==1)=Ab:=by simp[w1]
  obtain⟨r2,f2,p5,p7,p8,q2⟩:=lks (Z (.ol ((C5 ns at_).map ZY))) o5;subst q2
  by_cases w2:Z4 (ZA ns at_) 9859 3=1
  .have w2':(Z4 (ZA ns at_) 9859 3==1)=Aa:=by simp[w2]
   simp[Gr,L3,c0,m4,<-hmc,sA,m3,ok3,Dc,n3,f1,mw,w1',w1,ml,okl,nl,f2,c7,k7,mb,w2',okm,nm,c8,k8,w2]
  .have w2':(Z4 (ZA ns at_) 9859 3==1)=Ab:=by simp[w2]
   simp[Gr,L3,c0,m4,<-hmc,sA,m3,ok3,Dc,n3,f1,mw,w1',w1,ml,okl,nl,f2,c7,k7,mb,w2',okm,nm,c8,k8,w2]
end
section
variable{c:zZ}{n:Nat}
theorem Xb{e:EF}{r:HM.Env}{f:D->D}(xs:z5)(h:∀x∈xs,e (Z (.pl x)::r)=Z (f x)):Z3 ZD e r xs=Z (xs.map f):=by
 have:=CP (e:=e) (r:=r) id f xs h
 rwa [List.map_id]at this
theorem Xf(xs:z5)(p:D->Bool):D8 (xs.map λx=>Bq (p x))=Z (xs.map p):=by
 have:=N5 (xs.map p)
 rwa [Aq]at this
def Fo(d:D)(lo hi:Int):Bool:=match d with
 | .int i=>decide (lo<=i)&&decide (i<=hi)
 |_=>Ab
def xy:D->Prop
 | .dict _=>False
 |_=>True
theorem R4(d:D)(lo hi:Int)(nd:xy d:=by trivial):Gu [d,.int lo,.int hi]=Z (.bool (Fo d lo hi)):=by
 cases d<;>first|exact nd.elim|simp[Gu,Y4,Fo]
 rename_i i
 by_cases h:lo<=i<;>simp[h]
def C0(d:D)(lo hi:Int):Bool:=match d with
 | .tuple ds=>decide (lo<=(ds.length:Int))&&decide ((ds.length:Int)<=hi)
 |_=>Ab
theorem Lz(d:D)(lo hi:Int)(nd:xy d:=by trivial):D9 [d,.int lo,.int hi]=Z (.bool (C0 d lo hi)):=by
 cases d<;>first|exact nd.elim|simp[D9,X9,C0]
 rename_i ds
 by_cases h:lo<=(ds.length:Int)<;>simp[h]
def DL(many:Int):Int->z5->Bool
 |_,[]=>Aa
 |l,.int i::r=>(decide (l<=i)&&decide (i<=many-1))&&DL many (i+1) r
 |_,_::_=>Ab
def Jv(d:D)(many:Int):Bool:=match d with
 | .tuple ds=>DL many 0 ds
 |_=>Ab
theorem Vz(d:D)(many:Int):∀(ds:z5) (l:Int) (o:Option B),(∀x∈ds,xy x) ->(DL many l ds=Aa->∃l' o',Z7 3 EZ ds [Z (.pl d),Z (.pl (.int many)),Z (.pl (.int l)),o]=Z (.nx [Z (.pl d),Z (.pl (.int many)),Z (.pl (.int l')),o'])) /\ (DL many l ds=Ab->Z7 3 EZ ds [Z (.pl d),Z (.pl (.int many)),Z (.pl (.int l)),o]=Z (.rt (.bool Ab)))
 |[],l,o,_=>⟨λ_=>⟨l,o,rfl⟩,λh=>by simp[DL]at h⟩
 |x::ds,l,o,nd=>by
  have key:=R4 x l (many-1) (nd x (An ..));cases hx:Fo x l (many-1)with
  |false =>
   have e:EZ [Z (.pl d),Z (.pl (.int many)),Z (.pl (.int l)),Z (.pl x)]=Z (.rt (.bool Ab)):=by rw[hx]at key;simp[EZ,key]
   have e2:DL many l (x::ds)=Ab:=by cases x<;>simp[DL];rename_i i;simp[Fo]at hx;intro h1 h2;exact absurd (hx h1) (by omega)
   refine⟨λh=>?_,λ_=>?_⟩
   .rw[e2]at h;cases h
   .unfold Z7
    show(match EZ [Z (.pl d),Z (.pl (.int many)),Z (.pl (.int l)),Z (.pl x)]with|some (.nx r')=>_|some (.ct r')=>_|some (.bk r')=>_|some (.rt d)=>_|none=>_)=_;rw[e]
  |true =>
   cases x with
   |int i =>
    have e:EZ [Z (.pl d),Z (.pl (.int many)),Z (.pl (.int l)),Z (.pl (.int i))]=Z (.nx [Z (.pl d),Z (.pl (.int many)),Z (.pl (.int (i+1))),Z (.pl (.int i))]):=by rw[hx]at key;simp[EZ,key]
    have e2:DL many l (.int i::ds)=DL many (i+1) ds:=by have:(decide (l<=i)&&decide (i<=many-1))=Aa:=hx;simp only[DL,this,Kt]
    obtain⟨a1,a2⟩:=Vz d many ds (i+1) (Z (.pl (.int i))) λx hx=>nd x (Ao _ hx);rw[e2];have e3:Z7 3 EZ (.int i::ds) [Z (.pl d),Z (.pl (.int many)),Z (.pl (.int l)),o]=Z7 3 EZ ds [Z (.pl d),Z (.pl (.int many)),Z (.pl (.int (i+1))),Z (.pl (.int i))]:=by show(match EZ [Z (.pl d),Z (.pl (.int many)),Z (.pl (.int l)),Z (.pl (.int i))]with|some (.nx r')=>_|some (.ct r')=>_|some (.bk r')=>_|some (.rt d)=>_|none=>_)=_;rw[e]
    rw[e3];exact⟨a1,a2⟩
   |_=>simp[Fo]at hx
theorem ax(d:D)(many:Int)(hl:∀ds,d=.tuple ds->ds.length<1000000/\∀x∈ds,xy x)(nd:xy d:=by trivial):DQ [d,.int many]=Z (.bool (Jv d many)):=by
 cases d with
 |tuple ds =>
  obtain⟨hl,hn⟩:=hl ds rfl;obtain⟨a1,a2⟩:=Vz (.tuple ds) many ds 0 Z_ hn;cases h:DL many 0 ds with
  |true=>obtain⟨l',o',e⟩:=a1 h;simp[DQ,Ol,Jv,h,hl,e]
  |false=>have e:=a2 h;simp[DQ,Ol,Jv,h,hl,e]
 |dict _=>exact nd.elim
 |_=>simp[DQ,Ol,Jv]
def small:D->Prop
 | .tuple ds=>ds.length<1000000/\∀x∈ds,xy x
 | .dict _=>False
 |_=>True
theorem Yp(h:(c.map dI).length<1000000):small (sx c):=⟨h,λx hx=>by obtain⟨i,_,rfl⟩:=Al.mp hx;trivial⟩
theorem Xg{d:D}(h:small d):xy d:=by cases d<;>first|exact h.elim|trivial
theorem kL{d:D}(h:small d):∀ds,d=.tuple ds->ds.length<1000000/\∀x∈ds,xy x:=by rintro ds rfl;exact h
def Ld(d:D)(many:Int):Bool:=C0 d many many&&(match d with | .tuple ds=>ds.all λc=>Jv c many|_=>Ab)
def Yv(d:D):Prop:=match d with | .tuple ds=>ds.length<1000000/\∀x∈ds,small x | .dict _=>False|_=>True
theorem i8{d:D}(h:Yv d):xy d:=by cases d<;>first|exact h.elim|trivial
theorem ly(d:D)(many:Int)(hs:Yv d):IA [d,.int many]=Z (.bool (Ld d many)):=by
 have h1:=Lz d many many (i8 hs);cases hr:C0 d many many with
 |false=>rw[hr]at h1;simp[IA,RY,h1,Ld,hr]
 |true =>
  rw[hr]at h1;cases d with
  |tuple ds =>
   have hs':BC ds<1000000/\∀x∈ds,small x:=hs;simp[IA,RY,h1,Ld,hr,hs'.1];rw[Xb (f:=λc=>.bool (Jv c many))]
   .simp[Xf]
   .intro x hx
    simp[ax x many (kL (hs'.2 x hx)) (Xg (hs'.2 x hx))]
  |_=>simp[C0]at hr
def Le(d:D)(many:Int):Bool:=C0 d many many&&(match d with | .tuple ds=>ds.all λc=>Fo c 0 9|_=>Ab)
theorem lA(d:D)(many:Int)(hs:small d):Iz [d,.int many]=Z (.bool (Le d many)):=by
 have h1:=Lz d many many (Xg hs);cases hr:C0 d many many with
 |false=>rw[hr]at h1;simp[Iz,RX,h1,Le,hr]
 |true =>
  rw[hr]at h1;cases d with
  |tuple ds =>
   have hs':BC ds<1000000:=hs.1;simp[Iz,RX,h1,Le,hr,hs'];rw[Xb (f:=λc=>.bool (Fo c 0 9))]
   .simp[Xf]
   .intro x hx
    simp[R4 x 0 9 (hs.2 x hx)]
  |_=>simp[C0]at hr
structure Wk.V(w:Wk):Prop where
 m1:1<=w.many
 m2:w.many<=8
 d1:1<=w.deeds.length
 d2:w.deeds.length<=5
 dl:∀dd∈w.deeds,BC dd=w.many
 dc:∀dd∈w.deeds,∀c∈dd,Cr w.many c
 l2:w.looks.length<=4
 ll:∀l∈w.looks,BC l=w.many
 lc:∀l∈w.looks,∀x∈l,0<=x/\x<=9
 b1:w.beg≠[]
 bc:Cr w.many w.beg
 gc:Cr w.many w.goal
theorem Wk.Ok.v{w:Wk}(h:w.Ok):Wk.V w:=by obtain⟨m1,m2,d1,d2,dl,dc,l2,ll,lc,b1,bc,g1,gc⟩:=h;exact⟨by omega,by omega,d1,by omega,dl,dc,by omega,ll,lc,b1,bc,gc⟩
theorem QH(n:Nat):∀(c:zZ) (l:Int),c.Pairwise (· < ·)->(∀x∈c,l<=x/\x<(n:Int))->DL n l (c.map dI)=Aa
 |[],_,_,_=>rfl
 |x::c,l,hp,hb=>by have h1:=hb x (An ..);have ih:=QH n c (x+1) (Ed.mp hp).2 λy hy=>⟨by have:=(Ed.mp hp).1 y hy;omega,(hb y (Ao _ hy)).2⟩;show((decide (l<=x)&&decide (x<=(n:Int)-1))&&DL n (x+1) (c.map dI))=Aa;rw[ih,decide_eq_true h1.1,decide_eq_true (show x<=(n:Int)-1 by omega)];rfl
theorem Rq(h:Cr n c)(hn:n<1000):DQ [sx c,.int n]=Z (.bool Aa):=by have hl:=h.len;rw[ax (sx c) n (by intro ds e;cases e;exact⟨by simp;omega,λx hx=>by obtain⟨i,_,rfl⟩:=Al.mp hx;trivial⟩)];show Z (Bq (DL n 0 (c.map dI)))=_;rw[QH n c 0 h.1 h.2]
theorem lZ(h:Cr n c)(h0:c≠[])(hn:n<1000):LQ [sx c,.int n]=Z (.bool Aa):=by
 have h1:=Rq h hn;have h2:(0:Int)<(c.length:Int):=by have:=T9.mpr h0;omega
 simp[LQ,YT,h1];exact T9.mpr h0
theorem gQ{w:Wk}(h:Wk.V w){dd:z0}(hd:dd∈w.deeds):IA [ZY dd,.int w.many]=Z (.bool Aa):=by
 have hl:=h.dl dd hd;have m2:=h.m2;rw[ly (ZY dd) _ (show(dd.map sx).length<1000000/\∀x∈dd.map sx,small x by refine⟨by simp;omega,λx hx=>?_⟩;obtain⟨c,hc,rfl⟩:=Al.mp hx;have:=(h.dc dd hd c hc).len;refine Yp ?_;simp;omega)];have e:Ld (ZY dd) w.many=Aa:=by unfold Ld ZY C0;simp[hl];intro c hc;exact QH w.many c 0 (h.dc dd hd c hc).1 (h.dc dd hd c hc).2
 rw[e]
theorem eK{w:Wk}(h:Wk.V w){l:zZ}(hd:l∈w.looks):Iz [sx l,.int w.many]=Z (.bool Aa):=by
 have hl:=h.ll l hd;have m2:=h.m2;rw[lA (sx l) _ (Yp (show(l.map dI).length<1000000 by simp;omega))];have e:Le (sx l) w.many=Aa:=by unfold Le C0;simp[hl];intro x hx;have:=h.lc l hd x hx;simp[Fo];omega
 rw[e]
theorem allTrue(α:Type)(xs:List α):D8 (xs.map λ_=>Bq Aa)=Z (xs.map λ_=>Aa):=by
 have:=N5 (xs.map λ_=>Aa)
 rwa [Aq]at this
theorem mn{w:Wk}(h:Wk.V w):L7 [.tuple (w.deeds.map ZY),.int w.many]=Z (.bool Aa):=by
 have h1:=Lz (.tuple (w.deeds.map ZY)) 1 5;have d1:=h.d1;have d2:=h.d2;have e:C0 (.tuple (w.deeds.map ZY)) 1 5=Aa:=by simp[C0];omega
 rw[e]at h1;have hl:w.deeds.length<1000000:=by omega
 simp[L7,Y3,h1,hl];rw[CP ZY (λ_=>.bool Aa)]
 .simp[allTrue]
 .intro x hx
  simp[gQ h hx]
theorem nH{w:Wk}(h:Wk.V w):L6 [.tuple (w.looks.map sx),.int w.many]=Z (.bool Aa):=by
 have h1:=Lz (.tuple (w.looks.map sx)) 0 4;have d2:=h.l2;have e:C0 (.tuple (w.looks.map sx)) 0 4=Aa:=by simp[C0];omega
 rw[e]at h1;have hl:w.looks.length<1000000:=by omega
 simp[L6,Y2,h1,hl];rw[CP sx (λ_=>.bool Aa)]
 .simp[allTrue]
 .intro x hx
  simp[eK h hx]
theorem my{w:Wk}(h:Wk.V w):L5 [w.d]=Z (.bool Aa):=by
 have h1:=Lz w.d 5 5;have e:C0 w.d 5 5=Aa:=by simp[C0,Wk.d]
 rw[e]at h1;have h2:=R4 (.int w.many) 1 8;have m1:=h.m1;have m2:=h.m2;have e2:Fo (.int w.many) 1 8=Aa:=by simp[Fo];omega
 rw[e2]at h2;have h3:=mn h;have h4:=nH h;have h5:=lZ h.bc h.b1 (by omega);have h6:=Rq h.gc (by omega);unfold Wk.d at h1 ⊢;simp[L5,aF,h1,h2,h3,h4,h5,h6]
theorem lT{w:Wk}(h:Wk.V w):LJ [w.d]=Z w.d:=by simp[LJ,Yy,my h]
theorem Sm(w:Wk):Gx [w.d]=Z (.tuple (w.deeds.map ZY)):=by simp[Gx,YS,Wk.d]
theorem YW(w:Wk):IP [w.d]=Z (.tuple (w.looks.map sx)):=by simp[IP,YR,Wk.d]
theorem oK{w:Wk}(h:Wk.V w){ls:zZ}(hl:Cr w.looks.length ls):Mc [w.d,sx ls]=Z (sx ls):=by have l2:=h.l2;have h1:=Rq hl (by omega);simp[Mc,aO,YW,h1]
end
section
variable{l s:Int}{c:zZ}
def Br(w:Wk)(d s:Int):zZ:=(w.deeds[d.toNat]?.getD [])[s.toNat]?.getD []
def K6(w:Wk)(l s:Int):Int:=(w.looks[l.toNat]?.getD [])[s.toNat]?.getD 0
def AX(w:Wk)(c:zZ)(d:Int):Bool:=c.all λs=>decide (0<(Br w d s).length)
def Bz(w:Wk)(c:zZ)(d:Int):zZ:=c.flatMap λs=>Br w d s
def ZW(w:Wk)(c:zZ)(d:Int):zZ:=sortI (tL [] (Bz w c d))
def ZC(w:Wk)(ls:zZ)(s:Int):zZ:=ls.map λl=>K6 w l s
theorem QM{w:Wk}{d:Int}(h0:0<=d)(h1:d<w.deeds.length):vw (w.deeds.map ZY) d=Z (ZY (w.deeds[d.toNat]?.getD [])):=by
 refine Nd h0 ?_;have h:d.toNat<w.deeds.length:=by omega
 simp[h,CS]
theorem Ql{w:Wk}(hv:Wk.V w){d:Int}(h0:0<=d)(h1:d<w.deeds.length)(h2:0<=s)(h3:s<w.many):vw ((w.deeds[d.toNat]?.getD []).map sx) s=Z (sx (Br w d s)):=by
 refine Nd h2 ?_;have h:d.toNat<w.deeds.length:=by omega
 have hl:(w.deeds[d.toNat]?.getD []).length=w.many:=by
  have:w.deeds[d.toNat]?.getD []=w.deeds[d.toNat]:=by simp[h,CS]
  rw[this];exact hv.dl _ (GI h)
 have h':s.toNat<(w.deeds[d.toNat]?.getD []).length:=by omega
 unfold Br;rw[AD,AK h'];simp[CS,h']
theorem Qu{w:Wk}(hv:Wk.V w){d:Int}(h0:0<=d)(h1:d<w.deeds.length)(h2:0<=s)(h3:s<w.many):Cr w.many (Br w d s):=by
 have h:d.toNat<w.deeds.length:=by omega
 have e:w.deeds[d.toNat]?.getD []=w.deeds[d.toNat]:=by simp[h,CS]
 have hl:=hv.dl _ (GI h);unfold Br;rw[e];have h':s.toNat<(w.deeds[d.toNat]).length:=by omega
 have e2:(w.deeds[d.toNat])[s.toNat]?.getD []=(w.deeds[d.toNat])[s.toNat]:=by simp[h',CS]
 rw[e2];exact hv.dc _ (GI h) _ (GI h')
theorem VW{w:Wk}(h0:0<=l)(h1:l<w.looks.length):vw (w.looks.map sx) l=Z (sx (w.looks[l.toNat]?.getD [])):=by
 refine Nd h0 ?_;have h:l.toNat<w.looks.length:=by omega
 simp[h,CS]
theorem VJ{w:Wk}(hv:Wk.V w)(h0:0<=l)(h1:l<w.looks.length)(h2:0<=s)(h3:s<w.many):vw ((w.looks[l.toNat]?.getD []).map dI) s=Z (.int (K6 w l s)):=by
 refine Nd h2 ?_;have h:l.toNat<w.looks.length:=by omega
 have hl:(w.looks[l.toNat]?.getD []).length=w.many:=by
  have:w.looks[l.toNat]?.getD []=w.looks[l.toNat]:=by simp[h,CS]
  rw[this];exact hv.ll _ (GI h)
 have h':s.toNat<(w.looks[l.toNat]?.getD []).length:=by omega
 unfold K6;rw[AD,AK h'];simp[CS,h']
theorem lN{w:Wk}(hv:Wk.V w){ls:zZ}(hl:Cr w.looks.length ls)(h2:0<=s)(h3:s<w.many):LI [w.d,sx ls,.int s]=Z (sx (ZC w ls s)):=by
 have l2:=hv.l2;have sA:=hl.len;have hb:BC ls<1000000:=by omega
 simp[LI,Yx,hb];rw[CP dI (λl=>dI (K6 w l s))]
 .simp[ZC]
 .intro l hl'
  have hb:=hl.2 l hl';simp[YW,VW hb.1 hb.2,VJ hv hb.1 hb.2 h2 h3]
theorem oE{w:Wk}(hv:Wk.V w)(hc:Cr w.many c){d:Int}(h0:0<=d)(h1:d<w.deeds.length):Me [w.d,sx c,.int d]=Z (.bool (AX w c d)):=by
 have m2:=hv.m2;have sA:=hc.len;have hb:BC c<1000000:=by omega
 simp[Me,aK,Sm,QM h0 h1,hb];rw[CP dI (λs=>.bool (decide (0<(Br w d s).length)))]
 .have e:=N5 (c.map λs=>decide (0<(Br w d s).length))
  rw[Aq]at e;have e':((λb=>Bq b)∘λs=>decide (0<(Br w d s).length))=λs=>Bq (decide (0<(Br w d s).length)):=rfl;rw[e']at e;simp[e,AX]
 .intro s hs
  have hb:=hc.2 s hs;simp[ZY,Ql hv h0 h1 hb.1 hb.2]
def we(w:Wk)(c:zZ):zZ:=((Ah w.deeds.length).filter λ(d:Nat)=>AX w c (d:Int)).map λ(k:Nat)=>(k:Int)
theorem oe{w:Wk}(hv:Wk.V w)(hc:Cr w.many c):LX [w.d,sx c]=Z (.list ((we w c).map dI)):=by
 have d2:=hv.d2;have hok:v9 (w.deeds.length:Int)=Aa:=Fz (by omega);have hb:w.deeds.length<1000000:=by omega
 simp[LX,aj,Sm,hok,Dc,hb];rw[Cj dN (λk:Nat=>AX w c k) dN]
 .simp[we]
 .intro k hk
  have hk':=AI.mp hk;simp[oE hv hc (show(0:Int)<=(k:Int) by omega) (by omega)]
 .intro k hk _
  simp
def C7(acc:zZ)(x:Int):zZ:=if acc.contains x then acc else acc++[x]
theorem N7:∀(l acc:zZ),tL acc l=l.foldl C7 acc
 |[],acc=>rfl
 |x::l,acc=>by
  unfold tL;rw[DX];unfold C7;split
  .rw[N7 l acc];rfl
  .rw[N7 l (acc++[x])];rfl
def vG(acc:zZ):List (Ky×D):=acc.map λi=>(Cn i,Bq Aa)
theorem fX(acc:zZ)(x:Int):tj (vG acc) (Cn x) (Bq Aa)=vG (C7 acc x):=by
 unfold tj C7 vG
 by_cases h:x∈acc
 .have e1:((acc.map λi=>((Cn i:Ky),Bq Aa)).any λp=>decide (p.1=Cn x))=Aa:=by
   simp;exact h
  have e2:acc.contains x=Aa:=by simpa using h
  rw[if_pos e1,if_pos e2,Aq];refine E9 λi _=>?_;simp
 .have e1:¬((acc.map λi=>((Cn i:Ky),Bq Aa)).any λp=>decide (p.1=Cn x))=Aa:=by
   simp;exact h
  have e2:¬acc.contains x=Aa:=by simpa using h
  rw[if_neg e1,if_neg e2];simp
theorem XZ(acc:zZ)(x:Int):(C7 acc x).length<=BC acc+1:=by unfold C7;split<;>simp
theorem WK:∀(l acc:zZ),(l.foldl C7 acc).length<=BC acc+BC l
 |[],acc=>by simp
 |x::l,acc=>by rw[DX];have:=WK l (C7 acc x);have:=XZ acc x;simp;omega
theorem U9(e0 e1 e2 e3 e5:Option B):∀(l acc:zZ) (o:Option B),BC acc+BC l<1000000 ->∃o',Z7 6 NW (l.map dI) [e0,e1,e2,e3,Z (.ok (vG acc)),e5,o]=Z (.nx [e0,e1,e2,e3,Z (.ok (vG (l.foldl C7 acc))),e5,o'])
 |[],acc,o,_=>⟨o,rfl⟩
 |x::l,acc,o,h=>by
  rw[Av]at h;have hb:BC acc<1000000:=by omega
  have e:NW [e0,e1,e2,e3,Z (.ok (vG acc)),e5,qP (dI x)]=Z (.nx [e0,e1,e2,e3,Z (.ok (vG (C7 acc x))),e5,qP (dI x)]):=by
   have hl:(vG acc).length<1000000:=by unfold vG;simp;exact hb
   simp[NW,hl,fX]
  have hd:=XZ acc x;obtain⟨o',e'⟩:=U9 e0 e1 e2 e3 e5 l (C7 acc x) (Z (.pl (dI x))) (by omega);refine⟨o',?_⟩;rw[Ai,DX,<-e'];unfold Z7;refine Dp e ?_;cases l<;>rfl
theorem Vm{w:Wk}(hv:Wk.V w){d:Int}(h0:0<=d)(h1:d<w.deeds.length)(e1 e2:Option B):∀(c acc:zZ) (o5 o6:Option B),(∀s∈c,0<=s/\s<(w.many:Int))->acc.length+BC c*10<100000 ->∃o5' o6',Z7 5 NV (c.map dI) [qW w,e1,e2,qP (ZY (w.deeds[d.toNat]?.getD [])),Z (.ok (vG acc)),o5,o6]=Z (.nx [qW w,e1,e2,qP (ZY (w.deeds[d.toNat]?.getD [])),Z (.ok (vG ((Bz w c d).foldl C7 acc))),o5',o6'])
 |[],acc,o5,o6,_,_=>⟨o5,o6,rfl⟩
 |s::c,acc,o5,o6,hs,hl=>by
  rw[Av]at hl;have hb:=hs s (An ..);have hr:=(Qu hv h0 h1 hb.1 hb.2).len;have m2:=hv.m2;have hrl:(Br w d s).length<1000000:=by omega
  obtain⟨o',e⟩:=U9 (Z (.pl w.d)) e1 e2 (Z (.pl (ZY (w.deeds[d.toNat]?.getD [])))) (Z (.pl (dI s))) (Br w d s) acc o6 (by omega);have e':NV [qW w,e1,e2,qP (ZY (w.deeds[d.toNat]?.getD [])),Z (.ok (vG acc)),qP (dI s),o6]=Z (.nx [qW w,e1,e2,qP (ZY (w.deeds[d.toNat]?.getD [])),Z (.ok (vG ((Br w d s).foldl C7 acc))),qP (dI s),o']):=by unfold ZY at e ⊢;simp[NV,Ql hv h0 h1 hb.1 hb.2,hrl,e]
  have hf:=WK (Br w d s) acc;obtain⟨p5,p6,ih⟩:=Vm hv h0 h1 e1 e2 c ((Br w d s).foldl C7 acc) (Z (.pl (dI s))) o' (λx hx=>hs x (Ao _ hx)) (by omega);refine⟨p5,p6,?_⟩;have ef:Bz w (s::c) d=Br w d s++Bz w c d:=rfl;rw[ef,Tq,<-ih,Ai];exact Dp e' rfl
theorem US{w:Wk}(hv:Wk.V w)(hc:Cr w.many c){d:Int}(h0:0<=d)(h1:d<w.deeds.length):∀x∈Bz w c d,0<=x/\x<(w.many:Int):=by intro x hx;obtain⟨s,hs,h⟩:=Jb.mp hx;exact(Qu hv h0 h1 (hc.2 s hs).1 (hc.2 s hs).2).2 x h
theorem Ie{w:Wk}(hv:Wk.V w)(hc:Cr w.many c){d:Int}(h0:0<=d)(h1:d<w.deeds.length):Cr w.many (ZW w c d):=by refine Np (Oq _ _ (by simp)) λx hx=>US hv hc h0 h1 x ?_;rw[LB]at hx;simpa using hx
theorem j4{w:Wk}(hv:Wk.V w)(hc:Cr w.many c){d:Int}(h0:0<=d)(h1:d<w.deeds.length):JN [w.d,sx c,.int d]=Z (sx (ZW w c d)):=by
 have m2:=hv.m2;have sA:=hc.len;have hb:BC c<1000000:=by omega
 obtain⟨o5,o6,e⟩:=Vm hv h0 h1 (Z (.pl (sx c))) (Z (.pl (.int d))) c [] Z_ Z_ hc.2 (by simp;omega);have hl:(tL [] (Bz w c d)).length<64:=by have h:=(Ie hv hc h0 h1).len;have:=(sortI_perm (tL [] (Bz w c d))).length_eq;unfold ZW at h;omega
 have hs:=Rl _ hl;rw[N7]at hs;have ek:(vG ((Bz w c d).foldl C7 [])).map (λp=>Bv p.1)=((Bz w c d).foldl C7 []).map dI:=by unfold vG;rw[Aq];rfl
 simp[JN,X8,Sm,QM h0 h1,hb];rw[show Z (B.ok [])=Z (B.ok (vG [])) from rfl,e];simp[ek,hs,ZW,N7]
end
abbrev Gs:=List (zZ×zZ)
abbrev Z8(k:zZ):List Ky:=k.map Cn
def AV(g:Gs):List (List Ky×z5):=g.map λp=>(Z8 p.1,p.2.map dI)
theorem Iq{a b:zZ}(h:Z8 a=Z8 b):a=b:=by
 induction a generalizing b with
 |nil=>cases b with
  |nil=>rfl
  |cons _ _=>simp at h
 |cons x a ih=>cases b with
  |nil=>simp at h
  |cons y b=>simp at h;rw[h.1,ih (by simpa using h.2)]
theorem QN(a b:zZ):(Z8 a=Z8 b)↔a=b:=⟨Iq,λh=>by rw[h]⟩
theorem lS(k:zZ):M0 (k.map dI)=Z (Z8 k):=by
 induction k with
 |nil=>rfl
 |cons x k ih=>show(M0 (k.map dI)).map (Cn x::·)=_;rw[ih];rfl
theorem B6(k:zZ):Be (sx k)=Z (Z8 k):=lS k
theorem Ly(g:Gs)(k:zZ):Zk (AV g) (Z8 k)=(Zk g k).map λp=>p.map dI:=by
 unfold Zk AV;rw[List.find?_map];have e:((λp:List Ky×z5=>decide (p.1=Z8 k))∘λp:zZ×zZ=>(Z8 p.1,p.2.map dI))=λp=>decide (p.1=k):=by
  funext p
  simp only[Mr];exact decide_eq_decide.mpr (QN p.1 k)
 rw[e];cases g.find? λp=>decide (p.1=k)<;>rfl
theorem V8(g:Gs)(k:zZ):Cy (AV g) (Z8 k)=AV (Cy g k):=by
 unfold Cy;rw[Ly];cases Zk g k with
 |none=>simp[AV]
 |some p=>rfl
theorem Ng(k:zZ)(s:Int):∀(g:Gs),DI (AV g) (Z8 k) (dI s)=AV (DI g k s)
 |[]=>rfl
 |(x,p)::g=>by
  show DI ((Z8 x,p.map dI)::AV g) (Z8 k) (dI s)=AV (DI ((x,p)::g) k s);unfold DI
  by_cases h:x=k
  .rw[if_pos (by rw[h]),if_pos h]
   simp[AV]
  .rw[if_neg (λe=>h (Iq e)),if_neg h,Ng k s g]
   rfl
def C1(g:Gs)(k:zZ)(s:Int):Gs:=DI (Cy g k) k s
theorem JH(k:zZ):Zk ([]:Gs) k=Z_:=rfl
theorem FD(x:zZ)(p:zZ)(g:Gs)(k:zZ):Zk ((x,p)::g) k=if x=k then Z p else Zk g k:=by
 unfold Zk;rw[Di]
 by_cases h:x=k<;>simp[h]
theorem WI(k:zZ)(s:Int)(k':zZ):∀(g:Gs),Zk (DI g k s) k'=if k=k' then(Zk g k).map (·++[s])else Zk g k'
 |[]=>by simp[DI,JH]
 |(x,p)::g=>by
  unfold DI
  by_cases h:x=k
  .subst h
   rw[if_pos rfl,FD,FD,FD,if_pos rfl];split<;>rfl
  .rw[if_neg h,FD,WI k s k' g,FD,FD,if_neg h]
   by_cases h2:x=k'
   .subst h2
    rw[if_pos rfl,if_pos rfl,if_neg (Bi h)]
   .rw[if_neg h2,if_neg h2]
theorem Yh(x:zZ)(p:zZ)(k:zZ):∀(g:Gs),Zk (g++[(x,p)]) k=match Zk g k with|some q=>Z q|none=>if x=k then Z p else Z_
 |[]=>by simp[JH,FD]
 |(y,q)::g=>by rw[TK,FD,FD,Yh x p k g];split<;>rfl
theorem Nt(g:Gs)(k k':zZ):Zk (Cy g k) k'=if k=k' then Z ((Zk g k).getD [])else Zk g k':=by
 unfold Cy;cases h:Zk g k with
 |some p =>
  by_cases e:k=k'
  .subst e;rw[if_pos rfl];exact h
  .rw[if_neg e]
 |none =>
  show Zk (g++[(k,[])]) k'=_;rw[Yh]
  by_cases e:k=k'
  .subst e;rw[if_pos rfl,if_pos rfl,h];rfl
  .rw[if_neg e,if_neg e]
   cases Zk g k'<;>rfl
theorem gs(g:Gs)(k k':zZ)(s:Int):Zk (C1 g k s) k'=if k=k' then Z ((Zk g k).getD []++[s])else Zk g k':=by
 unfold C1;rw[WI,Nt,Nt,if_pos rfl]
 by_cases e:k=k'
 .rw[if_pos e,if_pos e];rfl
 .rw[if_neg e,if_neg e,if_neg e]
theorem WR(k:zZ)(s:Int):∀(g:Gs),(DI g k s).map (·.1)=g.map (·.1)
 |[]=>rfl
 |(x,p)::g=>by
  unfold DI;split
  .rfl
  .rw[Ai,WR k s g];rfl
theorem Q6(g:Gs)(k:zZ):(Zk g k).isSome=Aa↔k∈g.map (·.1):=by
 induction g with
 |nil=>simp[JH]
 |cons p g ih =>
  obtain⟨x,q⟩:=p;rw[FD,Ai,As]
  by_cases h:x=k
  .simp[h]
  .rw[if_neg h,ih]
   constructor
   .exact .inr
   .rintro (e|e)
    .exact absurd e.symm h
    .exact e
theorem gE(g:Gs)(k:zZ):(Cy g k).map (·.1)=if k∈g.map (·.1)then g.map (·.1)else g.map (·.1)++[k]:=by
 unfold Cy;cases h:Zk g k with
 |some p=>rw[if_pos ((Q6 g k).mp (by rw[h];rfl))]
 |none=>rw[if_neg (λm=>by have:=(Q6 g k).mpr m;rw[h]at this;cases this)];simp
theorem iM(g:Gs)(k:zZ)(s:Int):(C1 g k s).map (·.1)=if k∈g.map (·.1)then g.map (·.1)else g.map (·.1)++[k]:=by unfold C1;rw[WR,gE]
def Cq(f:Int->zZ)(c:zZ):Gs:=c.foldl (λg s=>C1 g (f s) s) []
structure wL(f:Int->zZ)(pre:zZ)(g:Gs):Prop where
 nd:(g.map (·.1)).Nodup
 look:∀k,Zk g k=if k∈pre.map f then Z (pre.filter λs=>f s==k)else Z_
theorem wL.mem{f:Int->zZ}{pre:zZ}{g:Gs}(h:wL f pre g)(k:zZ):k∈g.map (·.1)↔k∈pre.map f:=by
 rw[<-Q6,h.look];split
 .rename_i m;exact⟨λ_=>m,λ_=>rfl⟩
 .rename_i m;exact⟨(λe=>by cases e),λe=>absurd e m⟩
theorem wL.step{f:Int->zZ}{pre:zZ}{g:Gs}(h:wL f pre g)(s:Int):wL f (pre++[s]) (C1 g (f s) s):=by
 refine⟨?_,λk=>?_⟩
 .rw[iM]
  split
  .exact h.nd
  .rename_i m
   rw[Ee];exact⟨h.nd,by simp,λa ha b hb=>by simp at hb;subst hb;exact λe=>m (e▸ha)⟩
 .rw[gs,h.look,h.look,BB,List.filter_append]
  by_cases e:f s=k
  .subst e
   have e0:f s∈pre.map f++[s].map f:=by simp
   rw[if_pos rfl,if_pos e0];have e2:[s].filter (λx=>f x==f s)=[s]:=by simp
   rw[e2];split
   .rfl
   .rename_i m
    have:pre.filter (λx=>f x==f s)=[]:=by rw[T3];intro a ha q;exact m (Al.mpr ⟨a,ha,by simpa using q⟩)
    rw[this];rfl
  .have e2:[s].filter (λx=>f x==k)=[]:=by simp[e]
   rw[if_neg e,e2,Ba];have e3:(k∈pre.map f++[s].map f)↔k∈pre.map f:=by
    rw[Bb]
    constructor
    .rintro (q|q)
     .exact q
     .simp at q;exact absurd q.symm e
    .exact .inl
   by_cases q:k∈pre.map f
   .rw[if_pos q,if_pos (e3.mpr q)]
   .rw[if_neg q,if_neg (λz=>q (e3.mp z))]
theorem Wg(f:Int->zZ):∀(c pre:zZ) (g:Gs),wL f pre g->wL f (pre++c) (c.foldl (λg s=>C1 g (f s) s) g)
 |[],pre,g,h=>by rw[Ba];exact h
 |s::c,pre,g,h=>by have:=Wg f c (pre++[s]) _ (h.step s);rw[B8]at this;exact this
theorem Gm(f:Int->zZ)(c:zZ):wL f c (Cq f c):=by
 have:=Wg f c [] [] ⟨Ff,λk=>by simp[JH]⟩
 rwa [GH]at this
def ZS(w:Wk)(ls c:zZ):Gs:=(Bc ((Cq (ZC w ls) c).map (·.1))).map λk=>(k,c.filter λs=>ZC w ls s==k)
def BU(p:zZ×zZ):D:=.tuple [sx p.1,sx p.2]
theorem QW(ks:z0):Ic (ks.map sx)=Z ks:=by
 induction ks with
 |nil=>rfl
 |cons k ks ih=>show(match Cg (k.map dI)with|some ns=>(Ic (ks.map sx)).map (ns::·)|none=>Z_)=_;rw[FG,ih];rfl
theorem Rm(ks:z0)(h:BC ks<64)(hn:BC ks<2\/∀k∈ks,k≠[]):EO (ks.map sx)=Z ((Bc ks).map sx):=by
 unfold EO;rw[if_pos (by rw[Ad];exact h)];cases ks with
 |nil=>simp[Cg,sortI,Bc,uQ]
 |cons k ks =>
  have e:Cg (GC sx (k::ks))=Z_:=rfl;rw[e,QW];have e2:(decide ((GC sx (k::ks)).length<2)||(k::ks).all λt=>!t.isEmpty)=Aa:=by
   rw[Ew,Ad];rcases hn with q|q
   .exact .inl (by simpa using q)
   .refine .inr (Ay.mpr λt ht=>?_)
    have:=q t ht;cases t with
    |nil=>exact absurd rfl this
    |cons _ _=>rfl
  dsimp only;rw[if_pos e2];unfold Mf;simp only[N0]
theorem CA(ks:z0):(Bc ks).Perm ks:=PV ks _
theorem V7(w:Wk)(ls c:zZ)(hc:BC c<60):EO ((AV (Cq (ZC w ls) c)).map λp=>Bj (p.1.map Bv))=Z ((Bc ((Cq (ZC w ls) c).map (·.1))).map sx):=by
 have hg:=Gm (ZC w ls) c;have e:((AV (Cq (ZC w ls) c)).map λp=>Bj (p.1.map Bv))=((Cq (ZC w ls) c).map (·.1)).map sx:=by unfold AV;rw[Aq,Aq];refine E9 λp _=>?_;simp only[Mr];unfold Z8 sx;rw[Aq];rfl
 rw[e];have tT:∀k∈(Cq (ZC w ls) c).map (·.1),k∈c.map (ZC w ls):=λk hk=>(hg.mem k).mp hk;refine Rm _ ?_ ?_
 .have:(Cq (ZC w ls) c).map (·.1) ⊆ c.map (ZC w ls):=tT
  have:=(BW hg.nd this);rw[Ad,Ad]at this;rw[Ad];omega
 .cases ls with
  |nil =>
   left
   have:(Cq (ZC w []) c).map (·.1) ⊆ [[]]:=λk hk=>by obtain⟨s,_,e⟩:=Al.mp (tT k hk);rw[<-e];simp[ZC]
   have:=(BW hg.nd this);simp at this ⊢;omega
  |cons l ls =>
   right
   intro k hk e;obtain⟨s,_,e'⟩:=Al.mp (tT k hk);rw[e]at e';simp[ZC]at e'
theorem Iw(w:Wk)(ls c:zZ)(e:EF)(r:HM.Env)(h:∀k∈(Cq (ZC w ls) c).map (·.1),e (Z (.pl (sx k))::r)=Z (.tuple [sx k,.tuple ((c.filter λs=>ZC w ls s==k).map dI)])):Z3 ZD e r ((Bc ((Cq (ZC w ls) c).map (·.1))).map sx)=Z ((ZS w ls c).map BU):=by
 rw[CP sx (λk=>.tuple [sx k,.tuple ((c.filter λs=>ZC w ls s==k).map dI)])]
 .unfold ZS
  rw[Aq];rfl
 .intro k hk
  exact h k ((CA _).mem_iff.mp hk)
theorem WL(w:Wk)(ls c:zZ)(k:zZ)(hk:k∈(Cq (ZC w ls) c).map (·.1)):Zk (AV (Cq (ZC w ls) c)) (Z8 k)=Z ((c.filter λs=>ZC w ls s==k).map dI):=by have hg:=Gm (ZC w ls) c;rw[Ly,hg.look,if_pos ((hg.mem k).mp hk)];rfl
theorem V4(f:Int->zZ)(pre:zZ)(g:Gs)(h:wL f pre g)(k:zZ)(p:zZ)(e:Zk g k=Z p):BC p<=BC pre:=by
 rw[h.look]at e;split at e
 .cases e;exact Hx _ _
 .cases e
theorem HU(f:Int->zZ)(pre:zZ)(g:Gs)(h:wL f pre g):BC g<=BC pre:=by have h2:g.map (·.1) ⊆ pre.map f:=λk hk=>(h.mem k).mp hk;have:=BW h.nd h2;simpa using this
theorem XQ{w:Wk}(hv:Wk.V w){ls:zZ}(hl:Cr w.looks.length ls)(e2:Option B):∀(c pre:zZ) (g:Gs) (o:Option B),wL (ZC w ls) pre g->(∀s∈c,0<=s/\s<(w.many:Int))->pre.length+BC c<1000 ->∃o',Z7 4 NU (c.map dI) [qW w,qT ls,e2,Z (.otl (AV g)),o]=Z (.nx [qW w,qT ls,e2,Z (.otl (AV (c.foldl (λg s=>C1 g (ZC w ls s) s) g))),o'])
 |[],pre,g,o,_,_,_=>⟨o,rfl⟩
 |s::c,pre,g,o,hg,hb,hn=>by
  rw[Av]at hn;have hs:=hb s (An ..);have sA:(AV g).length<1000000:=by have:=HU _ _ _ hg;unfold AV;rw[Ad];omega
  have h1:Zk (Cy (AV g) (Z8 (ZC w ls s))) (Z8 (ZC w ls s))=Z (((Zk g (ZC w ls s)).getD []).map dI):=by rw[V8,Ly,Nt,if_pos rfl];rfl
  have h2:(((Zk g (ZC w ls s)).getD []).map dI).length<1000000:=by
   rw[Ad];cases e:Zk g (ZC w ls s)with
   |none=>simp
   |some p=>have:=V4 _ _ _ hg _ _ e;simp;omega
  have h2':((Zk g (ZC w ls s)).getD []).length<1000000:=by rwa [Ad]at h2
  have e:NU [qW w,qT ls,e2,Z (.otl (AV g)),qP (dI s)]=Z (.nx [qW w,qT ls,e2,Z (.otl (AV (C1 g (ZC w ls s) s))),qP (dI s)]):=by have ek:=lN hv hl hs.1 hs.2;simp[NU,ek,B6,sA,h1,h2'];rw[V8,Ng];rfl
  obtain⟨o',ih⟩:=XQ hv hl e2 c (pre++[s]) (C1 g (ZC w ls s) s) (Z (.pl (dI s))) (hg.step s) (λx hx=>hb x (Ao _ hx)) (by simp;omega);refine⟨o',?_⟩;rw[Ai,DX,<-ih];exact Dp e rfl
theorem Rr{w:Wk}(hv:Wk.V w){ls:zZ}(hl:Cr w.looks.length ls){c:zZ}(hc:Cr w.many c):Df [w.d,sx ls,sx c]=Z (.list ((ZS w ls c).map BU)):=by
 have m2:=hv.m2;have sA:=hc.len;have hb:BC c<1000000:=by omega
 obtain⟨o',e⟩:=XQ hv hl (Z (.pl (sx c))) c [] [] Z_ ⟨Ff,λk=>by simp[JH]⟩ hc.2 (by simp;omega);have hk:=V7 w ls c (by omega);have hg:c.foldl (λg s=>C1 g (ZC w ls s) s) []=Cq (ZC w ls) c:=rfl;rw[hg]at e;have hn:(Bc ((Cq (ZC w ls) c).map (·.1))).length<1000000:=by rw[(CA _).length_eq,Ad];have:=HU _ _ _ (Gm (ZC w ls) c);omega
 simp[Df,X7,hb];rw[show Z (B.otl [])=Z (B.otl (AV [])) from rfl,e];simp[hk,hn];rw[Iw]
 .simp
 .intro k hk'
  simp[B6,WL w ls c k hk']
section
variable{ds:z5}{m n:Nat}
def t9:Nat->D->Bool
 |_,.none=>Aa
 |_,.int _=>Aa
 |_,.str x=>PyData.canLay0 (.str x)
 |0,_=>Ab
 |n+1,.list ds=>ds.all (t9 n)
 |n+1,.tuple ds=>ds.all (t9 n)
 |_,_=>Ab
theorem ar(h:∀d∈ds,d.canLay0=Aa):MF ds=Aa:=by
 induction ds with
 |nil=>rfl
 |cons d ds ih=>show(d.canLay0&&MF ds)=Aa;rw[h d (An ..),ih λx hx=>h x (Ao _ hx)];rfl
theorem YZ(h:∀d∈ds,d.depth<=n):Pe ds<=n:=by
 induction ds with
 |nil=>exact BQ _
 |cons d ds ih=>show max d.depth (Pe ds)<=n;have h1:=h d (An ..);have h2:=ih λx hx=>h x (Ao _ hx);omega
theorem Lc:∀(n:Nat) (d:D),t9 n d=Aa->d.canLay0=Aa/\d.depth<=n
 |n,.none,_=>⟨rfl,by show 0<=n;omega⟩
 |n,.int _,_=>⟨rfl,by show 0<=n;omega⟩
 |n,.str x,h=>by refine⟨?_,by show 0<=n;omega⟩;cases n<;>exact h
 |0,.bool _,h=>by cases h
 |0,.list _,h=>by cases h
 |0,.tuple _,h=>by cases h
 |0,.dict _,h=>by cases h
 |n+1,.bool _,h=>by cases h
 |n+1,.dict _,h=>by cases h
 |n+1,.list ds,h=>by have h':ds.all (t9 n)=Aa:=h;have hh:=Ay.mp h';refine⟨ar λd hd=>(Lc n d (hh d hd)).1,?_⟩;show Pe ds+1<=n+1;have:=YZ λd hd=>(Lc n d (hh d hd)).2;omega
 |n+1,.tuple ds,h=>by have h':ds.all (t9 n)=Aa:=h;have hh:=Ay.mp h';refine⟨ar λd hd=>(Lc n d (hh d hd)).1,?_⟩;show Pe ds+1<=n+1;have:=YZ λd hd=>(Lc n d (hh d hd)).2;omega
theorem Hd{d:D}(h:t9 n d=Aa)(hn:n<=60):CN d=Aa:=by obtain⟨h1,h2⟩:=Lc n d h;unfold CN;rw[h1,decide_eq_true (show d.depth<=60 by omega)];rfl
theorem Yt(ih:∀d∈ds,∀e,(∃m,t9 m e=Aa)->(BN d e=Aa↔d=e)):∀(es:z5),(∀e∈es,∃m,t9 m e=Aa)->(OS ds es=Aa↔ds=es):=by
 induction ds with
 |nil =>
  intro es _;cases es with
  |nil=>exact⟨λ_=>rfl,λ_=>rfl⟩
  |cons e es=>exact⟨(λh=>by cases h),(λh=>by cases h)⟩
 |cons d ds ihl =>
  intro es he;cases es with
  |nil=>exact⟨(λh=>by cases h),(λh=>by cases h)⟩
  |cons e es=>show((BN d e&&OS ds es)=Aa)↔_;rw[Bn,ih d (An ..) e (he e (An ..)),ihl (λx hx=>ih x (Ao _ hx)) es (λx hx=>he x (Ao _ hx)),List.cons.injEq]
theorem eG(h:t9 m (.list ds)=Aa):∀d∈ds,∃m,t9 m d=Aa:=by
 cases m with
 |zero=>cases h
 |succ m=>have h':ds.all (t9 m)=Aa:=h;exact λd hd=>⟨m,Ay.mp h' d hd⟩
theorem jk(h:t9 m (.tuple ds)=Aa):∀d∈ds,∃m,t9 m d=Aa:=by
 cases m with
 |zero=>cases h
 |succ m=>have h':ds.all (t9 m)=Aa:=h;exact λd hd=>⟨m,Ay.mp h' d hd⟩
theorem Ih{b:Bool}(h:t9 m (.bool b)=Aa):False:=by cases m<;>cases h
theorem Ig{b:List (D×D)}(h:t9 m (.dict b)=Aa):False:=by cases m<;>cases h
theorem Nk:∀(n:Nat) (d e:D),t9 n d=Aa->(∃m,t9 m e=Aa)->(BN d e=Aa↔d=e):=by
 intro n
 induction n with
 |zero =>
  intro d e hd ⟨m,he⟩;cases d<;>first|cases hd|skip
  all_goals cases e<;>first
   |exact(Ih he).elim
   |exact(Ig he).elim
   |exact⟨λ_=>rfl,λ_=>rfl⟩
   |exact⟨(λh=>by cases h),(λh=>by cases h)⟩
   |(rename_i a b;show((a==b)=Aa)↔_;simp)
 |succ n ih =>
  intro d e hd ⟨m,he⟩;cases d with
  |bool _=>exact(Ih hd).elim
  |dict _=>exact(Ig hd).elim
  |list ds =>
   cases e with
   |list es=>show(OS ds es=Aa)↔_;rw[Yt (λd h e he=>ih d e (Ay.mp (show ds.all (t9 n)=Aa from hd) d h) he) es (eG he)];simp
   |bool _=>exact(Ih he).elim
   |dict _=>exact(Ig he).elim
   |_=>exact⟨(λh=>by cases h),(λh=>by cases h)⟩
  |tuple ds =>
   cases e with
   |tuple es=>show(OS ds es=Aa)↔_;rw[Yt (λd h e he=>ih d e (Ay.mp (show ds.all (t9 n)=Aa from hd) d h) he) es (jk he)];simp
   |bool _=>exact(Ih he).elim
   |dict _=>exact(Ig he).elim
   |_=>exact⟨(λh=>by cases h),(λh=>by cases h)⟩
  |none=>cases e<;>first
   |exact(Ih he).elim
   |exact(Ig he).elim
   |exact⟨λ_=>rfl,λ_=>rfl⟩
   |exact⟨(λh=>by cases h),(λh=>by cases h)⟩
  |int i=>cases e<;>first
   |exact(Ih he).elim
   |exact(Ig he).elim
   |exact⟨(λh=>by cases h),(λh=>by cases h)⟩
   |(rename_i b;show((i==b)=Aa)↔_;simp)
  |str i=>cases e<;>first
   |exact(Ih he).elim
   |exact(Ig he).elim
   |exact⟨(λh=>by cases h),(λh=>by cases h)⟩
   |(rename_i b;show((i==b)=Aa)↔_;simp)
theorem ij{d e:D}(hd:t9 n d=Aa)(he:t9 m e=Aa)(hn:n<=60)(hm:m<=60)[Decidable (d=e)]:tK d e=Z (.bool (decide (d=e))):=by
 unfold tK;rw[Hd hd hn,Hd he hm,if_pos (by rfl)];congr 2;have h:=Nk n d e hd ⟨m,he⟩;cases q:BN d e with
 |true=>exact(decide_eq_true (h.mp q)).symm
 |false=>exact(decide_eq_false λz=>by rw[h.mpr z]at q;cases q).symm
theorem Nr{d:D}(hd:t9 n d=Aa)(hn:n<=60):tK d d=Z (.bool Aa):=by unfold tK;rw[Hd hd hn,(Nk n d d hd ⟨n,hd⟩).mpr rfl];rfl
theorem JA{d e:D}(hd:t9 n d=Aa)(he:t9 m e=Aa)(hn:n<=60)(hm:m<=60)(h:d≠e):tK d e=Z (.bool Ab):=by have:Decidable (d=e):=isFalse h;rw[ij hd he hn hm,decide_eq_false h]
theorem G2(n:Nat)(ns:zZ):t9 (n+1) (sx ns)=Aa:=by show(ns.map dI).all (t9 n)=Aa;rw[Ay];intro d hd;obtain⟨i,_,rfl⟩:=Al.mp hd;cases n<;>rfl
theorem Q8(n:Nat)(ns:zZ):t9 (n+1) (.list (ns.map dI))=Aa:=G2 n ns
theorem dz(h:∀d∈ds,t9 n d=Aa):t9 (n+1) (.list ds)=Aa:=Ay.mpr h
theorem EL(n:Nat)(i:Int):t9 n (.int i)=Aa:=by cases n<;>rfl
theorem eM(n:Nat):t9 n .none=Aa:=by cases n<;>rfl
end
section
variable{c:zZ}
def lkV(n:Nat)(c:Int):zZ:=((Ah n).filter λ(k:Nat)=>decide (0<Z4 (c+19*(k:Int)) 9857 4)).map λ(k:Nat)=>(k:Int)
theorem dP(n:Nat)(c:Int):Cr n (lkV n c):=Q0 n _
theorem gu{w:Wk}(hv:Wk.V w)(c:Int):L1 [w.d,.int c]=Z (sx (lkV w.looks.length c)):=by
 have l2:=hv.l2;have hok:v9 (w.looks.length:Int)=Aa:=Fz (by omega);have hb:w.looks.length<1000000:=by omega
 have e2:vw [BK w.many,.tuple (w.deeds.map ZY),.tuple (w.looks.map sx),sx w.beg,sx w.goal] 2=Z (.tuple (w.looks.map sx)):=by simp
 unfold Wk.d;simp[L1,aE,hok,Dc,hb];rw[Cj dN (λk:Nat=>decide (0<Z4 (c+19*(k:Int)) 9857 4)) dN]
 .simp[lkV]
 .intro k hk
  have m:=DM (c+19*(k:Int)) 9857 4 (by decide) (by decide);simp[m]
 .intro k hk _
  simp
def Jq(w:Wk)(c:zZ)(d:Int):D:=if AX w c d then sx (ZW w c d)else .none
theorem YC{w:Wk}(hv:Wk.V w){d:Int}(h0:0<=d)(h1:d<w.deeds.length)(e1:Option B):∀(c acc:zZ) (o:Option B),(∀s∈c,0<=s/\s<(w.many:Int))->acc.length+BC c*10<100000 ->(AX w c d=Aa->∃o',Z7 4 EU (c.map dI) [Z (.pl w.d),e1,Z (.pl (.int d)),Z (.ol (acc.map dI)),o]=Z (.nx [Z (.pl w.d),e1,Z (.pl (.int d)),Z (.ol ((acc++Bz w c d).map dI)),o'])) /\ (AX w c d=Ab->Z7 4 EU (c.map dI) [Z (.pl w.d),e1,Z (.pl (.int d)),Z (.ol (acc.map dI)),o]=Z (.rt .none))
 |[],acc,o,_,_=>⟨λ_=>⟨o,by simp[Bz];rfl⟩,λh=>by simp[AX]at h⟩
 |s::c,acc,o,hs,hl=>by
  rw[Av]at hl;have hb:=hs s (An ..);have hr:=(Qu hv h0 h1 hb.1 hb.2).len;have m2:=hv.m2;have hd:=QM h0 h1 (w:=w);have wX:=Ql hv h0 h1 hb.1 hb.2;have g1:vw [BK w.many,.tuple (w.deeds.map ZY),.tuple (w.looks.map sx),sx w.beg,sx w.goal] 1=Z (.tuple (w.deeds.map ZY)):=by simp
  have ec:AX w (s::c) d=(decide (0<(Br w d s).length)&&AX w c d):=rfl;have ef:Bz w (s::c) d=Br w d s++Bz w c d:=rfl;cases hz:Br w d s with
  |nil =>
   have e:EU [Z (.pl w.d),e1,Z (.pl (.int d)),Z (.ol (acc.map dI)),Z (.pl (dI s))]=Z (.rt .none):=by rw[hz]at wX;have e3:tK (sx []) (.tuple [])=Z (.bool Aa):=Nr (G2 0 []) (by decide);unfold Wk.d;simp[EU,hd,ZY,wX,-tK];rw[e3]
   have ec':AX w (s::c) d=Ab:=by rw[ec,hz];rfl
   refine⟨λh=>(by rw[ec']at h;cases h),λ_=>?_⟩;rw[Ai];show(match EU [Z (.pl w.d),e1,Z (.pl (.int d)),Z (.ol (acc.map dI)),Z (.pl (dI s))]with|some (.nx r')=>_|some (.ct r')=>_|some (.bk r')=>_|some (.rt d)=>_|none=>_)=_;rw[e]
  |cons x xs =>
   have sA:BC acc+(Br w d s).length<1000000:=by omega
   have e:EU [Z (.pl w.d),e1,Z (.pl (.int d)),Z (.ol (acc.map dI)),Z (.pl (dI s))]=Z (.nx [Z (.pl w.d),e1,Z (.pl (.int d)),Z (.ol ((acc++Br w d s).map dI)),Z (.pl (dI s))]):=by rw[hz]at wX sA;rw[Av]at sA;have e3:tK (sx (x::xs)) (.tuple [])=Z (.bool Ab):=JA (G2 0 (x::xs)) (G2 0 []) (by decide) (by decide) (by simp);unfold Wk.d;simp[EU,hd,ZY,wX,hz,-tK];rw[e3];simp[hd,ZY,wX,sA]
   have ec':AX w (s::c) d=AX w c d:=by rw[ec,hz];rfl
   obtain⟨i1,i2⟩:=YC hv h0 h1 e1 c (acc++Br w d s) (Z (.pl (dI s))) (λx hx=>hs x (Ao _ hx)) (by rw[AE];omega);have e5:Z7 4 EU ((s::c).map dI) [Z (.pl w.d),e1,Z (.pl (.int d)),Z (.ol (acc.map dI)),o]=Z7 4 EU (c.map dI) [Z (.pl w.d),e1,Z (.pl (.int d)),Z (.ol ((acc++Br w d s).map dI)),Z (.pl (dI s))]:=by rw[Ai];show(match EU [Z (.pl w.d),e1,Z (.pl (.int d)),Z (.ol (acc.map dI)),Z (.pl (dI s))]with|some (.nx r')=>_|some (.ct r')=>_|some (.bk r')=>_|some (.rt d)=>_|none=>_)=_;rw[e]
   rw[e5,ec',ef,<-B8];exact⟨i1,i2⟩
theorem N6{w:Wk}(hv:Wk.V w)(h7:w.many<=7)(hc:Cr w.many c){d:Int}(h0:0<=d)(h1:d<w.deeds.length):DS [w.d,sx c,.int d]=Z (Jq w c d):=by
 have m2:=hv.m2;have sA:=hc.len;have hb:BC c<1000000:=by omega
 obtain⟨i1,i2⟩:=YC hv h0 h1 (Z (.pl (sx c))) c [] Z_ hc.2 (by simp;omega);unfold Jq;cases h:AX w c d with
 |false=>have e:=i2 h;rw[F6]at e;simp[DS,RW,hb,e]
 |true =>
  obtain⟨o',e⟩:=i1 h;rw[F6,GH]at e;have hf:MK (Bz w c d)=Aa:=Ay.mpr λx hx=>by have:=US hv hc h0 h1 x hx;rw[Bn,decide_eq_true_eq,decide_eq_true_eq];omega
  simp[DS,RW,hb,e,FG,hf,ZW,N0]
theorem YH{w:Wk}(hv:Wk.V w){ls:zZ}(hl:Cr w.looks.length ls)(e2:Option B):∀(c pre:zZ) (g:Gs) (o o':Option B),wL (ZC w ls) pre g->(∀s∈c,0<=s/\s<(w.many:Int))->pre.length+BC c<1000 ->∃p p',Z7 4 JW (c.map dI) [Z (.pl w.d),Z (.pl (sx ls)),e2,Z (.otl (AV g)),o,o']=Z (.nx [Z (.pl w.d),Z (.pl (sx ls)),e2,Z (.otl (AV (c.foldl (λg s=>C1 g (ZC w ls s) s) g))),p,p'])
 |[],pre,g,o,o',_,_,_=>⟨o,o',rfl⟩
 |s::c,pre,g,o,o',hg,hb,hn=>by
  rw[Av]at hn;have hs:=hb s (An ..);have sA:(AV g).length<1000000:=by have:=HU _ _ _ hg;unfold AV;rw[Ad];omega
  have l2:=hv.l2;have hll:=hl.len;have hlb:BC ls<1000000:=by omega
  have ec:Z3 ZD (sS (sD (sS (sD (sS (Zg 1) (eC (.int 2)))) (Za 0))) (Za 5)) [Z (.pl w.d),Z (.pl (sx ls)),e2,Z (.otl (AV g)),Z (.pl (dI s)),o'] (ls.map dI)=Z ((ZC w ls s).map dI):=by
   rw[CP dI (λl=>dI (K6 w l s))]
   .simp[ZC]
   .intro l hl'
    have hb:=hl.2 l hl';unfold Wk.d;simp[VW hb.1 hb.2,VJ hv hb.1 hb.2 hs.1 hs.2]
  have e:JW [Z (.pl w.d),Z (.pl (sx ls)),e2,Z (.otl (AV g)),Z (.pl (dI s)),o']=Z (.nx [Z (.pl w.d),Z (.pl (sx ls)),e2,Z (.otl (AV (C1 g (ZC w ls s) s))),Z (.pl (dI s)),Z (.pl (sx (ZC w ls s)))]):=by
   have ek:=Ly g (ZC w ls s);have et:=B6 (ZC w ls s);cases h:Zk g (ZC w ls s)with
   |none =>
    rw[h]at ek;have ea:Cy g (ZC w ls s)=g++[(ZC w ls s,[])]:=by unfold Cy;rw[h]
    have eb:AV g++[(Z8 (ZC w ls s),[])]=AV (Cy g (ZC w ls s)):=by rw[ea];simp[AV]
    have h1:Zk (AV (Cy g (ZC w ls s))) (Z8 (ZC w ls s))=Z []:=by rw[Ly,Nt,if_pos rfl,h];rfl
    simp[JW,hlb,ec,et,ek,sA];rw[eb,h1];simp[Ng];rfl
   |some p =>
    rw[h]at ek;have ea:Cy g (ZC w ls s)=g:=by unfold Cy;rw[h]
    have hp:BC p<1000000:=by have:=V4 _ _ _ hg _ _ h;omega
    simp[JW,hlb,ec,et,ek,sA,hp,Ng];unfold C1;rw[ea]
  obtain⟨p,p',ih⟩:=YH hv hl e2 c (pre++[s]) (C1 g (ZC w ls s) s) (Z (.pl (dI s))) (Z (.pl (sx (ZC w ls s)))) (hg.step s) (λx hx=>hb x (Ao _ hx)) (by simp;omega);refine⟨p,p',?_⟩;rw[Ai,DX,<-ih];show(match JW [Z (.pl w.d),Z (.pl (sx ls)),e2,Z (.otl (AV g)),Z (.pl (dI s)),o']with|some (.nx r')=>_|some (.ct r')=>_|some (.bk r')=>_|some (.rt d)=>_|none=>_)=_;rw[e]
theorem Oo{w:Wk}(hv:Wk.V w){ls:zZ}(hl:Cr w.looks.length ls)(hc:Cr w.many c):ZU [w.d,sx ls,sx c]=Z (.list ((ZS w ls c).map BU)):=by
 have m2:=hv.m2;have sA:=hc.len;have hb:BC c<1000000:=by omega
 obtain⟨p,p',e⟩:=YH hv hl (Z (.pl (sx c))) c [] [] Z_ Z_ ⟨Ff,λk=>by simp[JH]⟩ hc.2 (by simp;omega);have hk:=V7 w ls c (by omega);have hg:c.foldl (λg s=>C1 g (ZC w ls s) s) []=Cq (ZC w ls) c:=rfl;rw[hg]at e;have hn:(Bc ((Cq (ZC w ls) c).map (·.1))).length<1000000:=by rw[(CA _).length_eq,Ad];have:=HU _ _ _ (Gm (ZC w ls) c);omega
 simp[ZU,aD,hb];rw[show Z (B.otl [])=Z (B.otl (AV [])) from rfl,e];simp[hk,hn];rw[Iw]
 .simp
 .intro k hk'
  simp[B6,WL w ls c k hk']
theorem Ir{w:Wk}{d:Int}(h:d∈we w c):0<=d/\d<w.deeds.length/\AX w c d=Aa:=by unfold we at h;obtain⟨k,hk,rfl⟩:=Al.mp h;obtain⟨h1,h2⟩:=AO.mp hk;have:=AI.mp h1;exact⟨by omega,by omega,h2⟩
end
end HG
namespace HG4
open PySem HM HG
end HG4
namespace HM
open PySem
variable{r r':Env}{a b:SF}
theorem JM{α:Type}{c:TF}{e:EF}{r:Env}(a b:α->D)(p:α->Bool)(f:α->D):∀(xs:List α),(∀x∈xs,c (Z (.pl (a x))::Z (.pl (b x))::r)=Z (p x))->(∀x∈xs,p x=Aa->e (Z (.pl (a x))::Z (.pl (b x))::r)=Z (f x)) ->FC c e r (xs.map λx=>.tuple [a x,b x])=Z ((xs.filter p).map f)
 |[],_,_=>rfl
 |x::xs,h1,h2=>by
  have ih:=JM a b p f xs (λy hy=>h1 y (Ao _ hy)) (λy hy=>h2 y (Ao _ hy));have hc:=h1 x (An ..);rw[Ai];unfold FC;rw[hc];cases hp:p x with
  |true=>have he:=h2 x (An ..) hp;dsimp only;rw[he];dsimp only;rw[ih,bG hp];rfl
  |false=>dsimp only;rw[ih,bF (by simp[hp])]
theorem UM{P:Option vz->Prop}(h:a r=Z (.nx r'))(k:P (b r')):P (Zr a b r):=by show P (match a r with|some (.nx r')=>b r'|some (.rt d)=>Z (.rt d)|some (.bk r')=>Z (.bk r')|some (.ct r')=>Z (.ct r')|none=>Z_);rw[h];exact k
theorem AY{d:Option vz}(h:a r=Z (.nx r'))(k:b r'=d):Zr a b r=d:=UM (P:=λq=>q=d) h k
end HM
namespace HG4
open PySem HM HG
variable{x:Int}{c:zZ}
def Qf(w:Wk)(ls c:zZ)(s:Int):zZ:=c.filter λx=>ZC w ls x==ZC w ls s
theorem d8{n:Nat}(p:Int->Bool)(h:Cr n c):Cr n (c.filter p):=⟨h.1.filter p,λx hx=>h.2 x (AO.mp hx).1⟩
theorem WO{w:Wk}{ls:zZ}{s:Int}:x∈Qf w ls c s↔x∈c/\ZC w ls x=ZC w ls s:=by unfold Qf;rw[AO,beq_iff_eq]
theorem eL{w:Wk}{d:Int}:x∈ZW w c d↔∃s∈c,x∈Br w d s:=by
 unfold ZW;rw[(sortI_perm _).mem_iff,LB];unfold Bz;rw[Jb]
 constructor
 .rintro (h|h)
  .cases h
  .exact h
 .exact .inr
end HG4
namespace HM
open PySem
def Bs:Option vz->Option D
 |some (.nx _)=>Z .none
 |some (.rt d)=>Z d
 |_=>Z_
end HM
namespace HG4
open PySem HM HG
theorem A8{a b:SF}{r r':HM.Env}{d:Option D}(h:a r=Z (.nx r'))(k:Bs (b r')=d):Bs (Zr a b r)=d:=UM (P:=λq=>Bs q=d) h k
end HG4
namespace HG5
open PySem HM HG HG4
variable{c ls p:zZ}
def Ze(w:Wk)(ls c:zZ):z0:=(ZS w ls c).map (·.2)
theorem X4{w:Wk}:p∈Ze w ls c↔∃s∈c,p=Qf w ls c s:=by
 unfold Ze ZS;rw[Aq,Al];have hg:=Gm (ZC w ls) c
 constructor
 .rintro ⟨k,hk,rfl⟩
  obtain⟨s,hs,e⟩:=Al.mp ((hg.mem k).mp ((CA _).mem_iff.mp hk));refine⟨s,hs,?_⟩;subst e;rfl
 .rintro ⟨s,hs,rfl⟩
  exact⟨ZC w ls s,(CA _).mem_iff.mpr ((hg.mem _).mpr (Al.mpr ⟨s,hs,rfl⟩)),rfl⟩
theorem G5{w:Wk}(hc:Cr w.many c)(h:p∈Ze w ls c):Cr w.many p/\p≠[]/\∀x∈p,x∈c:=by obtain⟨s,hs,rfl⟩:=X4.mp h;exact⟨d8 _ hc,Tx (WO.mpr ⟨hs,rfl⟩),λx hx=>(WO.mp hx).1⟩
theorem YX(w:Wk)(ls c:zZ):(Ze w ls c).Nodup:=by unfold Ze ZS;rw[Aq];have hg:=Gm (ZC w ls) c;have hn:(Bc ((Cq (ZC w ls) c).map (·.1))).Nodup:=(CA _).nodup_iff.mpr hg.nd;rw[bu,Kn];refine Uh (λ{a b} ha hb tM e=>?_) (bu.mp hn);obtain⟨s,hs,es⟩:=Al.mp ((hg.mem a).mp ((CA _).mem_iff.mp ha));have h1:s∈c.filter λs=>ZC w ls s==a:=AO.mpr ⟨hs,beq_iff_eq.mpr es⟩;have e':(c.filter λs=>ZC w ls s==a)=c.filter λs=>ZC w ls s==b:=e;rw[e']at h1;have:=beq_iff_eq.mp (AO.mp h1).2;exact tM (es.symm.trans this)
theorem gA{w:Wk}(h:c≠[]):Ze w ls c≠[]:=by
 cases c with
 |nil=>exact absurd rfl h
 |cons s c=>exact Tx (X4.mpr ⟨s,An ..,rfl⟩)
def GR:Nat->z0
 |0=>[[]]
 |n+1=>GR n++(GR n).map (·++[(n:Int)])
theorem Wq:∀n,(GR n).length=2 ^ n
 |0=>rfl
 |n+1=>by show(GR n++(GR n).map (·++[(n:Int)])).length=_;rw[AE,Ad,Wq n,Nat.pow_succ];omega
theorem QY:∀(n:Nat) (c:zZ),Cr n c->c∈GR n
 |0,c,h=>by
  cases c with
  |nil=>exact Ax.mpr rfl
  |cons x c=>have:=h.2 x (An ..);omega
 |n+1,c,h=>by
  show c∈GR n++(GR n).map (·++[(n:Int)])
  by_cases hm:(n:Int)∈c
  ·-- the last is n
   have key:∀(c:zZ),c.Pairwise (· < ·)->(∀x∈c,0<=x/\x<((n+1:Nat):Int))->(n:Int)∈c->∃c',c=c'++[(n:Int)]/\c'.Pairwise (· < ·)/\∀x∈c',0<=x/\x<(n:Int):=by
    intro c
    induction c with
    |nil=>intro _ _ h;simp at h
    |cons x c ih =>
     intro hp hb hm;obtain⟨p1,p2⟩:=Ed.mp hp
     by_cases hx:x=(n:Int)
     .cases c with
      |nil=>exact⟨[],by rw[hx];rfl,.nil,λy hy=>by simp at hy⟩
      |cons y c=>have h1:=p1 y (An ..);have h2:=hb y (Ao _ (An ..));omega
     .have hm':(n:Int)∈c:=by
       rcases As.mp hm with e|e
       .exact absurd e.symm hx
       .exact e
      obtain⟨c',e,q1,q2⟩:=ih p2 (λy hy=>hb y (Ao _ hy)) hm';refine⟨x::c',by rw[e];rfl,Ed.mpr ⟨λy hy=>p1 y (by rw[e];exact CW _ hy),q1⟩,λy hy=>?_⟩;rcases As.mp hy with e'|hy
      .have h1:=p1 (n:Int) hm'
       have h2:=hb x (An ..);rw[e'];omega
      .exact q2 y hy
   obtain⟨c',e,q1,q2⟩:=key c h.1 h.2 hm;exact Cc _ (Al.mpr ⟨c',QY n c' ⟨q1,q2⟩,e.symm⟩)
  .refine CW _ (QY n c ⟨h.1,λx hx=>?_⟩)
   have h1:=h.2 x hx;have:x≠(n:Int):=λe=>hm (e▸hx);omega
theorem N3{n:Nat}{L:z0}(hn:L.Nodup)(h:∀c∈L,Cr n c):BC L<=2 ^ n:=by rw[<-Wq n];exact BW hn λc hc=>QY n c (h c hc)
def ZH(w:Wk)(c:zZ):Bool:=c.all λs=>w.goal.contains s
def zg(w:Wk)(ls:zZ):Nat->zZ->Bool
 |0,c=>ZH w c
 |n+1,c=>ZH w c||(Ah w.deeds.length).any λd=>AX w c d&&(Ze w ls (ZW w c d)).all λp=>zg w ls n p
def EN(w:Wk)(ls:zZ)(L:z0):Prop:=∀c∈L,∀d:Nat,d<w.deeds.length->AX w c d=Aa->∀p∈Ze w ls (ZW w c d),p∈L
theorem ag{α:Type}{p q:α->Bool}:∀{L:List α},(∀x∈L,p x=Aa->q x=Aa)->(∃x∈L,q x=Aa/\p x=Ab)->(L.filter p).length<(L.filter q).length
 |[],_,⟨x,hx,_⟩=>by simp at hx
 |y::L,h,⟨x,hx,h1,h2⟩=>by
  have le:∀{L:List α},(∀x∈L,p x=Aa->q x=Aa)->(L.filter p).length<=(L.filter q).length:=by
   intro L
   induction L with
   |nil=>intro _;exact Aj _
   |cons z L ih =>
    intro h;have:=ih λx hx=>h x (Ao _ hx);have hz:=h z (An ..);rw[HC,HC];cases hp:p z with
    |true=>rw[hz hp];simpa using this
    |false =>
     cases q z
     .simpa using this
     .simp;omega
  have hL:=λx hx=>h x (Ao y hx);have hy:=h y (An ..);rw[HC,HC];rcases As.mp hx with e|hx
  .subst e
   rw[h2,h1];have:=le hL;simp;omega
  .have:=ag hL ⟨x,hx,h1,h2⟩
   cases hp:p y with
   |true=>rw[hy hp];simpa using this
   |false =>
    cases q y
    .simpa using this
    .simp;omega
end HG5
namespace HG5
open PySem HM HG
def nu:SF :=
 (ZG (GS (Gn (Za 0) .int) (iW (Gn (Za 0) .bool))))
def J2:z5->Option D:=fnOf 1 1 nu
def LN:SF :=
 (Zr (ZN 5 (Zi DS (Zb (Za 0) (Zb (sS (Zg 2) (Za 3)) (Zb (Za 4) Zj)))))
  (tw (tV (sG Fu (Za 5) (eC .none))) (Zr (ZO 6 (FI (Zy (sD (Zi ZU (Zb (Za 0) (Zb (Za 1) (Zb (Za 5) Zj)))))) ZD (Za 1)))
  (Ce 6 (ZO 2 (K4 (Zg 2) (Zt (Zy (sD (Za 6))) (tV (CO (Za 0) (Zg 3))) (Za 0)))))) AL))
def LM:SF :=
 (Zr (AH 4 (CM (Z5 (sD (sS (Zg 0) (eC (.int 1)))))) LN)
  (ZN 3 (sG Bu (Za 3) (eC (.int 1)))))
def NT:SF :=
 (Zr (ZO 2 (FI (Zy (sD (Zi ZU (Zb (Za 0) (Zb (Za 1) (Zb (sS (Zg 0) (eC (.int 3))) Zj)))))) ZD (Za 1)))
  (Zr (ZN 3 (eC (.int 0)))
  (Zr (JC 100000 (tV (sG vt (Za 3) (Z5 (Zg 2)))) LM)
  (Ce 2 (ZG (Za 2))))))
def NS:z5->Option D:=fnOf 2 7 NT
def aC:SF :=
 (ZG (sG tK (tS (Zt (Zy (sD (Za 1))) (tV (aH (Za 0) (sD (sS (Zg 1) (eC (.int 4)))))) (Za 0))) (tS (C3 Zj))))
def FK:z5->Option D:=fnOf 2 2 aC
end HG5
namespace HG5
open PySem HM HG HG4
section
variable{L:z0}{c ls:zZ}
theorem iH{a b:zZ}(h:sx a=sx b):a=b:=by
 injection h with h
 have:=congrArg Cg h;rw[FG,FG]at this;exact DE this
theorem X3(p:zZ):CN (sx p)=Aa:=Hd (G2 0 p) (by decide)
theorem fk(a b:zZ):BN (sx a) (sx b)=(a==b):=by have h:=Nk 1 (sx a) (sx b) (G2 0 a) ⟨1,G2 0 b⟩;apply GG.mpr;rw[h,beq_iff_eq];exact⟨iH,λe=>by rw[e]⟩
theorem Hf(L:z0)(p:zZ):M1 (L.map sx) (sx p)=Z (L.contains p):=by
 unfold M1;have h1:(L.map sx).all CN=Aa:=Ay.mpr λd hd=>by obtain⟨c,_,rfl⟩:=Al.mp hd;exact X3 c
 rw[X3,h1,if_pos (by rfl)];congr 1
 induction L with
 |nil=>rfl
 |cons c L ih=>rw[Ai,Fe,fk,List.contains_cons,ih (by rw[Ai,BS,Bn]at h1;exact h1.2)];rw[show(c==p)=(p==c) from GG.mpr ⟨λh=>beq_iff_eq.mpr (beq_iff_eq.mp h).symm,λh=>beq_iff_eq.mpr (beq_iff_eq.mp h).symm⟩]
inductive zQ(w:Wk)(ls:zZ):zZ->Prop where
 |beg {p:zZ} (h:p∈Ze w ls w.beg):zQ w ls p
 |step {c p:zZ} {d:Nat} (r:zQ w ls c) (hd:d<w.deeds.length) (hc:AX w c d=Aa) (h:p∈Ze w ls (ZW w c d)):zQ w ls p
structure EG(w:Wk)(ls:zZ)(L:z0):Prop where
 nd:L.Nodup
 cr:∀c∈L,Cr w.many c/\c≠[]
 rch:∀c∈L,zQ w ls c
theorem EG.len{w:Wk}(I:EG w ls L)(h7:w.many<=7):BC L<=128:=by have h1:=N3 I.nd λc hc=>(I.cr c hc).1;have h2:2 ^ w.many<=2 ^ 7:=PD (by decide) h7;have h3:2 ^ 7=128:=rfl;omega
theorem dG{w:Wk}{d:Int}(h0:c≠[])(hc:AX w c d=Aa):ZW w c d≠[]:=by
 cases c with
 |nil=>exact absurd rfl h0
 |cons s c =>
  unfold AX at hc;have h1:=Ay.mp hc s (An ..);have h2:0<(Br w d s).length:=by simpa using h1
  cases hr:Br w d s with
  |nil=>rw[hr]at h2;simp at h2
  |cons x xs=>exact Tx (eL.mpr ⟨s,An ..,by rw[hr];exact An ..⟩)
def C8(w:Wk)(ls c:zZ)(L:z0)(d:Nat):z0:=if AX w c d then L++(Ze w ls (ZW w c d)).filter (λp=>!L.contains p)else L
theorem kr{w:Wk}{d:Nat}:∃M,C8 w ls c L d=L++M:=by
 unfold C8;split
 .exact⟨_,rfl⟩
 .exact⟨[],by simp⟩
theorem kR{w:Wk}{d:Nat}(h:AX w c d=Aa){p:zZ}(hp:p∈Ze w ls (ZW w c d)):p∈C8 w ls c L d:=by
 unfold C8;rw[if_pos h]
 by_cases q:p∈L
 .exact CW _ q
 .refine Cc _ (AO.mpr ⟨hp,?_⟩)
  simp[q]
theorem jG{w:Wk}(hv:Wk.V w){d:Nat}(I:EG w ls L)(hc:c∈L)(hd:d<w.deeds.length):EG w ls (C8 w ls c L d):=by
 unfold C8;split
 .rename_i uN
  have hl:=Ie hv (I.cr c hc).1 (show(0:Int)<=(d:Int) by omega) (by omega);refine⟨?_,λp hp=>?_,λp hp=>?_⟩
  .rw[Ee]
   refine⟨I.nd,(YX w ls _).filter _,λa ha b hb e=>?_⟩;subst e;have:=(AO.mp hb).2;simp[ha]at this
  .rcases Bb.mp hp with hp|hp
   .exact I.cr p hp
   .have:=G5 hl (AO.mp hp).1
    exact⟨this.1,this.2.1⟩
  .rcases Bb.mp hp with hp|hp
   .exact I.rch p hp
   .exact .step (I.rch c hc) hd uN (AO.mp hp).1
 .exact I
section
variable{w:Wk}(hv:Wk.V w)(h7:w.many<=7){ls:zZ}(hl:Cr w.looks.length ls)
include hv h7 hl
theorem gy(I:EG w ls L){at_:Nat}(hc:L[at_]?=Z c){d:Nat}(hd:d<w.deeds.length)(o5 o6:Option B):∃p5 p6,LN [qW w,qT ls,qO L,qP (dN at_),qP (dN d),o5,o6]=Z (.nx [qW w,qT ls,qO (C8 w ls c L d),qP (dN at_),qP (dN d),p5,p6]):=by
 have hm:c∈L:=Bo hc;obtain⟨cr,ne⟩:=I.cr c hm;have wN:vw (L.map sx) (at_:Int)=Z (sx c):=ER (by rw[AD,hc];rfl);have tP:=N6 hv h7 cr (show(0:Int)<=(d:Int) by omega) (by omega);have sA:=I.len h7;unfold Jq at tP;cases uN:AX w c d with
 |false=>rw[uN]at tP;refine⟨Z (.pl .none),o6,?_⟩;unfold C8;rw[uN];simp[LN,wN,tP]
 |true =>
  rw[uN]at tP;have lc:=Ie hv cr (show(0:Int)<=(d:Int) by omega) (by omega);have hs:=Oo hv hl lc;have hsn:(ZS w ls (ZW w c d)).length<=8:=by unfold ZS;rw[Ad,(CA _).length_eq,Ad];have:=HU _ _ _ (Gm (ZC w ls) (ZW w c d));have:=lc.len;omega
  have t7:(ZS w ls (ZW w c d)).length<1000000:=by omega
  have hpn:(Ze w ls (ZW w c d)).length<=8:=by unfold Ze;rw[Ad];exact hsn
  have e1:∀r:HM.Env,FC ZD (Za 1) r ((ZS w ls (ZW w c d)).map BU)=Z ((Ze w ls (ZW w c d)).map sx):=λr=>by have e:=JM (c:=ZD) (e:=Za 1) (r:=r) (λp:zZ×zZ=>sx p.1) (λp=>sx p.2) (λ_=>Aa) (λp=>sx p.2) (ZS w ls (ZW w c d)) (λp _=>rfl) (λp _ _=>by simp);rw[Kr.mpr λ_ _=>rfl]at e;unfold Ze;rw[Aq];exact e
  have e2:∀r:HM.Env,r[2]?=Z (Z (.ol (L.map sx)))->Z3 (tV (CO (Za 0) (Zg 3))) (Za 0) r ((Ze w ls (ZW w c d)).map sx)=Z (((Ze w ls (ZW w c d)).filter λp=>!L.contains p).map sx):=λr r2=>by
   rw[Cj sx (λp=>!L.contains p) sx]
   .intro p _
    simp[r2,Hf,-DV]
   .intro p _ _
    simp
  have uS:=Hx (λp=>!L.contains p) (Ze w ls (ZW w c d));have u3:BC L+((Ze w ls (ZW w c d)).filter λp=>!L.contains p).length<1000000:=by omega
  have y3:(Ze w ls (ZW w c d)).length<1000000:=by omega
  refine⟨Z (.pl (sx (ZW w c d))),qL (Ze w ls (ZW w c d)),?_⟩;unfold C8;rw[uN];simp[LN,wN,tP,hs,t7,e1,y3,e2,u3,-DV]
theorem XG{at_:Nat}{c:zZ}:∀(ds:List Nat) (M:z0) (o4 o5 o6:Option B),EG w ls M->M[at_]?=Z c->(∀d∈ds,d<w.deeds.length) ->∃p4 p5 p6,Z7 4 LN (ds.map dN) [qW w,qT ls,qO M,qP (dN at_),o4,o5,o6]=Z (.nx [qW w,qT ls,qO (ds.foldl (C8 w ls c) M),qP (dN at_),p4,p5,p6]) /\ EG w ls (ds.foldl (C8 w ls c) M)/\(∃N,ds.foldl (C8 w ls c) M=M++N)/\∀d∈ds,AX w c d=Aa->∀p∈Ze w ls (ZW w c d),p∈ds.foldl (C8 w ls c) M
 |[],M,o4,o5,o6,I,hc,_=>⟨o4,o5,o6,rfl,I,⟨[],by simp⟩,λd hd=>by simp at hd⟩
 |d::ds,M,o4,o5,o6,I,hc,sY=>by
  have hm:c∈M:=Bo hc;have hd:=sY d (An ..);obtain⟨p5,p6,e⟩:=gy hv h7 hl I hc hd o5 o6;obtain⟨N1,eN1⟩:=kr (w:=w) (ls:=ls) (c:=c) (L:=M) (d:=d);have hc':(C8 w ls c M d)[at_]?=Z c:=by rw[eN1,DU (Bf.mp hc).1];exact hc
  obtain⟨q4,q5,q6,f,I',⟨N2,eN2⟩,tp⟩:=XG ds (C8 w ls c M d) (Z (.pl (dN d))) p5 p6 (jG hv I hm hd) hc' λx hx=>sY x (Ao _ hx);refine⟨q4,q5,q6,?_,I',⟨N1++N2,?_⟩,λx hx uN p hp=>?_⟩
  .rw[Ai,DX,<-f]
   exact Dp e rfl
  .rw[DX,eN2,eN1,B8]
  .rw[DX]
   rcases As.mp hx with e'|hx
   .subst e'
    rw[eN2];exact CW _ (kR uN hp)
   .exact tp x hx uN p hp
theorem YE:∀(sI at_:Nat) (L:z0) (o4 o5 o6:Option B),EG w ls L->at_<=BC L->129<=at_+sI->(∀i c,i<at_->L[i]?=Z c->∀d:Nat,d<w.deeds.length->AX w c d=Aa->∀p∈Ze w ls (ZW w c d),p∈L) ->∃L' p3 p4 p5 p6,Z9 (tV (sG vt (Za 3) (Z5 (Zg 2)))) LM sI [qW w,qT ls,qO L,qP (dN at_),o4,o5,o6]=Z (.nx [qW w,qT ls,qO L',p3,p4,p5,p6]) /\ EG w ls L'/\(∃N,L'=L++N)/\EN w ls L'
 |0,at_,L,o4,o5,o6,I,h1,h2,_=>by have:=I.len h7;omega
 |sI+1,at_,L,o4,o5,o6,I,h1,h2,hdone=>by
  by_cases tf:at_<BC L
  .have hok:v9 (w.deeds.length:Int)=Aa:=Fz (by have:=hv.d2;omega)
   have va:w.deeds.length<1000000:=by have:=hv.d2;omega
   obtain⟨c,hc⟩:∃c,L[at_]?=Z c:=⟨_,AK tf⟩;obtain⟨p4,p5,p6,f,I',⟨N,eN⟩,tp⟩:=XG hv h7 hl (at_:=at_) (c:=c) (Ah w.deeds.length) L o4 o5 o6 I hc λd hd=>AI.mp hd;generalize hM:(Ah w.deeds.length).foldl (C8 w ls c) L=M at *;have body:LM [qW w,qT ls,qO L,qP (dN at_),o4,o5,o6]=Z (.nx [qW w,qT ls,qO M,qP (dN (at_+1)),p4,p5,p6]):=by have i0:Cz (.pl w.d)=Z [BK w.many,.tuple (w.deeds.map ZY),.tuple (w.looks.map sx),sx w.beg,sx w.goal]:=rfl;simp[LM,i0,hok,Dc,va,-Cz];simp[hok,Dc,va,f]
   obtain⟨L',q3,q4,q5,q6,g,J,⟨N',eN'⟩,tN⟩:=YE sI (at_+1) M p4 p5 p6 I' (by rw[eN,AE];omega) (by omega) (λi c' hi hc' d hd uN p hp=>by
    by_cases e:i=at_
    .subst e
     rw[eN,DU tf,hc]at hc';cases hc';exact tp d (AI.mpr hd) uN p hp
    .have hi':i<at_:=by omega
     rw[eN,DU (by omega)]at hc';rw[eN];exact CW _ (hdone i c' hi' hc' d hd uN p hp))
   refine⟨L',q3,q4,q5,q6,?_,J,⟨N++N',by rw[eN',eN,B8]⟩,tN⟩;have ht:(tV (sG vt (Za 3) (Z5 (Zg 2)))) [qW w,qT ls,qO L,qP (dN at_),o4,o5,o6]=Z Aa:=by simp[tf]
   unfold Z9;rw[ht];dsimp only;rw[body];exact g
  .have e:at_=L.length:=by omega
   have ht:(tV (sG vt (Za 3) (Z5 (Zg 2)))) [qW w,qT ls,qO L,qP (dN at_),o4,o5,o6]=Z Ab:=by simp[tf]
   refine⟨L,qP (dN at_),o4,o5,o6,?_,I,⟨[],by simp⟩,λc hc d hd uN p hp=>?_⟩
   .unfold Z9
    rw[ht]
   .obtain⟨i,hi,hq⟩:=Jk hc
    exact hdone i c (by omega) (by rw[AK hi,hq]) d hd uN p hp
theorem kY:∃L,NS [w.d,sx ls]=Z (.list (L.map sx))/\EG w ls L/\EN w ls L/\∀p∈Ze w ls w.beg,p∈L:=by
 have hs:=Oo hv hl hv.bc;have yC:=hv.bc.len;have t7:(ZS w ls w.beg).length<1000000:=by unfold ZS;rw[Ad,(CA _).length_eq,Ad];have:=HU _ _ _ (Gm (ZC w ls) w.beg);omega
 have e1:∀r:HM.Env,FC ZD (Za 1) r ((ZS w ls w.beg).map BU)=Z ((Ze w ls w.beg).map sx):=λr=>by have e:=JM (c:=ZD) (e:=Za 1) (r:=r) (λp:zZ×zZ=>sx p.1) (λp=>sx p.2) (λ_=>Aa) (λp=>sx p.2) (ZS w ls w.beg) (λp _=>rfl) (λp _ _=>by simp);rw[Kr.mpr λ_ _=>rfl]at e;unfold Ze;rw[Aq];exact e
 have I0:EG w ls (Ze w ls w.beg):=⟨YX w ls w.beg,λc hc=>⟨(G5 hv.bc hc).1,(G5 hv.bc hc).2.1⟩,λc hc=>.beg hc⟩;obtain⟨L,p3,p4,p5,p6,g,I,⟨N,eN⟩,tN⟩:=YE hv h7 hl 100000 0 (Ze w ls w.beg) Z_ Z_ Z_ I0 (BQ _) (by omega) (λi c hi=>by omega);refine⟨L,?_,I,tN,λp hp=>by rw[eN];exact CW _ hp⟩;have i0:Cz (.pl w.d)=Z [BK w.many,.tuple (w.deeds.map ZY),.tuple (w.looks.map sx),sx w.beg,sx w.goal]:=rfl;have g':Z9 (tV (sG vt (Za 3) (Z5 (Zg 2)))) LM 100000 [qW w,qT ls,qO (Ze w ls w.beg),qP (.int 0),Z_,Z_,Z_]=Z (.nx [qW w,qT ls,qO L,p3,p4,p5,p6]):=g;show Bs (NT [qW w,qT ls,Z_,Z_,Z_,Z_,Z_])=_;have e':NT [qW w,qT ls,Z_,Z_,Z_,Z_,Z_]=Z (.rt (.list (L.map sx))):=by unfold NT;refine AY (r':=[qW w,qT ls,qO (Ze w ls w.beg),Z_,Z_,Z_,Z_]) (by simp[i0,hs,t7,e1,-Cz];simp[hs,t7,e1]) ?_;refine AY (r':=[qW w,qT ls,qO (Ze w ls w.beg),qP (.int 0),Z_,Z_,Z_]) (by simp) ?_;refine AY (r':=[qW w,qT ls,qO L,p3,p4,p5,p6]) g' ?_;simp
 rw[e'];rfl
end
end
theorem m8{α:Type}(ns:zZ):tK (.list (ns.map dI)) (.list [])=Z (.bool ns.isEmpty):=by
 cases ns with
 |nil=>exact Nr (Q8 0 []) (by decide)
 |cons n ns=>exact JA (Q8 0 (n::ns)) (Q8 0 []) (by decide) (by decide) (by simp)
theorem vg{α:Type}(p:α->Bool)(L:List α):(L.filter λx=>!p x).isEmpty=L.all p:=by
 induction L with
 |nil=>rfl
 |cons x L ih =>
  rw[HC,BS];cases p x with
  |true=>simpa using ih
  |false=>rfl
theorem av{w:Wk}(hv:Wk.V w){c:zZ}(hc:BC c<1000):FK [w.d,sx c]=Z (.bool (ZH w c)):=by
 have hb:BC c<1000000:=by omega
 have i0:Cz (.pl w.d)=Z [BK w.many,.tuple (w.deeds.map ZY),.tuple (w.looks.map sx),sx w.beg,sx w.goal]:=rfl;have e:∀r:HM.Env,r[0]?=Z (Z (.pl w.d))->Z3 (tV (aH (Za 0) (sD (sS (Zg 1) (eC (.int 4)))))) (Za 0) r (c.map dI)=Z ((c.filter λs=>!w.goal.contains s).map dI):=λr r0=>by
  rw[Cj dI (λs=>!w.goal.contains s) dI]
  .intro s _
   simp[r0,i0,KJ,FG,-Cz,-DV];simp[KJ,FG,-DV]
  .intro s _ _
   simp
 have g:=m8 (α:=Int) (c.filter λs=>!w.goal.contains s);rw[vg (λs=>w.goal.contains s) c]at g;simp[FK,aC,hb,e,g,ZH,-tK,-DV]
abbrev Tb:=List (zZ×Int)
def encM(M:Tb):List (List Ky×D):=M.map λp=>(Z8 p.1,dI p.2)
abbrev qM(M:Tb):Option B:=Z (.pl (.dict (Zq (encM M))))
theorem IE(M:Tb)(k:zZ):Zk (encM M) (Z8 k)=(Zk M k).map dI:=by
 unfold Zk encM;rw[List.find?_map];have e:((λp:List Ky×D=>decide (p.1=Z8 k))∘λp:zZ×Int=>(Z8 p.1,dI p.2))=λp=>decide (p.1=k):=by
  funext p
  simp only[Mr];exact decide_eq_decide.mpr (QN p.1 k)
 rw[e];cases M.find? λp=>decide (p.1=k)<;>rfl
theorem WU(M:Tb)(k:zZ)(v:Int):tj (encM M) (Z8 k) (dI v)=encM (tj M k v):=by
 unfold tj;have e1:((encM M).any λp=>decide (p.1=Z8 k))=M.any λp=>decide (p.1=k):=by
  unfold encM;rw[List.any_map];congr 1
  funext p
  simp only[Mr];exact decide_eq_decide.mpr (QN p.1 k)
 rw[e1];split
 .unfold encM
  rw[Aq,Aq];refine E9 λp _=>?_;simp only[Mr]
  by_cases h:p.1=k
  .rw[if_pos h,if_pos (by rw[h])]
  .rw[if_neg h,if_neg (λe=>h (Iq e))]
 .unfold encM
  rw[BB];rfl
theorem XU(k:zZ):Zk ([]:Tb) k=Z_:=rfl
theorem FL(x:zZ)(v:Int)(M:Tb)(k:zZ):Zk ((x,v)::M) k=if x=k then Z v else Zk M k:=by
 unfold Zk;rw[Di]
 by_cases h:x=k<;>simp[h]
theorem jS(x k:zZ)(v:Int)(M:Tb):Zk (tj M x v) k=if x=k then Z v else Zk M k:=by
 have rep:∀M:Tb,Zk (M.map λp=>if p.1=x then(p.1,v)else p) k=if x=k then(Zk M k).map (λ_=>v)else Zk M k:=by
  intro M
  induction M with
  |nil=>rw[F6,XU];split<;>rfl
  |cons p M ih =>
   obtain⟨a,b⟩:=p;rw[Ai]
   by_cases ha:a=x
   .rw[if_pos (show(a,b).1=x from ha),FL,FL,ih]
    show(if a=k then Z v else _)=_
    by_cases hk:x=k
    .rw[if_pos (by rw[ha,hk]),if_pos hk,if_pos (by rw[ha,hk])];rfl
    .rw[if_neg (by rw[ha];exact hk),if_neg hk,if_neg hk,if_neg (by rw[ha];exact hk)]
   .rw[if_neg (show ¬(a,b).1=x from ha),FL,FL,ih]
    by_cases hk:a=k
    .rw[if_pos hk,if_pos hk]
     have:x≠k:=λe=>ha (hk.trans e.symm);rw[if_neg this]
    .rw[if_neg hk,if_neg hk]
 have app:∀M:Tb,Zk (M++[(x,v)]) k=match Zk M k with|some u=>Z u|none=>if x=k then Z v else Z_:=by
  intro M
  induction M with
  |nil=>rw[GH,FL,XU]
  |cons p M ih =>
   obtain⟨a,b⟩:=p;rw[TK,FL,FL,ih]
   by_cases hk:a=k
   .rw[if_pos hk,if_pos hk]
   .rw[if_neg hk,if_neg hk]
 have has:∀M:Tb,(M.any λp=>decide (p.1=x))=(Zk M x).isSome:=by
  intro M
  induction M with
  |nil=>rfl
  |cons p M ih =>
   obtain⟨a,b⟩:=p;rw[Fe,FL,ih]
   by_cases ha:a=x<;>simp[ha]
 unfold tj;split
 .rename_i h
  rw[rep]
  by_cases hk:x=k
  .subst hk
   rw[has]at h;rw[if_pos rfl,if_pos rfl];obtain⟨u,hu⟩:=DB.mp h;rw[hu];rfl
  .rw[if_neg hk,if_neg hk]
 .rename_i h
  rw[app]
  by_cases hk:x=k
  .subst hk
   rw[has]at h;rw[if_pos rfl,if_pos rfl];cases hq:Zk M x with
   |none=>rfl
   |some u=>rw[hq]at h;exact absurd rfl h
  .rw[if_neg hk,if_neg hk]
   cases Zk M k<;>rfl
theorem Wc(x:zZ)(v:Int)(M:Tb):(tj M x v).length<=BC M+1:=by
 unfold tj;split
 .rw[Ad];omega
 .rw[AE];exact Aj _
def ZF(M:Tb)(p:zZ):Bool:=(Zk M p).isSome
def pM(w:Wk)(ls c:zZ)(M:Tb):Bool:=(Ah w.deeds.length).any λd=>AX w c d&&(Ze w ls (ZW w c d)).all λp=>ZF M p
theorem NN(v:Int)(k:zZ):∀(ms:z0) (M:Tb),Zk (ms.foldl (λM c=>tj M c v) M) k=if k∈ms then Z v else Zk M k
 |[],M=>by simp
 |c::ms,M=>by
  rw[DX,NN v k ms,jS]
  by_cases h1:k∈ms
  .rw[if_pos h1,if_pos (Ao _ h1)]
  .rw[if_neg h1]
   by_cases h2:c=k
   .rw[if_pos h2,if_pos (by rw[h2];exact An ..)]
   .rw[if_neg h2,if_neg]
    intro h;rcases As.mp h with e|e
    .exact h2 e.symm
    .exact h1 e
theorem Xu(v:Int):∀(ms:z0) (M:Tb),(ms.foldl (λM c=>tj M c v) M).length<=BC M+BC ms
 |[],M=>Aj _
 |c::ms,M=>by rw[DX,Av];have:=Xu v ms (tj M c v);have:=Wc c v M;omega
def cf(w:Wk)(ls:zZ)(L:z0)(M:Tb):z0:=L.filter λc=>!ZF M c&&pM w ls c M
end HG5
namespace HG5
open PySem HM HG
def mO:SF :=
 (ZG (sS (Zg 0) (eC (.int 3))))
def ET:z5->Option D:=fnOf 1 1 mO
def lq:SF :=
 (ZG (sS (Zg 0) (eC (.int 4))))
def LH:z5->Option D:=fnOf 1 1 lq
def YM:SF :=
 (ZG (Cu (Zt (Zy (sD (Za 1))) ZD (WJ (Za 0) (sD (Zi LH (Zb (Za 1) Zj)))))))
def Hj:z5->Option D:=fnOf 2 2 YM
def aB:SF :=
 (ZG (tS (Zt (Zy (sD (Za 0))) ZD (sS (Zg 0) (eC (.int 1))))))
def ZB:z5->Option D:=fnOf 1 1 aB
def OH(ap:AP):SF :=
 (YG 3 (RB ZB (Zb (sS (Zg 5) (eC (.int 1))) Zj)))
def Kc(ap:AP):SF :=
 (Zr (gF 4 3)
  (tw (tV (LS (Za 4) (Zg 2))) (Zr (GU 2 (Za 4) (Fw ap 1 (Zb (Za 4) Zj)))
  (AH 5 (Zy (sD (ZI (Zg 2) (Za 4)))) (OH ap))) AL))
def OL(ap:AP):SF :=
 (Zr (ZO 2 zf)
  (Zr (ZO 3 (NY (Zg 0)))
  (Zr (JC 100000 (tV (sG vm (Z5 (Zg 3)) (eC (.int 0)))) (Kc ap))
  (Ce 2 (ZG (Za 2))))))
def FR(ap:AP):z5->Option D:=fnOf 2 6 (OL ap)
def SA(ap:AP):SF :=
 (Zr (ZO 3 (Zt (Zy (sD (Za 0))) ZD (Fw ap 3 (Zb (Za 0) (Zb (Za 2) Zj)))))
  (Ce 3 (ZG (Fv (Zt (Zy (sD (Za 3))) (tV (sG Fu (Za 0) (eC .none))) (Za 0))))))
def Gv(ap:AP):z5->Option D:=fnOf 3 4 (SA ap)
def Eo(ap:AP):SF :=
 (tw (tV (LS (Za 4) (Zg 1))) (Zr (ZN 5 (Zi (Gv ap) (Zb (ZI (Zg 0) (Za 4)) (Zb (Za 1) (Zb (Za 2) Zj)))))
  (tw (tV (sG Fu (Za 5) (eC .none))) (GU 3 (Za 4) (Za 5)) AL)) AL)
def Hn(ap:AP):z5->Option (List (List Ky×D)):=yn 3 6
 (K3 (ZO 3 zf)
 (K3 (C4 0 (AH 4 (AM 0) (Eo ap)))
 (KZ 3)))
def Oj(ap:AP):SF :=
 (GU 3 (Za 6) (Za 4))
def L0(ap:AP):SF :=
 (Zr (Ce 5 (AH 6 (Zy (sD (Za 5))) (Oj ap)))
  (Zr (ZO 7 (Ry (Hn ap) (Zb (Za 1) (Zb (MY (Zg 3)) (Zb (Za 2) Zj)))))
  (Zr (Ce 7 (C4 7 (ZN 4 (Fv (Zt (AM 7) ZD (ZI (Zg 8) (Za 0)))))))
  (Ce 7 (C4 7 (ZO 5 (Zt (AM 7) (tV (sG tK (ZI (Zg 8) (Za 0)) (Za 5))) (Za 0))))))))
def Oy(ap:AP):SF :=
 (Zr (ZO 3 zf)
  (Zr (ZN 4 (eC (.int 0)))
  (Zr (C4 1 (ZO 5 (Zt (AM 1) (tV (Zi Hj (Zb (Za 1) (Zb (Za 0) Zj)))) (Za 0))))
  (Zr (JC 100000 (tV (sG vm (Z5 (Zg 5)) (eC (.int 0)))) (L0 ap))
  (Ce 3 (ZG (Za 3)))))))
def Es(ap:AP):z5->Option D:=fnOf 3 8 (Oy ap)
def aA:SF :=
 (ZG (tS (Zt (Zy (sD (Zi LX (Zb (Za 0) (Zb (Za 2) Zj))))) ZD (D2 (Zb (Za 0) (Zb (Zi Df (Zb (Za 1) (Zb (Za 2) (Zb (Zi JN (Zb (Za 1) (Zb (Za 3) (Zb (Za 0) Zj)))) Zj)))) Zj))))))
def EX:z5->Option D:=fnOf 3 3 aA
def S3(ap:AP):SF :=
 (ZG (LR (FR ap) 1 [0,1] (Zi ZB (Zb (Zi Df (Zb (Za 0) (Zb (Za 1) (Zb (Za 2) Zj)))) Zj))))
def JX(ap:AP):z5->Option D:=fnOf 3 3 (S3 ap)
end HG5
namespace HG5
open PySem HM HG HG4
section
variable{c:zZ}
theorem YK(w:Wk):ET [w.d]=Z (sx w.beg):=rfl
theorem k0(w:Wk):LH [w.d]=Z (sx w.goal):=rfl
theorem i4{α:Type}(xs:List α)(p:α->Bool):D8 (xs.map λx=>Bq (p x))=Z (xs.map p):=by
 have:=N5 (xs.map p)
 rwa [Aq]at this
theorem lY{w:Wk}(hc:BC c<1000):Hj [w.d,sx c]=Z (.bool (ZH w c)):=by
 have hb:BC c<1000000:=by omega
 have e:∀r:HM.Env,r[0]?=Z (Z (.pl w.d))->Z3 ZD (WJ (Za 0) (sD (Zi LH (Zb (Za 1) Zj)))) r (c.map dI)=Z (c.map λs=>Bq (w.goal.contains s)):=λr r0=>by
  rw[CP dI (λs=>Bq (w.goal.contains s))]
  .intro s _
   simp[r0,k0,KJ,FG,-DV]
 simp[Hj,YM,hb,e,i4,ZH,-DV]
theorem L8(g:Gs)(h:BC g<1000000):ZB [.list (g.map BU)]=Z (.list ((g.map (·.2)).map sx)):=by
 have e:∀r:HM.Env,Z3 ZD (sS (Zg 0) (eC (.int 1))) r (g.map BU)=Z ((g.map (·.2)).map sx):=λr=>by
  rw[CP BU (λp=>sx p.2),Aq]
  .rfl
  .intro p _
   rfl
 simp[ZB,aB,h,e]
def MJ(w:Wk)(ls c:zZ)(d:Int):D:=.tuple [dI d,.list ((ZS w ls (ZW w c d)).map BU)]
def MW(w:Wk)(ls c:zZ):D:=.list ((we w c).map (MJ w ls c))
theorem split_len{w:Wk}{ls:zZ}:(ZS w ls c).length<=BC c:=by unfold ZS;rw[Ad,(CA _).length_eq,Ad];exact HU _ _ _ (Gm (ZC w ls) c)
theorem Vy(w:Wk)(c:zZ):(we w c).length<=w.deeds.length:=by
 unfold we;rw[Ad];have:=Hx (λ(d:Nat)=>AX w c (d:Int)) (Ah w.deeds.length)
 rwa [DC]at this
theorem QD{w:Wk}{d:Nat}(hd:d<w.deeds.length)(hc:AX w c d=Aa):(d:Int)∈we w c:=by unfold we;exact Al.mpr ⟨d,AO.mpr ⟨AI.mpr hd,hc⟩,rfl⟩
section
variable{w:Wk}(hv:Wk.V w){ls:zZ}(hl:Cr w.looks.length ls)
include hv hl
theorem mY(hc:Cr w.many c):EX [w.d,sx ls,sx c]=Z (MW w ls c):=by
 have hdo:=oe hv hc;have hb:(we w c).length<1000000:=by have:=Vy w c;have:=hv.d2;omega
 have e:∀r:HM.Env,r[0]?=Z (Z (.pl w.d))->r[1]?=Z (Z (.pl (sx ls)))->r[2]?=Z (Z (.pl (sx c))) ->
   Z3 ZD (D2 (Zb (Za 0) (Zb (Zi Df (Zb (Za 1) (Zb (Za 2) (Zb (Zi JN (Zb (Za 1) (Zb (Za 3) (Zb (Za 0) Zj)))) Zj)))) Zj))) r ((we w c).map dI)=Z ((we w c).map (MJ w ls c)):=λr r0 r1 r2=>by
  rw[CP dI (MJ w ls c)];intro d hd;obtain⟨d0,d1,_⟩:=Ir hd;have h1:=j4 hv hc d0 d1;have h2:=Rr hv hl (Ie hv hc d0 d1);simp[r0,r1,r2,h1,h2,MJ]
 simp[EX,aA,hdo,hb,e,MW]
end
end
section
variable{C:z0}{ds:z5}{p:zZ}{n:Nat}{wf:Wf}
abbrev Wy:=D×Gs
def sX(y:Wy):D:=.tuple [y.1,.list (y.2.map BU)]
def sZ(y:Wy):z0:=y.2.map (·.2)
abbrev Wf:=zZ->List Wy
inductive HI(wf:Wf)(B:z0):zZ->Prop where
 |beg {p:zZ} (h:p∈B):HI wf B p
 |step {c p:zZ} {y:Wy} (r:HI wf B c) (hy:y∈wf c) (h:p∈sZ y):HI wf B p
structure D3(wf:Wf)(Ok:zZ->Prop)(B C W:z0):Prop where
 nd:C.Nodup
 cr:∀c∈C,Ok c
 wr:∀c∈W,Ok c
 rc:∀c∈C,HI wf B c
 rw:∀c∈W,HI wf B c
 cl:∀c∈C,∀y∈wf c,∀p∈sZ y,p∈C\/p∈W
 bg:∀p∈B,p∈C\/p∈W
def Zx(wf:Wf)(C:z0):List (List Ky×D):=C.map λc=>(Z8 c,.list ((wf c).map sX))
abbrev qR(wf:Wf)(L:z0):Option B:=Z (.pl (.dict (Zq (Zx wf L))))
theorem ID(wf:Wf)(C:z0)(k:zZ):Zk (Zx wf C) (Z8 k)=if k∈C then Z (.list ((wf k).map sX))else Z_:=by
 unfold Zk Zx
 induction C with
 |nil=>rfl
 |cons c C ih =>
  rw[Ai,Di]
  by_cases h:c=k
  .subst h
   rw[if_pos (An ..)];simp
  .have h':decide ((Z8 c,(PyData.list ((wf c).map sX))).1=Z8 k)=Ab:=decide_eq_false λe=>h (Iq e)
   rw[h'];dsimp only;rw[ih]
   by_cases q:k∈C
   .rw[if_pos q,if_pos (Ao _ q)]
   .rw[if_neg q,if_neg λz=>by
     rcases As.mp z with e|e
     .exact h e.symm
     .exact q e]
theorem Wt{k:zZ}(h:k∉C):tj (Zx wf C) (Z8 k) (.list ((wf k).map sX))=Zx wf (C++[k]):=by
 unfold tj;rw[if_neg]
 .unfold Zx
  rw[BB];rfl
 .intro z
  obtain⟨p,hp,e⟩:=AJ.mp z;unfold Zx at hp;obtain⟨c,hc,rfl⟩:=Al.mp hp;have e:=Iq (of_decide_eq_true e);subst e;exact h hc
theorem Rw(wf:Wf)(L:z0):((Zx wf L).map λp=>Bj (p.1.map Bv))=L.map sx:=by unfold Zx;rw[Aq];refine E9 λc _=>?_;show Bj ((c.map Cn).map Bv)=Bj (c.map dI);rw[Aq];rfl
def Js(wf:Wf)(c:zZ):z0:=(wf c).flatMap sZ
theorem D3.old{Ok:zZ->Prop}{B V:z0}(I:D3 wf Ok B C (V++[p]))(hp:p∈C):D3 wf Ok B C V:=by
 have key:∀q,q∈C\/q∈V++[p]->q∈C\/q∈V:=λq h=>by
  rcases h with h|h
  .exact .inl h
  .rcases Bb.mp h with h|h
   .exact .inr h
   .rw[Ax.mp h];exact .inl hp
 exact⟨I.nd,I.cr,λc h=>I.wr c (CW _ h),I.rc,λc h=>I.rw c (CW _ h),λc hc y hy q hq=>key q (I.cl c hc y hy q hq),λq hq=>key q (I.bg q hq)⟩
structure KL(wf:Wf)(Ok:zZ->Prop):Prop where
 ok:∀c,Ok c->∀y∈wf c,∀p∈sZ y,Ok p
 ys:∀c,Ok c->(wf c).length<=10
 ps:∀c,Ok c->∀y∈wf c,y.2.length<=8
 cs:∀C:z0,C.Nodup->(∀c∈C,Ok c)->C.length<=128
theorem D3.new{Ok:zZ->Prop}(O:KL wf Ok){B V:z0}(I:D3 wf Ok B C (V++[p]))(hp:p∉C):D3 wf Ok B (C++[p]) (V++Js wf p):=by
 have y0:=I.wr p (Cc _ (Ax.mpr rfl));have hpr:=I.rw p (Cc _ (Ax.mpr rfl));have key:∀q,q∈C\/q∈V++[p]->q∈C++[p]\/q∈V++Js wf p:=λq h=>by
  rcases h with h|h
  .exact .inl (CW _ h)
  .rcases Bb.mp h with h|h
   .exact .inr (CW _ h)
   .exact .inl (Cc _ h)
 refine⟨?_,λc h=>?_,λc h=>?_,λc h=>?_,λc h=>?_,λc h y hy q hq=>?_,λq hq=>key q (I.bg q hq)⟩
 .rw[Ee]
  refine⟨I.nd,by simp,λx hx y hy e=>?_⟩;rw[Ax.mp hy]at e;exact hp (e▸hx)
 .rcases Bb.mp h with h|h
  .exact I.cr c h
  .rw[Ax.mp h];exact y0
 .rcases Bb.mp h with h|h
  .exact I.wr c (CW _ h)
  .obtain⟨y,hy,hq⟩:=Jb.mp h
   exact O.ok p y0 y hy c hq
 .rcases Bb.mp h with h|h
  .exact I.rc c h
  .rw[Ax.mp h];exact hpr
 .rcases Bb.mp h with h|h
  .exact I.rw c (CW _ h)
  .obtain⟨y,hy,hq⟩:=Jb.mp h
   exact .step hpr hy hq
 .rcases Bb.mp h with h|h
  .exact key q (I.cl c h y hy q hq)
  .rw[Ax.mp h]at hy
   exact .inr (Cc _ (Jb.mpr ⟨y,hy,hq⟩))
theorem gv{Ok:zZ->Prop}(O:KL wf Ok){c:zZ}(hc:Ok c):(Js wf c).length<=80:=by
 have key:∀ys:List Wy,(∀y∈ys,y∈wf c)->(ys.flatMap sZ).length<=8*ys.length:=by
  intro ys
  induction ys with
  |nil=>intro _;exact Aj 0
  |cons y ys ih =>
   intro h;rw[TR,AE,Av];have h1:=ih λx hx=>h x (Ao _ hx);have h2:=O.ps c hc y (h y (An ..));have h3:(sZ y).length=y.2.length:=by unfold sZ;rw[Ad]
   omega
 have h1:=key (wf c) λ_ h=>h;have h2:=O.ys c hc;unfold Js;omega
theorem U0(ap:AP)(e0 e1 e2 e4:Option B):∀(ys:List Wy) (W:z0) (o:Option B),(∀y∈ys,y.2.length<=8)->W.length+8*ys.length<900000 ->∃o',Z7 5 (OH ap) (ys.map sX) [e0,e1,e2,Z (.ol (W.map sx)),e4,o]=Z (.nx [e0,e1,e2,Z (.ol ((W++ys.flatMap sZ).map sx)),e4,o'])
 |[],W,o,_,_=>⟨o,by rw[List.flatMap_nil,Ba];rfl⟩
 |y::ys,W,o,sY,sA=>by
  rw[Av]at sA;have hb:=sY y (An ..);have xE:=L8 y.2 (by omega);have hpl:(sZ y).length<=8:=by unfold sZ;rw[Ad];exact hb
  have body:OH ap [e0,e1,e2,Z (.ol (W.map sx)),e4,Z (.pl (sX y))]=Z (.nx [e0,e1,e2,Z (.ol ((W++sZ y).map sx)),e4,Z (.pl (sX y))]):=by
   have h1:RB ZB (Zb (sS (Zg 5) (eC (.int 1))) Zj) [e0,e1,e2,Z (.ol (W.map sx)),e4,Z (.pl (sX y))]=Z (.ol ((sZ y).map sx)):=by unfold RB;show(match ZB [.list (y.2.map BU)]with|some (.list ys)=>Z (B.ol ys)|_=>Z_)=_;rw[xE];rfl
   unfold OH YG;rw[h1];show(if _ then _ else _)=_;rw[if_pos (by rw[Ad,Ad];show _<1000000;omega),BB];rfl
  obtain⟨o',ih⟩:=U0 ap e0 e1 e2 e4 ys (W++sZ y) (Z (.pl (sX y))) (λx hx=>sY x (Ao _ hx)) (by rw[AE];omega);refine⟨o',?_⟩;rw[TR,<-B8,<-ih,Ai];exact Dp body rfl
theorem Y0(wf:Wf)(C:z0)(p:zZ)(r:HM.Env)(i j:Nat)(h1:r[i]?=Z (Z (.pl (sx p))))(h2:r[j]?=Z (Z (.ot (Zx wf C)))):tV (LS (Za i) (Zg j)) r=Z (!decide (p∈C)):=by
 have hk:Be (sx p)=Z (Z8 p):=B6 p;have tI:=ID wf C p
 by_cases hp:p∈C
 .rw[if_pos hp]at tI
  simp[h1,h2,hk,tI,hp]
 .rw[if_neg hp]at tI
  simp[h1,h2,hk,tI,hp]
theorem QJ(t:Nat)(cs:z5):K0 (sM t cs)=Z (t,cs):=rfl
section
variable{ap:AP}{wf:Wf}{Ok:zZ->Prop}(O:KL wf Ok){t:Nat}{cs:z5}(ha:∀c,Ok c->ap t cs [sx c]=Z (.list ((wf c).map sX)))
include O ha
omit ha O in
theorem iU{V:z0}(e0 e1 o4 o5:Option B)(hp:p∈C):Kc ap [e0,e1,Z (.ot (Zx wf C)),Z (.ol ((V++[p]).map sx)),o4,o5]=Z (.nx [e0,e1,Z (.ot (Zx wf C)),Z (.ol (V.map sx)),Z (.pl (sx p)),o5]):=by
 unfold Kc;refine AY (r':=[e0,e1,Z (.ot (Zx wf C)),Z (.ol (V.map sx)),Z (.pl (sx p)),o5]) ?_ ?_
 .rw[BB]
  simp
 .have ht:=Y0 wf C p [e0,e1,Z (.ot (Zx wf C)),Z (.ol (V.map sx)),Z (.pl (sx p)),o5] 4 2 rfl rfl
  rw[decide_eq_true hp]at ht;unfold tw;rw[ht];rfl
theorem jc{V:z0}(e0 o4 o5:Option B)(hp:p∉C)(hc:Ok p)(hC:BC C<1000)(hV:BC V<100000):∃o5',Kc ap [e0,Z (.pl (sM t cs)),Z (.ot (Zx wf C)),Z (.ol ((V++[p]).map sx)),o4,o5]=Z (.nx [e0,Z (.pl (sM t cs)),Z (.ot (Zx wf (C++[p]))),Z (.ol ((V++Js wf p).map sx)),Z (.pl (sx p)),o5']):=by
 have ye:=O.ys p hc;obtain⟨o5',go⟩:=U0 ap e0 (Z (.pl (sM t cs))) (Z (.ot (Zx wf (C++[p])))) (Z (.pl (sx p))) (wf p) V o5 (λy hy=>O.ps p hc y hy) (by omega);refine⟨o5',?_⟩;unfold Kc;refine AY (r':=[e0,Z (.pl (sM t cs)),Z (.ot (Zx wf C)),Z (.ol (V.map sx)),Z (.pl (sx p)),o5]) ?_ ?_
 .rw[BB]
  simp
 .have ht:=Y0 wf C p [e0,Z (.pl (sM t cs)),Z (.ot (Zx wf C)),Z (.ol (V.map sx)),Z (.pl (sx p)),o5] 4 2 rfl rfl
  rw[decide_eq_false hp]at ht;unfold tw;rw[ht];show Zr _ _ _=_;have hk:Be (sx p)=Z (Z8 p):=B6 p;have hww:=ha p hc;have tN:(Zx wf C).length<1000000:=by unfold Zx;rw[Ad];omega
  refine AY (r':=[e0,Z (.pl (sM t cs)),Z (.ot (Zx wf (C++[p]))),Z (.ol (V.map sx)),Z (.pl (sx p)),o5]) ?_ ?_
  .rw[<-Wt hp]
   have hv:Fw ap 1 (Zb (Za 4) Zj) [e0,Z (.pl (sM t cs)),Z (.ot (Zx wf C)),Z (.ol (V.map sx)),Z (.pl (sx p)),o5]=Z (.list ((wf p).map sX)):=by unfold Fw;show(match K0 (sM t cs)with|some (t,cs)=>_|none=>Z_)=_;rw[QJ];exact hww
   unfold GU;rw[hv];show(match Be (sx p)with|some y=>_|none=>Z_)=_;rw[hk];dsimp only;rw[if_pos (show _<big from tN)];rfl
  .have tI:=ID wf (C++[p]) p
   rw[if_pos (Cc _ (Ax.mpr rfl))]at tI;have hi:Zy (sD (ZI (Zg 2) (Za 4))) [e0,Z (.pl (sM t cs)),Z (.ot (Zx wf (C++[p]))),Z (.ol (V.map sx)),Z (.pl (sx p)),o5]=Z ((wf p).map sX):=by simp[hk,tI]
   unfold AH;rw[hi];dsimp only;rw[if_pos (by rw[Ad];show _<1000000;omega)];exact go
theorem SY(B:z0)(e0:Option HM.B):∀(sI:Nat) (C W:z0) (o4 o5:Option HM.B),D3 wf Ok B C W->(128-C.length)*81+BC W<sI->(128-C.length)*81+BC W<60000 ->∃C' o4' o5',Z9 (tV (sG vm (Z5 (Zg 3)) (eC (.int 0)))) (Kc ap) sI [e0,Z (.pl (sM t cs)),Z (.ot (Zx wf C)),Z (.ol (W.map sx)),o4,o5]=Z (.nx [e0,Z (.pl (sM t cs)),Z (.ot (Zx wf C')),Z (.ol []),o4',o5'])/\D3 wf Ok B C' []
 |0,C,W,o4,o5,I,h,_=>by omega
 |sI+1,C,W,o4,o5,I,h,hW=>by
  have sA:=O.cs C I.nd I.cr
  by_cases hw:W=[]
  .subst hw
   refine⟨C,o4,o5,?_,I⟩;unfold Z9;have ht:(tV (sG vm (Z5 (Zg 3)) (eC (.int 0)))) [e0,Z (.pl (sM t cs)),Z (.ot (Zx wf C)),Z (.ol (([]:z0).map sx)),o4,o5]=Z Ab:=by simp
   rw[ht];rfl
  .obtain⟨V,p,rfl⟩:∃V p,W=V++[p]:=⟨W.dropLast,W.getLast hw,(List.dropLast_concat_getLast hw).symm⟩
   rw[AE,Hz]at h hW;have ht:(tV (sG vm (Z5 (Zg 3)) (eC (.int 0)))) [e0,Z (.pl (sM t cs)),Z (.ot (Zx wf C)),Z (.ol ((V++[p]).map sx)),o4,o5]=Z Aa:=by simp
   by_cases hp:p∈C
   .obtain⟨C',o4',o5',g,J⟩:=SY B e0 sI C V (Z (.pl (sx p))) o5 (I.old hp) (by omega) (by omega)
    refine⟨C',o4',o5',?_,J⟩;unfold Z9;rw[ht];dsimp only;rw[iU e0 _ o4 o5 hp];exact g
   .have y0:=I.wr p (Cc _ (Ax.mpr rfl))
    have J0:=I.new O hp;have vI:=O.cs _ J0.nd J0.cr;rw[AE,Hz]at vI;have yC:=gv O y0;obtain⟨q5,e⟩:=jc O ha (V:=V) e0 o4 o5 hp y0 (by omega) (by omega);obtain⟨C',o4',o5',g,J⟩:=SY B e0 sI (C++[p]) (V++Js wf p) (Z (.pl (sx p))) q5 J0 (by rw[AE,AE,Hz];omega) (by rw[AE,AE,Hz];omega);refine⟨C',o4',o5',?_,J⟩;unfold Z9;rw[ht];dsimp only;rw[e];exact g
theorem Yi{B:z0}(hB:∀c∈B,Ok c)(hl:BC B<=100):∃L,FR ap [.list (B.map sx),sM t cs]=Z (.dict (Zq (Zx wf L)))/\D3 wf Ok B L []:=by
 have I0:D3 wf Ok B [] B:=⟨.nil,λc h=>(by simp at h),hB,λc h=>(by simp at h),λc h=>.beg h,λc h=>(by simp at h),λp h=>.inr h⟩;obtain⟨L,o4,o5,g,J⟩:=SY O ha B (Z (.pl (.list (B.map sx)))) 100000 [] B Z_ Z_ I0 (by simp;omega) (by simp;omega);refine⟨L,?_,J⟩;show Bs (OL ap [Z (.pl (.list (B.map sx))),Z (.pl (sM t cs)),Z_,Z_,Z_,Z_])=_;have e:OL ap [Z (.pl (.list (B.map sx))),Z (.pl (sM t cs)),Z_,Z_,Z_,Z_]=Z (.rt (.dict (Zq (Zx wf L)))):=by unfold OL;refine AY (r':=[Z (.pl (.list (B.map sx))),Z (.pl (sM t cs)),Z (.ot (Zx wf [])),Z_,Z_,Z_]) rfl ?_;refine AY (r':=[Z (.pl (.list (B.map sx))),Z (.pl (sM t cs)),Z (.ot (Zx wf [])),Z (.ol (B.map sx)),Z_,Z_]) rfl ?_;refine AY g ?_;simp
 rw[e];rfl
end
theorem Gk(n:Nat)(p:zZ):uh (n+1) (sx p)=Aa:=by show(p.map dI).all (uh n)=Aa;rw[List.all_map];exact Ay.mpr λx _=>by cases n<;>rfl
theorem Nf(n:Nat)(i:Int):uh n (.int i)=Aa:=by cases n<;>rfl
theorem JL(h:∀d∈ds,uh n d=Aa):uh (n+1) (.tuple ds)=Aa:=Ay.mpr h
theorem W8(h:∀d∈ds,uh n d=Aa):uh (n+1) (.list ds)=Aa:=Ay.mpr h
theorem gC(n:Nat)(p:zZ×zZ):uh (n+2) (BU p)=Aa:=JL λd hd=>by
 rcases As.mp hd with e|hd
 .subst e;exact Gk n _
 .rw[Ax.mp hd];exact Gk n _
theorem eh{y:Wy}(h:uh (n+3) y.1=Aa):uh (n+4) (sX y)=Aa:=JL λd hd=>by
 rcases As.mp hd with e|hd
 .subst e;exact h
 .rw[Ax.mp hd]
  exact W8 λd hd=>by obtain⟨p,_,rfl⟩:=Al.mp hd;exact gC n p
theorem Qa{L:z0}(h:∀c∈L,∀y∈wf c,uh (n+3) y.1=Aa):uh (n+6) (.dict (Zq (Zx wf L)))=Aa:=by show(Zq (Zx wf L)).all _=Aa;refine Ay.mpr λp hp=>?_;unfold Zq Zx at hp;rw[Aq]at hp;obtain⟨c,hc,rfl⟩:=Al.mp hp;show uh (n+5) (.list ((wf c).map sX))=Aa;exact W8 λd hd=>by obtain⟨y,hy,rfl⟩:=Al.mp hd;exact eh (h c hc y hy)
theorem bW(w:Wk):uh 20 w.d=Aa:=by
 refine JL λd hd=>?_;have h:∀x:z0,∀d∈x.map sx,uh 17 d=Aa:=λx d hd=>by obtain⟨p,_,rfl⟩:=Al.mp hd;exact Gk 16 p
 have hd:=As.mp hd;rcases hd with e|hd
 .subst e;rfl
 rcases As.mp hd with e|hd
 .subst e
  exact JL λd hd=>by obtain⟨x,_,rfl⟩:=Al.mp hd;exact JL (h x)
 rcases As.mp hd with e|hd
 .subst e
  exact JL λd hd=>by obtain⟨x,_,rfl⟩:=Al.mp hd;exact Gk 17 x
 rcases As.mp hd with e|hd
 .subst e;exact Gk 18 _
 .rw[Ax.mp hd];exact Gk 18 _
end
section
variable{cb:Cb}{c:zZ}{M:Tb}
def oI:Option Int->D
 |some k=>.int k
 |none=>.none
abbrev Cb:=Wy->Tb->Option Int
def Ci(cb:Cb)(ys:List Wy)(M:Tb):Option Int:=(ys.filterMap λy=>cb y M).min?
def AN(wf:Wf)(cb:Cb)(L:z0)(M:Tb):Tb:=L.filterMap λc=>if ZF M c then Z_ else(Ci cb (wf c) M).map λk=>(c,k)
def BO(T:Tb):Option Int:=(T.map (·.2)).min?
def DZ(T:Tb):z0:=(T.filter λp=>Z p.2==BO T).map (·.1)
def Bm(found:z0)(k:Int)(M:Tb):Tb:=found.foldl (λM c=>tj M c k) M
inductive GQ(wf:Wf)(cb:Cb)(L:z0):Tb->Option Int->z0->Tb->Prop where
 |done {M:Tb} {k:Option Int}:GQ wf cb L M k [] M
 |step {M R:Tb} {k:Int} {found:z0} (hf:found≠[]) (h:GQ wf cb L (Bm found k M) (BO (AN wf cb L (Bm found k M))) (DZ (AN wf cb L (Bm found k M))) R):GQ wf cb L M (Z k) found R
theorem Qj:∀os:List (Option Int),Cg ((os.filter Ks).map oI)=Z (os.filterMap id)
 |[]=>rfl
 |none::os=>Qj os
 |some k::os=>by show(Cg ((os.filter Ks).map oI)).map (k::·)=_;rw[Qj os];rfl
theorem Y8{ap:AP}{t:Nat}{cs:z5}{ys:List Wy}(hy:BC ys<1000)(ha:∀y∈ys,ap t cs [sX y,.dict (Zq (encM M))]=Z (oI (cb y M))):Gv ap [.list (ys.map sX),.dict (Zq (encM M)),sM t cs]=Z (oI (Ci cb ys M)):=by
 show Bs (SA ap [qP (.list (ys.map sX)),qM M,qP (sM t cs),Z_])=_;have hb:BC ys<big:=by show _<1000000;omega
 have e1:Z3 ZD (Fw ap 3 (Zb (Za 0) (Zb (Za 2) Zj))) [qP (.list (ys.map sX)),qM M,qP (sM t cs),Z_] (ys.map sX)=Z ((ys.map λy=>cb y M).map oI):=by
  rw[CP sX (λy=>oI (cb y M)),Aq]
  .rfl
  .intro y h
   show(match K0 (sM t cs)with|some (t,cs)=>_|none=>Z_)=_;rw[QJ];exact ha y h
 have e2:Z3 (tV (sG Fu (Za 0) (eC .none))) (Za 0) [qP (.list (ys.map sX)),qM M,qP (sM t cs),qP (.list ((ys.map λy=>cb y M).map oI))] ((ys.map λy=>cb y M).map oI)=Z (((ys.map λy=>cb y M).filter Ks).map oI):=by
  rw[Cj oI Ks oI]
  .intro o _
   cases o<;>rfl
  .intro o _ _
   rfl
 unfold SA;refine A8 (r':=[qP (.list (ys.map sX)),qM M,qP (sM t cs),qQ ((ys.map λy=>cb y M).map oI)]) ?_ ?_
 .unfold ZO Zt
  show Mj _ (if(ys.map sX).length<big then _ else _)=_;rw[if_pos (by rw[Ad];exact hb),e1];rfl
 .show Bs (Mj vz.rt (Fv _ [qP (.list (ys.map sX)),qM M,qP (sM t cs),qP (.list ((ys.map λy=>cb y M).map oI))]))=_
  have e3:Zt (Zy (sD (Za 3))) (tV (sG Fu (Za 0) (eC .none))) (Za 0) [qP (.list (ys.map sX)),qM M,qP (sM t cs),qP (.list ((ys.map λy=>cb y M).map oI))]=Z (.ol (((ys.map λy=>cb y M).filter Ks).map oI)):=by unfold Zt;show(if((ys.map λy=>cb y M).map oI).length<big then _ else Z_)=_;rw[if_pos (by rw[Ad,Ad];exact hb),e2];rfl
  unfold Fv;rw[e3];show Bs (Mj vz.rt (match Cg (((ys.map λy=>cb y M).filter Ks).map oI)with|some ns=>Z (match ns.min? with|some i=>BK i|none=>.none)|none=>Z_))=_;rw[Qj];show Z (match((ys.map λy=>cb y M).filterMap id).min? with|some i=>BK i|none=>.none)=_;unfold Ci;rw[List.filterMap_map];show Z (match(ys.filterMap λy=>cb y M).min? with|some i=>BK i|none=>.none)=_;cases(ys.filterMap λy=>cb y M).min?<;>rfl
theorem iD{k:Int}(h:ZF M c=Ab):tj M c k=M++[(c,k)]:=by unfold tj;rw[if_neg];intro z;obtain⟨p,hp,e⟩:=AJ.mp z;have e:=of_decide_eq_true e;unfold ZF Zk at h;rw[GL]at h;have:(M.find? λp=>decide (p.1=c)).isSome=Aa:=O3.mpr ⟨p,hp,decide_eq_true e⟩;rw[h]at this;cases this
theorem lF(M N:Tb)(c:zZ):ZF (M++N) c=(ZF M c||ZF N c):=by unfold ZF Zk;rw[Tu,GL,GL,GL,Option.isSome_or]
theorem eV:ZF M c=Aa↔∃k,(c,k)∈M:=by
 unfold ZF Zk;rw[GL,O3]
 constructor
 .rintro ⟨⟨c',k⟩,h,e⟩
  have e:=of_decide_eq_true e;exact⟨k,by rw[<-e];exact h⟩
 .rintro ⟨k,h⟩
  exact⟨_,h,decide_eq_true rfl⟩
theorem gX{wf:Wf}{L:z0}{k:Int}:(c,k)∈AN wf cb L M↔c∈L/\ZF M c=Ab/\Ci cb (wf c) M=Z k:=by
 unfold AN;rw[CT]
 constructor
 .rintro ⟨c',h1,h2⟩
  split at h2
  .cases h2
  .rename_i hn
   obtain⟨k',h3,h4⟩:=Ak.mp h2;cases h4;exact⟨h1,by simpa using hn,h3⟩
 .rintro ⟨h1,h2,h3⟩
  exact⟨c,h1,by rw[h2,h3];rfl⟩
section
variable{ap:AP}{wf:Wf}{L:z0}{t:Nat}{cs:z5}{cb:Cb}(u7:L.Nodup)(sA:BC L<=128)(xl:∀c∈L,(wf c).length<1000)(ha:∀c∈L,∀y∈wf c,∀M,ap t cs [sX y,.dict (Zq (encM M))]=Z (oI (cb y M)))
include xl ha
theorem VD{M:Tb}:∀(K:z0) (acc:Tb) (o4 o5:Option B),(∀c∈K,c∈L)->K.Nodup->(∀c∈K,ZF acc c=Ab)->ZZ o4=Ab->ZZ o5=Ab->acc.length+BC K<100000 ->∃p4 p5,ZZ p4=Ab/\ZZ p5=Ab/\Z7 4 (Eo ap) (K.map sx) [Z (.hd (Zq (Zx wf L))),qM M,qP (sM t cs),Z (.ot (encM acc)),o4,o5] =Z (.nx [Z (.hd (Zq (Zx wf L))),qM M,qP (sM t cs),Z (.ot (encM (acc++AN wf cb K M))),p4,p5])
 |[],acc,o4,o5,_,_,_,h4,h5,_=>⟨o4,o5,h4,h5,by show Z (vz.nx _)=_;rw[show AN wf cb [] M=[] from rfl,Ba]⟩
 |c::K,acc,o4,o5,hK,hn,sW,h4,h5,hl=>by
  rw[Av]at hl;have hc:=hK c (An ..);have hk:Be (sx c)=Z (Z8 c):=B6 c;have tI:=IE M c;have hlr:=ID wf L c;rw[if_pos hc]at hlr;have hlc:=Y8 (ap:=ap) (t:=t) (cs:=cs) (cb:=cb) (ys:=wf c) (M:=M) (xl c hc) λy hy=>ha c hc y hy M;have xc:AN wf cb (c::K) M=(if ZF M c then[]else match Ci cb (wf c) M with|some k=>[(c,k)]|none=>[])++AN wf cb K M:=by
   unfold AN;rw[GD];cases ZF M c with
   |true=>rfl
   |false=>cases Ci cb (wf c) M<;>rfl
  have step:∀(acc':Tb) (p5:Option B),ZZ p5=Ab->(∀x∈K,ZF acc' x=Ab)->acc'.length+BC K<100000->Eo ap [Z (.hd (Zq (Zx wf L))),qM M,qP (sM t cs),Z (.ot (encM acc)),qT c,o5] =
     Z (.nx [Z (.hd (Zq (Zx wf L))),qM M,qP (sM t cs),Z (.ot (encM acc')),qT c,p5])->acc'++AN wf cb K M=acc++AN wf cb (c::K) M ->
    ∃p4 p5,ZZ p4=Ab/\ZZ p5=Ab/\Z7 4 (Eo ap) ((c::K).map sx) [Z (.hd (Zq (Zx wf L))),qM M,qP (sM t cs),Z (.ot (encM acc)),o4,o5] =
     Z (.nx [Z (.hd (Zq (Zx wf L))),qM M,qP (sM t cs),Z (.ot (encM (acc++AN wf cb (c::K) M))),p4,p5]):=λacc' p5 hp5 hx hl' e eq=>by
   obtain⟨q4,q5,g4,g5,ih⟩:=VD (M:=M) K acc' (Z (.pl (sx c))) p5 (λx hx=>hK x (Ao _ hx)) (CC.mp hn).2 hx rfl hp5 hl';refine⟨q4,q5,g4,g5,?_⟩;rw[<-eq,<-ih,Ai];exact Dp e rfl
  have hKa:∀x∈K,ZF acc x=Ab:=λx hx=>sW x (Ao _ hx);cases hq:Zk M c with
  |some k =>
   have hh:ZF M c=Aa:=by unfold ZF;rw[hq];rfl
   rw[hq]at tI;refine step acc o5 h5 hKa (by omega) ?_ (by rw[xc,hh];rfl);have ht:tV (LS (Za 4) (Zg 1)) [Z (.hd (Zq (Zx wf L))),qM M,qP (sM t cs),Z (.ot (encM acc)),qT c,o5]=Z Ab:=by simp[sE,hk,tI]
   unfold Eo tw;rw[ht];rfl
  |none =>
   have hh:ZF M c=Ab:=by unfold ZF;rw[hq];rfl
   rw[hq]at tI;have ht:tV (LS (Za 4) (Zg 1)) [Z (.hd (Zq (Zx wf L))),qM M,qP (sM t cs),Z (.ot (encM acc)),qT c,o5]=Z Aa:=by simp[sE,hk,tI]
   have hca:Zi (Gv ap) (Zb (ZI (Zg 0) (Za 4)) (Zb (Za 1) (Zb (Za 2) Zj))) [Z (.hd (Zq (Zx wf L))),qM M,qP (sM t cs),Z (.ot (encM acc)),qT c,o5]=Z (oI (Ci cb (wf c) M)):=by
    have hg:ZI (Zg 0) (Za 4) [Z (.hd (Zq (Zx wf L))),qM M,qP (sM t cs),Z (.ot (encM acc)),qT c,o5]=Z (.list ((wf c).map sX)):=by simp[sE,hk,hlr]
    unfold Zi Zb;rw[hg];exact hlc
   have hs5:ZN 5 (Zi (Gv ap) (Zb (ZI (Zg 0) (Za 4)) (Zb (Za 1) (Zb (Za 2) Zj)))) [Z (.hd (Zq (Zx wf L))),qM M,qP (sM t cs),Z (.ot (encM acc)),qT c,o5]=Z (.nx [Z (.hd (Zq (Zx wf L))),qM M,qP (sM t cs),Z (.ot (encM acc)),qT c,qP (oI (Ci cb (wf c) M))]):=by unfold ZN;rw[hca];rfl
   cases vO:Ci cb (wf c) M with
   |none=>rw[vO]at hs5;refine step acc (Z (.pl .none)) rfl hKa (by omega) ?_ (by rw[xc,hh,vO];rfl);unfold Eo tw;rw[ht];dsimp only;refine AY hs5 ?_;rfl
   |some k =>
    rw[vO]at hs5;have wY:=iD (k:=k) (sW c (An ..));have hpe:=WU acc c k;have uT:(encM acc).length<1000000:=by unfold encM;rw[Ad];omega
    refine step (acc++[(c,k)]) (Z (.pl (.int k))) rfl (λx hx=>?_) (by rw[AE,Hz];omega) ?_ (by rw[xc,hh,vO,B8];rfl)
    .rw[lF,hKa x hx,Kv]
     cases hb:ZF [(c,k)] x with
     |false=>rfl
     |true=>obtain⟨k',hm⟩:=eV.mp hb;cases Ax.mp hm;exact absurd hx (CC.mp hn).1
    .unfold Eo tw
     rw[ht];dsimp only;refine AY hs5 ?_;have h2:tV (sG Fu (Za 5) (eC .none)) [Z (.hd (Zq (Zx wf L))),qM M,qP (sM t cs),Z (.ot (encM acc)),qT c,qP (oI (Z k))]=Z Aa:=rfl;rw[h2,<-wY,<-hpe];show(match Be (sx c)with|some y=>_|none=>Z_)=_;rw[hk];show(if(encM acc).length<big then _ else Z_)=_;rw[if_pos (show _<big from uT)];rfl
include u7 sA
theorem oj(M:Tb):Hn ap [.dict (Zq (Zx wf L)),.dict (Zq (encM M)),sM t cs]=Z (encM (AN wf cb L M)):=by
 obtain⟨p4,p5,g4,g5,go⟩:=VD xl ha (M:=M) L [] Z_ Z_ (λ_ h=>h) u7 (λ_ _=>rfl) rfl rfl (by simp;omega);have hw:AM 0 [Z (.hd (Zq (Zx wf L))),qM M,qP (sM t cs),Z (.ot (encM [])),Z_,Z_]=Z (L.map sx):=by show(Cv (Zq (Zx wf L))).map _=_;rw[sE,<-Rw wf L];rfl
 have hf:AH 4 (AM 0) (Eo ap) [Z (.hd (Zq (Zx wf L))),qM M,qP (sM t cs),Z (.ot (encM [])),Z_,Z_]=Z (.nx [Z (.hd (Zq (Zx wf L))),qM M,qP (sM t cs),Z (.ot (encM (AN wf cb L M))),p4,p5]):=by unfold AH;rw[hw];dsimp only;rw[if_pos (by rw[Ad];show _<1000000;omega),go];rfl
 have hh:C4 0 (AH 4 (AM 0) (Eo ap)) [qR wf L,qM M,qP (sM t cs),Z (.ot (encM [])),Z_,Z_]=Z (.nx [qR wf L,qM M,qP (sM t cs),Z (.ot (encM (AN wf cb L M))),p4,p5]):=by
  show(match AH 4 (AM 0) (Eo ap) [Z (.hd (Zq (Zx wf L))),qM M,qP (sM t cs),Z (.ot (encM [])),Z_,Z_]with|some (.nx r')=>_|some (.rt d)=>_|_=>Z_)=_;rw[hf];have a2:([Z_,Z (B.pl (.dict (Zq (encM M)))),qP (sM t cs),Z (.ot (encM (AN wf cb L M))),p4,p5]:HM.Env).all (λq=>!ZZ q)=Aa:=by simp only[BS,FW,g4,g5];rfl
  show(if([Z_,Z (B.pl (.dict (Zq (encM M)))),qP (sM t cs),Z (.ot (encM (AN wf cb L M))),p4,p5]:HM.Env).all (λq=>!ZZ q)=Aa then _ else _)=_;rw[if_pos a2];rfl
 unfold Hn yn;rw[if_pos (show([To (Zq (Zx wf L)),To (Zq (encM M)),sM t cs]:z5).length=3 from rfl)];show(match ZO 3 zf [qR wf L,qM M,qP (sM t cs),Z_,Z_,Z_]with|some (.nx r')=>K3 (C4 0 (AH 4 (AM 0) (Eo ap))) (KZ 3) r'|_=>Z_)=_;show K3 (C4 0 (AH 4 (AM 0) (Eo ap))) (KZ 3) [qR wf L,qM M,qP (sM t cs),Z (.ot (encM [])),Z_,Z_]=_;unfold K3;rw[hh];rfl
end
end
section
variable{cb:Cb}{M T:Tb}{wf:Wf}
theorem Wi(ap:AP)(e0 e1 e2 e5 e7:Option B)(v:Int):∀(ms:z0) (M:Tb) (o:Option B),BC M+BC ms<100000->ZZ o=Ab ->∃p,ZZ p=Ab/\Z7 6 (Oj ap) (ms.map sx) [e0,e1,e2,Z (.ot (encM M)),qP (dI v),e5,o,e7]=Z (.nx [e0,e1,e2,Z (.ot (encM (Bm ms v M))),qP (dI v),e5,p,e7])
 |[],M,o,_,h=>⟨o,h,rfl⟩
 |c::ms,M,o,sA,_=>by
  rw[Av]at sA;have hml:(encM M).length<1000000:=by unfold encM;rw[Ad];omega
  have hk:Be (sx c)=Z (Z8 c):=B6 c;have wY:=WU M c v;have hpl:=Wc c v M;have e:Oj ap [e0,e1,e2,Z (.ot (encM M)),qP (dI v),e5,qT c,e7]=Z (.nx [e0,e1,e2,Z (.ot (encM (tj M c v))),qP (dI v),e5,qT c,e7]):=by rw[<-wY];simp[Oj,hk,hml]
  obtain⟨p,hp,ih⟩:=Wi ap e0 e1 e2 e5 e7 v ms (tj M c v) (Z (.pl (sx c))) (by omega) rfl;refine⟨p,hp,?_⟩;show _=Z (vz.nx [e0,e1,e2,Z (.ot (encM (Bm ms v (tj M c v)))),qP (dI v),e5,p,e7]);rw[Ai,<-ih];exact Dp e rfl
theorem Rb(T:Tb):((encM T).map λp=>Bj (p.1.map Bv))=(T.map (·.1)).map sx:=by unfold encM;rw[Aq,Aq];refine E9 λp _=>?_;show Bj ((p.1.map Cn).map Bv)=Bj (p.1.map dI);rw[Aq];rfl
def zi(T:Tb):Prop:=(T.map (·.1)).Nodup
theorem VL(h:zi T){p:zZ×Int}(hp:p∈T):Zk T p.1=Z p.2:=by
 induction T with
 |nil=>simp at hp
 |cons q T ih =>
  obtain⟨c,k⟩:=q;rw[FL];unfold zi at h;rw[Ai,CC]at h;rcases As.mp hp with e|e
  .subst e;rw[if_pos rfl]
  .rw[if_neg λz=>h.1 (by rw[z];exact Al.mpr ⟨p,e,rfl⟩)]
   exact ih h.2 e
theorem dy:∀{L:z0},L.Nodup->zi (AN wf cb L M):=by
 intro L h;unfold zi;have:((AN wf cb L M).map (·.1)).Sublist L:=by
  unfold AN;rw[List.map_filterMap]
  clear h
  induction L with
  |nil=>exact .slnil
  |cons c L ih =>
   rw[GD];cases ZF M c with
   |true=>exact ih.cons c
   |false=>cases Ci cb (wf c) M with
    |none=>exact ih.cons c
    |some k=>exact ih.cons₂ c
 exact h.sublist this
theorem VT{L:z0}:(AN wf cb L M).length<=BC L:=List.length_filterMap_le ..
section
variable{T:Tb}(hT:zi T)(hl:BC T<100000)
include hT hl
theorem kO(r:HM.Env)(h7:r[7]?=Z (Z (.hd (Zq (encM T))))):Zt (AM 7) ZD (ZI (Zg 8) (Za 0)) r=Z (.ol ((T.map (·.2)).map dI)):=by
 have hw:AM 7 r=Z ((T.map (·.1)).map sx):=by unfold AM;rw[h7];show(Cv (Zq (encM T))).map _=_;rw[sE,<-Rb T];rfl
 have hg:Z3 ZD (ZI (Zg 8) (Za 0)) r ((T.map (·.1)).map sx)=Z ((T.map (·.2)).map dI):=by rw[Aq,Aq];have:=CP (e:=ZI (Zg 8) (Za 0)) (r:=r) (λp:zZ×Int=>sx p.1) (λp=>dI p.2) T (λp hp=>by have hk:Be (sx p.1)=Z (Z8 p.1):=B6 p.1;have tI:=IE T p.1;rw[VL hT hp]at tI;simp[h7,sE,hk,tI]);exact this
 unfold Zt;rw[hw];dsimp only;rw[if_pos (by rw[Ad,Ad];show _<1000000;omega),hg];rfl
theorem jt{k:Option Int}(r:HM.Env)(h7:r[7]?=Z (Z (.hd (Zq (encM T)))))(h4:r[4]?=Z (Z (.pl (oI k)))):Zt (AM 7) (tV (sG tK (ZI (Zg 8) (Za 0)) (Za 5))) (Za 0) r=Z (.ol (((T.filter λp=>Z p.2==k).map (·.1)).map sx)):=by
 have hw:AM 7 r=Z ((T.map (·.1)).map sx):=by unfold AM;rw[h7];show(Cv (Zq (encM T))).map _=_;rw[sE,<-Rb T];rfl
 have hg:Z3 (tV (sG tK (ZI (Zg 8) (Za 0)) (Za 5))) (Za 0) r ((T.map (·.1)).map sx)=Z (((T.filter λp=>Z p.2==k).map (·.1)).map sx):=by
  rw[Aq,Aq];have:=Cj (c:=tV (sG tK (ZI (Zg 8) (Za 0)) (Za 5))) (e:=Za 0) (r:=r) (λp:zZ×Int=>sx p.1) (λp=>Z p.2==k) (λp=>sx p.1) T (λp hp=>by
   have hk:Be (sx p.1)=Z (Z8 p.1):=B6 p.1;have tI:=IE T p.1;rw[VL hT hp]at tI;have h1:ZI (Zg 8) (Za 0) (Z (.pl (sx p.1))::r)=Z (.int p.2):=by simp[h7,sE,hk,tI]
   have h2:Za 5 (Z (B.pl (sx p.1))::r)=Z (oI k):=by simp[h4]
   unfold tV sG;rw[h1,h2];cases k with
   |none=>show(match tK (.int p.2) .none with|some (.bool b)=>Z b|_=>Z_)=_;rw[JA (EL 1 _) (eM 1) (by decide) (by decide) (by simp)];rfl
   |some k =>
    show(match tK (.int p.2) (.int k)with|some (.bool b)=>Z b|_=>Z_)=_
    by_cases e:p.2=k
    .rw[e,Nr (EL 1 _) (by decide)]
     simp
    .rw[JA (EL 1 _) (EL 1 _) (by decide) (by decide) (by simpa using e)]
     simp[e]) (λp _ _=>by simp)
  exact this
 unfold Zt;rw[hw];dsimp only;rw[if_pos (by rw[Ad,Ad];show _<1000000;omega),hg];rfl
end
section
variable{w:Wk}(hv:Wk.V w){ap:AP}{wf:Wf}{L:z0}{t:Nat}{cs:z5}{cb:Cb}(u7:L.Nodup)(sA:BC L<=128)(xD:∀c∈L,Cr w.many c)(xl:∀c∈L,(wf c).length<1000)(ha:∀c∈L,∀y∈wf c,∀M,ap t cs [sX y,.dict (Zq (encM M))]=Z (oI (cb y M)))
include u7 sA xl ha
theorem lK{k:Int}{found:z0}{o6 o7:Option B}(h6:ZZ o6=Ab)(h7:ZZ o7=Ab)(hf:BC found<=128)(hM:BC M<50000):∃p6 p7,ZZ p6=Ab/\ZZ p7=Ab/\L0 ap [qW w,qR wf L,qP (sM t cs),Z (.ot (encM M)),qP (dI k),qO found,o6,o7] =Z (.nx [qW w,qR wf L,qP (sM t cs),Z (.ot (encM (Bm found k M))),qP (oI (BO (AN wf cb L (Bm found k M)))),qO (DZ (AN wf cb L (Bm found k M))),p6,p7]):=by
 obtain⟨p6,hp6,e1⟩:=Wi ap (Z (.pl w.d)) (Z (.pl (.dict (Zq (Zx wf L))))) (Z (.pl (sM t cs))) (Z (.pl (.list (found.map sx)))) o7 k found M o6 (by omega) h6;generalize hM':Bm found k M=M' at *;have hnx:=oj u7 sA xl ha M';have hT:zi (AN wf cb L M'):=dy u7;have hTl:(AN wf cb L M').length<100000:=by have:=VT (wf:=wf) (cb:=cb) (L:=L) (M:=M');omega
 generalize hO:AN wf cb L M'=T at *;refine⟨p6,qM T,hp6,rfl,?_⟩;unfold L0;refine AY (r':=[qW w,qR wf L,qP (sM t cs),Z (.ot (encM M')),qP (dI k),qL found,p6,o7]) ?_ ?_
 .unfold Ce NG AH
  have hfb:BC found<1000000:=by omega
  simp[hfb];exact e1
 .refine AY (r':=[qW w,qR wf L,qP (sM t cs),Z (.ot (encM M')),qP (dI k),qL found,p6,Z (.ot (encM T))]) ?_ ?_
  .have tN:Ry (Hn ap) (Zb (Za 1) (Zb (MY (Zg 3)) (Zb (Za 2) Zj))) [qW w,qR wf L,qP (sM t cs),Z (.ot (encM M')),qP (dI k),qL found,p6,o7]=Z (.ot (encM T)):=by
    unfold Ry;show(match Hn ap [.dict (Zq (Zx wf L)),.dict (Zq (encM M')),sM t cs]with|some kvs=>if kvs.all (λp=>Lb p.2)then Z (B.ot kvs)else Z_|none=>Z_)=_;rw[hnx];have uS:(encM T).all (λp=>Lb p.2)=Aa:=by unfold encM;rw[List.all_map];exact Ay.mpr λp _=>rfl
    dsimp only;rw[if_pos uS]
   unfold ZO;rw[tN];rfl
  .have a1:∀x4 x5:D,([Z (B.pl w.d),qR wf L,qP (sM t cs),Z (.ot (encM M')),qP x4,qP x5,p6,qM T]:HM.Env).all (λq=>!ZZ q)=Aa:=λx4 x5=>by
    simp only[BS,FW,hp6];rfl
   have a2:∀x4:D,∀x5:B,ZZ (Z x5)=Ab->([Z (B.pl w.d),qR wf L,qP (sM t cs),Z (.ot (encM M')),qP x4,Z x5,p6,Z_]:HM.Env).all (λq=>!ZZ q)=Aa:=λx4 x5 hx=>by simp only[BS,FW,hp6,hx];rfl
   have hv1:=kO hT hTl [qW w,qR wf L,qP (sM t cs),Z (.ot (encM M')),qP (dI k),qL found,p6,Z (.hd (Zq (encM T)))] rfl;have zD:ZN 4 (Fv (Zt (AM 7) ZD (ZI (Zg 8) (Za 0)))) [qW w,qR wf L,qP (sM t cs),Z (.ot (encM M')),qP (dI k),qL found,p6,Z (.hd (Zq (encM T)))]=Z (.nx [qW w,qR wf L,qP (sM t cs),Z (.ot (encM M')),qP (oI (BO T)),qL found,p6,Z (.hd (Zq (encM T)))]):=by
    have:Fv (Zt (AM 7) ZD (ZI (Zg 8) (Za 0))) [qW w,qR wf L,qP (sM t cs),Z (.ot (encM M')),qP (dI k),qL found,p6,Z (.hd (Zq (encM T)))]=Z (oI (BO T)):=by unfold Fv;rw[hv1];show(match Cg ((T.map (·.2)).map dI)with|some ns=>Z (match ns.min? with|some i=>BK i|none=>.none)|none=>Z_)=_;rw[FG];show Z (match(T.map (·.2)).min? with|some i=>BK i|none=>.none)=_;unfold BO;cases(T.map (·.2)).min?<;>rfl
    unfold ZN;rw[this];rfl
   refine AY (r':=[qW w,qR wf L,qP (sM t cs),Z (.ot (encM M')),qP (oI (BO T)),qL found,p6,qM T]) ?_ ?_
   .show(if([Z (B.pl w.d),qR wf L,qP (sM t cs),Z (.ot (encM M')),qP (dI k),qL found,p6,qM T]:HM.Env).all (λq=>!ZZ q)=Aa then _ else _)=_
    rw[if_pos (a1 _ _)];show(match ZN 4 _ [qW w,qR wf L,qP (sM t cs),Z (.ot (encM M')),qP (dI k),qL found,p6,Z (.hd (Zq (encM T)))]with|some (.nx r')=>_|some (.rt d)=>_|_=>Z_)=_;rw[zD];show(if([Z (B.pl w.d),qR wf L,qP (sM t cs),Z (.ot (encM M')),qP (oI (BO T)),qL found,p6,Z_]:HM.Env).all (λq=>!ZZ q)=Aa then _ else _)=_;rw[if_pos (a2 _ _ rfl)];rfl
   .have hk1:=jt hT hTl (k:=BO T) [qW w,qR wf L,qP (sM t cs),Z (.ot (encM M')),qP (oI (BO T)),qL found,p6,Z (.hd (Zq (encM T)))] rfl rfl
    have u9:ZO 5 (Zt (AM 7) (tV (sG tK (ZI (Zg 8) (Za 0)) (Za 5))) (Za 0)) [qW w,qR wf L,qP (sM t cs),Z (.ot (encM M')),qP (oI (BO T)),qL found,p6,Z (.hd (Zq (encM T)))]=Z (.nx [qW w,qR wf L,qP (sM t cs),Z (.ot (encM M')),qP (oI (BO T)),qO (DZ T),p6,Z (.hd (Zq (encM T)))]):=by unfold ZO;rw[hk1];rfl
    show(if([Z (B.pl w.d),qR wf L,qP (sM t cs),Z (.ot (encM M')),qP (oI (BO T)),qL found,p6,qM T]:HM.Env).all (λq=>!ZZ q)=Aa then _ else _)=_;rw[if_pos (a1 _ _)];show(match ZO 5 _ [qW w,qR wf L,qP (sM t cs),Z (.ot (encM M')),qP (oI (BO T)),qL found,p6,Z (.hd (Zq (encM T)))]with|some (.nx r')=>_|some (.rt d)=>_|_=>Z_)=_;rw[u9];show(if([Z (B.pl w.d),qR wf L,qP (sM t cs),Z (.ot (encM M')),qP (oI (BO T)),qO (DZ T),p6,Z_]:HM.Env).all (λq=>!ZZ q)=Aa then _ else _)=_;rw[if_pos (a2 _ _ rfl)];rfl
omit u7 sA xl ha in
theorem Ww{c:zZ}(h:c∈DZ (AN wf cb L M)):c∈L/\ZF M c=Ab:=by obtain⟨⟨c',k⟩,h1,rfl⟩:=Al.mp h;have:=gX.mp (AO.mp h1).1;exact⟨this.1,this.2.1⟩
omit u7 sA xl ha in
theorem jB(h:DZ T≠[]):∃k,BO T=Z k:=by
 cases hq:BO T with
 |some k=>exact⟨k,rfl⟩
 |none=>refine absurd ?_ h;unfold BO at hq;rw[KD]at hq;have:=List.map_eq_nil_iff.mp hq;subst this;rfl
theorem YI:∀(sI n:Nat) (M:Tb) (k:Option Int) (found:z0) (o6 o7:Option B),ZZ o6=Ab->ZZ o7=Ab->(∀c∈found,c∈L/\ZF M c=Ab)->found.length<=128->M.length<=128*n->n<=(L.filter λc=>ZF M c).length->130<=n+sI->(found≠[]->∃i,k=Z i) ->∃R p4 p5 p6 p7,Z9 (tV (sG vm (Z5 (Zg 5)) (eC (.int 0)))) (L0 ap) sI [qW w,qR wf L,qP (sM t cs),Z (.ot (encM M)),qP (oI k),qO found,o6,o7]=Z (.nx [qW w,qR wf L,qP (sM t cs),Z (.ot (encM R)),p4,p5,p6,p7])/\GQ wf cb L M k found R
 |0,n,M,k,found,o6,o7,_,_,_,_,_,ht,hfu,_=>by have:=Hx (λc=>ZF M c) L;omega
 |sI+1,n,M,k,found,o6,o7,h6,h7,hfo,uS,hM,ht,hfu,hks=>by
  have htl:=Hx (λc=>ZF M c) L
  by_cases hf:found=[]
  .subst hf
   refine⟨M,qP (oI k),Z (.ol []),o6,o7,?_,.done⟩;unfold Z9;have e:(tV (sG vm (Z5 (Zg 5)) (eC (.int 0)))) [qW w,qR wf L,qP (sM t cs),Z (.ot (encM M)),qP (oI k),qO ([]:z0),o6,o7]=Z Ab:=by simp
   rw[e];rfl
  .obtain⟨i,rfl⟩:=hks hf
   have e:(tV (sG vm (Z5 (Zg 5)) (eC (.int 0)))) [qW w,qR wf L,qP (sM t cs),Z (.ot (encM M)),qP (oI (Z i)),qO found,o6,o7]=Z Aa:=by have:0<BC found:=T9.mpr hf;simp;omega
   obtain⟨p6,p7,g6,g7,ht1⟩:=lK u7 sA xl ha (w:=w) (M:=M) (k:=i) (found:=found) h6 h7 uS (by omega);have hml:(Bm found i M).length<=BC M+BC found:=Xu i found M;have tI:∀k,Zk (Bm found i M) k=if k∈found then Z i else Zk M k:=λk=>NN i k found M
   have hcnt:(L.filter λc=>ZF M c).length<(L.filter λc=>ZF (Bm found i M) c).length:=by
    refine ag (λx _ hx=>?_) ?_
    .unfold ZF at hx ⊢
     rw[tI];split
     .rfl
     .exact hx
    .obtain⟨c,cs,rfl⟩:=List.exists_cons_of_ne_nil hf
     refine⟨c,(hfo c (An ..)).1,?_,(hfo c (An ..)).2⟩;unfold ZF;rw[tI,if_pos (An ..)];rfl
   have xB:(DZ (AN wf cb L (Bm found i M))).length<=128:=by
    have h1:(DZ (AN wf cb L (Bm found i M))).length<=(AN wf cb L (Bm found i M)).length:=by unfold DZ;rw[Ad];exact Hx ..
    have h2:=VT (wf:=wf) (cb:=cb) (L:=L) (M:=Bm found i M);omega
   obtain⟨R,q4,q5,q6,q7,g,J⟩:=YI sI (n+1) (Bm found i M) (BO (AN wf cb L (Bm found i M))) (DZ (AN wf cb L (Bm found i M))) p6 p7 g6 g7 (λc hc=>Ww hc) xB (by omega) (by omega) (by omega) jB;refine⟨R,q4,q5,q6,q7,?_,.step hf J⟩;unfold Z9;rw[e];dsimp only;show(match L0 ap [qW w,qR wf L,qP (sM t cs),Z (.ot (encM M)),qP (dI i),qO found,o6,o7]with|some (.nx r')=>_|some (.ct r')=>_|some (.bk r')=>_|some (.rt d)=>_|none=>_)=_;rw[ht1];exact g
include hv xD
theorem ma:∃R,Es ap [w.d,.dict (Zq (Zx wf L)),sM t cs]=Z (.dict (Zq (encM R)))/\GQ wf cb L [] (Z 0) (L.filter λc=>ZH w c) R:=by
 have hlb:BC L<1000000:=by omega
 have uS:(L.filter λc=>ZH w c).length<=128:=Bp (Hx _ _) sA;obtain⟨R,p4,p5,p6,p7,g,J⟩:=YI u7 sA xl ha (w:=w) 100000 0 [] (Z 0) (L.filter λc=>ZH w c) Z_ Z_ rfl rfl (λc hc=>⟨(AO.mp hc).1,rfl⟩) uS (by simp) (BQ _) (by omega) λ_=>⟨0,rfl⟩;refine⟨R,?_,J⟩;have hw:AM 1 [qW w,Z (.hd (Zq (Zx wf L))),qP (sM t cs),Z (.ot (encM [])),qP (dI 0),Z_,Z_,Z_]=Z (L.map sx):=by show(Cv (Zq (Zx wf L))).map _=_;rw[sE,<-Rw wf L];rfl
 have uA:∀r:HM.Env,r[0]?=Z (Z (.pl w.d))->Z3 (tV (Zi Hj (Zb (Za 1) (Zb (Za 0) Zj)))) (Za 0) r (L.map sx)=Z ((L.filter λc=>ZH w c).map sx):=λr r0=>by
  rw[Cj sx (λc=>ZH w c) sx]
  .intro c hc
   have:=lY (w:=w) (c:=c) (by have:=(xD c hc).len;have:=hv.m2;omega);simp[r0,this]
  .intro c _ _
   simp
 have hc:Zt (AM 1) (tV (Zi Hj (Zb (Za 1) (Zb (Za 0) Zj)))) (Za 0) [qW w,Z (.hd (Zq (Zx wf L))),qP (sM t cs),Z (.ot (encM [])),qP (dI 0),Z_,Z_,Z_]=Z (.ol ((L.filter λc=>ZH w c).map sx)):=by unfold Zt;rw[hw];dsimp only;rw[if_pos (by rw[Ad];exact hlb),uA _ rfl];rfl
 have hh:C4 1 (ZO 5 (Zt (AM 1) (tV (Zi Hj (Zb (Za 1) (Zb (Za 0) Zj)))) (Za 0))) [qW w,qR wf L,qP (sM t cs),Z (.ot (encM [])),qP (dI 0),Z_,Z_,Z_]=Z (.nx [qW w,qR wf L,qP (sM t cs),Z (.ot (encM [])),qP (dI 0),qO (L.filter λc=>ZH w c),Z_,Z_]):=by show(match ZO 5 _ [qW w,Z (.hd (Zq (Zx wf L))),qP (sM t cs),Z (.ot (encM [])),qP (dI 0),Z_,Z_,Z_]with|some (.nx r')=>_|some (.rt d)=>_|_=>Z_)=_;unfold ZO;rw[hc];rfl
 show Bs (Oy ap [qW w,qR wf L,qP (sM t cs),Z_,Z_,Z_,Z_,Z_])=_;have e:Oy ap [qW w,qR wf L,qP (sM t cs),Z_,Z_,Z_,Z_,Z_]=Z (.rt (.dict (Zq (encM R)))):=by unfold Oy;refine AY (r':=[qW w,qR wf L,qP (sM t cs),Z (.ot (encM [])),Z_,Z_,Z_,Z_]) rfl ?_;refine AY (r':=[qW w,qR wf L,qP (sM t cs),Z (.ot (encM [])),qP (dI 0),Z_,Z_,Z_]) rfl ?_;refine AY hh ?_;refine AY g ?_;simp
 rw[e];rfl
end
end
end HG5
namespace HG5
open PySem HM HG
end HG5
namespace HG5
open PySem HM HG HG4
section
variable{b:zZ}
inductive HQ(w:Wk)(ls b:zZ):zZ->Prop where
 |beg {p:zZ} (h:p∈Ze w ls b):HQ w ls b p
 |step {c p:zZ} {d:Nat} (r:HQ w ls b c) (hd:d<w.deeds.length) (hc:AX w c d=Aa) (h:p∈Ze w ls (ZW w c d)):HQ w ls b p
def KG(w:Wk)(ls c:zZ)(d:Int):Wy:=(dI d,ZS w ls (ZW w c d))
def vp(w:Wk)(ls:zZ):Wf:=λc=>(we w c).map (KG w ls c)
abbrev EE(w:Wk)(ls:zZ)(L:z0):List (List Ky×D):=Zx (vp w ls) L
theorem jD(w:Wk)(ls c:zZ):MW w ls c=.list ((vp w ls c).map sX):=by unfold MW vp;rw[Aq];rfl
abbrev OkC(w:Wk)(c:zZ):Prop:=Cr w.many c/\c≠[]
abbrev ApO(ap:AP):Prop:=∀cs ds,ap 1 cs ds=Ib 1 2 (Zi EX (Zb (Za 1) (Zb (Za 2) (Zb (Za 0) Zj)))) cs ds
section
variable{w:Wk}(hv:Wk.V w)(h7:w.many<=7){ls:zZ}(hl:Cr w.looks.length ls)
include hv h7
theorem Qe:KL (vp w ls) (OkC w):=by
 refine⟨λc hc y hy p hp=>?_,λc hc=>?_,λc hc y hy=>?_,λC hn hC=>?_⟩
 .obtain⟨d,hd,rfl⟩:=Al.mp hy
  obtain⟨d0,d1,_⟩:=Ir hd;have:=G5 (Ie hv hc.1 d0 d1) (show p∈Ze w ls (ZW w c d) from hp);exact⟨this.1,this.2.1⟩
 .unfold vp
  rw[Ad];have:=Vy w c;have:=hv.d2;omega
 .obtain⟨d,hd,rfl⟩:=Al.mp hy
  obtain⟨d0,d1,_⟩:=Ir hd;have:=split_len (w:=w) (ls:=ls) (c:=ZW w c d);have:=(Ie hv hc.1 d0 d1).len;show(ZS w ls (ZW w c d)).length<=8;omega
 .have h1:=N3 hn λc hc=>(hC c hc).1
  have h2:2 ^ w.many<=2 ^ 7:=PD (by decide) h7;have h3:2 ^ 7=128:=rfl;omega
omit hv h7 in
theorem cX{c:zZ}(r:HI (vp w ls) (Ze w ls b) c):HQ w ls b c:=by
 induction r with
 |beg h=>exact .beg h
 | @step c p y _ hy hp ih=>obtain⟨d,hd,rfl⟩:=Al.mp hy;obtain⟨d0,d1,d2⟩:=Ir hd;have e:((d.toNat:Nat):Int)=d:=Kq d0;exact .step (d:=d.toNat) ih (by omega) (by rw[e];exact d2) (by rw[e];exact hp)
include hl
theorem oF{ap:AP}(A:ApO ap)(hb:Cr w.many b):∃L,JX ap [w.d,sx ls,sx b]=Z (.dict (Zq (EE w ls L)))/\L.Nodup/\L.length<=128/\(∀c∈L,Cr w.many c/\c≠[])/\(∀c∈L,HQ w ls b c)/\EN w ls L/\∀p∈Ze w ls b,p∈L:=by
 have hp:=Rr hv hl hb;have yZ:=split_len (w:=w) (ls:=ls) (c:=b);have yC:=hb.len;have xE:=L8 (ZS w ls b) (by omega);have hpl:(Ze w ls b).length<=100:=by unfold Ze;rw[Ad];omega
 have O:=Qe hv h7 (ls:=ls);have ha:∀c,OkC w c->ap 1 [w.d,sx ls] [sx c]=Z (.list ((vp w ls c).map sX)):=λc hc=>by rw[A,<-jD];unfold Ib;rw[if_pos ⟨rfl,rfl,by rw[BS,Gk 19];rfl⟩];exact mY hv hl hc.1
 obtain⟨L,e,J⟩:=Yi O ha (B:=Ze w ls b) (λc h=>⟨(G5 hb h).1,(G5 hb h).2.1⟩) hpl;refine⟨L,?_,J.nd,O.cs L J.nd J.cr,J.cr,λc hc=>cX (J.rc c hc),λc hc d hd uN p hp=>?_,λp hp=>?_⟩
 .show Bs (S3 ap [qW w,qT ls,qT b])=_
  have h1:Zi ZB (Zb (Zi Df (Zb (Za 0) (Zb (Za 1) (Zb (Za 2) Zj)))) Zj) [qW w,qT ls,qT b]=Z (.list ((Ze w ls b).map sx)):=by unfold Zi Zb;show(match(match Df [w.d,sx ls,sx b]with|some x=>(Zj _).map (x::·)|none=>Z_)with|some ds=>ZB ds|none=>Z_)=_;rw[hp];exact xE
  have hn1:[w.d,sx ls].all (uh 20)=Aa:=by rw[BS,BS,bW,Gk 19];rfl
  have hn2:uh 20 (.dict (Zq (EE w ls L)))=Aa:=Qa (n:=14) λc _ y hy=>by obtain⟨d,_,rfl⟩:=Al.mp hy;exact Nf _ _
  unfold S3 ZG LR;rw[h1];show Bs (Mj vz.rt (if[w.d,sx ls].all (uh 20)=Aa then(match FR ap [.list ((Ze w ls b).map sx),sM 1 [w.d,sx ls]]with|some d=>if uh 20 d=Aa then Z d else Z_|none=>Z_)else Z_))=_;rw[if_pos hn1,e];dsimp only;rw[if_pos hn2];rfl
 .rcases J.cl c hc (KG w ls c d) (Al.mpr ⟨(d:Int),QD hd uN,rfl⟩) p hp with h|h
  .exact h
  .simp at h
 .rcases J.bg p hp with h|h
  .exact h
  .simp at h
end
end
end HG5
namespace HG6
open PySem HM
open HG
open HG5
def Sk(ap:AP):SF :=
 (Zr (ZN 3 (Zi (Gv ap) (Zb (Za 0) (Zb (Za 1) (Zb (Za 2) Zj)))))
  (ZG (sS (Zt (Zy (sD (Za 0))) (tV (sG tK (Fw ap 3 (Zb (Za 0) (Zb (Za 2) Zj))) (Za 4))) (Za 0)) (eC (.int 0)))))
def JT(ap:AP):z5->Option D:=fnOf 3 4 (Sk ap)
end HG6
namespace HG6
open PySem HM HG4
open HG
open HG5
theorem JE(M:Tb)(c:zZ):ZF M c=Aa↔c∈M.map (·.1):=by
 unfold ZF
 induction M with
 |nil=>exact⟨λh=>(by cases h),λh=>(by simp at h)⟩
 |cons p M ih =>
  obtain⟨a,b⟩:=p;rw[FL,Ai,As]
  by_cases h:a=c
  .rw[if_pos h]
   exact⟨λ_=>.inl h.symm,λ_=>rfl⟩
  .rw[if_neg h,ih]
   exact⟨.inr,λz=>z.elim (λe=>absurd e.symm h) id⟩
theorem gT{M:Tb}{c:zZ}{v:Int}(h:c∉M.map (·.1)):tj M c v=M++[(c,v)]:=by unfold tj;rw[if_neg];intro z;obtain⟨p,hp,e⟩:=AJ.mp z;exact h (Al.mpr ⟨p,hp,of_decide_eq_true e⟩)
theorem Wm(t:Int):∀(ms:z0) (M:Tb),ms.Nodup->(∀c∈ms,c∉M.map (·.1))->ms.foldl (λM c=>tj M c t) M=M++ms.map λc=>(c,t)
 |[],M,_,_=>by simp
 |c::ms,M,hn,h=>by
  obtain⟨n1,n2⟩:=CC.mp hn;rw[DX,gT (h c (An ..)),Wm t ms _ n2 λx hx z=>?_]
  .simp
  .rw[BB]at z
   rcases Bb.mp z with z|z
   .exact h x (Ao _ hx) z
   .have e:x=c:=by simpa using z
    exact n1 (e▸hx)
theorem l5{ap:AP}{t:Nat}{cs:z5}{cb:Cb}{ys:List Wy}{M:Tb}(hy:BC ys<1000)(ha:∀y∈ys,ap t cs [sX y,.dict (Zq (encM M))]=Z (oI (cb y M))){k:Int}(hk:Ci cb ys M=Z k){y:Wy}(hf:ys.find? (λy=>cb y M==Z k)=Z y):JT ap [.list (ys.map sX),.dict (Zq (encM M)),sM t cs]=Z (sX y):=by
 have h1:=Y8 (t:=t) (cs:=cs) hy ha;rw[hk]at h1;have hb:BC ys<big:=by show _<1000000;omega
 show Bs (Sk ap [qP (.list (ys.map sX)),qM M,qP (sM t cs),Z_])=_;unfold Sk;refine A8 (r':=[qP (.list (ys.map sX)),qM M,qP (sM t cs),qP (.int k)]) ?_ ?_
 .have:Zi (Gv ap) (Zb (Za 0) (Zb (Za 1) (Zb (Za 2) Zj))) [qP (.list (ys.map sX)),qM M,qP (sM t cs),Z_]=Z (.int k):=h1
  unfold ZN;rw[this];rfl
 .have e1:Z3 (tV (sG tK (Fw ap 3 (Zb (Za 0) (Zb (Za 2) Zj))) (Za 4))) (Za 0) [qP (.list (ys.map sX)),qM M,qP (sM t cs),qP (.int k)] (ys.map sX)=Z ((ys.filter λy=>cb y M==Z k).map sX):=by
   rw[Cj sX (λy=>cb y M==Z k) sX]
   .intro y h
    have hc:Fw ap 3 (Zb (Za 0) (Zb (Za 2) Zj)) (Z (.pl (sX y))::[qP (.list (ys.map sX)),qM M,qP (sM t cs),qP (.int k)])=Z (oI (cb y M)):=by show(match K0 (sM t cs)with|some (t,cs)=>_|none=>Z_)=_;rw[QJ];exact ha y h
    unfold tV sG;rw[hc];show(match tK (oI (cb y M)) (.int k)with|some (.bool b)=>Z b|_=>Z_)=_;cases hq:cb y M with
    |none=>rfl
    |some m =>
     show(match tK (.int m) (.int k)with|some (.bool b)=>Z b|_=>Z_)=_
     by_cases e:m=k
     .subst e
      rw[Nr (EL 1 _) (by decide)];simp
     .rw[JA (EL 1 _) (EL 1 _) (by decide) (by decide) (λz=>e (by injection z))]
      simp[e]
   .intro y _ _
    rfl
  have e2:Zt (Zy (sD (Za 0))) (tV (sG tK (Fw ap 3 (Zb (Za 0) (Zb (Za 2) Zj))) (Za 4))) (Za 0) [qP (.list (ys.map sX)),qM M,qP (sM t cs),qP (.int k)]=Z (.ol ((ys.filter λy=>cb y M==Z k).map sX)):=by unfold Zt;show(if(ys.map sX).length<big then _ else Z_)=_;rw[if_pos (by rw[Ad];exact hb),e1];rfl
  rw[List.find?_eq_some_iff_append]at hf;obtain⟨hyk,as,bs,rfl,u6⟩:=hf;have uS:((as++y::bs).filter λy=>cb y M==Z k)=y::bs.filter λy=>cb y M==Z k:=by rw[List.filter_append,T3.mpr (λx hx=>by have:=u6 x hx;simpa using this),GH,HC,if_pos hyk]
  rw[uS]at e2;have e3:sS (Zt (Zy (sD (Za 0))) (tV (sG tK (Fw ap 3 (Zb (Za 0) (Zb (Za 2) Zj))) (Za 4))) (Za 0)) (eC (.int 0)) [qP (.list ((as++y::bs).map sX)),qM M,qP (sM t cs),qP (.int k)]=Z (sX y):=by unfold sS;rw[e2];exact ER (ds:=sX y::(bs.filter λy=>cb y M==Z k).map sX) (j:=0) rfl
  unfold ZG;rw[e3];rfl
end HG6
namespace HG20
open PySem HM
open HG
open HG4
open HG5
open HG6
def pg:SF :=
 (ZG (Zi ZB (Zb (Zi Df (Zb (Za 0) (Zb (Za 1) (Zb (Zi ET (Zb (Za 0) Zj)) Zj)))) Zj)))
def Mi:z5->Option D:=fnOf 2 2 pg
def Tf:SF :=
 (Zr (ZN 2 (Fv (Zt (Zy (sD (Zi ZB (Zb (sS (Zg 0) (eC (.int 1))) Zj)))) (tV (Ct (Za 0) (Zg 2))) (ZI (Zg 2) (Za 0)))))
  (ZG (wG (tV (sG EI (Za 2) (eC .none))) (eC .none) (sG Bu (Za 2) (eC (.int 1))))))
def EW:z5->Option D:=fnOf 2 3 Tf
def Kh:SF :=
 (GU 2 (Za 3) (tS (Zt (Zy (sD (ZI (Zg 0) (Za 3)))) (tV (Cu (Zt (Zy (sD (Zi ZB (Zb (sS (Zg 0) (eC (.int 1))) Zj)))) ZD (Ct (Za 0) (Zg 3))))) (Za 0))))
def OC:SF :=
 (Zr (ZO 2 zf)
  (Zr (C4 1 (AH 3 (AM 1) Kh))
  (Ce 2 (ZG (Za 2)))))
def Md:z5->Option D:=fnOf 2 4 OC
def OM(ap:AP):SF :=
 (Zr (ZN 2 (Zi Md (Zb (Za 2) (Zb (Za 3) Zj))))
  (ZN 3 (Zi (Es ap) (Zb (Za 0) (Zb (Za 2) (Zb (eC (sM 3 [])) Zj))))))
def Te(ap:AP):SF :=
 (Zr (ZN 2 (Za 1))
  (Zr (ZN 3 (Zi (Es ap) (Zb (Za 0) (Zb (Za 2) (Zb (eC (sM 3 [])) Zj)))))
  (Zr (JC 100000 (tV (sG vt (DK (Zg 3)) (DK (Zg 2)))) (OM ap))
  (ZG (Za 2)))))
def Mb(ap:AP):z5->Option D:=fnOf 2 4 (Te ap)
def OJ(ap:AP):SF :=
 (ZG (wG (tV (sG tK (ZI (Zg 1) (Za 2)) (eC (.int 0)))) (tS (C3 Zj)) (tS (C3 (Zb (Zi (JT ap) (Zb (ZI (Zg 0) (Za 2)) (Zb (Za 1) (Zb (eC (sM 3 [])) Zj)))) Zj)))))
def Hl(ap:AP):z5->Option D:=fnOf 3 3 (OJ ap)
def Td(ap:AP):SF :=
 (Zr (Vx (Zi LJ (Zb (Za 0) Zj)))
  (Zr (Vx (Zi Mc (Zb (Za 0) (Zb (Za 1) Zj))))
  (Zr (ZN 2 (Zi (Mb ap) (Zb (Za 0) (Zb (Zi (JX ap) (Zb (Za 0) (Zb (Za 1) (Zb (Zi ET (Zb (Za 0) Zj)) Zj)))) Zj))))
  (Zr (ZN 3 (Zi Mi (Zb (Za 0) (Zb (Za 1) Zj))))
  (Zr (tw (BX (tV (Cu (Zt (Zy (sD (Za 3))) ZD (Ct (Za 0) (Zg 3)))))) (ZG (eC .none)) AL)
  (Zr (ZN 4 (Zi (Es ap) (Zb (Za 0) (Zb (Za 2) (Zb (eC (sM 3 [])) Zj)))))
  (Zr (ZN 5 (LR (FR ap) 4 [2,4] (Za 3)))
  (ZG (tS (Zt (Zy (sD (tS (FP (Zg 5))))) ZD (D2 (Zb (Za 0) (Zb (wG (tV (sG vm (Z5 (sD (ZI (Zg 6) (Za 0)))) (eC (.int 0)))) (sS (sD (sS (sD (ZI (Zg 6) (Za 0))) (eC (.int 0)))) (eC (.int 0))) (eC .none)) Zj)))))))))))))
def IS(ap:AP):z5->Option D:=fnOf 2 6 (Td ap)
end HG20
namespace HG20
open PySem HM
open HG
open HG4
open HG5
variable{c:zZ}{n:Nat}{P:Nat->Bool}{M R:Tb}{wf:Wf}
def Lk(w:Wk)(wf:Wf):Nat->zZ->Bool
 |0,c=>ZH w c
 |n+1,c=>ZH w c||(wf c).any λy=>(sZ y).any (Lk w wf n)
theorem Wd{w:Wk}{wf:Wf}:∀(n:Nat) (c:zZ),Lk w wf n c=Aa->Lk w wf (n+1) c=Aa
 |0,c,h=>by show(ZH w c||_)=Aa;rw[show ZH w c=Aa from h];rfl
 |n+1,c,h=>by
  have h:(ZH w c||(wf c).any λy=>(sZ y).any (Lk w wf n))=Aa:=h;show(ZH w c||(wf c).any λy=>(sZ y).any (Lk w wf (n+1)))=Aa;rw[Ew]at h ⊢;rcases h with h|h
  .exact .inl h
  .right
   obtain⟨y,hy,h⟩:=AJ.mp h;obtain⟨p,hp,h⟩:=AJ.mp h;exact AJ.mpr ⟨y,hy,AJ.mpr ⟨p,hp,Wd n p h⟩⟩
theorem HS{w:Wk}{m:Nat}(h:n<=m)(q:Lk w wf n c=Aa):Lk w wf m c=Aa:=by
 induction h with
 |refl=>exact q
 |step _ ih=>exact Wd _ _ ih
theorem MZ{w:Wk}{p:zZ}{y:Wy}(hy:y∈wf c)(hp:p∈sZ y)(h:Lk w wf n p=Aa):Lk w wf (n+1) c=Aa:=by show(ZH w c||(wf c).any λy=>(sZ y).any (Lk w wf n))=Aa;rw[Ew];exact .inr (AJ.mpr ⟨y,hy,AJ.mpr ⟨p,hp,h⟩⟩)
def um:Cb:=λy M=>((sZ y).filterMap λp=>Zk M p).min?.map (·+1)
def EJ(P:Nat->Bool)(t:Nat):Option Int:=((Ah (t+1)).find? P).map λ(n:Nat)=>(n:Int)
theorem lb(mono:∀n m,n<=m->P n=Aa->P m=Aa){t:Nat}:(EJ P t).isSome=P t:=by
 unfold EJ;rw[GL];cases h:P t with
 |true=>rw[O3];exact⟨t,AI.mpr (by omega),h⟩
 |false =>
  cases q:((Ah (t+1)).find? P)with
  |none=>rfl
  |some n=>have h1:=TU q;have h2:=AI.mp (Uk q);rw[mono n t (by omega) h1]at h;cases h
theorem lP{t:Nat}:EJ P (t+1)=match EJ P t with
  |some k=>Z k
  |none=>if P (t+1)then Z ((t+1:Nat):Int)else Z_:=by
 unfold EJ;rw[List.range_succ (n:=t+1),Tu];cases(Ah (t+1)).find? P with
 |some k=>rfl
 |none=>simp only[Di,List.find?_nil,Option.none_or,Option.map_none];cases P (t+1)<;>rfl
theorem Yn{t:Nat}{k:Int}(h:EJ P t=Z k):∃n:Nat,k=(n:Int)/\n<=t/\P n=Aa/\∀m,m<n->P m=Ab:=by unfold EJ at h;obtain⟨n,hn,rfl⟩:=Ak.mp h;have h1:=TU hn;have h2:=AI.mp (Uk hn);refine⟨n,rfl,by omega,h1,λm hm=>?_⟩;rw[bI]at hn;have:=hn.2.2 m hm;simpa using this
section
variable{w:Wk}{wf:Wf}{L:z0}
def Eh(w:Wk)(wf:Wf)(L:z0)(t:Nat)(M:Tb):Prop:=∀c,Zk M c=if c∈L then EJ (λn=>Lk w wf n c) t else Z_
theorem Eh.has{t:Nat}(T:Eh w wf L t M)(hc:c∈L):ZF M c=Lk w wf t c:=by unfold ZF;rw[T c,if_pos hc,lb λn m h q=>HS h q]
def Ik(wf:Wf)(L:z0):Prop:=∀c∈L,∀y∈wf c,∀p∈sZ y,p∈L
def D6(wf:Wf)(L:z0)(M:Tb):z0:=L.filter λc=>!ZF M c&&(wf c).any λy=>(sZ y).any (ZF M)
theorem XY:Eh w wf L 0 (Bm (L.filter λc=>ZH w c) 0 []):=by
 intro c;have hl:Zk (Bm (L.filter λc=>ZH w c) 0 []) c=if c∈L.filter λc=>ZH w c then Z 0 else Zk [] c:=NN 0 c _ []
 rw[hl];have e:EJ (λn=>Lk w wf n c) 0=if ZH w c then Z 0 else Z_:=by unfold EJ;show(List.find? _ [0]).map _=_;rw[Di];show(match ZH w c with|true=>Z 0|false=>List.find? _ []).map _=_;cases ZH w c<;>rfl
 rw[e]
 by_cases hc:c∈L
 .rw[if_pos hc]
  cases ht:ZH w c with
  |true=>rw[if_pos (AO.mpr ⟨hc,ht⟩)];rfl
  |false=>rw[if_neg (λz=>by rw[(AO.mp z).2]at ht;cases ht)];rfl
 .rw[if_neg hc,if_neg (λz=>hc (AO.mp z).1)]
  rfl
theorem jr(hL:Ik wf L){t:Nat}(T:Eh w wf L t M):Eh w wf L (t+1) (Bm (D6 wf L M) ((t+1:Nat):Int) M):=by
 intro c;have hl:Zk (Bm (D6 wf L M) ((t+1:Nat):Int) M) c=if c∈D6 wf L M then Z ((t+1:Nat):Int)else Zk M c:=NN _ c _ M
 rw[hl]
 by_cases hc:c∈L
 .rw[if_pos hc,lP,<-(show Zk M c=EJ (λn=>Lk w wf n c) t by rw[T c,if_pos hc])]
  have hh:=T.has hc;unfold ZF at hh;cases hq:Zk M c with
  |some k=>rw[if_neg];intro z;have:=(AO.mp z).2;rw[Bn]at this;unfold ZF at this;rw[hq]at this;cases this.1
  |none =>
   rw[hq]at hh;have hnt:Lk w wf t c=Ab:=hh.symm;have yY:ZH w c=Ab:=by
    cases q:ZH w c with
    |false=>rfl
    |true=>rw[HS (n:=0) (BQ t) q]at hnt;cases hnt
   have key:(c∈D6 wf L M)↔Lk w wf (t+1) c=Aa:=by
    show c∈L.filter _↔(ZH w c||(wf c).any λy=>(sZ y).any (Lk w wf t))=Aa;rw[AO,yY,Kv];have e1:(!ZF M c)=Aa:=by unfold ZF;rw[hq];rfl
    rw[e1,Kt];have e2:((wf c).any λy=>(sZ y).any (ZF M))=(wf c).any λy=>(sZ y).any (Lk w wf t):=by
     rw[GG,AJ,AJ]
     constructor
     .rintro ⟨y,hy,h⟩
      obtain⟨p,hp,h⟩:=AJ.mp h;exact⟨y,hy,AJ.mpr ⟨p,hp,by rw[<-T.has (hL c hc y hy p hp)];exact h⟩⟩
     .rintro ⟨y,hy,h⟩
      obtain⟨p,hp,h⟩:=AJ.mp h;exact⟨y,hy,AJ.mpr ⟨p,hp,by rw[T.has (hL c hc y hy p hp)];exact h⟩⟩
    rw[e2];exact⟨λh=>h.2,λh=>⟨hc,h⟩⟩
   by_cases hm:c∈D6 wf L M
   .rw[if_pos hm,if_pos (key.mp hm)]
   .rw[if_neg hm,if_neg (λz=>hm (key.mpr z))]
 .have hm:¬c∈D6 wf L M:=λz=>hc (AO.mp z).1
  rw[if_neg hc,if_neg hm,T c,if_neg hc]
theorem ib{t:Nat}(T:Eh w wf L t M)(hc:c∈L)(hn:ZF M c=Ab):Ci um (wf c) M=if((wf c).any λy=>(sZ y).any (ZF M))then Z ((t+1:Nat):Int)else Z_:=by
 have wV:∀y∈wf c,∀p∈sZ y,∀v,Zk M p=Z v->v=(t:Int):=λy hy p hp v hv=>by
  have e:=T p;rw[hv]at e;split at e
  .obtain⟨n,rfl,h1,h2,_⟩:=Yn e.symm
   rcases Nat.lt_or_ge n t with h|h
   .have:=HS (show n+1<=t by omega) (MZ hy hp h2)
    rw[<-T.has hc,hn]at this;cases this
   .omega
  .cases e
 have xp:∀y∈wf c,um y M=if(sZ y).any (ZF M)then Z ((t+1:Nat):Int)else Z_:=λy hy=>by
  unfold um;cases hq:((sZ y).filterMap λp=>Zk M p).min? with
  |none =>
   rw[KD]at hq;have:(sZ y).any (ZF M)=Ab:=by
    cases q:(sZ y).any (ZF M)with
    |false=>rfl
    |true=>obtain⟨p,hp,h⟩:=AJ.mp q;unfold ZF at h;obtain⟨v,hv⟩:=DB.mp h;have:v∈(sZ y).filterMap λp=>Zk M p:=CT.mpr ⟨p,hp,hv⟩;rw[hq]at this;simp at this
   rw[this];rfl
  |some m=>obtain⟨p,hp,hv⟩:=CT.mp (Hy.mp hq).1;have hm:=wV y hy p hp m hv;have:(sZ y).any (ZF M)=Aa:=AJ.mpr ⟨p,hp,by unfold ZF;rw[hv];rfl⟩;rw[this,if_pos rfl,hm];rfl
 unfold Ci;cases hq:((wf c).filterMap λy=>um y M).min? with
 |none =>
  rw[KD]at hq;have:((wf c).any λy=>(sZ y).any (ZF M))=Ab:=by
   cases q:((wf c).any λy=>(sZ y).any (ZF M))with
   |false=>rfl
   |true=>obtain⟨y,hy,h⟩:=AJ.mp q;have:((t+1:Nat):Int)∈(wf c).filterMap λy=>um y M:=CT.mpr ⟨y,hy,by rw[xp y hy,if_pos h]⟩;rw[hq]at this;simp at this
  rw[this];rfl
 |some m =>
  obtain⟨y,hy,hv⟩:=CT.mp (Hy.mp hq).1;rw[xp y hy]at hv;split at hv
  .rename_i h
   cases hv;rw[if_pos (AJ.mpr ⟨y,hy,h⟩)]
  .cases hv
theorem cI{t:Nat}(T:Eh w wf L t M):AN wf um L M=(D6 wf L M).map λc=>(c,((t+1:Nat):Int)):=by
 unfold AN D6;have key:∀K:z0,(∀c∈K,c∈L)->(K.filterMap λc=>if ZF M c then Z_ else(Ci um (wf c) M).map λk=>(c,k))=(K.filter λc=>!ZF M c&&(wf c).any λy=>(sZ y).any (ZF M)).map λc=>(c,((t+1:Nat):Int)):=by
  intro K
  induction K with
  |nil=>intro _;rfl
  |cons c K ih =>
   intro hK;have ih:=ih λx hx=>hK x (Ao _ hx);rw[GD,HC];cases hh:ZF M c with
   |true=>simpa using ih
   |false =>
    have vO:=ib T (hK c (An ..)) hh;rw[vO];cases hcan:((wf c).any λy=>(sZ y).any (ZF M))with
    |false=>simpa [hcan]using ih
    |true=>simpa [hcan]using ih
 exact key L λ_ h=>h
def DG(w:Wk)(wf:Wf)(L:z0)(M:Tb):Prop:=∃t,Eh w wf L t M/\D6 wf L M=[]
theorem jb(hL:Ik wf L){k:Option Int}{found:z0}(r:GQ wf um L M k found R):∀t:Nat,(found=[]->Eh w wf L t M/\D6 wf L M=[])->(found≠[]->k=Z (t:Int)/\Eh w wf L t (Bm found t M))->DG w wf L R:=by
 induction r with
 |done=>intro t h _;exact⟨t,h rfl⟩
 | @step M R k found hf _ ih =>
  intro t _ h;obtain⟨hk,T⟩:=h hf;cases hk;have ho:=cI T;have hmin:∀ms:z0,DZ (ms.map λc=>(c,((t+1:Nat):Int)))=ms/\(ms≠[]->BO (ms.map λc=>(c,((t+1:Nat):Int)))=Z ((t+1:Nat):Int)):=λms=>by
   cases ms with
   |nil=>exact⟨rfl,λz=>absurd rfl z⟩
   |cons c ms =>
    have hO:BO ((c::ms).map λc=>(c,((t+1:Nat):Int)))=Z ((t+1:Nat):Int):=by unfold BO;rw[Aq];refine Hy.mpr ⟨Al.mpr ⟨c,An ..,rfl⟩,λb hb=>?_⟩;obtain⟨c',_,rfl⟩:=Al.mp hb;exact Int.le_refl _
    refine⟨?_,λ_=>hO⟩;unfold DZ;rw[hO];have:∀xs:z0,((xs.map λc=>(c,((t+1:Nat):Int))).filter λp=>Z p.2==Z ((t+1:Nat):Int)).map (·.1)=xs:=by
     intro xs
     induction xs with
     |nil=>rfl
     |cons x xs ih=>simp at ih ⊢;exact ih
    exact this _
  obtain⟨m1,m2⟩:=hmin (D6 wf L (Bm found t M));rw[ho,m1]at ih;refine ih (if D6 wf L (Bm found t M)=[]then t else t+1) (λe=>?_) λe=>?_
  .rw[if_pos e]
   exact⟨T,e⟩
  .rw[if_neg e]
   exact⟨m2 e,jr hL T⟩
theorem kN(hL:Ik wf L)(r:GQ wf um L [] (Z 0) (L.filter λc=>ZH w c) R):DG w wf L R:=by refine jb hL r 0 (λe=>?_) λ_=>⟨rfl,XY⟩;have T:Eh w wf L 0 (Bm (L.filter λc=>ZH w c) 0 []):=XY;rw[e]at T;have T:Eh w wf L 0 []:=T;refine⟨T,T3.mpr λc hc h=>?_⟩;rw[Bn]at h;obtain⟨y,hy,hq⟩:=AJ.mp h.2;obtain⟨p,hp,hq⟩:=AJ.mp hq;cases hq
theorem DG.cost(F:DG w wf L M){k:Int}(h:Zk M c=Z k):c∈L/\∃n:Nat,k=(n:Int)/\Lk w wf n c=Aa/\∀m,m<n->Lk w wf m c=Ab:=by
 obtain⟨t,T,_⟩:=F;rw[T c]at h;split at h
 .rename_i hc
  obtain⟨n,h1,_,h2,h3⟩:=Yn h;exact⟨hc,n,h1,h2,h3⟩
 .cases h
theorem DG.all(hL:Ik wf L)(F:DG w wf L M):∀{c:zZ},c∈L->Lk w wf n c=Aa->ZF M c=Aa:=by
 obtain⟨t,T,hm⟩:=F
 induction n with
 |zero=>intro c hc h;rw[T.has hc];exact HS (BQ t) h
 |succ n ih =>
  intro c hc h;have h:(ZH w c||(wf c).any λy=>(sZ y).any (Lk w wf n))=Aa:=h;rw[Ew]at h;rcases h with h|h
  .rw[T.has hc];exact HS (n:=0) (BQ t) h
  .obtain⟨y,hy,h⟩:=AJ.mp h
   obtain⟨p,hp,h⟩:=AJ.mp h;have h1:=ih (hL c hc y hy p hp) h;cases hq:ZF M c with
   |true=>rfl
   |false=>have:c∈D6 wf L M:=AO.mpr ⟨hc,by rw[hq];exact(AJ.mpr ⟨y,hy,AJ.mpr ⟨p,hp,h1⟩⟩:((wf c).any λy=>(sZ y).any (ZF M))=Aa)⟩;rw[hm]at this;simp at this
end
end HG20
namespace HG20
open PySem HM
open HG
open HG4
open HG5
open HG6
section
variable{L:z0}{R:Tb}{wf:Wf}
theorem FH{I:IF}{c:TF}{e:EF}{r:HM.Env}{ds ys:z5}(hI:I r=Z ds)(hl:BC ds<1000000)(hg:Z3 c e r ds=Z ys):Zt I c e r=Z (.ol ys):=by unfold Zt;rw[hI];dsimp only;rw[if_pos (show ds.length<big from hl),hg];rfl
theorem lC(M:Tb)(ps:z0)(r:HM.Env)(i:Nat)(h:r[i]?=Z (Z (.pl (.dict (Zq (encM M)))))):Z3 (tV (Ct (Za 0) (Zg (i+1)))) (ZI (Zg (i+1)) (Za 0)) r (ps.map sx)=Z ((ps.filterMap λp=>Zk M p).map dI):=by
 rw[Cj sx (λp=>ZF M p) (λp=>dI ((Zk M p).getD 0))]
 .congr 1
  induction ps with
  |nil=>rfl
  |cons p ps ih =>
   rw[HC,GD];unfold ZF at ih ⊢;cases hq:Zk M p with
   |none=>simpa [hq]using ih
   |some k=>simp[hq];exact ih
 .intro p _
  have hk:Be (sx p)=Z (Z8 p):=B6 p;have tI:=IE M p;unfold ZF;cases hq:Zk M p with
  |none=>rw[hq]at tI;simp[h,sE,hk,tI]
  |some k=>rw[hq]at tI;simp[h,sE,hk,tI]
 .intro p _ hp
  have hk:Be (sx p)=Z (Z8 p):=B6 p;have tI:=IE M p;unfold ZF at hp;cases hq:Zk M p with
  |none=>rw[hq]at hp;cases hp
  |some k=>rw[hq]at tI;simp[h,sE,hk,tI]
theorem kU(M:Tb)(ps:z0)(hl:BC ps<1000)(r:HM.Env)(i:Nat)(h:r[i]?=Z (Z (.pl (.dict (Zq (encM M))))))(I:IF)(hI:I r=Z (ps.map sx)):Fv (Zt I (tV (Ct (Za 0) (Zg (i+1)))) (ZI (Zg (i+1)) (Za 0))) r=Z (oI ((ps.filterMap λp=>Zk M p).min?)):=by
 have e:Zt I (tV (Ct (Za 0) (Zg (i+1)))) (ZI (Zg (i+1)) (Za 0)) r=Z (.ol ((ps.filterMap λp=>Zk M p).map dI)):=by unfold Zt;rw[hI];dsimp only;rw[if_pos (by rw[Ad];show _<1000000;omega),lC M ps r i h];rfl
 unfold Fv;rw[e];show(match Cg ((ps.filterMap λp=>Zk M p).map dI)with|some ns=>Z (match ns.min? with|some i=>BK i|none=>.none)|none=>Z_)=_;rw[FG];dsimp only;cases(ps.filterMap λp=>Zk M p).min?<;>rfl
theorem aL{y:Wy}(hy:y.2.length<1000)(M:Tb):EW [sX y,.dict (Zq (encM M))]=Z (oI (um y M)):=by
 have xE:=L8 y.2 (by omega);have hI:Zy (sD (Zi ZB (Zb (sS (Zg 0) (eC (.int 1))) Zj))) [qP (sX y),qM M,Z_]=Z ((sZ y).map sx):=by have:Zi ZB (Zb (sS (Zg 0) (eC (.int 1))) Zj) [qP (sX y),qM M,Z_]=Z (.list ((sZ y).map sx)):=xE;unfold Zy sD;rw[this];rfl
 have hm:=kU M (sZ y) (by unfold sZ;rw[Ad];exact hy) [qP (sX y),qM M,Z_] 1 rfl _ hI;show Bs (Tf [qP (sX y),qM M,Z_])=_;unfold Tf um;refine A8 (r':=[qP (sX y),qM M,qP (oI (((sZ y).filterMap λp=>Zk M p).min?))]) ?_ ?_
 .unfold ZN
  rw[hm];rfl
 .cases((sZ y).filterMap λp=>Zk M p).min?<;>rfl
theorem WA(wf:Wf)(cb:Cb)(M:Tb):∀L:z0,((AN wf cb L M).map (·.1)).Sublist L
 |[]=>by unfold AN;simp
 |c::L=>by
  have ih:=WA wf cb M L;unfold AN at ih ⊢;rw[GD];cases hq:(if ZF M c then Z_ else(Ci cb (wf c) M).map λk=>(c,k))with
  |none=>exact ih.cons _
  |some p =>
   have:p.1=c:=by
    split at hq
    .cases hq
    .obtain⟨k,_,rfl⟩:=Ak.mp hq
     rfl
   show(GC (·.1) (p::_)).Sublist _;rw[Ai,this];exact ih.cons_cons _
theorem dU{cb:Cb}(u7:L.Nodup){M:Tb}{k:Option Int}{found:z0}(r:GQ wf cb L M k found R):(M.map (·.1)).Nodup->found.Nodup->(∀c∈found,c∉M.map (·.1))->(R.map (·.1)).Nodup:=by
 induction r with
 |done=>intro h _ _;exact h
 | @step M R k found hf _ ih =>
  intro h1 h2 h3;have e:Bm found k M=M++found.map λc=>(c,k):=Wm k found M h2 h3;refine ih ?_ ?_ λc hc z=>?_
  .rw[e,BB,Aq]
   have e2:found.map ((λx:zZ×Int=>x.1)∘λc=>(c,k))=found:=by have:((λx:zZ×Int=>x.1)∘λc=>(c,k))=id:=rfl;rw[this,List.map_id]
   rw[e2,Ee];exact⟨h1,h2,λa ha b hb e=>h3 b hb (e▸ha)⟩
  .unfold DZ
   exact(((List.filter_sublist ..).map _).trans (WA wf cb _ L)).nodup u7
  .have:=(Ww hc).2
   rw[(JE _ c).mpr z]at this;cases this
structure Rc(w:Wk)(wf:Wf)(L:z0):Prop where
 nd:L.Nodup
 len:BC L<=128
 cr:∀c∈L,Cr w.many c/\c≠[]
 ys:∀c∈L,(wf c).length<1000
 ps:∀c∈L,∀y∈wf c,y.2.length<1000
 cl:Ik wf L
theorem QU{ap:AP}(A3:∀ds,ap 3 [] ds=EW ds){w:Wk}(hv:Wk.V w)(J:Rc w wf L):∃R,Es ap [w.d,.dict (Zq (Zx wf L)),sM 3 []]=Z (.dict (Zq (encM R)))/\DG w wf L R/\(R.map (·.1)).Nodup:=by
 obtain⟨R,e,r⟩:=ma hv (ap:=ap) (wf:=wf) (t:=3) (cs:=[]) (cb:=um) J.nd J.len (λc hc=>(J.cr c hc).1) J.ys λc hc y hy M=>by rw[A3];exact aL (J.ps c hc y hy) M
 exact⟨R,e,kN J.cl r,dU J.nd r (by simp) (J.nd.filter _) (λc _ z=>by simp at z)⟩
theorem DG.keys{w:Wk}(F:DG w wf L R):∀c∈R.map (·.1),c∈L:=λc hc=>by have:=(JE R c).mpr hc;unfold ZF at this;obtain⟨k,hk⟩:=DB.mp this;exact(F.cost hk).1
def uz(wf:Wf)(R:Tb):Wf:=λc=>(wf c).filter λy=>(sZ y).all (ZF R)
theorem lH{c:zZ}(hc:c∈L)(hy:(wf c).length<1000)(hp:∀y∈wf c,y.2.length<1000)(o2:Option B):tS (Zt (Zy (sD (ZI (Zg 0) (Za 3)))) (tV (Cu (Zt (Zy (sD (Zi ZB (Zb (sS (Zg 0) (eC (.int 1))) Zj)))) ZD (Ct (Za 0) (Zg 3))))) (Za 0)) [qR wf L,Z (.hd (Zq (encM R))),o2,qT c]=Z (.list ((uz wf R c).map sX)):=by
 have hk:Be (sx c)=Z (Z8 c):=B6 c;have vH:=ID wf L c;rw[if_pos hc]at vH;have hI:Zy (sD (ZI (Zg 0) (Za 3))) [qR wf L,Z (.hd (Zq (encM R))),o2,qT c]=Z ((wf c).map sX):=by simp[sE,hk,vH]
 have hg:Z3 (tV (Cu (Zt (Zy (sD (Zi ZB (Zb (sS (Zg 0) (eC (.int 1))) Zj)))) ZD (Ct (Za 0) (Zg 3))))) (Za 0) [qR wf L,Z (.hd (Zq (encM R))),o2,qT c] ((wf c).map sX)=Z ((uz wf R c).map sX):=by
  unfold uz;rw[Cj sX (λy=>(sZ y).all (ZF R)) sX]
  .intro y hy'
   have hyl:=hp y hy';have xE:=L8 y.2 (by omega);have h1:Zy (sD (Zi ZB (Zb (sS (Zg 0) (eC (.int 1))) Zj))) (Z (.pl (sX y))::[qR wf L,Z (.hd (Zq (encM R))),o2,qT c])=Z ((sZ y).map sx):=by have:Zi ZB (Zb (sS (Zg 0) (eC (.int 1))) Zj) (Z (.pl (sX y))::[qR wf L,Z (.hd (Zq (encM R))),o2,qT c])=Z (.list ((sZ y).map sx)):=xE;unfold Zy sD;rw[this];rfl
   have h2:Z3 ZD (Ct (Za 0) (Zg 3)) (Z (.pl (sX y))::[qR wf L,Z (.hd (Zq (encM R))),o2,qT c]) ((sZ y).map sx)=Z ((sZ y).map λp=>Bq (ZF R p)):=by
    rw[CP sx (λp=>Bq (ZF R p))];intro p _;have hk:Be (sx p)=Z (Z8 p):=B6 p;have tI:=IE R p;unfold ZF;cases hq:Zk R p with
    |none=>rw[hq]at tI;simp[sE,hk,tI]
    |some k=>rw[hq]at tI;simp[sE,hk,tI]
   have h3:Zt (Zy (sD (Zi ZB (Zb (sS (Zg 0) (eC (.int 1))) Zj)))) ZD (Ct (Za 0) (Zg 3)) (Z (.pl (sX y))::[qR wf L,Z (.hd (Zq (encM R))),o2,qT c])=Z (.ol ((sZ y).map λp=>Bq (ZF R p))):=by unfold Zt;rw[h1];dsimp only;rw[if_pos (by unfold sZ;rw[Ad,Ad];show _<1000000;omega),h2];rfl
   have hb:∀ps:z0,D8 (ps.map λp=>Bq (ZF R p))=Z (ps.map (ZF R)):=by
    intro ps
    induction ps with
    |nil=>rfl
    |cons p ps ih=>show(D8 (ps.map λp=>Bq (ZF R p))).map _=_;rw[ih];rfl
   have h4:Cu (Zt (Zy (sD (Zi ZB (Zb (sS (Zg 0) (eC (.int 1))) Zj)))) ZD (Ct (Za 0) (Zg 3))) (Z (.pl (sX y))::[qR wf L,Z (.hd (Zq (encM R))),o2,qT c])=Z (.bool ((sZ y).all (ZF R))):=by unfold Cu;rw[h3];show(D8 ((sZ y).map λp=>Bq (ZF R p))).map _=_;rw[hb];simp
   unfold tV;rw[h4]
  .intro y _ _
   rfl
 have hf:=FH hI (by rw[Ad];omega) hg;unfold tS;rw[hf];rfl
theorem XX{wf:Wf}{L:z0}{R:Tb}(hc:∀c∈R.map (·.1),c∈L)(nd:(R.map (·.1)).Nodup)(hy:∀c∈L,(wf c).length<1000)(hp:∀c∈L,∀y∈wf c,y.2.length<1000):∀(post pre:z0) (q3:Option B),R.map (·.1)=pre++post->pre.length+BC post<1000000->ZZ q3=Ab ->∃p3,ZZ p3=Ab/\Z7 3 Kh (post.map sx) [qR wf L,Z (.hd (Zq (encM R))),Z (.ot (Zx (uz wf R) pre)),q3]=Z (.nx [qR wf L,Z (.hd (Zq (encM R))),Z (.ot (Zx (uz wf R) (pre++post))),p3])
 |[],pre,q3,_,_,h3=>⟨q3,h3,by rw[F6,Ba];rfl⟩
 |c::post,pre,q3,e,hl,h3=>by
  rw[Av]at hl;have hcm:c∈R.map (·.1):=by rw[e];exact Cc _ (An ..)
  have zb:=hc c hcm;have hnp:c∉pre:=λz=>by rw[e]at nd;exact(Ee.mp nd).2.2 c z c (An ..) rfl
  have hk:Be (sx c)=Z (Z8 c):=B6 c;have hv:=lH (R:=R) zb (hy c zb) (hp c zb) (Z (.ot (Zx (uz wf R) pre)));have za:(Zx (uz wf R) pre).length<1000000:=by unfold Zx;rw[Ad];omega
  have wY:=Wt (wf:=uz wf R) hnp;have body:Kh [qR wf L,Z (.hd (Zq (encM R))),Z (.ot (Zx (uz wf R) pre)),qT c]=Z (.nx [qR wf L,Z (.hd (Zq (encM R))),Z (.ot (Zx (uz wf R) (pre++[c]))),qT c]):=by unfold Kh;rw[<-wY];generalize tS (Zt (Zy (sD (ZI (Zg 0) (Za 3)))) (tV (Cu (Zt (Zy (sD (Zi ZB (Zb (sS (Zg 0) (eC (.int 1))) Zj)))) ZD (Ct (Za 0) (Zg 3))))) (Za 0))=E at hv ⊢;simp[hv,hk,za]
  obtain⟨r3,g3,ih⟩:=XX hc nd hy hp post (pre++[c]) (Z (.pl (sx c))) (by rw[e];simp) (by rw[AE,Hz];omega) rfl;refine⟨r3,g3,?_⟩;rw[show pre++c::post=(pre++[c])++post by simp,<-ih,Ai];exact Dp body rfl
theorem jP(hc:∀c∈R.map (·.1),c∈L)(nd:(R.map (·.1)).Nodup)(hy:∀c∈L,(wf c).length<1000)(hp:∀c∈L,∀y∈wf c,y.2.length<1000)(hML:BC R<1000000):Md [.dict (Zq (Zx wf L)),.dict (Zq (encM R))]=Z (.dict (Zq (Zx (uz wf R) (R.map (·.1))))):=by
 obtain⟨p3,g3,uA⟩:=XX hc nd hy hp (R.map (·.1)) [] Z_ rfl (by simp;exact hML) rfl;rw[GH]at uA;show Bs (OC [qR wf L,qM R,Z_,Z_])=_;have e:OC [qR wf L,qM R,Z_,Z_]=Z (.rt (.dict (Zq (Zx (uz wf R) (R.map (·.1)))))):=by
  unfold OC;refine AY (r':=[qR wf L,qM R,Z (.ot (Zx (uz wf R) [])),Z_]) rfl ?_;refine AY (r':=[qR wf L,qM R,Z (.ot (Zx (uz wf R) (R.map (·.1)))),p3]) ?_ (by simp);have hw:AM 1 [qR wf L,Z (.hd (Zq (encM R))),Z (.ot (Zx (uz wf R) [])),Z_]=Z ((R.map (·.1)).map sx):=by show(Cv (Zq (encM R))).map _=_;rw[sE,<-Rb R];rfl
  have hs:AH 3 (AM 1) Kh [qR wf L,Z (.hd (Zq (encM R))),Z (.ot (Zx (uz wf R) [])),Z_]=Z (.nx [qR wf L,Z (.hd (Zq (encM R))),Z (.ot (Zx (uz wf R) (R.map (·.1)))),p3]):=by unfold AH;rw[hw];dsimp only;rw[if_pos (by rw[Ad,Ad];exact hML)];exact uA
  have a2:([Z (B.pl (.dict (Zq (Zx wf L)))),Z_,Z (.ot (Zx (uz wf R) (R.map (·.1)))),p3]:HM.Env).all (λq=>!ZZ q)=Aa:=by simp only[BS,FW,g3];rfl
  show(match AH 3 (AM 1) Kh [qR wf L,Z (.hd (Zq (encM R))),Z (.ot (Zx (uz wf R) [])),Z_]with|some (.nx r')=>_|some (.rt d)=>_|_=>Z_)=_;rw[hs];show(if([Z (B.pl (.dict (Zq (Zx wf L)))),Z_,Z (.ot (Zx (uz wf R) (R.map (·.1)))),p3]:HM.Env).all (λq=>!ZZ q)=Aa then _ else _)=_;rw[if_pos a2];rfl
 rw[e];rfl
end
section
variable{S:z0}{c:zZ}{R:Tb}{wf:Wf}
section
variable{w:Wk}{ls:zZ}{L:z0}
def xj(w:Wk)(ls:zZ)(T:z0):Wf:=λc=>(vp w ls c).filter λy=>(sZ y).all λp=>decide (p∈T)
def MI(w:Wk)(ls:zZ)(T:z0):Prop:=∀c∈T,∃n,Lk w (xj w ls T) n c=Aa
theorem MQ{T:z0}{wf wf':Wf}(h:∀c∈T,∀y∈wf c,y∈wf' c/\∀p∈sZ y,p∈T):∀(n:Nat) (c:zZ),c∈T->Lk w wf n c=Aa->Lk w wf' n c=Aa
 |0,c,_,q=>q
 |n+1,c,hc,q=>by
  have q:(ZH w c||(wf c).any λy=>(sZ y).any (Lk w wf n))=Aa:=q;rw[Ew]at q;rcases q with q|q
  .exact HS (n:=0) (BQ _) q
  .obtain⟨y,hy,q⟩:=AJ.mp q
   obtain⟨p,hp,q⟩:=AJ.mp q;obtain⟨h1,h2⟩:=h c hc y hy;exact MZ h1 hp (MQ h n p (h2 p hp) q)
theorem Fx{T:z0}{y:Wy}:y∈xj w ls T c↔y∈vp w ls c/\∀p∈sZ y,p∈T:=by unfold xj;rw[AO,Ay];simp only[decide_eq_true_eq]
structure Jp(w:Wk)(ls:zZ)(L:z0)(wf:Wf)(S:z0):Prop where
 rc:Rc w wf S
 sub:∀c,∀y∈wf c,y∈vp w ls c
 inL:∀c∈S,c∈L
 win:∀c∈L,∀n,zg w ls n c=Aa->c∈S
 keep:∀c∈S,∀y∈vp w ls c,(∀p∈sZ y,∃n,zg w ls n p=Aa)->y∈wf c
 pat:∀T,MI w ls T->(∀c∈T,c∈L)->∀c∈T,c∈S/\∀y∈xj w ls T c,y∈wf c
theorem Yf(hL:EN w ls L):Ik (vp w ls) L:=λc hc y hy p hp=>by obtain⟨d,hd,rfl⟩:=Al.mp hy;obtain⟨d0,d1,d2⟩:=Ir hd;have e:((d.toNat:Nat):Int)=d:=Kq d0;refine hL c hc d.toNat (by omega) (by rw[e];exact d2) p ?_;rw[e];exact hp
theorem Ve(hL:EN w ls L)(tM:∀c∈L,c≠[]){wf:Wf}{S:z0}(J:Jp w ls L wf S):∀(n:Nat) (c:zZ),c∈L->zg w ls n c=Aa->Lk w wf n c=Aa
 |0,c,_,h=>h
 |n+1,c,hc,h=>by
  have hS:=J.win c hc (n+1) h;have h:(ZH w c||(Ah w.deeds.length).any λd=>AX w c d&&(Ze w ls (ZW w c d)).all λp=>zg w ls n p)=Aa:=h;rw[Ew]at h;rcases h with h|h
  .exact HS (n:=0) (BQ _) h
  .obtain⟨d,hd,h⟩:=AJ.mp h
   rw[Bn]at h;have hy:KG w ls c (d:Int)∈vp w ls c:=Al.mpr ⟨_,QD (AI.mp hd) h.1,rfl⟩;obtain⟨p,hp⟩:=List.exists_mem_of_ne_nil _ (gA (w:=w) (ls:=ls) (dG (tM c hc) h.1));have hy2:=J.keep c hS _ hy λq hq=>⟨n,Ay.mp h.2 q hq⟩;exact MZ hy2 hp (Ve hL tM J n p (hL c hc d (AI.mp hd) h.1 p hp) (Ay.mp h.2 p hp))
theorem fQ(hL:EN w ls L)(tM:∀c∈L,c≠[])(J:Jp w ls L wf S)(F:DG w wf S R)(nd:(R.map (·.1)).Nodup):Jp w ls L (uz wf R) (R.map (·.1)):=by
 have hk:=F.keys;have sA:(R.map (·.1)).length<=BC S:=BW nd λc hc=>hk c hc;have zY:∀c∈L,∀n,zg w ls n c=Aa->ZF R c=Aa:=λc hc n h=>F.all J.rc.cl (J.win c hc n h) (Ve hL tM J n c hc h);refine⟨⟨nd,Bp sA J.rc.len,λc hc=>J.rc.cr c (hk c hc),λc hc=>Tz (Hx _ _) (J.rc.ys c (hk c hc)),λc hc y hy=>J.rc.ps c (hk c hc) y (AO.mp hy).1,λc hc y hy p hp=>?_⟩,
  λc y hy=>J.sub c y (AO.mp hy).1,λc hc=>J.inL c (hk c hc),λc hc n h=>(JE R c).mp (zY c hc n h),λc hc y hy h=>AO.mpr ⟨J.keep c (hk c hc) y hy h,Ay.mpr λp hp=>?_⟩,λT hT zd=>?_⟩
 .exact(JE R p).mp (Ay.mp (AO.mp hy).2 p hp)
 .obtain⟨n,hn⟩:=h p hp
  exact zY p (Yf hL c (J.inL c (hk c hc)) y hy p hp) n hn
 .have hp:=J.pat T hT zd
  have hR:∀c∈T,ZF R c=Aa:=λc hc=>by obtain⟨n,hn⟩:=hT c hc;exact F.all J.rc.cl (hp c hc).1 (MQ (λc hc y hy=>⟨(hp c hc).2 y hy,(Fx.mp hy).2⟩) n c hc hn)
  exact λc hc=>⟨(JE R c).mp (hR c hc),λy hy=>AO.mpr ⟨(hp c hc).2 y hy,Ay.mpr λp hp=>hR p ((Fx.mp hy).2 p hp)⟩⟩
end
theorem pL(wf:Wf)(S:z0)(r:HM.Env)(i:Nat)(h:r[i]?=Z (Z (.pl (.dict (Zq (Zx wf S)))))):DK (Zg i) r=Z (.int (S.length:Int)):=by
 have:(Zx wf S).length=S.length:=by unfold Zx;rw[Ad]
 simp[h,sE,this]
theorem pQ(R:Tb)(r:HM.Env)(i:Nat)(h:r[i]?=Z (Z (.pl (.dict (Zq (encM R)))))):DK (Zg i) r=Z (.int (R.length:Int)):=by
 have:(encM R).length=R.length:=by unfold encM;rw[Ad]
 simp[h,sE,this]
section
variable{ap:AP}(A3:∀ds,ap 3 [] ds=EW ds){w:Wk}(hv:Wk.V w){ls:zZ}{L:z0}(hL:EN w ls L)(tM:∀c∈L,c≠[])
include A3 hv hL tM
theorem WY(e1:Option B):∀(sI:Nat) (wf:Wf) (S:z0) (R:Tb),BC S<sI->Jp w ls L wf S->DG w wf S R->(R.map (·.1)).Nodup ->∃wf' S' q3,Z9 (tV (sG vt (DK (Zg 3)) (DK (Zg 2)))) (OM ap) sI [qW w,e1,qR wf S,qM R]=Z (.nx [qW w,e1,qR wf' S',q3])/\Jp w ls L wf' S'/\∀c∈S',∃n,Lk w wf' n c=Aa
 |0,wf,S,R,h,_,_,_=>by omega
 |sI+1,wf,S,R,h,J,F,nd=>by
  have sA:(R.map (·.1)).length<=BC S:=BW nd λc hc=>F.keys c hc;rw[Ad]at sA;have l1:=pQ R [qW w,e1,qR wf S,qM R] 3 rfl;have l2:=pL wf S [qW w,e1,qR wf S,qM R] 2 rfl;have ht:tV (sG vt (DK (Zg 3)) (DK (Zg 2))) [qW w,e1,qR wf S,qM R]=Z (decide ((R.length:Int)<(S.length:Int))):=by unfold tV sG;rw[l1,l2];rfl
  by_cases tf:BC R<BC S
  .have J':=fQ hL tM J F nd
   have hw:=jP (wf:=wf) (L:=S) (R:=R) F.keys nd J.rc.ys J.rc.ps (by have:=J.rc.len;omega);obtain⟨R',e',F',nd'⟩:=QU A3 hv J'.rc;obtain⟨wf',S',q3,ih,r1,r2⟩:=WY e1 sI (uz wf R) (R.map (·.1)) R' (by rw[Ad];omega) J' F' nd';refine⟨wf',S',q3,?_,r1,r2⟩;rw[<-ih];have body:OM ap [qW w,e1,qR wf S,qM R]=Z (.nx [qW w,e1,qR (uz wf R) (R.map (·.1)),qM R']):=by
    unfold OM;refine AY (r':=[qW w,e1,qR (uz wf R) (R.map (·.1)),qM R]) ?_ ?_
    .have:Zi Md (Zb (Za 2) (Zb (Za 3) Zj)) [qW w,e1,qR wf S,qM R]=Z (.dict (Zq (Zx (uz wf R) (R.map (·.1))))):=hw
     unfold ZN;rw[this];rfl
    .have:Zi (Es ap) (Zb (Za 0) (Zb (Za 2) (Zb (eC (sM 3 [])) Zj))) [qW w,e1,qR (uz wf R) (R.map (·.1)),qM R]=Z (.dict (Zq (encM R'))):=e'
     unfold ZN;rw[this];rfl
   conv=>lhs;unfold Z9
   rw[ht,decide_eq_true (by omega)];dsimp only;rw[body]
  .refine⟨wf,S,qM R,?_,J,λc hc=>?_⟩
   .conv=>lhs;unfold Z9
    rw[ht,decide_eq_false (by omega)]
   .have tT:∀x∈S,x∈R.map (·.1):=by
     intro x hx;apply Jj;intro hn;have h1:(x::R.map (·.1)).Nodup:=CC.mpr ⟨hn,nd⟩;have h2:=BW h1 (λy hy=>by
      rcases As.mp hy with e|e
      .rw[e];exact hx
      .exact F.keys y e:∀y∈(x::R.map (·.1)),y∈S)
     rw[Av,Ad]at h2;omega
    have:=(JE R c).mpr (tT c hc);unfold ZF at this;obtain⟨k,hk⟩:=DB.mp this;obtain⟨_,n,_,hn,_⟩:=F.cost hk;exact⟨n,hn⟩
theorem jo(J0:Jp w ls L (vp w ls) L):∃wf S,Mb ap [w.d,.dict (Zq (EE w ls L))]=Z (.dict (Zq (Zx wf S)))/\Jp w ls L wf S/\∀c∈S,∃n,Lk w wf n c=Aa:=by
 obtain⟨R,e,F,nd⟩:=QU A3 hv J0.rc;obtain⟨wf,S,q3,g,J,h⟩:=WY A3 hv hL tM (Z (.pl (.dict (Zq (EE w ls L))))) 100000 (vp w ls) L R (by have:=J0.rc.len;omega) J0 F nd;refine⟨wf,S,?_,J,h⟩;show Bs (Te ap [qW w,qP (.dict (Zq (EE w ls L))),Z_,Z_])=_;unfold Te;refine A8 (r':=[qW w,qP (.dict (Zq (EE w ls L))),qP (.dict (Zq (EE w ls L))),Z_]) rfl ?_;refine A8 (r':=[qW w,qP (.dict (Zq (EE w ls L))),qP (.dict (Zq (EE w ls L))),qM R]) ?_ ?_
 .have:Zi (Es ap) (Zb (Za 0) (Zb (Za 2) (Zb (eC (sM 3 [])) Zj))) [qW w,qP (.dict (Zq (EE w ls L))),qP (.dict (Zq (EE w ls L))),Z_]=Z (.dict (Zq (encM R))):=e
  unfold ZN;rw[this];rfl
 .exact A8 g rfl
end
def BH(wf:Wf)(R:Tb)(c:zZ):Wy:=((wf c).find? λy=>um y R==Ci um (wf c) R).getD (.none,[])
def uu(wf:Wf)(R:Tb):Wf:=λc=>if Zk R c=Z 0 then[]else[BH wf R c]
theorem Nm{w:Wk}(tN:Ik wf S)(F:DG w wf S R)(hc:c∈S){n:Nat}(hn:Lk w wf n c=Aa)(h0:Zk R c≠Z 0):∃m,Ci um (wf c) R=Z m/\(wf c).find? (λy=>um y R==Z m)=Z (BH wf R c)/\BH wf R c∈wf c:=by
 have hh:=F.all tN hc hn;unfold ZF at hh;obtain⟨k,hk⟩:=DB.mp hh;obtain⟨_,n,rfl,h1,h2⟩:=F.cost hk;obtain⟨j,rfl⟩:∃j,n=j+1:=by
  cases n with
  |zero=>exact absurd hk h0
  |succ j=>exact⟨j,rfl⟩
 have h1:(ZH w c||(wf c).any λy=>(sZ y).any (Lk w wf j))=Aa:=h1;have ht:ZH w c=Ab:=h2 0 (by omega);rw[ht,Kv]at h1;obtain⟨y,hy,h1⟩:=AJ.mp h1;obtain⟨p,hp,h1⟩:=AJ.mp h1;have uM:=F.all tN (tN c hc y hy p hp) h1;unfold ZF at uM;obtain⟨v,hv⟩:=DB.mp uM;obtain⟨m0,yy⟩:∃m0,um y R=Z m0:=by
  unfold um;cases hq:((sZ y).filterMap λp=>Zk R p).min? with
  |some m=>exact⟨_,rfl⟩
  |none=>rw[KD]at hq;have:v∈(sZ y).filterMap λp=>Zk R p:=CT.mpr ⟨p,hp,hv⟩;rw[hq]at this;simp at this
 obtain⟨m,hm⟩:∃m,Ci um (wf c) R=Z m:=by
  unfold Ci;cases hq:((wf c).filterMap λy=>um y R).min? with
  |some m=>exact⟨_,rfl⟩
  |none=>rw[KD]at hq;have:m0∈(wf c).filterMap λy=>um y R:=CT.mpr ⟨y,hy,yy⟩;rw[hq]at this;simp at this
 obtain⟨y',hy',xp⟩:=CT.mp (Hy.mp (show((wf c).filterMap λy=>um y R).min?=Z m from hm)).1;have hs:((wf c).find? λy=>um y R==Z m).isSome=Aa:=O3.mpr ⟨y',hy',by rw[xp];exact beq_self_eq_true _⟩;obtain⟨z,hz⟩:=DB.mp hs;have hb:BH wf R c=z:=by unfold BH;rw[hm,hz];rfl
 exact⟨m,hm,by rw[hb];exact hz,by rw[hb];exact Uk hz⟩
theorem oA{ap:AP}(A3:∀ds,ap 3 [] ds=EW ds){w:Wk}(J:Rc w wf S)(F:DG w wf S R)(tp:∀c∈S,∃n,Lk w wf n c=Aa)(hc:c∈S):Hl ap [.dict (Zq (Zx wf S)),.dict (Zq (encM R)),sx c]=Z (.list ((uu wf R c).map sX)):=by
 obtain⟨n,hn⟩:=tp c hc;have hh:=F.all J.cl hc hn;unfold ZF at hh;obtain⟨k,hk⟩:=DB.mp hh;have hkt:Be (sx c)=Z (Z8 c):=B6 c;have tI:=IE R c;rw[hk]at tI;have vH:=ID wf S c;rw[if_pos hc]at vH;show Bs (OJ ap [qR wf S,qM R,qT c])=_;have hz:tV (sG tK (ZI (Zg 1) (Za 2)) (eC (.int 0))) [qR wf S,qM R,qT c]=Z (k==0):=by
  have h1:ZI (Zg 1) (Za 2) [qR wf S,qM R,qT c]=Z (.int k):=by simp[sE,hkt,tI]
  unfold tV sG;rw[h1];show(match tK (.int k) (.int 0)with|some (.bool b)=>Z b|_=>Z_)=_
  by_cases e:k=0
  .subst e;rfl
  .rw[JA (EL 1 _) (EL 1 _) (by decide) (by decide) (λz=>e (by injection z))]
   simp[e]
 unfold uu
 by_cases h0:k=0
 .subst h0
  rw[if_pos hk];unfold OJ ZG wG;rw[hz];rfl
 .have tM:Zk R c≠Z 0:=by rw[hk];intro e;exact h0 (by injection e)
  rw[if_neg tM];obtain⟨m,hm,hf,_⟩:=Nm J.cl F hc hn tM;have hb:=l5 (ap:=ap) (t:=3) (cs:=[]) (cb:=um) (M:=R) (J.ys c hc) (λy hy=>by rw[A3];exact aL (J.ps c hc y hy) R) hm hf;have vc:Zi (JT ap) (Zb (ZI (Zg 0) (Za 2)) (Zb (Za 1) (Zb (eC (sM 3 [])) Zj))) [qR wf S,qM R,qT c]=Z (sX (BH wf R c)):=by
   have h1:ZI (Zg 0) (Za 2) [qR wf S,qM R,qT c]=Z (.list ((wf c).map sX)):=by simp[sE,hkt,vH]
   have h2:Zb (ZI (Zg 0) (Za 2)) (Zb (Za 1) (Zb (eC (sM 3 [])) Zj)) [qR wf S,qM R,qT c]=Z [.list ((wf c).map sX),.dict (Zq (encM R)),sM 3 []]:=by generalize ZI (Zg 0) (Za 2)=E at h1 ⊢;simp[h1]
   unfold Zi;rw[h2];exact hb
  unfold OJ ZG wG;rw[hz,beq_eq_false_iff_ne.mpr h0];dsimp only;generalize Zi (JT ap) (Zb (ZI (Zg 0) (Za 2)) (Zb (Za 1) (Zb (eC (sM 3 [])) Zj)))=E at vc ⊢;simp[vc,Bs]
end
theorem bX{n:Nat}(R:Tb):uh (n+1) (.dict (Zq (encM R)))=Aa:=by show(Zq (encM R)).all _=Aa;refine Ay.mpr λp hp=>?_;unfold Zq encM at hp;rw[Aq]at hp;obtain⟨c,hc,rfl⟩:=Al.mp hp;exact Nf _ _
structure ApQ(ap ap0:AP):Prop where
 d:ApO ap
 d3:∀ds,ap 3 [] ds=EW ds
 z3:∀ds,ap0 3 [] ds=EW ds
 l4:∀cs ds,ap 4 cs ds=Ib 1 2 (Zi (Hl ap0) (Zb (Za 1) (Zb (Za 2) (Zb (Za 0) Zj)))) cs ds
section
variable{w:Wk}(hv:Wk.V w)(h7:w.many<=7){ls:zZ}(hl:Cr w.looks.length ls)
include hv h7
theorem rc0{L:z0}(u7:L.Nodup)(sA:BC L<=128)(xD:∀c∈L,Cr w.many c/\c≠[])(hL:EN w ls L):Rc w (vp w ls) L:=by
 have O:=Qe hv h7 (ls:=ls);refine⟨u7,sA,xD,λc hc=>?_,λc hc y hy=>?_,Yf hL⟩
 .have:=O.ys c (xD c hc);omega
 .have:=O.ps c (xD c hc) y hy;omega
include hl
theorem md:Mi [w.d,sx ls]=Z (.list ((Ze w ls w.beg).map sx)):=by
 have yc:=Rr hv hl hv.bc;have yZ:=split_len (w:=w) (ls:=ls) (c:=w.beg);have yC:=hv.bc.len;have u9:=hv.m2;have xE:=L8 (ZS w ls w.beg) (by omega);have hb:=YK w;show Bs (ZG (Zi ZB (Zb (Zi Df (Zb (Za 0) (Zb (Za 1) (Zb (Zi ET (Zb (Za 0) Zj)) Zj)))) Zj)) [qW w,qT ls])=_;have h1:Zi Df (Zb (Za 0) (Zb (Za 1) (Zb (Zi ET (Zb (Za 0) Zj)) Zj))) [qW w,qT ls]=Z (.list ((ZS w ls w.beg).map BU)):=by simp[hb,yc]
 have h2:Zi ZB (Zb (Zi Df (Zb (Za 0) (Zb (Za 1) (Zb (Zi ET (Zb (Za 0) Zj)) Zj)))) Zj) [qW w,qT ls]=Z (.list ((Ze w ls w.beg).map sx)):=by
  generalize Zi Df (Zb (Za 0) (Zb (Za 1) (Zb (Zi ET (Zb (Za 0) Zj)) Zj)))=E at h1 ⊢;have h3:Zb E Zj [qW w,qT ls]=Z [.list ((ZS w ls w.beg).map BU)]:=by simp[h1]
  unfold Zi;rw[h3];exact xE
 unfold ZG;rw[h2];rfl
theorem jU:(Ze w ls w.beg).length<=8:=by have yZ:=split_len (w:=w) (ls:=ls) (c:=w.beg);have yC:=hv.bc.len;have u9:=hv.m2;unfold Ze;rw[Ad];omega
structure PtB(w:Wk)(ls:zZ)(L:z0)(wf:Wf)(S:z0)(R:Tb)(d:D):Prop where
 cl:EN w ls L
 bg:∀p∈Ze w ls w.beg,p∈L
 rch:∀c∈L,HQ w ls w.beg c
 J:Jp w ls L wf S
 all:∀c∈S,∃n,Lk w wf n c=Aa
 F:DG w wf S R
 ans:((∀p∈Ze w ls w.beg,p∈S)/\∃L2,D3 (uu wf R) (λc=>c∈S) (Ze w ls w.beg) L2 []/\d=.list ((Bc L2).map λc=>.tuple [sx c,if Zk R c=Z 0 then .none else(BH wf R c).1]))\/((¬∀p∈Ze w ls w.beg,p∈S)/\d=.none)
theorem mj{ap ap0:AP}(A:ApQ ap ap0)(h5:w.many<=5):∃(L:z0) (wf:Wf) (S:z0) (R:Tb) (d:D),IS ap [w.d,sx ls]=Z d/\PtB w ls L wf S R d:=by
 obtain⟨L,hco,u7,sA,xD,hrf,hL,hbg⟩:=oF hv h7 hl A.d hv.bc;have tM:=λc hc=>(xD c hc).2;have J0:Jp w ls L (vp w ls) L:=⟨rc0 hv h7 u7 sA xD hL,λ_ _ h=>h,λ_ h=>h,λc hc _ _=>hc,λ_ _ _ h _=>h,λT _ hT c hc=>⟨hT c hc,λy hy=>(AO.mp hy).1⟩⟩;obtain⟨wf,S,hre,J,tp⟩:=jo A.d3 hv hL tM J0;obtain⟨R,hlu,F,nd⟩:=QU A.d3 hv J.rc;have y3:=md hv h7 hl;have hpl:=jU hv h7 hl;have zc:=lT hv;have hc2:=oK hv hl;have hb:=YK w;have O0:=Qe hv h7 (ls:=ls);have y0:∀p∈Ze w ls w.beg,Cr w.many p/\p≠[]:=λp hp=>⟨(G5 hv.bc hp).1,(G5 hv.bc hp).2.1⟩;have uR:∀r:HM.Env,r[2]?=Z (Z (.pl (.dict (Zq (Zx wf S)))))->Z3 ZD (Ct (Za 0) (Zg 3)) r ((Ze w ls w.beg).map sx)=Z (((Ze w ls w.beg).map λp=>decide (p∈S)).map Bq):=λr h=>by
  rw[CP sx (λp=>Bq (decide (p∈S))),Aq]
  .rfl
  .intro p _
   have hk:Be (sx p)=Z (Z8 p):=B6 p;have vH:=ID wf S p
   by_cases hm:p∈S
   .rw[if_pos hm]at vH;simp[h,sE,hk,vH,hm]
   .rw[if_neg hm]at vH;simp[h,sE,hk,vH,hm]
 have hbd:∀bs:List Bool,D8 (bs.map Bq)=Z bs:=by
  intro bs
  induction bs with
  |nil=>rfl
  |cons b bs ih=>show(D8 (bs.map Bq)).map _=_;rw[ih];rfl
 have uT:Cu (Zt (Zy (sD (Za 3))) ZD (Ct (Za 0) (Zg 3))) [qW w,qT ls,qR wf S,qL (Ze w ls w.beg),Z_,Z_]=Z (.bool ((Ze w ls w.beg).all λp=>decide (p∈S))):=by have hf:=FH (I:=Zy (sD (Za 3))) (c:=ZD) (e:=Ct (Za 0) (Zg 3)) (r:=[qW w,qT ls,qR wf S,qL (Ze w ls w.beg),Z_,Z_]) (ds:=(Ze w ls w.beg).map sx) rfl (by rw[Ad];omega) (uR _ rfl);unfold Cu;rw[hf];show(D8 (((Ze w ls w.beg).map λp=>decide (p∈S)).map Bq)).map _=_;rw[hbd];simp
 have xt:ZN 2 (Zi (Mb ap) (Zb (Za 0) (Zb (Zi (JX ap) (Zb (Za 0) (Zb (Za 1) (Zb (Zi ET (Zb (Za 0) Zj)) Zj)))) Zj))) [qW w,qT ls,Z_,Z_,Z_,Z_]=Z (.nx [qW w,qT ls,qR wf S,Z_,Z_,Z_]):=by simp[hb,hco,hre]
 have st3:ZN 3 (Zi Mi (Zb (Za 0) (Zb (Za 1) Zj))) [qW w,qT ls,qR wf S,Z_,Z_,Z_]=Z (.nx [qW w,qT ls,qR wf S,qL (Ze w ls w.beg),Z_,Z_]):=by simp[y3]
 have base:∀(q:D),Bs ((Zr (tw (BX (tV (Cu (Zt (Zy (sD (Za 3))) ZD (Ct (Za 0) (Zg 3)))))) (ZG (eC .none)) AL)
  (Zr (ZN 4 (Zi (Es ap) (Zb (Za 0) (Zb (Za 2) (Zb (eC (sM 3 [])) Zj)))))
  (Zr (ZN 5 (LR (FR ap) 4 [2,4] (Za 3)))
  (ZG (tS (Zt (Zy (sD (tS (FP (Zg 5))))) ZD (D2 (Zb (Za 0) (Zb (wG (tV (sG vm (Z5 (sD (ZI (Zg 6) (Za 0)))) (eC (.int 0)))) (sS (sD (sS (sD (ZI (Zg 6) (Za 0))) (eC (.int 0)))) (eC (.int 0))) (eC .none)) Zj)))))))))
   [qW w,qT ls,qR wf S,qL (Ze w ls w.beg),Z_,Z_])=Z q->IS ap [w.d,sx ls]=Z q:=λq hq=>by
  show Bs (Td ap [qW w,qT ls,Z_,Z_,Z_,Z_])=_;unfold Td;refine A8 (r':=[qW w,qT ls,Z_,Z_,Z_,Z_]) (by simp[zc]) ?_;refine A8 (r':=[qW w,qT ls,Z_,Z_,Z_,Z_]) (by simp[hc2]) ?_;refine A8 xt ?_;exact A8 st3 hq
 by_cases hS:∀p∈Ze w ls w.beg,p∈S
 .have hb1:((Ze w ls w.beg).all λp=>decide (p∈S))=Aa:=Ay.mpr λp hp=>decide_eq_true (hS p hp)
  rw[hb1]at uT;have O:KL (uu wf R) (λc=>c∈S):=by
   have yf:∀c∈S,∀y∈uu wf R c,y∈wf c:=λc hc y hy=>by
    unfold uu at hy;split at hy
    .simp at hy
    .rename_i h0
     obtain⟨n,hn⟩:=tp c hc;obtain⟨_,_,_,uR⟩:=Nm J.rc.cl F hc hn h0;rw[Ax.mp hy];exact uR
   refine⟨λc hc y hy p hp=>J.rc.cl c hc y (yf c hc y hy) p hp,λc hc=>?_,λc hc y hy=>?_,λC hn hC=>?_⟩
   .unfold uu
    split<;>simp
   .exact O0.ps c (J.rc.cr c hc) y (J.sub c y (yf c hc y hy))
   .exact Bp (BW hn hC) J.rc.len
  have ha:∀c,c∈S->ap 4 [.dict (Zq (Zx wf S)),.dict (Zq (encM R))] [sx c]=Z (.list ((uu wf R c).map sX)):=λc hc=>by rw[A.l4];unfold Ib;rw[if_pos ⟨rfl,rfl,by rw[BS,Gk 19];rfl⟩];exact oA A.z3 J.rc F tp hc
  obtain⟨L2,hL2,I2⟩:=Yi O ha (B:=Ze w ls w.beg) hS (by omega);have y1:∀c∈S,∀y∈wf c,∃d:Int,y.1=dI d:=λc hc y hy=>by obtain⟨d,_,rfl⟩:=Al.mp (J.sub c y hy);exact⟨d,rfl⟩
  have n1:uh 20 (.dict (Zq (Zx wf S)))=Aa:=Qa (n:=14) λc hc y hy=>by obtain⟨d,e⟩:=y1 c hc y hy;rw[e];exact Nf _ _
  have yf:∀c∈S,∀y∈uu wf R c,y∈wf c:=λc hc y hy=>by
   unfold uu at hy;split at hy
   .simp at hy
   .rename_i h0
    obtain⟨n,hn⟩:=tp c hc;obtain⟨_,_,_,uR⟩:=Nm J.rc.cl F hc hn h0;rw[Ax.mp hy];exact uR
  have n2:uh 20 (.dict (Zq (Zx (uu wf R) L2)))=Aa:=Qa (n:=14) λc hc y hy=>by obtain⟨d,e⟩:=y1 c (I2.cr c hc) y (yf c (I2.cr c hc) y hy);rw[e];exact Nf _ _
  have hl32:BC L2<=32:=by have h1:=N3 I2.nd λc hc=>(J.rc.cr c (I2.cr c hc)).1;have h2:2 ^ w.many<=2 ^ 5:=PD (by decide) h5;have h3:2 ^ 5=32:=rfl;omega
  have hso:=Rm L2 (by omega) (.inr λk hk=>(J.rc.cr k (I2.cr k hk)).2);have zq:LR (FR ap) 4 [2,4] (Za 3) [qW w,qT ls,qR wf S,qL (Ze w ls w.beg),qM R,Z_]=Z (.dict (Zq (Zx (uu wf R) L2))):=by show(if[To (Zq (Zx wf S)),.dict (Zq (encM R))].all (uh 20)=Aa then(match FR ap [.list ((Ze w ls w.beg).map sx),sM 4 [.dict (Zq (Zx wf S)),.dict (Zq (encM R))]]with|some d=>if uh 20 d=Aa then Z d else Z_|none=>Z_)else Z_)=_;rw[if_pos (by rw[BS,BS,n1,bX (n:=19) R];rfl),hL2];dsimp only;rw[if_pos n2]
  have xA:FP (Zg 5) [qW w,qT ls,qR wf S,qL (Ze w ls w.beg),qM R,qR (uu wf R) L2]=Z (.ol ((Bc L2).map sx)):=by show(match Cv (Zq (Zx (uu wf R) L2))with|some kvs=>(EO (kvs.map λ(p:List Ky×D)=>Bj (p.1.map Bv))).map λds=>B.ol ds|none=>Z_)=_;rw[sE];dsimp only;rw[Rw,hso];rfl
  have hcomp:∀K:z0,(∀c∈K,c∈L2)->Z3 ZD (D2 (Zb (Za 0) (Zb (wG (tV (sG vm (Z5 (sD (ZI (Zg 6) (Za 0)))) (eC (.int 0)))) (sS (sD (sS (sD (ZI (Zg 6) (Za 0))) (eC (.int 0)))) (eC (.int 0))) (eC .none)) Zj))) [qW w,qT ls,qR wf S,qL (Ze w ls w.beg),qM R,qR (uu wf R) L2] (K.map sx)=Z (K.map λc=>.tuple [sx c,if Zk R c=Z 0 then .none else(BH wf R c).1]):=by
   intro K hK;rw[CP sx (λc=>.tuple [sx c,if Zk R c=Z 0 then .none else(BH wf R c).1])];intro c hc;have hk:Be (sx c)=Z (Z8 c):=B6 c;have vH:=ID (uu wf R) L2 c;rw[if_pos (hK c hc)]at vH;have hg:ZI (Zg 6) (Za 0) (Z (.pl (sx c))::[qW w,qT ls,qR wf S,qL (Ze w ls w.beg),qM R,qR (uu wf R) L2])=Z (.list ((uu wf R c).map sX)):=by simp[sE,hk,vH]
   generalize ZI (Zg 6) (Za 0)=E at hg ⊢;generalize hEnv:(Z (.pl (sx c))::[qW w,qT ls,qR wf S,qL (Ze w ls w.beg),qM R,qR (uu wf R) L2]:HM.Env)=env at hg ⊢;have hv0:Za 0 env=Z (sx c):=by rw[<-hEnv];rfl
   have key:wG (tV (sG vm (Z5 (sD E)) (eC (.int 0)))) (sS (sD (sS (sD E) (eC (.int 0)))) (eC (.int 0))) (eC .none) env=Z (if Zk R c=Z 0 then .none else(BH wf R c).1):=by
    unfold uu at hg
    by_cases h0:Zk R c=Z 0
    .rw[if_pos h0]at hg ⊢
     have vO:Z5 (sD E) env=Z (.int 0):=by unfold Z5 sD;rw[hg];rfl
     unfold wG tV sG;rw[vO];rfl
    .rw[if_neg h0]at hg ⊢
     have vO:Z5 (sD E) env=Z (.int 1):=by unfold Z5 sD;rw[hg];rfl
     have h1:sS (sD E) (eC (.int 0)) env=Z (sX (BH wf R c)):=by unfold sS sD;rw[hg];exact ER (ds:=[sX (BH wf R c)]) (j:=0) rfl
     have h2:sS (sD (sS (sD E) (eC (.int 0)))) (eC (.int 0)) env=Z (BH wf R c).1:=by generalize sS (sD E) (eC (.int 0))=E2 at h1 ⊢;unfold sS sD;rw[h1];exact ER (ds:=[(BH wf R c).1,.list ((BH wf R c).2.map BU)]) (j:=0) rfl
     generalize sS (sD (sS (sD E) (eC (.int 0)))) (eC (.int 0))=E3 at h2 ⊢;unfold wG tV sG;rw[vO];exact h2
   generalize wG (tV (sG vm (Z5 (sD E)) (eC (.int 0)))) (sS (sD (sS (sD E) (eC (.int 0)))) (eC (.int 0))) (eC .none)=E4 at key ⊢;generalize Za 0=E5 at hv0 ⊢;generalize (if Zk R c=Z 0 then PyData.none else(BH wf R c).1)=z at key ⊢;simp[key,hv0]
  have hx:=hcomp (Bc L2) λc hc=>(CA L2).mem_iff.mp hc;refine⟨L,wf,S,R,_,base _ ?_,hL,hbg,hrf,J,tp,F,.inl ⟨hS,L2,I2,rfl⟩⟩;generalize vi:((Bc L2).map λc=>Bj [sx c,if Zk R c=Z 0 then .none else(BH wf R c).1])=xs at hx ⊢;refine A8 (r':=[qW w,qT ls,qR wf S,qL (Ze w ls w.beg),Z_,Z_]) ?_ ?_
  .have ht:BX (tV (Cu (Zt (Zy (sD (Za 3))) ZD (Ct (Za 0) (Zg 3))))) [qW w,qT ls,qR wf S,qL (Ze w ls w.beg),Z_,Z_]=Z Ab:=by
    unfold BX tV;rw[uT];rfl
   unfold tw;rw[ht];rfl
  refine A8 (r':=[qW w,qT ls,qR wf S,qL (Ze w ls w.beg),qM R,Z_]) ?_ ?_
  .have:Zi (Es ap) (Zb (Za 0) (Zb (Za 2) (Zb (eC (sM 3 [])) Zj))) [qW w,qT ls,qR wf S,qL (Ze w ls w.beg),Z_,Z_]=Z (.dict (Zq (encM R))):=hlu
   unfold ZN;rw[this];rfl
  refine A8 (r':=[qW w,qT ls,qR wf S,qL (Ze w ls w.beg),qM R,qR (uu wf R) L2]) ?_ ?_
  .unfold ZN
   rw[zq];rfl
  have hI:Zy (sD (tS (FP (Zg 5)))) [qW w,qT ls,qR wf S,qL (Ze w ls w.beg),qM R,qR (uu wf R) L2]=Z ((Bc L2).map sx):=by unfold Zy sD tS;rw[xA];rfl
  have hf:=FH hI (by rw[Ad,(CA L2).length_eq];omega) hx;have hf2:tS (Zt (Zy (sD (tS (FP (Zg 5))))) ZD (D2 (Zb (Za 0) (Zb (wG (tV (sG vm (Z5 (sD (ZI (Zg 6) (Za 0)))) (eC (.int 0)))) (sS (sD (sS (sD (ZI (Zg 6) (Za 0))) (eC (.int 0)))) (eC (.int 0))) (eC .none)) Zj)))) [qW w,qT ls,qR wf S,qL (Ze w ls w.beg),qM R,qR (uu wf R) L2]=Z (.list xs):=by show(Zt _ _ _ _).bind frz=_;rw[hf];rfl
  unfold ZG;rw[hf2];rfl
 .have hb1:((Ze w ls w.beg).all λp=>decide (p∈S))=Ab:=by
   cases q:(Ze w ls w.beg).all λp=>decide (p∈S)with
   |false=>rfl
   |true=>exact absurd (λp hp=>of_decide_eq_true (Ay.mp q p hp)) hS
  rw[hb1]at uT;refine⟨L,wf,S,R,.none,base _ ?_,hL,hbg,hrf,J,tp,F,.inr ⟨hS,rfl⟩⟩;have ht:BX (tV (Cu (Zt (Zy (sD (Za 3))) ZD (Ct (Za 0) (Zg 3))))) [qW w,qT ls,qR wf S,qL (Ze w ls w.beg),Z_,Z_]=Z Aa:=by unfold BX tV;rw[uT];rfl
  show Bs (Zr (tw _ _ _) _ _)=_;unfold Zr tw;rw[ht];rfl
end
end HG20
namespace HG19
open PySem HM
open HG
open HG4
open HG5
open HG6
open HG20
def Ea:SF :=
 (Zr (ZN 6 (Zi DS (Zb (Za 0) (Zb (Za 2) (Zb (Za 5) Zj)))))
  (tw (tV (sG Fu (Za 6) (eC .none))) (Zr (ZO 7 (FI (Zy (sD (Zi ZU (Zb (Za 0) (Zb (Za 1) (Zb (Za 6) Zj)))))) ZD (Za 1)))
  (Ce 7 (tw (D7 (tV (sG tK (tS (Zt (Zy (sD (Za 7))) (tV (CO (Za 0) (Zg 4))) (Za 0))) (tS (C3 Zj)))) (DH (Zt (Zy (sD (Za 7))) (tV (Ej (Za 0) (Zg 5))) (Za 0)))) (ZG (eC (.bool Aa))) AL))) AL))
def Sj:SF :=
 (Zr (AH 5 (CM (Z5 (sD (sS (Zg 0) (eC (.int 1)))))) Ea)
  (ZG (eC (.bool Ab))))
def Hi:z5->Option D:=fnOf 5 8 Sj
def J1:SF :=
 (tw (UP 3 (D7 (tV (CO (Za 5) (Zg 3))) (tV (Zi Hi (Zb (Za 0) (Zb (Za 1) (Zb (Za 5) (Zb (Za 2) (Zb (Za 3) Zj))))))))) (Zr (Io 3 (Za 5))
  (ZN 4 (eC (.bool Aa)))) AL)
def II:SF :=
 (Zr (ZN 4 (eC (.bool Ab)))
  (AH 5 (Zy (sD (Za 2))) J1))
def Si:SF :=
 (Zr (ZO 3 (Zt (Zy (sD (Za 2))) (tV (Zi FK (Zb (Za 1) (Zb (Za 0) Zj)))) (Za 0)))
  (Zr (ZN 4 (eC (.bool Aa)))
  (Zr (JC 100000 (tV (Za 4)) II)
  (Ce 3 (ZG (Za 3))))))
def JS:z5->Option D:=fnOf 3 6 Si
def Kb:SF :=
 (tw (tV (CO (Za 6) (Zg 5))) (Zr (ZN 7 (Zi DS (Zb (Za 0) (Zb (Za 6) (Zb (ZI (Zg 2) (Za 6)) Zj)))))
  (tw (DH (FI (Zy (sD (Zi ZU (Zb (Za 0) (Zb (Za 1) (Zb (Za 7) Zj)))))) (tV (Ej (Za 1) (Zg 7))) (Za 1))) (Io 5 (Za 6)) AL)) AL)
def Tc:SF :=
 (C4 2 (AH 6 (AM 2) Kb))
def IQ:SF :=
 (Zr (tw (tV (sG wF (sG EI (ZI (Zg 2) (Za 6)) (eC .none)) (Zi FK (Zb (Za 0) (Zb (Za 6) Zj))))) (ZG (eC (.bool Ab))) AL)
  (tw (tV (sG Fu (ZI (Zg 2) (Za 6)) (eC .none))) (Zr (ZN 7 (eC .none))
  (Zr (tw (D7 (tV (Zi J2 (Zb (ZI (Zg 2) (Za 6)) Zj))) (tV (IG xG vt (eC (.int 0)) (ZI (Zg 2) (Za 6)) (Z5 (sD (sS (Zg 0) (eC (.int 1)))))))) (ZN 7 (Zi DS (Zb (Za 0) (Zb (Za 6) (Zb (ZI (Zg 2) (Za 6)) Zj))))) AL)
  (Zr (tw (tV (sG EI (Za 7) (eC .none))) (ZG (eC (.bool Ab))) AL)
  (ZO 4 (K4 (Zg 4) (FI (Zy (sD (Zi ZU (Zb (Za 0) (Zb (Za 1) (Zb (Za 7) Zj)))))) ZD (Za 1))))))) AL))
def SX:SF :=
 (Zr (ZO 4 (NY (Zg 3)))
  (Zr (C4 2 (ZO 5 (Zt (AM 2) (tV (sG EI (ZI (Zg 3) (Za 0)) (eC .none))) (Za 0))))
  (Zr (C4 2 (AH 6 (AM 2) IQ))
  (Zr (tw (tV (sG wF (tS (EY (Zg 4))) (tS (FP (Zg 2))))) (ZG (eC (.bool Ab))) AL)
  (Zr (AH 8 (CM (DK (Zg 2))) Tc)
  (ZG (sG tK (Z5 (Zg 5)) (DK (Zg 2)))))))))
def Kg:z5->Option D:=fnOf 4 9 SX
def Lp(ap:AP):SF :=
 (GU 7 (Za 8) (Za 9))
def G6(ap:AP):SF :=
 (Zr (Ce 3 (ZN 4 (Zi JS (Zb (Za 1) (Zb (Za 2) (Zb (Za 3) Zj))))))
  (Zr (tw (tV (sG tK (Z5 (Zg 4)) (Z5 (Zg 3)))) jA AL)
  (Ce 3 (ZO 3 (Zt (Zy (sD (Za 3))) (tV (Ej (Za 0) (Zg 5))) (Za 0))))))
def Qw(ap:AP):SF :=
 (Zr (ZN 1 (Zi Gr (Zb (Za 0) (Zb (eC (.int 1)) Zj))))
  (Zr (ZN 2 (Zi L1 (Zb (Za 1) (Zb (Zi Eb (Zb (Za 0) (Zb (eC (.int 0)) Zj))) Zj))))
  (Zr (ZN 3 (Zi NS (Zb (Za 1) (Zb (Za 2) Zj))))
  (Zr (JC 100000 (tV (eC (.bool Aa))) (G6 ap))
  (Zr (ZO 5 (FI (Zy (sD (Zi ZU (Zb (Za 1) (Zb (Za 2) (Zb (sS (Zg 1) (eC (.int 3))) Zj)))))) ZD (Za 1)))
  (Zr (ZN 6 (Zi (IS ap) (Zb (Za 1) (Zb (Za 2) Zj))))
  (Zr (Ce 5 (tw (DH (Zt (Zy (sD (Za 5))) (tV (CO (Za 0) (Zg 4))) (Za 0))) (ZG (sG EI (Za 6) (eC .none))) AL))
  (Zr (tw (xW (BX (tV (Gn (Za 6) .list))) (tV (sG wF (tS (Zt (Zy (sD (Za 6))) ZD (sS (Zg 0) (eC (.int 0))))) (tS (EY (Zt (Zy (sD (Za 6))) ZD (sS (Zg 0) (eC (.int 0))))))))) (ZG (eC (.bool Ab))) AL)
  (Zr (ZO 7 zf)
  (Zr (lR 8 9 (Zy (sD (Za 6))) (Lp ap))
  (Ce 5 (ZG (YD Kg (Zb (Za 1) (Zb (Za 2) (Zb (MY (Zg 7)) (Zb (Za 5) Zj)))))))))))))))))
def HZ(ap:AP):z5->Option D:=fnOf 1 10 (Qw ap)
def ap0:AP:=λt cs ds=>match t with
 |1=>Ib 1 2 (Zi EX (Zb (Za 1) (Zb (Za 2) (Zb (Za 0) Zj)))) cs ds
 |3=>if cs.isEmpty then EW ds else Z_
 |_=>Z_
def ap:AP:=λt cs ds=>match t with
 |1=>Ib 1 2 (Zi EX (Zb (Za 1) (Zb (Za 2) (Zb (Za 0) Zj)))) cs ds
 |3=>if cs.isEmpty then EW ds else Z_
 |4=>Ib 1 2 (Zi (Hl ap0) (Zb (Za 1) (Zb (Za 2) (Zb (Za 0) Zj)))) cs ds
 |_=>Z_
end HG19
namespace HGD
open PySem HM
open HG
open HG4
variable{r:HM.Env}{a b:SF}{c:TF}
theorem Gh{g:D->D->Option D}{e f:EF}{x y:D}{b:Bool}(h1:e r=Z x)(h2:f r=Z y)(h:g x y=Z (.bool b)):tV (sG g e f) r=Z b:=by unfold tV sG;rw[h1,h2];dsimp only;rw[h]
theorem K1(h:c r=Z Aa):tw c a b r=a r:=by unfold tw;rw[h]
theorem GW(h:c r=Z Ab):tw c a b r=b r:=by unfold tw;rw[h]
theorem Vr(b:Bool):wF (.bool b) (.bool b)=Z (.bool Ab):=by
 have h:CN (.bool b)=Aa:=by cases b<;>decide +kernel
 unfold wF;rw[h,if_pos (by rfl)];cases b<;>rfl
theorem QC{i:Nat}{g:SF}{r':HM.Env}{es es':List (D×D)}(h:r[i]?=Z (Z (.pl (.dict es))))(ha:r.all (λq=>!ZZ q)=Aa)(hg:g (r.set i (Z (.hd es)))=Z (.nx r'))(h':r'[i]?=Z (Z (.hd es')))(hb:(r'.set i Z_).all (λq=>!ZZ q)=Aa):C4 i g r=Z (.nx (r'.set i (Z (.pl (.dict es'))))):=by unfold C4;rw[h];dsimp only;rw[if_pos ha,hg];dsimp only;rw[h'];dsimp only;rw[if_pos hb]
theorem QT(L:z0):t9 2 (.list (L.map sx))=Aa:=dz λd hd=>by obtain⟨c,_,rfl⟩:=Al.mp hd;exact G2 0 c
theorem N4:∀(l acc:z0) (x:zZ),x∈B5 acc l↔x∈acc\/x∈l
 |[],acc,x=>by simp[B5]
 |y::l,acc,x=>by
  unfold B5;split
  .rename_i h
   rw[N4 l,As];have hy:y∈acc:=by simpa using h
   constructor
   .rintro (h|h)
    .exact .inl h
    .exact .inr (.inr h)
   .rintro (h|rfl|h)
    .exact .inl h
    .exact .inl hy
    .exact .inr h
  .rw[N4 l,Bb,Ax,As,or_assoc]
theorem R5:∀(l acc:z0),acc.Nodup->(B5 acc l).Nodup
 |[],acc,h=>h
 |y::l,acc,h=>by
  unfold B5;split
  .exact R5 l acc h
  .rename_i q
   refine R5 l _ (Ee.mpr ⟨h,by simp,λa ha b hb e=>?_⟩);rw[Ax]at hb;subst hb;subst e;exact q (by simpa using ha)
end HGD
namespace HG19
open PySem HM
open HG
open HG4
open HG5
open HG6
open HG20
open HGD
variable{C F:z0}{c:zZ}
def xk(w:Wk)(ls:zZ)(C F:z0)(c:zZ)(d:Nat):Bool:=AX w c d&&((Ze w ls (ZW w c d)).all (λp=>C.contains p)&&(Ze w ls (ZW w c d)).any (λp=>F.contains p))
def u5(w:Wk)(ls:zZ)(C F:z0)(c:zZ):Bool:=(Ah w.deeds.length).any (xk w ls C F c)
theorem V1{w:Wk}{ls:zZ}:u5 w ls C F c=Aa↔∃y∈xj w ls C c,∃p∈sZ y,p∈F:=by
 unfold u5;rw[AJ]
 constructor
 .rintro ⟨d,hd,h⟩
  unfold xk at h;rw[Bn,Bn]at h;obtain⟨h1,h2,h3⟩:=h;obtain⟨p,hp,h3⟩:=AJ.mp h3;refine⟨KG w ls c (d:Int),Fx.mpr ⟨Al.mpr ⟨_,QD (AI.mp hd) h1,rfl⟩,λq hq=>?_⟩,p,hp,by simpa using h3⟩;have:=Ay.mp h2 q hq;simpa using this
 .rintro ⟨y,hy,p,hp,hF⟩
  obtain⟨hy,hC⟩:=Fx.mp hy;obtain⟨d,hd,rfl⟩:=Al.mp hy;obtain⟨d0,d1,d2⟩:=Ir hd;have e:((d.toNat:Nat):Int)=d:=Kq d0;refine⟨d.toNat,AI.mpr (by omega),?_⟩;unfold xk;rw[e,d2,Kt,Bn];exact⟨Ay.mpr λq hq=>by simpa using hC q hq,AJ.mpr ⟨p,hp,by simpa using hF⟩⟩
section
variable{w:Wk}(hv:Wk.V w)(h7:w.many<=7){ls:zZ}(hl:Cr w.looks.length ls)
include hv h7 hl
theorem Iw{d:Nat}(cr:Cr w.many c)(hd:d<w.deeds.length):(Ze w ls (ZW w c d)).length<=8/\(ZS w ls (ZW w c d)).length<=8/\ZU [w.d,sx ls,sx (ZW w c d)]=Z (.list ((ZS w ls (ZW w c d)).map BU))/\∀r:HM.Env,FC ZD (Za 1) r ((ZS w ls (ZW w c d)).map BU)=Z ((Ze w ls (ZW w c d)).map sx):=by
 have lc:=Ie hv cr (show(0:Int)<=(d:Int) by omega) (by omega);have hs:=Oo hv hl lc;have hsn:=split_len (w:=w) (ls:=ls) (c:=ZW w c d);have hlc:=lc.len;have e:(Ze w ls (ZW w c d)).length=(ZS w ls (ZW w c d)).length:=by unfold Ze;rw[Ad]
 refine⟨by omega,by omega,hs,λr=>?_⟩;have e:=JM (c:=ZD) (e:=Za 1) (r:=r) (λp:zZ×zZ=>sx p.1) (λp=>sx p.2) (λ_=>Aa) (λp=>sx p.2) (ZS w ls (ZW w c d)) (λp _=>rfl) (λp _ _=>by simp);rw[Kr.mpr λ_ _=>rfl]at e;unfold Ze;rw[Aq];exact e
theorem kB(cr:Cr w.many c){d:Nat}(hd:d<w.deeds.length)(o6 o7:Option B):(xk w ls C F c d=Aa->Ea [qW w,qT ls,qT c,qL C,qL F,qP (dN d),o6,o7]=Z (.rt (.bool Aa))) /\ (xk w ls C F c d=Ab->∃p6 p7,Ea [qW w,qT ls,qT c,qL C,qL F,qP (dN d),o6,o7]=Z (.nx [qW w,qT ls,qT c,qL C,qL F,qP (dN d),p6,p7])):=by
 have tP:=N6 hv h7 cr (show(0:Int)<=(d:Int) by omega) (by omega);unfold Jq at tP;unfold xk;cases uN:AX w c d with
 |false=>rw[uN]at tP;refine⟨λh=>by simp at h,λ_=>⟨Z (.pl .none),o7,?_⟩⟩;simp[Ea,tP]
 |true =>
  rw[uN]at tP;rw[Kt];obtain⟨hp8,hs8,hs,e1⟩:=Iw hv h7 hl cr hd;generalize ZW w c d=b at *;have t7:(ZS w ls b).length<1000000:=by omega
  have y3:((Ze w ls b).map sx).length<1000000:=by rw[Ad];omega
  generalize hP:Ze w ls b=P at *;generalize hE:([qW w,qT ls,qT c,qL C,qL F,qP (dN d),qT b,qL P]:HM.Env)=E;have e2:Z3 (tV (CO (Za 0) (Zg 4))) (Za 0) E (P.map sx)=Z ((P.filter λp=>!C.contains p).map sx):=by
   rw[Cj sx (λp=>!C.contains p) sx]
   .intro p _
    rw[<-hE];simp[Hf,-DV]
   .intro p _ _
    simp
  have e3:Z3 (tV (Ej (Za 0) (Zg 5))) (Za 0) E (P.map sx)=Z ((P.filter λp=>F.contains p).map sx):=by
   rw[Cj sx (λp=>F.contains p) sx]
   .intro p _
    rw[<-hE];simp[Hf,-DV]
   .intro p _ _
    simp
  have hI:Zy (sD (Za 7)) E=Z (P.map sx):=by rw[<-hE];rfl
  have f2:=FH hI y3 e2;have f3:=FH hI y3 e3;have t2:tV (sG tK (tS (Zt (Zy (sD (Za 7))) (tV (CO (Za 0) (Zg 4))) (Za 0))) (tS (C3 Zj))) E=Z (P.all λp=>C.contains p):=by
   refine Gh (x:=.list ((P.filter λp=>!C.contains p).map sx)) (y:=.list []) (by show(Zt _ _ _ E).bind frz=_;rw[f2];rfl) rfl ?_;have hpl:CN (.list ((P.filter λp=>!C.contains p).map sx))=Aa:=Hd (QT _) (by decide);have he:∀X:z0,BN (.list (X.map sx)) (.list [])=X.isEmpty:=λX=>by cases X<;>rfl
   unfold tK;rw[hpl,if_pos (by rfl),he];congr 2;rw[GG];simp
  have t3:DH (Zt (Zy (sD (Za 7))) (tV (Ej (Za 0) (Zg 5))) (Za 0)) E=Z (P.any λp=>F.contains p):=by unfold DH;rw[f3];show Z (!((P.filter λp=>F.contains p).map sx).isEmpty)=_;congr 1;rw[GG];simp
  have tt:D7 (tV (sG tK (tS (Zt (Zy (sD (Za 7))) (tV (CO (Za 0) (Zg 4))) (Za 0))) (tS (C3 Zj)))) (DH (Zt (Zy (sD (Za 7))) (tV (Ej (Za 0) (Zg 5))) (Za 0))) E=Z ((P.all λp=>C.contains p)&&(P.any λp=>F.contains p)):=by
   unfold D7;rw[t2];cases P.all λp=>C.contains p
   .rfl
   .exact t3
  have s1:ZN 6 (Zi DS (Zb (Za 0) (Zb (Za 2) (Zb (Za 5) Zj)))) [qW w,qT ls,qT c,qL C,qL F,qP (dN d),o6,o7]=Z (.nx [qW w,qT ls,qT c,qL C,qL F,qP (dN d),qT b,o7]):=by simp[tP]
  have s2:ZO 7 (FI (Zy (sD (Zi ZU (Zb (Za 0) (Zb (Za 1) (Zb (Za 6) Zj)))))) ZD (Za 1)) [qW w,qT ls,qT c,qL C,qL F,qP (dN d),qT b,o7]=Z (.nx [qW w,qT ls,qT c,qL C,qL F,qP (dN d),qT b,qO P]):=by simp[hs,t7,e1]
  have uD:∀q:Option vz,tw (D7 (tV (sG tK (tS (Zt (Zy (sD (Za 7))) (tV (CO (Za 0) (Zg 4))) (Za 0))) (tS (C3 Zj)))) (DH (Zt (Zy (sD (Za 7))) (tV (Ej (Za 0) (Zg 5))) (Za 0)))) (ZG (eC (.bool Aa))) AL E=q->Ea [qW w,qT ls,qT c,qL C,qL F,qP (dN d),o6,o7]=q:=λq hq=>by unfold Ea;refine AY s1 ?_;show Zr _ _ [qW w,qT ls,qT c,qL C,qL F,qP (dN d),qT b,o7]=q;refine AY s2 ?_;rw[<-hE]at hq;exact hq
  constructor
  .intro h
   refine uD _ ?_;unfold tw;rw[tt,h];rfl
  .intro h
   refine⟨Z (.pl (sx b)),qL P,uD _ ?_⟩;unfold tw;rw[tt,h,<-hE];rfl
theorem VO{C F:z0}{c:zZ}(cr:Cr w.many c):∀(ds:List Nat) (o5 o6 o7:Option B),(∀d∈ds,d<w.deeds.length) ->(ds.any (xk w ls C F c)=Aa->Z7 5 Ea (ds.map dN) [qW w,qT ls,qT c,qL C,qL F,o5,o6,o7]=Z (.rt (.bool Aa))) /\ (ds.any (xk w ls C F c)=Ab->∃r',Z7 5 Ea (ds.map dN) [qW w,qT ls,qT c,qL C,qL F,o5,o6,o7]=Z (.nx r'))
 |[],o5,o6,o7,_=>⟨λh=>by simp at h,λ_=>⟨_,rfl⟩⟩
 |d::ds,o5,o6,o7,sY=>by
  obtain⟨h1,h2⟩:=kB hv h7 hl (C:=C) (F:=F) cr (sY d (An ..)) o6 o7;rw[Fe,Ai];cases hq:xk w ls C F c d with
  |true=>refine⟨λ_=>?_,λh=>by simp at h⟩;show(match Ea [qW w,qT ls,qT c,qL C,qL F,qP (dN d),o6,o7]with|some (.nx r')=>_|some (.ct r')=>_|some (.bk r')=>_|some (.rt d)=>_|none=>_)=_;rw[h1 hq]
  |false =>
   obtain⟨p6,p7,e⟩:=h2 hq;obtain⟨g1,g2⟩:=VO (C:=C) (F:=F) cr ds (Z (.pl (dN d))) p6 p7 λx hx=>sY x (Ao _ hx);rw[Kv];have hh:∀q,Z7 5 Ea (ds.map dN) [qW w,qT ls,qT c,qL C,qL F,qP (dN d),p6,p7]=q->Z7 5 Ea (dN d::ds.map dN) [qW w,qT ls,qT c,qL C,qL F,o5,o6,o7]=q:=λq h=>by refine Dp e ?_;exact h
   refine⟨λh=>hh _ (g1 h),λh=>?_⟩;obtain⟨r',g⟩:=g2 h;exact⟨r',hh _ g⟩
theorem xU(cr:Cr w.many c):Hi [w.d,sx ls,sx c,.list (C.map sx),.list (F.map sx)]=Z (.bool (u5 w ls C F c)):=by
 have d2:=hv.d2;have hok:v9 (w.deeds.length:Int)=Aa:=Fz (by omega);have va:w.deeds.length<1000000:=by omega
 have hi:CM (Z5 (sD (sS (Zg 0) (eC (.int 1))))) [qW w,qT ls,qT c,qL C,qL F,Z_,Z_,Z_]=Z ((Ah w.deeds.length).map dN):=by have i0:Cz (.pl w.d)=Z [BK w.many,.tuple (w.deeds.map ZY),.tuple (w.looks.map sx),sx w.beg,sx w.goal]:=rfl;simp[i0,hok,Dc,-Cz]
 have hf:AH 5 (CM (Z5 (sD (sS (Zg 0) (eC (.int 1)))))) Ea [qW w,qT ls,qT c,qL C,qL F,Z_,Z_,Z_]=Z7 5 Ea ((Ah w.deeds.length).map dN) [qW w,qT ls,qT c,qL C,qL F,Z_,Z_,Z_]:=by unfold AH;rw[hi];dsimp only;rw[if_pos (by rw[Ad,DC];exact va)]
 obtain⟨g1,g2⟩:=VO hv h7 hl (C:=C) (F:=F) cr (Ah w.deeds.length) Z_ Z_ Z_ λd hd=>AI.mp hd;show Bs (Sj [qW w,qT ls,qT c,qL C,qL F,Z_,Z_,Z_])=_;unfold Sj Zr;rw[hf];unfold u5;cases hq:(Ah w.deeds.length).any (xk w ls C F c)with
 |true=>rw[g1 hq];rfl
 |false=>obtain⟨r',g⟩:=g2 hq;rw[g];rfl
structure zj(w:Wk)(ls:zZ)(C F:z0):Prop where
 nd:F.Nodup
 sub:∀c∈F,c∈C
 lk:∀c∈F,∃n,Lk w (xj w ls C) n c=Aa
 th:∀c∈C,ZH w c=Aa->c∈F
theorem Rp{C:z0}(hC:∀c∈C,Cr w.many c)(uj:BC C<=128):∀(cs F:z0) (g:Bool) (o5:Option B),(∀c∈cs,c∈C)->zj w ls C F ->∃ex p5,Z7 5 J1 (cs.map sx) [qW w,qT ls,qL C,qO F,qP (.bool g),o5]=Z (.nx [qW w,qT ls,qL C,qO (F++ex),qP (.bool (g||!ex.isEmpty)),p5])/\zj w ls C (F++ex)/\(ex=[]->∀c∈cs,c∈F\/u5 w ls C F c=Ab)
 |[],F,g,o5,_,I=>⟨[],o5,by rw[Ba];show _=Z (vz.nx [_,_,_,_,qP (.bool (g||false)),_]);rw[Bool.or_false];rfl,by rw[Ba];exact I,λ_ c hc=>by simp at hc⟩
 |c::cs,F,g,o5,wM,I=>by
  have hc:=wM c (An ..);have vj:=xU hv h7 hl (C:=C) (F:=F) (hC c hc);have hFl:BC F<=128:=Bp (BW I.nd I.sub) uj;have ht:UP 3 (D7 (tV (CO (Za 5) (Zg 3))) (tV (Zi Hi (Zb (Za 0) (Zb (Za 1) (Zb (Za 5) (Zb (Za 2) (Zb (Za 3) Zj)))))))) [qW w,qT ls,qL C,qO F,qP (.bool g),qT c]=Z (!F.contains c&&u5 w ls C F c):=by
   show D7 (tV (CO (Za 5) (Zg 3))) (tV (Zi Hi (Zb (Za 0) (Zb (Za 1) (Zb (Za 5) (Zb (Za 2) (Zb (Za 3) Zj))))))) [qW w,qT ls,qL C,qL F,qP (.bool g),qT c]=_;have h1:tV (CO (Za 5) (Zg 3)) [qW w,qT ls,qL C,qL F,qP (.bool g),qT c]=Z (!F.contains c):=by simp[Hf,-DV]
   have h2:tV (Zi Hi (Zb (Za 0) (Zb (Za 1) (Zb (Za 5) (Zb (Za 2) (Zb (Za 3) Zj)))))) [qW w,qT ls,qL C,qL F,qP (.bool g),qT c]=Z (u5 w ls C F c):=by have:Zi Hi (Zb (Za 0) (Zb (Za 1) (Zb (Za 5) (Zb (Za 2) (Zb (Za 3) Zj))))) [qW w,qT ls,qL C,qL F,qP (.bool g),qT c]=Z (.bool (u5 w ls C F c)):=vj;unfold tV;rw[this]
   unfold D7;rw[h1];cases F.contains c
   .exact h2
   .rfl
  rw[Ai]
  by_cases hq:(!F.contains c&&u5 w ls C F c)=Aa
  .obtain⟨q1,q2⟩:=Bool.and_eq_true_iff.mp hq
   have hcF:c∉F:=by simpa using q1
   have body:J1 [qW w,qT ls,qL C,qO F,qP (.bool g),qT c]=Z (.nx [qW w,qT ls,qL C,qO (F++[c]),qP (.bool Aa),qT c]):=by
    unfold J1 tw;rw[ht,hq];refine AY (r':=[qW w,qT ls,qL C,qO (F++[c]),qP (.bool g),qT c]) ?_ rfl;have:BC F<1000000:=by omega
    simp[this]
   have I':zj w ls C (F++[c]):=by
    obtain⟨y,hy,p,hp,hpF⟩:=V1.mp q2;obtain⟨n,hn⟩:=I.lk p hpF;refine⟨Ee.mpr ⟨I.nd,by simp,λa ha b hb e=>?_⟩,λx hx=>?_,λx hx=>?_,λx hx t=>CW _ (I.th x hx t)⟩
    .rw[Ax]at hb
     subst hb;subst e;exact hcF ha
    .rcases Bb.mp hx with hx|hx
     .exact I.sub x hx
     .rw[Ax.mp hx];exact hc
    .rcases Bb.mp hx with hx|hx
     .exact I.lk x hx
     .rw[Ax.mp hx]
      exact⟨n+1,MZ hy hp hn⟩
   obtain⟨ex,p5,e,I2,_⟩:=Rp hC uj cs (F++[c]) Aa (Z (.pl (sx c))) (λx hx=>wM x (Ao _ hx)) I';refine⟨c::ex,p5,?_,?_,λz=>by cases z⟩
   .refine Dp body ?_
    rw[e,B8,Bool.true_or];show _=Z (vz.nx [_,_,_,_,qP (.bool (g||true)),_]);rw[Bool.or_true];rfl
   .rw[B8]at I2
    exact I2
  .have hq:(!F.contains c&&u5 w ls C F c)=Ab:=TQ.mpr hq
   have body:J1 [qW w,qT ls,qL C,qO F,qP (.bool g),qT c]=Z (.nx [qW w,qT ls,qL C,qO F,qP (.bool g),qT c]):=by unfold J1 tw;rw[ht,hq];rfl
   obtain⟨ex,p5,e,I2,h3⟩:=Rp hC uj cs F g (Z (.pl (sx c))) (λx hx=>wM x (Ao _ hx)) I;refine⟨ex,p5,?_,I2,λz x hx=>?_⟩
   .refine Dp body ?_
    exact e
   .rcases As.mp hx with rfl|hx
    .by_cases hF:x∈F
     .exact .inl hF
     .right
      have:F.contains x=Ab:=by simpa using hF
      rw[this]at hq;simpa using hq
    .exact h3 z x hx
theorem X5{C:z0}(hC:∀c∈C,Cr w.many c)(uj:BC C<=128):∀(sI:Nat) (F:z0) (o5:Option B),zj w ls C F->130<=BC F+sI ->∃G p4 p5,Z9 (tV (Za 4)) II sI [qW w,qT ls,qL C,qO F,qP (.bool Aa),o5]=Z (.nx [qW w,qT ls,qL C,qO G,p4,p5])/\zj w ls C G/\∀c∈C,c∈G\/u5 w ls C G c=Ab
 |0,F,o5,I,h=>by have:=Bp (BW I.nd I.sub) uj;omega
 |sI+1,F,o5,I,h=>by
  have hFl:=Bp (BW I.nd I.sub) uj;obtain⟨ex,p5,e,I2,h3⟩:=Rp hv h7 hl hC uj C F Ab o5 (λ_ h=>h) I;have body:II [qW w,qT ls,qL C,qO F,qP (.bool Aa),o5]=Z (.nx [qW w,qT ls,qL C,qO (F++ex),qP (.bool (Ab||!ex.isEmpty)),p5]):=by unfold II;refine AY (r':=[qW w,qT ls,qL C,qO F,qP (.bool Ab),o5]) rfl ?_;show(if(C.map sx).length<big then _ else _)=_;rw[if_pos (by rw[Ad];unfold big;omega)];exact e
  have hw:Z9 (tV (Za 4)) II (sI+1) [qW w,qT ls,qL C,qO F,qP (.bool Aa),o5]=Z9 (tV (Za 4)) II sI [qW w,qT ls,qL C,qO (F++ex),qP (.bool (Ab||!ex.isEmpty)),p5]:=by rw[Z9];show(match II _ with|some (.nx r')=>_|some (.ct r')=>_|some (.bk r')=>_|some (.rt d)=>_|none=>_)=_;rw[body]
  rw[hw];cases ex with
  |nil=>obtain⟨f',rfl⟩:∃f',sI=f'+1:=⟨sI-1,by omega⟩;rw[Ba]at I2 ⊢;exact⟨F,_,_,by rw[Z9];rfl,I2,h3 rfl⟩
  |cons x ex=>exact X5 hC uj sI (F++x::ex) p5 I2 (by rw[AE,Av];omega)
theorem gL(hC:∀c∈C,Cr w.many c)(hn:C.Nodup)(uj:BC C<=128):∃G:z0,JS [w.d,sx ls,.list (C.map sx)]=Z (.list (G.map sx))/\G.Nodup/\∀c,c∈G↔c∈C/\∃n,Lk w (xj w ls C) n c=Aa:=by
 have u9:=hv.m2;have e0:Z3 (tV (Zi FK (Zb (Za 1) (Zb (Za 0) Zj)))) (Za 0) [qW w,qT ls,qL C,Z_,Z_,Z_] (C.map sx)=Z ((C.filter (ZH w)).map sx):=by
  rw[Cj sx (ZH w) sx]
  .intro c hc
   have:=av hv (c:=c) (by have:=(hC c hc).len;omega);simp[this]
  .intro c _ _
   simp
 have f0:=FH (I:=Zy (sD (Za 2))) (r:=[qW w,qT ls,qL C,Z_,Z_,Z_]) rfl (by rw[Ad];omega) e0;have I0:zj w ls C (C.filter (ZH w)):=⟨hn.filter _,λc hc=>(AO.mp hc).1,λc hc=>⟨0,(AO.mp hc).2⟩,λc hc t=>AO.mpr ⟨hc,t⟩⟩;obtain⟨G,p4,p5,e,I,tN⟩:=X5 hv h7 hl hC uj 100000 (C.filter (ZH w)) Z_ I0 (by omega);refine⟨G,?_,I.nd,λc=>⟨λh=>⟨I.sub c h,I.lk c h⟩,λ⟨hc,n,hn⟩=>?_⟩⟩
 .show Bs (Si [qW w,qT ls,qL C,Z_,Z_,Z_])=_
  unfold Si;refine A8 (r':=[qW w,qT ls,qL C,qO (C.filter (ZH w)),Z_,Z_]) (by unfold ZO;rw[f0];rfl) ?_;refine A8 (r':=[qW w,qT ls,qL C,qO (C.filter (ZH w)),qP (.bool Aa),Z_]) rfl ?_;exact A8 e rfl
 .induction n generalizing c with
  |zero=>exact I.th c hc hn
  |succ n ih =>
   have hn:(ZH w c||(xj w ls C c).any λy=>(sZ y).any (Lk w (xj w ls C) n))=Aa:=hn;rw[Ew]at hn;rcases hn with hn|hn
   .exact I.th c hc hn
   .obtain⟨y,hy,q⟩:=AJ.mp hn
    obtain⟨p,hp,q⟩:=AJ.mp q;have hpC:=(Fx.mp hy).2 p hp;have hpG:=ih p ⟨hpC,n,q⟩ hpC q;rcases tN c hc with h|h
    .exact h
    .rw[V1.mpr ⟨y,hy,p,hp,hpG⟩]at h
     cases h
structure zS(w:Wk)(ls:zZ)(A C:z0):Prop where
 nd:C.Nodup
 sub:∀c∈C,c∈A
 pat:∀T,MI w ls T->(∀c∈T,c∈A)->∀c∈T,c∈C
theorem gn{A G:z0}(I:zS w ls A C)(hG:∀c,c∈G↔c∈C/\∃n,Lk w (xj w ls C) n c=Aa):zS w ls A (C.filter λc=>G.contains c):=by refine⟨I.nd.filter _,λc hc=>I.sub c (AO.mp hc).1,λT hT hA c hc=>AO.mpr ⟨I.pat T hT hA c hc,?_⟩⟩;have hTC:=I.pat T hT hA;obtain⟨n,hn⟩:=hT c hc;have:c∈G:=(hG c).mpr ⟨hTC c hc,n,MQ (λx hx y hy=>⟨Fx.mpr ⟨(Fx.mp hy).1,λp hp=>hTC p ((Fx.mp hy).2 p hp)⟩,(Fx.mp hy).2⟩) n c hc hn⟩;simpa using this
theorem Wo(ap:AP){A:z0}(hA:∀c∈A,Cr w.many c)(uj:BC A<=128)(hnA:A.Nodup)(e0 e5 e6 e7 e8 e9:Option B):∀(sI:Nat) (C:z0) (b3:B) (o4:Option B),b3=.pl (.list (C.map sx))\/b3=.ol (C.map sx)->zS w ls A C->C.length<sI ->∃C' p4,Z9 (tV (eC (.bool Aa))) (G6 ap) sI [e0,qW w,qT ls,Z b3,o4,e5,e6,e7,e8,e9]=Z (.nx [e0,qW w,qT ls,qL C',p4,e5,e6,e7,e8,e9])/\zS w ls A C'/\MI w ls C'
 |0,C,b3,o4,_,_,h=>by omega
 |sI+1,C,b3,o4,hb3,I,h=>by
  have hCl:BC C<=128:=Bp (BW I.nd I.sub) uj;obtain⟨G,e,hn,hG⟩:=gL hv h7 hl (C:=C) (λc hc=>hA c (I.sub c hc)) I.nd hCl;have s1:Ce 3 (ZN 4 (Zi JS (Zb (Za 1) (Zb (Za 2) (Zb (Za 3) Zj))))) [e0,qW w,qT ls,Z b3,o4,e5,e6,e7,e8,e9]=Z (.nx [e0,qW w,qT ls,qL C,qL G,e5,e6,e7,e8,e9]):=by
   have:NG 3 [e0,qW w,qT ls,Z b3,o4,e5,e6,e7,e8,e9]=[e0,qW w,qT ls,qL C,o4,e5,e6,e7,e8,e9]:=by rcases hb3 with rfl|rfl<;>rfl
   unfold Ce;rw[this];have:Zi JS (Zb (Za 1) (Zb (Za 2) (Zb (Za 3) Zj))) [e0,qW w,qT ls,qL C,o4,e5,e6,e7,e8,e9]=Z (.list (G.map sx)):=e;unfold ZN;rw[this];rfl
  have hpl:∀n:Nat,CN (.int n)=Aa:=λn=>Hd (n:=1) (EL _ _) (by decide);have ht:tV (sG tK (Z5 (Zg 4)) (Z5 (Zg 3))) [e0,qW w,qT ls,qL C,qL G,e5,e6,e7,e8,e9]=Z (decide (BC G=C.length)):=by
   have hg1:Z5 (Zg 4) [e0,qW w,qT ls,qL C,qL G,e5,e6,e7,e8,e9]=Z (.int (G.length:Nat)):=by simp
   have vq:Z5 (Zg 3) [e0,qW w,qT ls,qL C,qL G,e5,e6,e7,e8,e9]=Z (.int (C.length:Nat)):=by simp
   refine Gh hg1 vq ?_;unfold tK;rw[hpl,hpl,if_pos (by rfl)];congr 2;rw[GG];simp[BN];omega
  have tT:∀c∈G,c∈C:=λc hc=>((hG c).mp hc).1
  by_cases sA:BC G=C.length
  .refine⟨C,qL G,?_,I,λc hc=>?_⟩
   .have body:G6 ap [e0,qW w,qT ls,Z b3,o4,e5,e6,e7,e8,e9]=Z (.bk [e0,qW w,qT ls,qL C,qL G,e5,e6,e7,e8,e9]):=by
     unfold G6;refine AY s1 ?_;unfold Zr tw;rw[ht,decide_eq_true sA];rfl
    rw[Z9];show(match G6 ap _ with|some (.nx r')=>_|some (.ct r')=>_|some (.bk r')=>_|some (.rt d)=>_|none=>_)=_;rw[body]
   .have hcG:c∈G:=by
     apply Jj;intro z;have h1:(c::G).Nodup:=CC.mpr ⟨z,hn⟩;have h2:=BW h1 (λy hy=>by
      rcases As.mp hy with e|e
      .rw[e];exact hc
      .exact tT y e:∀y∈c::G,y∈C)
     rw[Av]at h2;omega
    exact((hG c).mp hcG).2
  .have e2:Z3 (tV (Ej (Za 0) (Zg 5))) (Za 0) [e0,qW w,qT ls,qL C,qL G,e5,e6,e7,e8,e9] (C.map sx)=Z ((C.filter λc=>G.contains c).map sx):=by
    rw[Cj sx (λp=>G.contains p) sx]
    .intro p _
     simp[Hf,-DV]
    .intro p _ _
     simp
   have f2:=FH (I:=Zy (sD (Za 3))) (r:=[e0,qW w,qT ls,qL C,qL G,e5,e6,e7,e8,e9]) rfl (by rw[Ad];omega) e2;have body:G6 ap [e0,qW w,qT ls,Z b3,o4,e5,e6,e7,e8,e9]=Z (.nx [e0,qW w,qT ls,qO (C.filter λc=>G.contains c),qL G,e5,e6,e7,e8,e9]):=by
    unfold G6;refine AY s1 ?_;refine AY (r':=[e0,qW w,qT ls,qL C,qL G,e5,e6,e7,e8,e9]) ?_ ?_
    .unfold tw
     rw[ht,decide_eq_false sA];rfl
    .show ZO 3 _ [e0,qW w,qT ls,qL C,qL G,e5,e6,e7,e8,e9]=_
     unfold ZO;rw[f2];rfl
   have hless:(C.filter λc=>G.contains c).length<BC C:=by
    have h1:(C.filter λc=>G.contains c).length<=BC G:=BW (I.nd.filter _) λc hc=>by simpa using(AO.mp hc).2
    have h2:BC G<=BC C:=BW hn tT;omega
   obtain⟨C',p4,g,J⟩:=Wo ap hA uj hnA e0 e5 e6 e7 e8 e9 sI (C.filter λc=>G.contains c) _ (Z (.pl (.list (G.map sx)))) (.inr rfl) (gn hv h7 hl I hG) (by omega);refine⟨C',p4,?_,J⟩;rw[Z9];show(match G6 ap _ with|some (.nx r')=>_|some (.ct r')=>_|some (.bk r')=>_|some (.rt d)=>_|none=>_)=_;rw[body];exact g
end
end HG19
namespace HGD
open PySem HM
open HG
theorem Y7{ts us:z0}(h:us.Perm ts):Bc us=Bc ts:=by
 have fx0:HP.FX:=HP.uC;refine HP.Yr ((CA us).trans h) ?_;have:=PJ (le:=λa b:zZ=>!HM.lexLt b a) (λa b c h1 h2=>by
  simp only[Bool.not_eq_true']at *;cases q:HM.lexLt c a with
  |false=>rfl
  |true =>
   rcases HP.Q9 c b a q with z|z
   .rw[h2]at z;cases z
   .rw[h1]at z;cases z) (λa b=>by
  cases q:HM.lexLt b a with
  |false=>simp
  |true =>
   cases q2:HM.lexLt a b with
   |false=>simp
   |true=>have:=HP.uy _ _ _ q q2;rw[HP.ug]at this;cases this) us
 exact this.imp λh=>by simpa using h
end HGD
namespace HG19
open PySem HM
open HG
open HG4
open HG5
open HG6
open HG20
open HGD
section
variable{c:zZ}{u:zZ->Option Int}
def AS(u:zZ->Option Int)(K:z0):List (List Ky×D):=K.map λc=>(Z8 c,oI (u c))
abbrev qV(u:zZ->Option Int)(K:z0):Option B:=Z (.pl (.dict (Zq (AS u K))))
abbrev qH(u:zZ->Option Int)(K:z0):Option B:=Z (.hd (Zq (AS u K)))
theorem jw(u:zZ->Option Int)(C:z0)(k:zZ):Zk (AS u C) (Z8 k)=if k∈C then Z (oI (u k))else Z_:=by
 unfold Zk AS
 induction C with
 |nil=>rfl
 |cons c C ih =>
  rw[Ai,Di]
  by_cases h:c=k
  .subst h
   rw[if_pos (An ..)];simp
  .have h':decide ((Z8 c,oI (u c)).1=Z8 k)=Ab:=decide_eq_false λe=>h (Iq e)
   rw[h'];dsimp only;rw[ih]
   by_cases q:k∈C
   .rw[if_pos q,if_pos (Ao _ q)]
   .rw[if_neg q,if_neg λz=>by
     rcases As.mp z with e|e
     .exact h e.symm
     .exact q e]
theorem iL{C:z0}{k:zZ}(h:k∉C):tj (AS u C) (Z8 k) (oI (u k))=AS u (C++[k]):=by
 unfold tj;rw[if_neg]
 .unfold AS
  rw[BB];rfl
 .intro z
  obtain⟨p,hp,e⟩:=AJ.mp z;unfold AS at hp;obtain⟨c,hc,rfl⟩:=Al.mp hp;have e:=Iq (of_decide_eq_true e);subst e;exact h hc
theorem NP(u:zZ->Option Int)(L:z0):((AS u L).map λp=>Bj (p.1.map Bv))=L.map sx:=by unfold AS;rw[Aq];refine E9 λc _=>?_;show Bj ((c.map Cn).map Bv)=Bj (c.map dI);rw[Aq];rfl
structure TbI(w:Wk)(ls:zZ)(K:z0)(u:zZ->Option Int):Prop where
 nd:K.Nodup
 cr:∀c∈K,Cr w.many c/\c≠[]
 len:BC K<=32
 non:∀c∈K,u c=Z_↔ZH w c=Aa
 ok:∀c∈K,∀d,u c=Z d->0<=d/\d<w.deeds.length/\AX w c d=Aa/\∀p∈Ze w ls (ZW w c d),p∈K
 bg:∀p∈Ze w ls w.beg,p∈K
 rc:∀c∈K,c∈Ze w ls w.beg\/∃b∈K,∃d,u b=Z d/\c∈Ze w ls (ZW w b d)
 rk:∃f:zZ->Nat,∀c∈K,∀d,u c=Z d->∃p∈Ze w ls (ZW w c d),f p<f c
def wg(w:Wk)(ls:zZ)(u:zZ->Option Int)(c:zZ):z0:=match u c with
 |some d=>Ze w ls (ZW w c d)
 |none=>[]
theorem P9{K:z0}(hc:c∈K)(r:HM.Env)(i j:Nat)(hi:r[i]?=Z (Z (.hd (Zq (AS u K))))\/r[i]?=Z (Z (.pl (.dict (Zq (AS u K))))))(hj:r[j]?=Z (Z (.pl (sx c)))):ZI (Zg i) (Za j) r=Z (oI (u c)):=by have hk:Be (sx c)=Z (Z8 c):=B6 c;have vH:=jw u K c;rw[if_pos hc]at vH;rcases hi with hi|hi<;>simp[hi,hj,sE,hk,vH]
section
variable{w:Wk}(hv:Wk.V w)(h7:w.many<=7){ls:zZ}(hl:Cr w.looks.length ls){K:z0}{u:zZ->Option Int}(T:TbI w ls K u)
include hv h7 hl T
theorem el(hc:c∈K):(wg w ls u c).length<=8:=by
 unfold wg;split
 .rename_i d hd
  obtain⟨d0,d1,_⟩:=T.ok c hc d hd;have:=(Iw hv h7 hl (c:=c) (d:=d.toNat) (T.cr c hc).1 (by omega)).1
  rwa [Kq d0]at this
 .simp
theorem iI{acc:z0}(hc:c∈K)(hb:BC acc<900000)(e3 e5 o7 e8:Option B)(h7':ZZ o7=Ab):∃p7,IQ [qW w,qT ls,qH u K,e3,qO acc,e5,qT c,o7,e8]=Z (.nx [qW w,qT ls,qH u K,e3,qO (acc++wg w ls u c),e5,qT c,p7,e8])/\ZZ p7=Ab:=by
 obtain⟨cr,ne⟩:=T.cr c hc;have yY:=av hv (c:=c) (by have:=cr.len;have:=hv.m2;omega);have hnon:=T.non c hc;have hg:∀q7,ZI (Zg 2) (Za 6) [qW w,qT ls,qH u K,e3,qO acc,e5,qT c,q7,e8]=Z (oI (u c)):=λq7=>P9 hc _ 2 6 (.inl rfl) rfl;unfold wg;cases hu:u c with
 |none =>
  rw[hu]at hg;have ht:ZH w c=Aa:=hnon.mp hu;refine⟨o7,?_,h7'⟩;dsimp only;rw[Ba];unfold IQ;generalize ZI (Zg 2) (Za 6)=E at hg ⊢;refine AY (r':=[qW w,qT ls,qH u K,e3,qO acc,e5,qT c,o7,e8]) ?_ ?_
  .have h1:sG EI E (eC .none) [qW w,qT ls,qH u K,e3,qO acc,e5,qT c,o7,e8]=Z (.bool Aa):=by unfold sG;rw[hg];rfl
   have h2:Zi FK (Zb (Za 0) (Zb (Za 6) Zj)) [qW w,qT ls,qH u K,e3,qO acc,e5,qT c,o7,e8]=Z (.bool Aa):=by rw[ht]at yY;exact yY
   have h3:=Gh (g:=wF) (b:=Ab) h1 h2 (Vr _);rw[GW h3];rfl
  .have h1:tV (sG Fu E (eC .none)) [qW w,qT ls,qH u K,e3,qO acc,e5,qT c,o7,e8]=Z Ab:=Gh (hg _) rfl rfl
   rw[GW h1];rfl
 |some d =>
  rw[hu]at hg;obtain⟨d0,d1,uN,uR⟩:=T.ok c hc d hu;have ht:ZH w c=Ab:=by
   cases q:ZH w c with
   |false=>rfl
   |true=>rw[hnon.mpr q]at hu;cases hu
  have tP:=N6 hv h7 cr d0 d1;unfold Jq at tP;rw[uN,if_pos rfl]at tP;obtain⟨n,rfl⟩:∃n:Nat,d=(n:Int):=⟨d.toNat,(Kq d0).symm⟩;obtain⟨hp8,hs8,hs,e1⟩:=Iw hv h7 hl (c:=c) (d:=n) cr (by omega);dsimp only;generalize ZW w c (n:Int)=b at *;have t7:(ZS w ls b).length<1000000:=by omega
  refine⟨Z (.pl (sx b)),?_,rfl⟩;unfold IQ;generalize ZI (Zg 2) (Za 6)=E at hg ⊢;refine AY (r':=[qW w,qT ls,qH u K,e3,qO acc,e5,qT c,o7,e8]) ?_ ?_
  .have h1:sG EI E (eC .none) [qW w,qT ls,qH u K,e3,qO acc,e5,qT c,o7,e8]=Z (.bool Ab):=by unfold sG;rw[hg];rfl
   have h2:Zi FK (Zb (Za 0) (Zb (Za 6) Zj)) [qW w,qT ls,qH u K,e3,qO acc,e5,qT c,o7,e8]=Z (.bool Ab):=by rw[ht]at yY;exact yY
   have h3:=Gh (g:=wF) (b:=Ab) h1 h2 (Vr _);rw[GW h3];rfl
  have h1:tV (sG Fu E (eC .none)) [qW w,qT ls,qH u K,e3,qO acc,e5,qT c,o7,e8]=Z Aa:=Gh (hg _) rfl rfl;rw[K1 h1];refine AY (r':=[qW w,qT ls,qH u K,e3,qO acc,e5,qT c,qP (.none),e8]) rfl ?_;refine AY (r':=[qW w,qT ls,qH u K,e3,qO acc,e5,qT c,qT b,e8]) ?_ ?_
  .have yz:=hg (Z (.pl .none))
   generalize hEn:([qW w,qT ls,qH u K,e3,qO acc,e5,qT c,qP (.none),e8]:HM.Env)=En at yz ⊢;have hw:tV (Zi J2 (Zb E Zj)) En=Z Aa:=by
    have ha:Zb E Zj En=Z [.int (n:Int)]:=by show(match E En with|some x=>_|none=>_)=_;rw[yz];rfl
    have:Zi J2 (Zb E Zj) En=Z (.bool Aa):=by unfold Zi;rw[ha];rfl
    unfold tV;rw[this]
   have sA:Z5 (sD (sS (Zg 0) (eC (.int 1)))) En=Z (.int (w.deeds.length:Int)):=by have i0:Cz (.pl w.d)=Z [BK w.many,.tuple (w.deeds.map ZY),.tuple (w.looks.map sx),sx w.beg,sx w.goal]:=rfl;rw[<-hEn];simp[i0,-Cz]
   have wB:tV (IG xG vt (eC (.int 0)) E (Z5 (sD (sS (Zg 0) (eC (.int 1)))))) En=Z Aa:=by
    have:IG xG vt (eC (.int 0)) E (Z5 (sD (sS (Zg 0) (eC (.int 1))))) En=Z (.bool Aa):=by
     generalize Z5 (sD (sS (Zg 0) (eC (.int 1))))=X at sA ⊢;unfold IG eC;dsimp only;rw[yz,sA];have vO:xG (.int 0) (oI (Z (n:Int)))=Z (.bool Aa):=by show Z (Bq (decide ((0:Int)<=(n:Int))))=_;rw[decide_eq_true (by omega)]
     dsimp only;rw[vO];show Z (Bq (decide ((n:Int)<(w.deeds.length:Int))))=_;rw[decide_eq_true (by omega)]
    unfold tV;rw[this]
   have vc:Zi DS (Zb (Za 0) (Zb (Za 6) (Zb E Zj))) En=Z (sx b):=by
    have ha:Zb (Za 0) (Zb (Za 6) (Zb E Zj)) En=Z [w.d,sx c,.int (n:Int)]:=by
     have h0:Za 0 En=Z w.d:=by rw[<-hEn];rfl
     have h6:Za 6 En=Z (sx c):=by rw[<-hEn];rfl
     generalize Za 0=X0 at h0 ⊢;generalize Za 6=X6 at h6 ⊢;show(match X0 En with|some x=>_|none=>_)=_;rw[h0];dsimp only[Zb];rw[h6];dsimp only;rw[yz];rfl
    unfold Zi;rw[ha];exact tP
   have hta:D7 (tV (Zi J2 (Zb E Zj))) (tV (IG xG vt (eC (.int 0)) E (Z5 (sD (sS (Zg 0) (eC (.int 1))))))) En=Z Aa:=by unfold D7;rw[hw];exact wB
   rw[K1 hta];unfold ZN;rw[vc,<-hEn];rfl
  refine AY (r':=[qW w,qT ls,qH u K,e3,qO acc,e5,qT c,qT b,e8]) rfl ?_;have u3:BC acc+(Ze w ls b).length<1000000:=by omega
  simp[hs,t7,e1,u3]
theorem Vt(e3 e5 e8:Option B):∀(cs acc:z0) (o6 o7:Option B),(∀c∈cs,c∈K)->acc.length+8*cs.length<800000->ZZ o6=Ab->ZZ o7=Ab ->∃p6 p7,Z7 6 IQ (cs.map sx) [qW w,qT ls,qH u K,e3,qO acc,e5,o6,o7,e8]=Z (.nx [qW w,qT ls,qH u K,e3,qO (acc++cs.flatMap (wg w ls u)),e5,p6,p7,e8])/\ZZ p6=Ab/\ZZ p7=Ab
 |[],acc,o6,o7,_,_,h6,h7'=>⟨o6,o7,by rw[List.flatMap_nil,Ba];rfl,h6,h7'⟩
 |c::cs,acc,o6,o7,wM,hb,h6,h7'=>by have hc:=wM c (An ..);rw[Av]at hb;obtain⟨p7,e,hp⟩:=iI hv h7 hl T (acc:=acc) hc (by omega) e3 e5 o7 e8 h7';have tN:=el hv h7 hl T hc;obtain⟨q6,q7,f,g6,g7⟩:=Vt e3 e5 e8 cs (acc++wg w ls u c) (Z (.pl (sx c))) p7 (λx hx=>wM x (Ao _ hx)) (by rw[AE];omega) rfl hp;refine⟨q6,q7,?_,g6,g7⟩;rw[TR,<-B8,<-f,Ai];exact Dp e rfl
omit hv h7 hl T in
def Gb(w:Wk)(ls:zZ)(u:zZ->Option Int)(N:z0)(c:zZ):Bool:=(wg w ls u c).any λp=>N.contains p
structure zh(K:z0)(u:zZ->Option Int)(N:z0):Prop where
 nd:N.Nodup
 sub:∀c∈N,c∈K
 non:∀c∈K,u c=Z_->c∈N
theorem Ri(e3 e4 e8:Option B):∀(cs N:z0) (o6 o7:Option B),(∀c∈cs,c∈K)->zh K u N->ZZ o6=Ab->ZZ o7=Ab ->∃ex p6 p7,Z7 6 Kb (cs.map sx) [qW w,qT ls,qH u K,e3,e4,qO N,o6,o7,e8]=Z (.nx [qW w,qT ls,qH u K,e3,e4,qO (N++ex),p6,p7,e8])/\ZZ p6=Ab/\ZZ p7=Ab/\zh K u (N++ex)/\(ex=[]->∀c∈cs,c∈N\/Gb w ls u N c=Ab)
 |[],N,o6,o7,_,I,h6,h7'=>⟨[],o6,o7,by rw[Ba];rfl,h6,h7',by rw[Ba];exact I,λ_ c hc=>by simp at hc⟩
 |c::cs,N,o6,o7,wM,I,h6,h7'=>by
  have hc:=wM c (An ..);have hNl:BC N<=32:=Bp (BW I.nd I.sub) T.len;have ht:tV (CO (Za 6) (Zg 5)) [qW w,qT ls,qH u K,e3,e4,qO N,qT c,o7,e8]=Z (!N.contains c):=by simp[Hf,-DV]
  have vT:∃p7,ZZ p7=Ab/\Kb [qW w,qT ls,qH u K,e3,e4,qO N,qT c,o7,e8]=Z (.nx [qW w,qT ls,qH u K,e3,e4,qO (if !N.contains c&&Gb w ls u N c then N++[c]else N),qT c,p7,e8]):=by
   cases hN:N.contains c with
   |true=>rw[hN]at ht;refine⟨o7,h7',?_⟩;unfold Kb;rw[GW ht];rfl
   |false =>
    rw[hN]at ht;have hcN:c∉N:=by simpa using hN
    obtain⟨d,hu⟩:∃d,u c=Z d:=by
     cases q:u c with
     |none=>exact absurd (I.non c hc q) hcN
     |some d=>exact⟨d,rfl⟩
    obtain⟨cr,ne⟩:=T.cr c hc;obtain⟨d0,d1,uN,uR⟩:=T.ok c hc d hu;have tP:=N6 hv h7 cr d0 d1;unfold Jq at tP;rw[uN,if_pos rfl]at tP;obtain⟨n,rfl⟩:∃n:Nat,d=(n:Int):=⟨d.toNat,(Kq d0).symm⟩;obtain⟨hp8,hs8,hs,_⟩:=Iw hv h7 hl (c:=c) (d:=n) cr (by omega);have hhit:Gb w ls u N c=(Ze w ls (ZW w c (n:Int))).any λp=>N.contains p:=by unfold Gb wg;rw[hu]
    rw[hhit];generalize ZW w c (n:Int)=b at *;have hg:ZI (Zg 2) (Za 6) [qW w,qT ls,qH u K,e3,e4,qO N,qT c,o7,e8]=Z (oI (u c)):=P9 hc _ 2 6 (.inl rfl) rfl;rw[hu]at hg;refine⟨Z (.pl (sx b)),rfl,?_⟩;unfold Kb;rw[K1 ht];refine AY (r':=[qW w,qT ls,qH u K,e3,e4,qO N,qT c,qT b,e8]) ?_ ?_
    .generalize ZI (Zg 2) (Za 6)=E at hg ⊢
     have:Zi DS (Zb (Za 0) (Zb (Za 6) (Zb E Zj))) [qW w,qT ls,qH u K,e3,e4,qO N,qT c,o7,e8]=Z (sx b):=by simp[hg,oI,tP]
     unfold ZN;rw[this];rfl
    .have e2:∀r:HM.Env,r[5]?=Z (Z (.ol (N.map sx)))->FC (tV (Ej (Za 1) (Zg 7))) (Za 1) r ((ZS w ls b).map BU)=Z (((Ze w ls b).filter λp=>N.contains p).map sx):=λr r5=>by
      have e:=JM (c:=tV (Ej (Za 1) (Zg 7))) (e:=Za 1) (r:=r) (λp:zZ×zZ=>sx p.1) (λp=>sx p.2) (λp=>N.contains p.2) (λp=>sx p.2) (ZS w ls b) (λp _=>by simp[r5,Hf,-DV]) (λp _ _=>by simp);unfold Ze;rw[List.filter_map,Aq];exact e
     have t7:(ZS w ls b).length<1000000:=by omega
     have hf:FI (Zy (sD (Zi ZU (Zb (Za 0) (Zb (Za 1) (Zb (Za 7) Zj)))))) (tV (Ej (Za 1) (Zg 7))) (Za 1) [qW w,qT ls,qH u K,e3,e4,qO N,qT c,qT b,e8]=Z (.ol (((Ze w ls b).filter λp=>N.contains p).map sx)):=by
      have hi:Zy (sD (Zi ZU (Zb (Za 0) (Zb (Za 1) (Zb (Za 7) Zj))))) [qW w,qT ls,qH u K,e3,e4,qO N,qT c,qT b,e8]=Z ((ZS w ls b).map BU):=by have:Zi ZU (Zb (Za 0) (Zb (Za 1) (Zb (Za 7) Zj))) [qW w,qT ls,qH u K,e3,e4,qO N,qT c,qT b,e8]=Z (.list ((ZS w ls b).map BU)):=hs;unfold Zy sD;rw[this];rfl
      unfold FI;rw[hi];dsimp only;rw[if_pos (by rw[Ad];exact t7),e2 _ rfl];rfl
     have hq:DH (FI (Zy (sD (Zi ZU (Zb (Za 0) (Zb (Za 1) (Zb (Za 7) Zj)))))) (tV (Ej (Za 1) (Zg 7))) (Za 1)) [qW w,qT ls,qH u K,e3,e4,qO N,qT c,qT b,e8]=Z ((Ze w ls b).any λp=>N.contains p):=by unfold DH;rw[hf];show Z (!(((Ze w ls b).filter λp=>N.contains p).map sx).isEmpty)=_;congr 1;rw[GG];simp
     cases hh:(Ze w ls b).any λp=>N.contains p with
     |true =>
      rw[hh]at hq;rw[K1 hq];have:BC N<1000000:=by omega
      simp[this]
     |false=>rw[hh]at hq;rw[GW hq];rfl
  obtain⟨p7,hp7,e⟩:=vT;rw[Ai];have hcs':∀x∈cs,x∈K:=λx hx=>wM x (Ao _ hx)
  by_cases hq:(!N.contains c&&Gb w ls u N c)=Aa
  .rw[if_pos hq]at e
   obtain⟨q1,q2⟩:=Bool.and_eq_true_iff.mp hq;have hcN:c∉N:=by simpa using q1
   have I':zh K u (N++[c]):=by
    refine⟨Ee.mpr ⟨I.nd,by simp,λa ha b hb e'=>?_⟩,λx hx=>?_,λx hx t=>CW _ (I.non x hx t)⟩
    .rw[Ax]at hb
     rw[e',hb]at ha;exact hcN ha
    .rcases Bb.mp hx with hx|hx
     .exact I.sub x hx
     .rw[Ax.mp hx];exact hc
   obtain⟨ex,q6,q7,f,g6,g7,I2,_⟩:=Ri e3 e4 e8 cs (N++[c]) (Z (.pl (sx c))) p7 hcs' I' rfl hp7;refine⟨c::ex,q6,q7,?_,g6,g7,?_,λz=>by cases z⟩
   .refine Dp e ?_
    rw[f,B8];rfl
   .rw[B8]at I2
    exact I2
  .rw[if_neg hq]at e
   obtain⟨ex,q6,q7,f,g6,g7,I2,h3⟩:=Ri e3 e4 e8 cs N (Z (.pl (sx c))) p7 hcs' I rfl hp7;refine⟨ex,q6,q7,?_,g6,g7,I2,λz x hx=>?_⟩
   .refine Dp e ?_
    exact f
   .rcases As.mp hx with rfl|hx
    .by_cases hF:x∈N
     .exact .inl hF
     .right
      have hq:(!N.contains x&&Gb w ls u N x)=Ab:=TQ.mpr hq;have:N.contains x=Ab:=by simpa using hF
      rw[this]at hq;simpa using hq
    .exact h3 z x hx
theorem jx{N:z0}(I:zh K u N)(h:∀c∈K,c∈N\/Gb w ls u N c=Ab):∀c∈K,c∈N:=by
 obtain⟨f,hf⟩:=T.rk;have key:∀(n:Nat) (c:zZ),c∈K->f c<=n->c∈N:=by
  intro n
  induction n with
  |zero =>
   intro c hc hn;cases hu:u c with
   |none=>exact I.non c hc hu
   |some d=>obtain⟨p,hp,tf⟩:=hf c hc d hu;omega
  |succ n ih =>
   intro c hc hn;cases hu:u c with
   |none=>exact I.non c hc hu
   |some d =>
    obtain⟨p,hp,tf⟩:=hf c hc d hu;have hpN:=ih p ((T.ok c hc d hu).2.2.2 p hp) (by omega);rcases h c hc with h|h
    .exact h
    .have:Gb w ls u N c=Aa:=by
      unfold Gb wg;rw[hu];exact AJ.mpr ⟨p,hp,by simpa using hpN⟩
     rw[this]at h;cases h
 exact λc hc=>key (f c) c hc (Aj _)
theorem Yg(e3 e4:Option B)(h3:ZZ e3=Ab)(h4:ZZ e4=Ab):∀(ts:List Nat) (N:z0) (o6 o7 o8:Option B),zh K u N->ZZ o6=Ab->ZZ o7=Ab->ZZ o8=Ab->K.length<=BC N+BC ts ->∃(N':z0) (p6 p7 p8:Option B),Z7 8 Tc (ts.map dN) [qW w,qT ls,qV u K,e3,e4,qO N,o6,o7,o8]=Z (.nx [qW w,qT ls,qV u K,e3,e4,qO N',p6,p7,p8])/\N'.length=K.length
 |[],N,o6,o7,o8,I,_,_,_,sA=>⟨N,o6,o7,o8,rfl,by have:=BW I.nd I.sub;simp at sA;omega⟩
 |t::ts,N,o6,o7,o8,I,h6,h7',h8,sA=>by
  rw[Av]at sA;obtain⟨ex,p6,p7,e,g6,g7,I2,u6⟩:=Ri hv h7 hl T e3 e4 (Z (.pl (dN t))) K N o6 o7 (λ_ h=>h) I h6 h7';have hlen2:BC K<=(N++ex).length+BC ts:=by
   cases ex with
   |nil=>have:=BW T.nd (jx hv h7 hl T I (u6 rfl));rw[Ba];omega
   |cons x ex=>rw[AE,Av];omega
  have body:Tc [qW w,qT ls,qV u K,e3,e4,qO N,o6,o7,qP (dN t)]=Z (.nx [qW w,qT ls,qV u K,e3,e4,qO (N++ex),p6,p7,qP (dN t)]):=by
   have hw:AM 2 [qW w,qT ls,qH u K,e3,e4,qO N,o6,o7,qP (dN t)]=Z (K.map sx):=by show(Cv (Zq (AS u K))).map _=_;rw[sE,<-NP u K];rfl
   have hf:AH 6 (AM 2) Kb [qW w,qT ls,qH u K,e3,e4,qO N,o6,o7,qP (dN t)]=Z (.nx [qW w,qT ls,qH u K,e3,e4,qO (N++ex),p6,p7,qP (dN t)]):=by unfold AH;rw[hw];dsimp only;rw[if_pos (by rw[Ad];unfold big;have:=T.len;omega)];exact e
   have ha:([qW w,qT ls,qV u K,e3,e4,qO N,o6,o7,qP (dN t)]:HM.Env).all (λq=>!ZZ q)=Aa:=by simp only[BS,FW,hd_pl,hd_ol,hd_no,h3,h4,h6,h7',GO,GA]
   have hb:([qW w,qT ls,Z_,e3,e4,qO (N++ex),p6,p7,qP (dN t)]:HM.Env).all (λq=>!ZZ q)=Aa:=by simp only[BS,FW,hd_pl,hd_ol,hd_no,h3,h4,g6,g7,GO,GA]
   exact QC (i:=2) rfl ha hf rfl hb
  obtain⟨N',q6,q7,q8,f,hl'⟩:=Yg e3 e4 h3 h4 ts (N++ex) p6 p7 (Z (.pl (dN t))) I2 g6 g7 rfl hlen2;refine⟨N',q6,q7,q8,?_,hl'⟩;rw[Ai,<-f];exact Dp body rfl
end
end
section
variable{L2:z0}{c:zZ}
theorem Xm{x y:D}(n:Nat)(hx:t9 n x=Aa)(hn:n<=60)(e:x=y):wF x y=Z (.bool Ab):=by subst e;have h:=(Nk n x x hx ⟨n,hx⟩).mpr rfl;unfold wF;rw[Hd hx hn,if_pos (by rfl),h];rfl
theorem UI(u:zZ->Option Int)(K:z0)(r:HM.Env)(i:Nat)(h:r[i]?=Z (Z (.pl (.dict (Zq (AS u K)))))):DK (Zg i) r=Z (.int (K.length:Int)):=by
 have:(AS u K).length=K.length:=by unfold AS;rw[Ad]
 simp[h,sE,this]
section
variable{w:Wk}(hv:Wk.V w)(h7:w.many<=7){ls:zZ}(hl:Cr w.looks.length ls){K:z0}{u:zZ->Option Int}(T:TbI w ls K u)
include hv h7 hl T
theorem lr:(B5 [] (Ze w ls w.beg++K.flatMap (wg w ls u))).Perm K:=by
 refine(bw (R5 _ _ Ff) T.nd).mpr λc=>?_;rw[N4,Bb,Jb]
 constructor
 .rintro (h|h|⟨b,hb,h⟩)
  .simp at h
  .exact T.bg c h
  .unfold wg at h
   split at h
   .rename_i d hd
    exact(T.ok b hb d hd).2.2.2 c h
   .simp at h
 .intro h
  right
  rcases T.rc c h with h|⟨b,hb,d,hd,h⟩
  .exact .inl h
  .refine .inr ⟨b,hb,?_⟩
   unfold wg;rw[hd];exact h
theorem l7:Kg [w.d,sx ls,.dict (Zq (AS u K)),.list ((Ze w ls w.beg).map sx)]=Z (.bool Aa):=by
 have hKl:=T.len;have yC:=hv.bc.len;have yZ:=split_len (w:=w) (ls:=ls) (c:=w.beg);have hpl:(Ze w ls w.beg).length<=8:=by unfold Ze;rw[Ad];omega
 have uq:=lr hv h7 hl T;have hE:∀e5:Option B,ZZ e5=Ab->C4 2 (ZO 5 (Zt (AM 2) (tV (sG EI (ZI (Zg 3) (Za 0)) (eC .none))) (Za 0))) [qW w,qT ls,qV u K,qL (Ze w ls w.beg),qO (Ze w ls w.beg),Z_,Z_,Z_,Z_]=Z (.nx [qW w,qT ls,qV u K,qL (Ze w ls w.beg),qO (Ze w ls w.beg),qO (K.filter λc=>(u c).isNone),Z_,Z_,Z_]):=λ_ _=>by
  have hw:AM 2 [qW w,qT ls,qH u K,qL (Ze w ls w.beg),qO (Ze w ls w.beg),Z_,Z_,Z_,Z_]=Z (K.map sx):=by show(Cv (Zq (AS u K))).map _=_;rw[sE,<-NP u K];rfl
  have hg:Z3 (tV (sG EI (ZI (Zg 3) (Za 0)) (eC .none))) (Za 0) [qW w,qT ls,qH u K,qL (Ze w ls w.beg),qO (Ze w ls w.beg),Z_,Z_,Z_,Z_] (K.map sx)=Z ((K.filter λc=>(u c).isNone).map sx):=by
   rw[Cj sx (λc=>(u c).isNone) sx]
   .intro c hc
    refine Gh (P9 hc _ 3 0 (.inl rfl) rfl) rfl ?_;cases u c<;>rfl
   .intro c _ _
    rfl
  have hf:=FH hw (by rw[Ad];omega) hg;have ha:([qW w,qT ls,qV u K,qL (Ze w ls w.beg),qO (Ze w ls w.beg),Z_,Z_,Z_,Z_]:HM.Env).all (λq=>!ZZ q)=Aa:=by simp only[BS,FW,hd_pl,hd_ol,hd_no,GO,GA]
  have hb:([qW w,qT ls,Z_,qL (Ze w ls w.beg),qO (Ze w ls w.beg),qO (K.filter λc=>(u c).isNone),Z_,Z_,Z_]:HM.Env).all (λq=>!ZZ q)=Aa:=by simp only[BS,FW,hd_pl,hd_ol,hd_no,GO,GA]
  have hs:ZO 5 (Zt (AM 2) (tV (sG EI (ZI (Zg 3) (Za 0)) (eC .none))) (Za 0)) [qW w,qT ls,qH u K,qL (Ze w ls w.beg),qO (Ze w ls w.beg),Z_,Z_,Z_,Z_]=Z (.nx [qW w,qT ls,qH u K,qL (Ze w ls w.beg),qO (Ze w ls w.beg),qO (K.filter λc=>(u c).isNone),Z_,Z_,Z_]):=by unfold ZO;rw[hf];rfl
  exact QC (i:=2) rfl ha hs rfl hb
 generalize hN:K.filter (λc=>(u c).isNone)=N at hE;have I0:zh K u N:=by subst hN;refine⟨T.nd.filter _,λc hc=>(AO.mp hc).1,λc hc hu=>AO.mpr ⟨hc,by rw[hu];rfl⟩⟩
 obtain⟨p6,p7,f1,g6,g7⟩:=Vt hv h7 hl T (Z (.pl (.list ((Ze w ls w.beg).map sx)))) (Z (.ol (N.map sx))) Z_ K (Ze w ls w.beg) Z_ Z_ (λ_ h=>h) (by omega) rfl rfl;generalize hcm:Ze w ls w.beg++K.flatMap (wg w ls u)=cm at f1 uq;have hS1:C4 2 (AH 6 (AM 2) IQ) [qW w,qT ls,qV u K,qL (Ze w ls w.beg),qO (Ze w ls w.beg),qO N,Z_,Z_,Z_]=Z (.nx [qW w,qT ls,qV u K,qL (Ze w ls w.beg),qO cm,qO N,p6,p7,Z_]):=by
  have hw:AM 2 [qW w,qT ls,qH u K,qL (Ze w ls w.beg),qO (Ze w ls w.beg),qO N,Z_,Z_,Z_]=Z (K.map sx):=by show(Cv (Zq (AS u K))).map _=_;rw[sE,<-NP u K];rfl
  have hf:AH 6 (AM 2) IQ [qW w,qT ls,qH u K,qL (Ze w ls w.beg),qO (Ze w ls w.beg),qO N,Z_,Z_,Z_]=Z (.nx [qW w,qT ls,qH u K,qL (Ze w ls w.beg),qO cm,qO N,p6,p7,Z_]):=by unfold AH;rw[hw];dsimp only;rw[if_pos (by rw[Ad];unfold big;omega)];exact f1
  have ha:([qW w,qT ls,qV u K,qL (Ze w ls w.beg),qO (Ze w ls w.beg),qO N,Z_,Z_,Z_]:HM.Env).all (λq=>!ZZ q)=Aa:=by simp only[BS,FW,hd_pl,hd_ol,hd_no,GO,GA]
  have hb:([qW w,qT ls,Z_,qL (Ze w ls w.beg),qO cm,qO N,p6,p7,Z_]:HM.Env).all (λq=>!ZZ q)=Aa:=by simp only[BS,FW,hd_pl,hd_ol,hd_no,g6,g7,GO,GA]
  exact QC (i:=2) rfl ha hf rfl hb
 have ye:(B5 [] cm).length<64:=by rw[uq.length_eq];omega
 have zJ:∀c∈cm,c≠[]:=λc hc=>by have:c∈K:=uq.mem_iff.mp ((N4 cm [] c).mpr (.inr hc));exact(T.cr c this).2
 have hss:∀r:HM.Env,r[4]?=Z (Z (.ol (cm.map sx)))->EY (Zg 4) r=Z (.ol ((Bc (B5 [] cm)).map sx)):=λr h=>by
  have hb:Zg 4 r=Z (.ol (cm.map sx)):=by unfold Zg;rw[h]
  unfold EY;rw[hb];show(match Ic (cm.map sx)with|some ts=>if decide ((B5 [] ts).length<64)&&ts.all (λt=>!t.isEmpty)then Z (B.ol (Mf (Bc (B5 [] ts))))else Z_|none=>Z_)=_;rw[QW];dsimp only;rw[if_pos]
  .rfl
  .rw[decide_eq_true ye,Kt]
   refine Ay.mpr λc hc=>?_;have:=zJ c hc;cases c with
   |nil=>exact absurd rfl this
   |cons _ _=>rfl
 have hsd:=Rm K (by omega) (.inr λc hc=>(T.cr c hc).2);have xA:∀r:HM.Env,r[2]?=Z (Z (.pl (.dict (Zq (AS u K)))))->FP (Zg 2) r=Z (.ol ((Bc K).map sx)):=λr h=>by
  have hb:Zg 2 r=Z (.pl (.dict (Zq (AS u K)))):=by unfold Zg;rw[h]
  unfold FP;rw[hb];show(match Cv (Zq (AS u K))with|some kvs=>(EO (kvs.map λ(p:List Ky×D)=>Bj (p.1.map Bv))).map λds=>B.ol ds|none=>Z_)=_;rw[sE];dsimp only;rw[NP,hsd];rfl
 have hok:v9 (K.length:Int)=Aa:=Fz (by omega);obtain⟨N',q6,q7,q8,f2,sA⟩:=Yg hv h7 hl T (Z (.pl (.list ((Ze w ls w.beg).map sx)))) (Z (.ol (cm.map sx))) rfl rfl (Ah K.length) N p6 p7 Z_ I0 g6 g7 rfl (by rw[DC];omega);show Bs (SX [qW w,qT ls,qV u K,qL (Ze w ls w.beg),Z_,Z_,Z_,Z_,Z_])=_;unfold SX;refine A8 (r':=[qW w,qT ls,qV u K,qL (Ze w ls w.beg),qO (Ze w ls w.beg),Z_,Z_,Z_,Z_]) rfl ?_;refine A8 (hE Z_ rfl) ?_;refine A8 hS1 ?_;refine A8 (r':=[qW w,qT ls,qV u K,qL (Ze w ls w.beg),qO cm,qO N,p6,p7,Z_]) ?_ ?_
 .have ht:tV (sG wF (tS (EY (Zg 4))) (tS (FP (Zg 2)))) [qW w,qT ls,qV u K,qL (Ze w ls w.beg),qO cm,qO N,p6,p7,Z_]=Z Ab:=by
   refine Gh (x:=.list ((Bc (B5 [] cm)).map sx)) (y:=.list ((Bc K).map sx)) ?_ ?_ (Xm 2 (QT _) (by decide) (by rw[Y7 uq]))
   .show(EY (Zg 4) _).bind frz=_
    rw[hss _ rfl];rfl
   .show(FP (Zg 2) _).bind frz=_
    rw[xA _ rfl];rfl
  rw[GW ht];rfl
 refine A8 (r':=[qW w,qT ls,qV u K,qL (Ze w ls w.beg),qO cm,qO N',q6,q7,q8]) ?_ ?_
 .have hi:CM (DK (Zg 2)) [qW w,qT ls,qV u K,qL (Ze w ls w.beg),qO cm,qO N,p6,p7,Z_]=Z ((Ah K.length).map dN):=by
   have:=UI u K [qW w,qT ls,qV u K,qL (Ze w ls w.beg),qO cm,qO N,p6,p7,Z_] 2 rfl;generalize DK (Zg 2)=E at this ⊢;simp[this,hok,Dc]
  unfold AH;rw[hi];dsimp only;rw[if_pos (by rw[Ad,DC];unfold big;omega)];exact f2
 .have tI:=UI u K [qW w,qT ls,qV u K,qL (Ze w ls w.beg),qO cm,qO N',q6,q7,q8] 2 rfl
  have hln:Z5 (Zg 5) [qW w,qT ls,qV u K,qL (Ze w ls w.beg),qO cm,qO N',q6,q7,q8]=Z (.int (N'.length:Int)):=by simp
  have hq:sG tK (Z5 (Zg 5)) (DK (Zg 2)) [qW w,qT ls,qV u K,qL (Ze w ls w.beg),qO cm,qO N',q6,q7,q8]=Z (.bool Aa):=by unfold sG;rw[hln,tI,sA];have hp:CN (.int (K.length:Nat))=Aa:=Hd (n:=1) (EL _ _) (by decide);unfold tK;dsimp only;rw[hp,if_pos (by rfl)];congr 2;simp[BN]
  unfold ZG;rw[hq];rfl
end
def uV(wf:Wf)(R:Tb)(c:zZ):Option Int:=if Zk R c=Z 0 then Z_ else match(BH wf R c).1 with
 | .int d=>Z d
 |_=>Z_
section
variable{w:Wk}{ls:zZ}{L:z0}{wf:Wf}{S:z0}{R:Tb}{d:D}(P:PtB w ls L wf S R d)
include P
theorem Nb(hc:c∈S)(h:Zk R c=Z 0):uV wf R c=Z_/\ZH w c=Aa:=by
 refine⟨by unfold uV;rw[if_pos h],?_⟩;obtain⟨_,n,e,h1,_⟩:=P.F.cost h;obtain rfl:n=0:=by omega
 exact h1
theorem Lm(hc:c∈S)(h:Zk R c≠Z 0):∃d:Int,uV wf R c=Z d/\(BH wf R c).1=dI d/\BH wf R c=KG w ls c d/\0<=d/\d<w.deeds.length/\AX w c d=Aa/\ZH w c=Ab/\∃p∈Ze w ls (ZW w c d),((Zk R p).getD 0).toNat<((Zk R c).getD 0).toNat:=by
 obtain⟨n,hn⟩:=P.all c hc;obtain⟨m,hm,hf,uR⟩:=Nm P.J.rc.cl P.F hc hn h;obtain⟨e,he,hd⟩:=Al.mp (P.J.sub c _ uR);obtain⟨d0,d1,d2⟩:=Ir he;have hh:=P.F.all P.J.rc.cl hc hn;unfold ZF at hh;obtain⟨k,hk⟩:=DB.mp hh;obtain⟨_,n',rfl,h1,h2⟩:=P.F.cost hk;obtain⟨j,rfl⟩:∃j,n'=j+1:=by
  cases n' with
  |zero=>exact absurd hk h
  |succ j=>exact⟨j,rfl⟩
 have ht:ZH w c=Ab:=h2 0 (by omega);have vZ:(BH wf R c).1=dI e:=by rw[<-hd];rfl
 refine⟨e,?_,vZ,hd.symm,d0,d1,d2,ht,?_⟩
 .unfold uV
  rw[if_neg h,vZ]
 have h1:(ZH w c||(wf c).any λy=>(sZ y).any (Lk w wf j))=Aa:=h1;rw[ht,Kv]at h1;obtain⟨y,hy,h1⟩:=AJ.mp h1;obtain⟨p,hp,h1⟩:=AJ.mp h1;have hpS:=P.J.rc.cl c hc y hy p hp;have uM:=P.F.all P.J.rc.cl hpS h1;unfold ZF at uM;obtain⟨v,hv⟩:=DB.mp uM;obtain⟨_,i,rfl,_,hi⟩:=P.F.cost hv;have hij:i<=j:=by apply Jj;intro z;rw[hi j (by omega)]at h1;cases h1
 have hmle:m<=(j+1:Nat):=by
  obtain⟨m0,yy,vO⟩:∃m0,um y R=Z m0/\m0<=(i:Int)+1:=by
   unfold um;cases hq:((sZ y).filterMap λp=>Zk R p).min? with
   |some m1=>exact⟨m1+1,rfl,by have:=(Hy.mp hq).2 _ (CT.mpr ⟨p,hp,hv⟩);omega⟩
   |none=>rw[KD]at hq;have:(i:Int)∈(sZ y).filterMap λp=>Zk R p:=CT.mpr ⟨p,hp,hv⟩;rw[hq]at this;simp at this
  have:=(Hy.mp (show((wf c).filterMap λy=>um y R).min?=Z m from hm)).2 m0 (CT.mpr ⟨y,hy,yy⟩);omega
 have xp:um (BH wf R c) R=Z m:=by have:=TU hf;exact beq_iff_eq.mp this
 unfold um at xp;obtain⟨m1,zD,e1⟩:=Ak.mp xp;obtain⟨p',hp',hv'⟩:=CT.mp (Hy.mp zD).1;refine⟨p',by rw[<-hd]at hp';exact hp',?_⟩;obtain⟨_,i',rfl,_,_⟩:=P.F.cost hv';have e1:(i':Int)+1=m:=e1;rw[hv',hk];show((i':Nat):Int).toNat<(((j+1:Nat)):Int).toNat;omega
theorem cq(hv:Wk.V w)(h5:w.many<=5)(I:D3 (uu wf R) (λc=>c∈S) (Ze w ls w.beg) L2 []):TbI w ls (Bc L2) (uV wf R):=by
 have hm:∀c,c∈Bc L2↔c∈L2:=λc=>(CA L2).mem_iff;have uR:∀c,HI (uu wf R) (Ze w ls w.beg) c->c∈L2:=λc r=>by
  induction r with
  |beg h=>exact(I.bg _ h).resolve_right (by simp)
  |step _ hy hp ih=>exact(I.cl _ ih _ hy _ hp).resolve_right (by simp)
 have sA:BC L2<=32:=by have h1:=N3 I.nd λc hc=>(P.J.rc.cr c (I.cr c hc)).1;have h2:2 ^ w.many<=2 ^ 5:=PD (by decide) h5;have h3:2 ^ 5=32:=rfl;omega
 refine⟨(CA L2).nodup_iff.mpr I.nd,λc hc=>P.J.rc.cr c (I.cr c ((hm c).mp hc)),by rw[(CA L2).length_eq];exact sA,λc hc=>?_,λc hc d hd=>?_,λp hp=>(hm p).mpr ((I.bg p hp).resolve_right (by simp)),λc hc=>?_,⟨λc=>((Zk R c).getD 0).toNat,λc hc d hd=>?_⟩⟩
 .have hS:=I.cr c ((hm c).mp hc)
  by_cases h:Zk R c=Z 0
  .obtain⟨h1,h2⟩:=Nb P hS h
   rw[h1,h2];simp
  .obtain⟨d,h1,_,_,_,_,_,h2,_⟩:=Lm P hS h
   rw[h1,h2];simp
 .have zb:=(hm c).mp hc
  have hS:=I.cr c zb
  by_cases h:Zk R c=Z 0
  .rw[(Nb P hS h).1]at hd
   cases hd
  .obtain⟨d',h1,_,hb,d0,d1,d2,_,_⟩:=Lm P hS h
   rw[h1]at hd;cases hd;refine⟨d0,d1,d2,λp hp=>(hm p).mpr ((I.cl c zb (BH wf R c) (by unfold uu;rw[if_neg h];exact Ax.mpr rfl) p ?_).resolve_right (by simp))⟩;rw[hb];exact hp
 .have r:=I.rc c ((hm c).mp hc)
  cases r with
  |beg h=>exact .inl h
  | @step b _ y r hy hp =>
   right
   have hb:=uR b r;have hS:=I.cr b hb;unfold uu at hy
   by_cases h:Zk R b=Z 0
   .rw[if_pos h]at hy
    simp at hy
   .rw[if_neg h]at hy
    obtain⟨d',h1,_,he,_⟩:=Lm P hS h;refine⟨b,(hm b).mpr hb,d',h1,?_⟩;rw[Ax.mp hy,he]at hp;exact hp
 .have hS:=I.cr c ((hm c).mp hc)
  by_cases h:Zk R c=Z 0
  .rw[(Nb P hS h).1]at hd
   cases hd
  .obtain⟨d',h1,_,_,_,_,_,_,hp⟩:=Lm P hS h
   rw[h1]at hd;cases hd;exact hp
theorem eB(I:D3 (uu wf R) (λc=>c∈S) (Ze w ls w.beg) L2 []):((Bc L2).map λc=>Bj [sx c,if Zk R c=Z 0 then .none else(BH wf R c).1])=(Bc L2).map λc=>.tuple [sx c,oI (uV wf R c)]:=by
 refine E9 λc hc=>?_;have hS:=I.cr c ((CA L2).mem_iff.mp hc)
 by_cases h:Zk R c=Z 0
 .rw[(Nb P hS h).1,if_pos h]
  rfl
 .obtain⟨d',h1,h2,_⟩:=Lm P hS h
  rw[h1,if_neg h,h2];rfl
theorem jE{A C:z0}(hAL:∀c,c∈A↔c∈L)(I:zS w ls A C)(hp:MI w ls C):∀c,c∈C↔c∈S:=λc=>by
 constructor
 .intro hc
  exact(P.J.pat C hp (λx hx=>(hAL x).mp (I.sub x hx)) c hc).1
 .intro hc
  refine I.pat S (λx hx=>?_) (λx hx=>(hAL x).mpr (P.J.inL x hx)) c hc;obtain⟨n,hn⟩:=P.all x hx;exact⟨n,MQ (T:=S) (λb hb y hy=>⟨Fx.mpr ⟨P.J.sub b y hy,λp hp=>P.J.rc.cl b hb y hy p hp⟩,λp hp=>P.J.rc.cl b hb y hy p hp⟩) n x hx hn⟩
end
end
theorem W5(ap:AP)(u:zZ->Option Int)(e0 e1 e2 e3 e4 e5 e6:Option B):∀(cs K:z0) (o8 o9:Option B),(K++cs).Nodup->(K++cs).length<1000 ->∃p8 p9,NX 8 9 (Lp ap) (cs.map λc=>.tuple [sx c,oI (u c)]) [e0,e1,e2,e3,e4,e5,e6,Z (.ot (AS u K)),o8,o9]=Z (.nx [e0,e1,e2,e3,e4,e5,e6,Z (.ot (AS u (K++cs))),p8,p9])
 |[],K,o8,o9,_,_=>⟨o8,o9,by rw[Ba];rfl⟩
 |c::cs,K,o8,o9,nd,hl=>by
  have hc:c∉K:=λh=>(Ee.mp nd).2.2 c h c (An ..) rfl;have hKl:(AS u K).length<1000000:=by unfold AS;rw[Ad];rw[AE]at hl;omega
  have hk:Be (sx c)=Z (Z8 c):=B6 c;obtain⟨p8,p9,ih⟩:=W5 ap u e0 e1 e2 e3 e4 e5 e6 cs (K++[c]) (Z (.pl (sx c))) (Z (.pl (oI (u c)))) (by rw[B8];exact nd) (by rw[B8];exact hl);rw[B8]at ih;refine⟨p8,p9,?_⟩;have body:Lp ap [e0,e1,e2,e3,e4,e5,e6,Z (.ot (AS u K)),qT c,qP (oI (u c))]=Z (.nx [e0,e1,e2,e3,e4,e5,e6,Z (.ot (AS u (K++[c]))),qT c,qP (oI (u c))]):=by rw[<-iL hc];unfold Lp;generalize AS u K=X at hKl ⊢;simp[hk,hKl]
  rw[Ai];show(match Lp ap [e0,e1,e2,e3,e4,e5,e6,Z (.ot (AS u K)),qT c,qP (oI (u c))]with|some (.nx r')=>_|some (.ct r')=>_|some (.bk r')=>_|some (.rt d)=>_|none=>_)=_;rw[body];exact ih
theorem pK:ApQ ap ap0:=⟨λ_ _=>rfl,λ_=>rfl,λ_=>rfl,λ_ _=>rfl⟩
theorem i5{w:Wk}{ls:zZ}{A L:z0}(hA:∀c∈A,zQ w ls c)(cA:EN w ls A)(bA:∀p∈Ze w ls w.beg,p∈A)(hL:∀c∈L,HQ w ls w.beg c)(cL:EN w ls L)(bL:∀p∈Ze w ls w.beg,p∈L):∀c,c∈A↔c∈L:=λc=>by
 constructor
 .intro h
  have r:=hA c h
  clear h
  induction r with
  |beg h=>exact bL _ h
  |step _ hd hc h ih=>exact cL _ ih _ hd hc _ h
 .intro h
  have r:=hL c h
  clear h
  induction r with
  |beg h=>exact bA _ h
  |step _ hd hc h ih=>exact cA _ ih _ hd hc _ h
theorem Ys(ns:zZ)(h:BC ns<=63):HZ ap [.list (ns.map dI)]=Z (.bool Aa):=by
 have hv:=Wk.Ok.v (c6 ns 1);have h5:(yt ns 1).many<=5:=by have:(yt ns 1).many=ZV ns 1:=rfl;have:=(Nc ns 1).2;omega
 have hw:=i9 ns 1 h;have hc0:=Il ns 0;have tI:=gu hv (ZA ns 0);have hl:=dP (yt ns 1).looks.length (ZA ns 0);generalize yt ns 1=w at *;generalize lkV w.looks.length (ZA ns 0)=ls at *;have h7:w.many<=7:=by omega
 obtain⟨A,eA,iA,cA,bA⟩:=kY hv h7 hl;obtain⟨L,wf,S,R,d,eP,P⟩:=mj hv h7 hl pK h5;have hAL:=i5 iA.rch cA bA P.rch P.cl P.bg;obtain⟨C,p4,eC',I,hpat⟩:=Wo hv h7 hl ap (λc hc=>(iA.cr c hc).1) (iA.len h7) iA.nd (Z (.pl (.list (ns.map dI)))) Z_ Z_ Z_ Z_ Z_ 100000 A (.pl (.list (A.map sx))) Z_ (.inl rfl) ⟨iA.nd,λ_ h=>h,λT _ hT c hc=>hT c hc⟩ (by have:=iA.len h7;omega);have hCS:=jE P hAL I hpat;have hw':Gr [.list (ns.map dI),.int 1]=Z w.d:=hw;have hc':Eb [.list (ns.map dI),.int 0]=Z (.int (ZA ns 0)):=hc0;have hs:=Oo hv hl hv.bc;have yC:=hv.bc.len;have yZ:=split_len (w:=w) (ls:=ls) (c:=w.beg);have t7:(ZS w ls w.beg).length<1000000:=by omega
 have hpl8:(Ze w ls w.beg).length<=8:=by unfold Ze;rw[Ad];omega
 have e2:∀r:HM.Env,FC ZD (Za 1) r ((ZS w ls w.beg).map BU)=Z ((Ze w ls w.beg).map sx):=λr=>by have e:=JM (c:=ZD) (e:=Za 1) (r:=r) (λp:zZ×zZ=>sx p.1) (λp=>sx p.2) (λ_=>Aa) (λp=>sx p.2) (ZS w ls w.beg) (λp _=>rfl) (λp _ _=>by simp);rw[Kr.mpr λ_ _=>rfl]at e;unfold Ze;rw[Aq];exact e
 have zG:∀r:HM.Env,r[1]?=Z (Z (.pl w.d))->sS (Zg 1) (eC (.int 3)) r=Z (sx w.beg):=λr h=>by unfold sS Zg;rw[h];rfl
 generalize hX:(Z (.pl (.list (ns.map dI))):Option B)=e0 at *;have hc'':∀x,Z (B.pl x)=e0->x=.list (ns.map dI):=λx hx=>by rw[<-hX]at hx;injection hx with hx;injection hx
 show Bs (Qw ap [qP (.list (ns.map dI)),Z_,Z_,Z_,Z_,Z_,Z_,Z_,Z_,Z_])=_;unfold Qw;refine A8 (r':=[e0,qW w,Z_,Z_,Z_,Z_,Z_,Z_,Z_,Z_]) (by rw[<-hX];simp[hw']) ?_;refine A8 (r':=[e0,qW w,qT ls,Z_,Z_,Z_,Z_,Z_,Z_,Z_]) (by rw[<-hX];simp[hc',tI]) ?_;refine A8 (r':=[e0,qW w,qT ls,qL A,Z_,Z_,Z_,Z_,Z_,Z_]) (by simp[eA]) ?_;refine A8 eC' ?_;refine A8 (r':=[e0,qW w,qT ls,qL C,p4,qO (Ze w ls w.beg),Z_,Z_,Z_,Z_]) ?_ ?_
 .have hix':=zG [e0,qW w,qT ls,qL C,p4,Z_,Z_,Z_,Z_,Z_] rfl
  generalize sS (Zg 1) (eC (.int 3))=E at hix' ⊢;simp[hix',hs,t7,e2]
 refine A8 (r':=[e0,qW w,qT ls,qL C,p4,qO (Ze w ls w.beg),qP d,Z_,Z_,Z_]) ?_ ?_
 .have:Zi (IS ap) (Zb (Za 1) (Zb (Za 2) Zj)) [e0,qW w,qT ls,qL C,p4,qO (Ze w ls w.beg),Z_,Z_,Z_,Z_]=Z d:=eP
  unfold ZN;rw[this];rfl
 have hg:Z3 (tV (CO (Za 0) (Zg 4))) (Za 0) [e0,qW w,qT ls,qL C,p4,qL (Ze w ls w.beg),qP d,Z_,Z_,Z_] ((Ze w ls w.beg).map sx)=Z (((Ze w ls w.beg).filter λp=>!C.contains p).map sx):=by
  rw[Cj sx (λp=>!C.contains p) sx]
  .intro p _
   simp[Hf,-DV]
  .intro p _ _
   simp
 have hf:=FH (I:=Zy (sD (Za 5))) (r:=[e0,qW w,qT ls,qL C,p4,qL (Ze w ls w.beg),qP d,Z_,Z_,Z_]) rfl (by rw[Ad];omega) hg;have ht:DH (Zt (Zy (sD (Za 5))) (tV (CO (Za 0) (Zg 4))) (Za 0)) [e0,qW w,qT ls,qL C,p4,qL (Ze w ls w.beg),qP d,Z_,Z_,Z_]=Z ((Ze w ls w.beg).any λp=>!C.contains p):=by unfold DH;rw[hf];show Z (!(((Ze w ls w.beg).filter λp=>!C.contains p).map sx).isEmpty)=_;congr 1;rw[GG];simp
 rcases P.ans with⟨tp,L2,I2,ed⟩|⟨u6,ed⟩
 .have yS:((Ze w ls w.beg).any λp=>!C.contains p)=Ab:=by
   rw[List.any_eq_false];intro p hp;have:=(hCS p).mpr (tp p hp);simpa using this
  rw[yS]at ht;refine A8 (r':=[e0,qW w,qT ls,qL C,p4,qL (Ze w ls w.beg),qP d,Z_,Z_,Z_]) ?_ ?_
  .show tw _ _ _ [e0,qW w,qT ls,qL C,p4,qL (Ze w ls w.beg),qP d,Z_,Z_,Z_]=_
   rw[GW ht];rfl
  have T:=cq P hv h5 I2;have hrows:=eB P I2;rw[hrows]at ed;generalize hu:uV wf R=u at T ed;generalize hK:Bc L2=K at T ed;subst ed;have hsK:Bc K=K:=by rw[<-hK];exact Y7 (CA L2)
  have hKl:=T.len;have hg0:∀r:HM.Env,Z3 ZD (sS (Zg 0) (eC (.int 0))) r (K.map λc=>.tuple [sx c,oI (u c)])=Z (K.map sx):=λr=>by rw[CP (λc=>Bj [sx c,oI (u c)]) sx];intro c _;rfl
  have yB:∀(X Y:z0),(X++Y).Nodup->B5 X Y=X++Y:=λX Y=>by
   induction Y generalizing X with
   |nil=>intro _;rw[Ba];rfl
   |cons y Y ih=>intro h;have hy:y∉X:=λz=>(Ee.mp h).2.2 y z y (An ..) rfl;unfold B5;rw[if_neg (by simpa using hy),ih (X++[y]) (by rw[B8];exact h),B8];rfl
  have hdK:B5 [] K=K:=yB [] K T.nd;generalize hE:([e0,qW w,qT ls,qL C,p4,qL (Ze w ls w.beg),qP (.list (K.map λc=>.tuple [sx c,oI (u c)])),Z_,Z_,Z_]:HM.Env)=E;have f0:Zt (Zy (sD (Za 6))) ZD (sS (Zg 0) (eC (.int 0))) E=Z (.ol (K.map sx)):=by refine FH (ds:=K.map λc=>.tuple [sx c,oI (u c)]) (by rw[<-hE];rfl) (by rw[Ad];omega) (hg0 E)
  have fS:EY (Zt (Zy (sD (Za 6))) ZD (sS (Zg 0) (eC (.int 0)))) E=Z (.ol (K.map sx)):=by
   unfold EY;rw[f0];show(match Ic (K.map sx)with|some ts=>if decide ((B5 [] ts).length<64)&&ts.all (λt=>!t.isEmpty)then Z (B.ol (Mf (Bc (B5 [] ts))))else Z_|none=>Z_)=_;rw[QW];dsimp only;rw[hdK,hsK,if_pos]
   .rfl
   .rw[decide_eq_true (by omega),Kt]
    refine Ay.mpr λc hc=>?_;have:=(T.cr c hc).2;cases c with
    |nil=>exact absurd rfl this
    |cons _ _=>rfl
  have t1:xW (BX (tV (Gn (Za 6) .list))) (tV (sG wF (tS (Zt (Zy (sD (Za 6))) ZD (sS (Zg 0) (eC (.int 0))))) (tS (EY (Zt (Zy (sD (Za 6))) ZD (sS (Zg 0) (eC (.int 0)))))))) E=Z Ab:=by
   have a1:BX (tV (Gn (Za 6) .list)) E=Z Ab:=by rw[<-hE];rfl
   have a2:=Gh (g:=wF) (e:=tS (Zt (Zy (sD (Za 6))) ZD (sS (Zg 0) (eC (.int 0))))) (f:=tS (EY (Zt (Zy (sD (Za 6))) ZD (sS (Zg 0) (eC (.int 0)))))) (r:=E) (x:=.list (K.map sx)) (y:=.list (K.map sx)) (by show(Zt _ _ _ E).bind frz=_;rw[f0];rfl) (by show(EY _ E).bind frz=_;rw[fS];rfl) (Xm 2 (QT _) (by decide) rfl);unfold xW;rw[a1];exact a2
  refine A8 (r':=E) (by rw[GW t1];rfl) ?_;rw[<-hE];refine A8 (r':=[e0,qW w,qT ls,qL C,p4,qL (Ze w ls w.beg),qP (.list (K.map λc=>.tuple [sx c,oI (u c)])),Z (.ot (AS u [])),Z_,Z_]) rfl ?_;obtain⟨p8,p9,g⟩:=W5 ap u e0 (Z (.pl w.d)) (Z (.pl (sx ls))) (Z (.pl (.list (C.map sx)))) p4 (Z (.pl (.list ((Ze w ls w.beg).map sx)))) (Z (.pl (.list (K.map λc=>.tuple [sx c,oI (u c)])))) K [] Z_ Z_ T.nd (by rw[GH];omega);rw[GH]at g;refine A8 (r':=[e0,qW w,qT ls,qL C,p4,qL (Ze w ls w.beg),qP (.list (K.map λc=>.tuple [sx c,oI (u c)])),Z (.ot (AS u K)),p8,p9]) ?_ ?_
  .show(if(K.map λc=>Bj [sx c,oI (u c)]).length<big then _ else Z_)=_
   rw[if_pos (by rw[Ad];unfold big;omega)];exact g
  have hT:=l7 hv h7 hl T;have vc:YD Kg (Zb (Za 1) (Zb (Za 2) (Zb (MY (Zg 7)) (Zb (Za 5) Zj)))) [e0,qW w,qT ls,qL C,p4,qL (Ze w ls w.beg),qP (.list (K.map λc=>.tuple [sx c,oI (u c)])),Z (.ot (AS u K)),p8,p9]=Z (.bool Aa):=by show(match Kg [w.d,sx ls,.dict (Zq (AS u K)),.list ((Ze w ls w.beg).map sx)]with|some d=>if Lb d then Z d else Z_|none=>Z_)=_;rw[hT];rfl
  show Bs (ZG _ [e0,qW w,qT ls,qL C,p4,qL (Ze w ls w.beg),qP (.list (K.map λc=>.tuple [sx c,oI (u c)])),Z (.ot (AS u K)),p8,p9])=_;unfold ZG;rw[vc];rfl
 .have yS:((Ze w ls w.beg).any λp=>!C.contains p)=Aa:=by
   apply Jj;intro z;refine u6 λp hp=>(hCS p).mp ?_;have:=List.any_eq_false.mp (TQ.mpr z) p hp;simpa using this
  rw[yS]at ht;subst ed;have hr:Ce 5 (tw (DH (Zt (Zy (sD (Za 5))) (tV (CO (Za 0) (Zg 4))) (Za 0))) (ZG (sG EI (Za 6) (eC .none))) AL) [e0,qW w,qT ls,qL C,p4,qO (Ze w ls w.beg),qP (.none),Z_,Z_,Z_]=Z (.rt (.bool Aa)):=by show tw _ _ _ [e0,qW w,qT ls,qL C,p4,qL (Ze w ls w.beg),qP (.none),Z_,Z_,Z_]=_;rw[K1 ht];rfl
  unfold Zr;rw[hr];rfl
end HG19
namespace HT
open PySem PySem.Spec PyProof.Rows L2 HP HM
open HG
open HG4
open HG5
open HG6
open HG20
open HG19
variable{Tl c f f0:Addr}{vh:Array (Option Value)}{fd fd0:FuncData}{h:Heap}{ps:z9}{an od:Option Addr}{st:Stmt}{x:Str}{sN ct ub oc pm:Value}
def top(i:Nat):Stmt:=PySem.Challenge.pw_halfseen_k19_patience.main.body.getD i (.Pass ⟨0,0,0,0⟩)
abbrev SE:Stmt:=top 9
abbrev Rv:Stmt:=top 10
abbrev SD:Stmt:=top 11
abbrev NR:Stmt:=top 12
abbrev NQ:Stmt:=top 13
abbrev Oi:Stmt:=top 14
abbrev Oh:Stmt:=top 15
abbrev Sh:Stmt:=top 16
abbrev SR:Stmt:=top 17
abbrev Sg:Stmt:=top 18
abbrev Sf:Stmt:=top 19
abbrev Se:Stmt:=top 20
abbrev RV:Stmt:=top 21
abbrev RU:Stmt:=top 22
abbrev Ta:Stmt:=top 23
abbrev N9:Stmt:=top 24
abbrev OB:Stmt:=top 26
abbrev OF:Stmt:=top 27
abbrev Ru:Stmt:=top 28
abbrev NB:Stmt:=top 29
abbrev Ox:Stmt:=top 30
abbrev JZ:Stmt:=top 32
abbrev SW:Stmt:=top 33
abbrev LV:Stmt:=top 34
abbrev Sz:Stmt:=top 35
abbrev JR:Stmt:=top 36
abbrev Ow:Stmt:=top 37
abbrev Og:Stmt:=top 38
abbrev Z2:Stmt:=top 39
abbrev S5:Stmt:=top 41
abbrev J9:Stmt:=top 42
abbrev OA:Stmt:=top 43
abbrev S9:Stmt:=top 44
abbrev SV:Stmt:=top 45
abbrev ZM:Stmt:=top 46
abbrev Sd:Stmt:=top 48
abbrev RT:Stmt:=top 49
abbrev SQ:Stmt:=top 50
abbrev Of:Stmt:=top 51
abbrev Sb:Stmt:=top 52
abbrev Sa:Stmt:=top 53
abbrev Oe:Stmt:=top 54
abbrev Od:Stmt:=top 55
abbrev RS:Stmt:=top 56
abbrev LZ:Stmt:=top 57
abbrev JK:Stmt:=top 58
abbrev Oc:Stmt:=top 59
abbrev Ov:Stmt:=top 60
abbrev JQ:Stmt:=top 61
abbrev Kf:Stmt:=top 62
abbrev Ek:Stmt:=top 63
structure sP(K:Af)(mg:z6)(x:Str)(st:Stmt)(ps:z9):Prop where
 ex:∃f fd,vB K x x st f fd/\mg x=Z (.ref f)/\Binds K fd ps []
structure tu(K:Af)(mg:z6):Prop where
 n_len:mg "len"=Z_
 n_tuple:mg "tuple"=Z_
 n_list:mg "list"=Z_
 n_set:mg "set"=Z_
 n_sorted:mg "sorted"=Z_
 n_range:mg "range"=Z_
 n_all:mg "all"=Z_
 n_isinstance:mg "isinstance"=Z_
 n_int:mg "int"=Z_
 n_bool:mg "bool"=Z_
 n_max:mg "max"=Z_
 n_min:mg "min"=Z_
 c_MOST_STATES:∃t,mg "MOST_STATES"=Z (.int 8 t)
 c_MOST_DEEDS:∃t,mg "MOST_DEEDS"=Z (.int 5 t)
 c_MOST_LOOKS:∃t,mg "MOST_LOOKS"=Z (.int 4 t)
 c_MOST_SEEN:∃t,mg "MOST_SEEN"=Z (.int 9 t)
section
variable[FX]{P:Program}{w:World}{K:Af}{mg:z6}{base:Heap}{k:Nat}
set_option maxHeartbeats 8000000
theorem tD{N:z9}{sc:Scope}(a:sc.kind=.function:=by rfl)(b:sc.isCoroutine=Ab:=by rfl)(c:sc.isGenerator=Ab:=by rfl)(d:N.Nodup:=by decide +kernel)(e:N.take ps.length=ps:=by rfl)(f:∀x∈ps,sc.names.lookup x=Z .local\/sc.names.lookup x=Z .cell:=by decide +kernel)(g:∀y∈sc.names,y.2≠.free:=by decide +kernel):Zv N ps sc:=⟨a,b,c,d,e,f,g⟩
theorem sP.ok{x:Str}{st:Stmt}{N ps:z9}{g:HM.SF}(D:sP K mg x st ps)(S:Zv N ps (Zf st))(body:∀(f:Addr) (sN:Value) (A:Around) (outer:List PySem.Env) (s:Shared) (H:Hp) (E:XK),AA k (A.deeper (envOfC x (Zf st) s.heap.objs.size f sN))->wj (Eg uU P w K mg base N x (Zf st) f sN A outer s H E).nox (B4 st) g):Callee P w K mg base (k+1) x (HM.fnOf ps.length N.length g):=by obtain⟨f,fd,F,m,b⟩:=D.ex;exact kq F S m b (body f)
theorem sV{j:Nat}{M:z5->Option PyData}(C:Callee P w K mg base j x M)(h:j<=k:=by decide):Callee P w K mg base k x M:=C.mono h
variable{ap:HM.AP}
theorem nr:Zv ["_law_script","_law_k"] ["_law_script","_law_k"] (Zf Sd):=tD
theorem nq(T:tu K mg)(D:sP K mg "_law_cell" Sd ["_law_script","_law_k"]):Callee P w K mg base (k+1) "_law_cell" Eb :=
 D.ok nr λ_ sN A outer s H E hr=>by
  exact(Zh (AZ (A6 yI (Zc 1) (Cf T.n_len (Zp 0))) (Zl (Zz (Z1 (Zp 0) (Zc 1)))) ZT)
  (Zl (Zz Zo)))
theorem mN:Zv ["_law_cell_here","_law_prime","_law_many"] ["_law_cell_here","_law_prime","_law_many"] (Zf RT):=tD
theorem mM(T:tu K mg)(D:sP K mg "_law_mix" RT ["_law_cell_here","_law_prime","_law_many"]):Callee P w K mg base (k+1) "_law_mix" ZR :=
 D.ok mN λ_ sN A outer s H E hr=>by exact(Zl (Zz (ZQ zW (ZQ zW (ZQ D4 (Zc 0) Zo) (Zc 1)) (Zc 2))))
abbrev R7:z9:=["_law_cell_here","_law_many","_law_least","_law_found"]
theorem Sy:Zv R7 ["_law_cell_here","_law_many","_law_least"] (Zf Of):=tD
theorem n8(T:tu K mg)(ZP:Callee P w K mg base k "_law_mix" ZR)(D:sP K mg "_law_crowd" Of ["_law_cell_here","_law_many","_law_least"]):Callee P w K mg base (k+1) "_law_crowd" IK :=
 D.ok Sy λ_ sN A outer s H E hr=>by
  exact(Zh (LK 3 Sy.nd rfl rfl (N:="_law_state" :: R7) (Zw (sc:=Zf Of) (XN:=R7)) (EV T.n_range (Zc 1)) (λ_ _ _ _ _=>(Cw (A6 yI (Zn ZP hr (Zd (ZQ BE (ZQ BE (Zc 1) (ZQ D4 (ZQ D4 Zo (Zc 0)) (Zc 0))) (ZQ D4 Zo (Zc 0))) (Zd Zo (Zd Zo Zm)))) Zo))) (λ_ _ _ _ _=>(Zc 0)))
  (Zh (AZ (A6 yI (Cf T.n_len (Zp 3)) (Zc 2)) (Zl (Bw 3 Sy.nd (Dv (Zd (Zn ZP hr (Zd (Zc 0) (Zd Zo (Zd (Zc 1) Zm)))) Zm)))) ZT)
  (Zl (Zz (C9 T.n_tuple (Zp 3))))))
theorem JY:Zv ["_law_cell_here","_law_many","_law_found","_law_state","_law_seed","_law_way","_law_row"] ["_law_cell_here","_law_many"] (Zf Sb):=tD
theorem nk(T:tu K mg)(ZP:Callee P w K mg base k "_law_mix" ZR)(D:sP K mg "_law_deed" Sb ["_law_cell_here","_law_many"]):Callee P w K mg base (k+1) "_law_deed" LP :=
 D.ok JY λ_ sN A outer s H E hr=>by
  have hu:=Dr hr;exact(Zh (Bw 2 JY.nd (Dv Zm))
  (Zh (B0 3 JY.nd rfl rfl (EV T.n_range (Zc 1)) (Zh (ZL 4 JY.nd (ZQ BE (ZQ BE (Zc 0) (ZQ D4 (ZQ D4 Zo (Zc 3)) (Zc 3))) (ZQ D4 Zo (Zc 3))))
  (Zh (ZL 5 JY.nd (Zn ZP hr (Zd (Zc 4) (Zd Zo (Zd Zo Zm)))))
  (Zh (Bw 6 JY.nd (kg (Zn ZP hr (Zd (Zc 4) (Zd Zo (Zd (Zc 1) Zm)))) Cm))
  (Zh (AZ (A6 yI (Zc 5) Zo) (Zl (H8 hu 6 (Zn ZP hr (Zd (Zc 4) (Zd Zo (Zd (Zc 1) Zm)))) Cm)) ZT)
  (Zh (IC 2 (C9 T.n_tuple (A0 (NC T.n_sorted rfl (Zp 6)))))
  (Zl (AZ (A6 (wH hr) (Zc 5) Zo) (Zl (hU 2 fO (Gi Zm))) ZT))))))))
  (Zl (Zz (C9 T.n_tuple (Zp 2))))))
theorem IH:Zv ["_law_cell_here","_law_many","_law_left","_law_right","_law_state","_law_ahead","_law_behind","_law_slips"] ["_law_cell_here","_law_many"] (Zf Sa):=tD
theorem nj(T:tu K mg)(ZP:Callee P w K mg base k "_law_mix" ZR)(D:sP K mg "_law_walk" Sa ["_law_cell_here","_law_many"]):Callee P w K mg base (k+1) "_law_walk" LO :=
 D.ok IH λ_ sN A outer s H E hr=>by
  exact(Zh (Bw 2 IH.nd (Dv Zm))
  (Zh (Bw 3 IH.nd (Dv Zm))
  (Zh (B0 4 IH.nd rfl rfl (EV T.n_range (Zc 1)) (Zh (ZL 5 IH.nd (fM T.n_max rfl (ZQ P1 (Zc 4) Zo) Zo))
  (Zh (ZL 6 IH.nd (fL T.n_min rfl (ZQ BE (Zc 4) Zo) (ZQ P1 (Zc 1) Zo)))
  (Zh (ZL 7 IH.nd (Ia (wH hr) (Zn ZP hr (Zd (ZQ BE (Zc 0) (ZQ D4 Zo (Zc 4))) (Zd Zo (Zd Zo Zm)))) Zo))
  (Zh (IC 2 (C9 T.n_tuple (A0 (Y5 T.n_sorted T.n_set rfl (A0 (La (A0 (Dv (Zd (Zc 5) Zm))) (A0 (fK (A0 (Dv (Zd (Zc 4) Zm))) (kh T.n_int (Zc 7))))))))))
  (Zl (IC 3 (Gi (Zd (Zc 6) Zm)))))))))
  (Zl (Zz (Gi (Zd (C9 T.n_tuple (Zp 2)) (Zd (C9 T.n_tuple (Zp 3)) Zm))))))))
abbrev R6:z9:=["_law_script","_law_at","_law_cell_here","_law_many","_law_deeds","_law_k","_law_looks_here","_law_seed","_law_most","_law_begin","_law_goal"]
theorem DR:Zv R6 ["_law_script","_law_at"] (Zf Oe):=tD
theorem n6(T:tu K mg)(ES:Callee P w K mg base k "_law_cell" Eb)(Ob:Callee P w K mg base k "_law_crowd" IK)(ZP:Callee P w K mg base k "_law_mix" ZR)(R9:Callee P w K mg base k "_law_deed" LP)(Sv:Callee P w K mg base k "_law_walk" LO)(D:sP K mg "_law_works" Oe ["_law_script","_law_at"]):Callee P w K mg base (k+1) "_law_works" Gr :=
 D.ok DR λ_ sN A outer s H E hr=>by
  exact(Zh (ZL 2 DR.nd (Zn ES hr (Zd (Zc 0) (Zd (Zc 1) Zm))))
  (Zh (ZL 3 DR.nd (ZQ BE Zo (Zn ZP hr (Zd (Zc 2) (Zd Zo (Zd Zo Zm))))))
  (Zh (AZ (A6 yJ (Cf T.n_len (Zp 0)) Zo) (Zl (ZL 3 DR.nd (ZQ BE Zo (Zn ZP hr (Zd (Zc 2) (Zd Zo (Zd Zo Zm))))))) ZT)
  (Zh (Bw 4 DR.nd (Dv Zm))
  (Zh (B0 5 DR.nd rfl rfl (EV T.n_range (ZQ BE Zo (Zn ZP hr (Zd (Zc 2) (Zd Zo (Zd Zo Zm)))))) (Zl (IC 4 (Zn R9 hr (Zd (ZQ BE (Zn ES hr (Zd (Zc 0) (Zd (ZQ BE (ZQ BE (Zc 1) Zo) (Zc 5)) Zm))) (ZQ D4 Zo (Zc 5))) (Zd (Zc 3) Zm))))))
  (Zh (AZ (A6 (wH hr) (Zn ZP hr (Zd (Zc 2) (Zd Zo (Zd Zo Zm)))) Zo) (Zl (Bw 4 DR.nd (La (A0 (ND T.n_list (BI (Zn Sv hr (Zd (Zn ES hr (Zd (Zc 0) (Zd (ZQ BE (Zc 1) Zo) Zm))) (Zd (Zc 3) Zm)))))) (A0 (fJ (Zp 4) fT (gK Zo)))))) ZT)
  (Zh (Bw 6 DR.nd (Dv Zm))
  (Zh (B0 5 DR.nd rfl rfl (EV T.n_range (Zn ZP hr (Zd (Zc 2) (Zd Zo (Zd Zo Zm))))) (Zh (ZL 7 DR.nd (ZQ BE (Zn ES hr (Zd (Zc 0) (Zd (ZQ BE (ZQ BE (Zc 1) Zo) (Zc 5)) Zm))) (ZQ D4 Zo (Zc 5))))
  (Zh (ZL 8 DR.nd (ZQ BE Zo (Zn ZP hr (Zd (Zc 7) (Zd Zo (Zd Zo Zm))))))
  (Zl (IC 6 (C9 T.n_tuple (A0 (ZX rfl rfl (N:="_law_state" :: R6) (Zw (sc:=Zf Oe) (XN:=R6)) (EV T.n_range (Zc 3)) (λ_ _ _ _ _=>Bx) (λ_ _ _ _ _=>(Zn ZP hr (Zd (ZQ BE (Zc 8) (ZQ D4 (ZQ D4 Zo (Zc 0)) (Zc 0))) (Zd Zo (Zd (Zc 9) Zm)))))))))))))
  (Zh (ZL 9 DR.nd (Zn Ob hr (Zd (Zn ES hr (Zd (Zc 0) (Zd (ZQ BE (Zc 1) Zo) Zm))) (Zd (Zc 3) (Zd Zo Zm)))))
  (Zh (AZ (A6 (wH hr) (Zn ZP hr (Zd (Zc 2) (Zd Zo (Zd Zo Zm)))) Zo) (Zl (ZL 9 DR.nd (mP T.n_tuple T.n_range rfl (Zc 3)))) ZT)
  (Zh (ZL 10 DR.nd (Zn Ob hr (Zd (Zn ES hr (Zd (Zc 0) (Zd (ZQ BE (Zc 1) Zo) Zm))) (Zd (Zc 3) (Zd Zo Zm)))))
  (Zl (Zz (Gi (Zd (Zc 3) (Zd (C9 T.n_tuple (Zp 4)) (Zd (C9 T.n_tuple (Zp 6)) (Zd (Zc 9) (Zd (Zc 10) Zm)))))))))))))))))))
abbrev R8:z9:=["_law_works_here","_law_cell_here"]
theorem n5:Zv R8 ["_law_works_here","_law_cell_here"] (Zf Od):=tD
theorem n4(T:tu K mg)(ZP:Callee P w K mg base k "_law_mix" ZR)(D:sP K mg "_law_looks" Od ["_law_works_here","_law_cell_here"]):Callee P w K mg base (k+1) "_law_looks" L1 :=
 D.ok n5 λ_ sN A outer s H E hr=>by exact(Zl (Zz (C9 T.n_tuple (A0 (ZX rfl rfl (N:="_law_look" :: R8) (Zw (sc:=Zf Od) (XN:=R8)) (EV T.n_range (Cf T.n_len (BI (Z1 (Zp 0) Zo)))) (λ_ _ _ _ _=>(Cw (A6 yJ (Zn ZP hr (Zd (ZQ BE (Zc 2) (ZQ D4 Zo (Zc 0))) (Zd Zo (Zd Zo Zm)))) Zo))) (λ_ _ _ _ _=>(Zc 0)))))))
abbrev Om:z9:=["_law_works_here","_law_looks_here","_law_crowd_here","_law_found","_law_state","_law_seen"]
theorem OE:Zv Om ["_law_works_here","_law_looks_here","_law_crowd_here"] (Zf LZ):=tD
theorem n0(T:tu K mg)(D:sP K mg "_law_split" LZ ["_law_works_here","_law_looks_here","_law_crowd_here"]):Callee P w K mg base (k+1) "_law_split" ZU :=
 D.ok OE λ_ sN A outer s H E hr=>by
  have hu:=Dr hr;exact(Zh (Bw 3 OE.nd Vi)
  (Zh (B0 4 OE.nd rfl rfl (ZK (Zc 2)) (Zh (ZL 5 OE.nd (C9 T.n_tuple (A0 (ZX rfl rfl (N:="_law_look" :: Om) (Zw (sc:=Zf LZ) (XN:=Om)) (ZK (Zc 1)) (λ_ _ _ _ _=>Bx) (λ_ _ _ _ _=>(Z1 (BI (Z1 (BI (Z1 (Zp 1) Zo)) (Zc 0))) (Zc 5)))))))
  (Zh (AZ (kf hu (Zc 5) (Zp 3)) (Zl (ky hu 3 (Zc 5))) ZT)
  (Zl (ke hu 3 (Zc 5) (Zc 4))))))
  (Zl (Zz (B2 (ZX rfl rfl (N:=["_law_seen","_law_works_here","_law_looks_here","_law_crowd_here","_law_found","_law_state"," "]) (Zw (sc:=Zf LZ) (XN:=Om)) (ZK (B2 (NC T.n_sorted rfl (Zp 3)))) (λ_ _ _ _ _=>Bx) (λ_ _ _ _ _=>(Gi (Zd (Zc 0) (Zd (C9 T.n_tuple (Vh hu 4 (Zc 0))) Zm))))))))))
theorem Ou:Zv ["_law_works_here","_law_crowd_here","_law_deed_here","_law_found","_law_state"] ["_law_works_here","_law_crowd_here","_law_deed_here"] (Zf RS):=tD
theorem mL(T:tu K mg)(D:sP K mg "_law_led" RS ["_law_works_here","_law_crowd_here","_law_deed_here"]):Callee P w K mg base (k+1) "_law_led" DS :=
 D.ok Ou λ_ sN A outer s H E hr=>by
  exact(Zh (Bw 3 Ou.nd (Dv Zm))
  (Zh (B0 4 Ou.nd rfl rfl (ZK (Zc 1)) (Zh (AZ (A6 (wH hr) (Z1 (BI (Z1 (BI (Z1 (Zp 0) Zo)) (Zc 2))) (Zc 4)) (Gi Zm)) (Zl (Zz Dw)) ZT)
  (Zl (Bw 3 Ou.nd (La (Zp 3) (A0 (ND T.n_list (BI (Z1 (BI (Z1 (BI (Z1 (Zp 0) Zo)) (Zc 2))) (Zc 4))))))))))
  (Zl (Zz (C9 T.n_tuple (A0 (Y5 T.n_sorted T.n_set rfl (Zp 3))))))))
abbrev Iv:z9:=["_law_works_here","_law_looks_here","_law_found","_law_at","_law_deed_here","_law_other","_law_some"]
theorem Hh:Zv Iv ["_law_works_here","_law_looks_here"] (Zf JK):=tD
theorem mK(T:tu K mg)(DP:Callee P w K mg base k "_law_split" ZU)(FO:Callee P w K mg base k "_law_led" DS)(D:sP K mg "_law_all" JK ["_law_works_here","_law_looks_here"]):Callee P w K mg base (k+1) "_law_all" NS :=
 D.ok Hh λ_ sN A outer s H E hr=>by
  exact(Zh (Bw 2 Hh.nd (Rk rfl rfl (N:="_law_seen" :: "_law_part" :: Iv) (Zw (sc:=Zf JK) (XN:=Iv)) (ZK (Zn DP hr (Zd (Zc 0) (Zd (Zc 1) (Zd (Z1 (Zp 0) Zo) Zm))))) (λ_ _ _ _ _=>Bx) (λ_ _ _ _ _=>(Zc 1))))
  (Zh (ZL 3 Hh.nd Zo)
  (Zh (JI 100000 rfl (A6 yI (Zc 3) (Cf T.n_len (Zp 2))) (Zh (B0 4 Hh.nd rfl rfl (EV T.n_range (Cf T.n_len (BI (Z1 (Zp 0) Zo)))) (Zh (ZL 5 Hh.nd (Zn FO hr (Zd (Zc 0) (Zd (Z1 (Zp 2) (Zc 3)) (Zd (Zc 4) Zm)))))
  (Zl (AZ (A6 K7 (Zc 5) Dw) (Zh (Sl 6 Hh.nd rfl rfl (N:="_law_seen" :: "_law_part" :: Iv) (Zw (sc:=Zf JK) (XN:=Iv)) (ZK (Zn DP hr (Zd (Zc 0) (Zd (Zc 1) (Zd (Zc 5) Zm))))) (λ_ _ _ _ _=>Bx) (λ_ _ _ _ _=>(Zc 1)))
  (Zl (Du 6 (Bw 2 Hh.nd (La (Zp 2) (A0 (ZX rfl rfl (N:="_law_part" :: Iv) (Zw (sc:=Zf JK) (XN:=Iv)) (ZK (Zc 6)) (λ_ _ _ _ _=>(Cw (LC hr (Zc 0) (Zp 3)))) (λ_ _ _ _ _=>(Zc 0))))))))) ZT))))
  (Zl (ZL 3 Hh.nd (ZQ BE (Zc 3) Zo)))))
  (Zl (Du 2 (Zz (Zc 2)))))))
theorem nZ:Zv ["thing","least","most"] ["thing","least","most"] (Zf SE):=tD
theorem nY(T:tu K mg)(D:sP K mg "is_number" SE ["thing","least","most"]):Callee P w K mg base (k+1) "is_number" Gu :=
 D.ok nZ λ_ sN A outer s H E hr=>by
  exact(Zh (AZ (HR (MX (B1 (YV T.n_isinstance T.n_bool (Zc 0))) (M5 (EM (B1 (YB T.n_isinstance T.n_int (Zc 0))))))) (Zl (Zz Cm)) ZT)
  (Zl (Zz (Xk zP zP (Zc 1) (Zc 0) (Zc 2)))))
theorem OD:Zv ["thing","many","least","number"] ["thing","many"] (Zf SD):=tD
theorem nX(T:tu K mg)(Gq:Callee P w K mg base k "is_number" Gu)(D:sP K mg "is_rising" SD ["thing","many"]):Callee P w K mg base (k+1) "is_rising" DQ :=
 D.ok OD λ_ sN A outer s H E hr=>by
  exact(Zh (AZ (EM (B1 (Y6 T.n_isinstance T.n_tuple (Zc 0)))) (Zl (Zz Cm)) ZT)
  (Zh (ZL 2 OD.nd Zo)
  (Zh (B0 3 OD.nd rfl rfl (ZK (Zc 0)) (Zh (AZ (EM (B1 (Zn Gq hr (Zd (Zc 3) (Zd (Zc 2) (Zd (ZQ P1 (Zc 1) Zo) Zm)))))) (Zl (Zz Cm)) ZT)
  (Zl (ZL 2 OD.nd (ZQ BE (Zc 3) Zo)))))
  (Zl (Zz Cm)))))
theorem ni:Zv ["thing","many"] ["thing","many"] (Zf Sh):=tD
theorem ng(T:tu K mg)(Ep:Callee P w K mg base k "is_rising" DQ)(D:sP K mg "is_crowd" Sh ["thing","many"]):Callee P w K mg base (k+1) "is_crowd" LQ :=
 D.ok ni λ_ sN A outer s H E hr=>by exact(Zl (Zz (GZ (Zn Ep hr (Zd (Zc 0) (Zd (Zc 1) Zm))) (G0 (Ia yJ (Cf T.n_len (Zp 0)) Zo)))))
theorem lp:Zv ["thing","least","most"] ["thing","least","most"] (Zf Rv):=tD
theorem lj(T:tu K mg)(D:sP K mg "is_row" Rv ["thing","least","most"]):Callee P w K mg base (k+1) "is_row" D9 :=
 D.ok lp λ_ sN A outer s H E hr=>by exact(Zl (Zz (GZ (Y6 T.n_isinstance T.n_tuple (Zc 0)) (G0 (Xk zP zP (Zc 1) (Cf T.n_len (Zp 0)) (Zc 2))))))
theorem mJ:Zv ["thing","many"] ["thing","many"] (Zf NR):=tD
theorem mI(T:tu K mg)(Dx:Callee P w K mg base k "is_row" D9)(Ep:Callee P w K mg base k "is_rising" DQ)(D:sP K mg "is_deed" NR ["thing","many"]):Callee P w K mg base (k+1) "is_deed" IA :=
 D.ok mJ λ_ sN A outer s H E hr=>by exact(Zl (Zz (GZ (Zn Dx hr (Zd (Zc 0) (Zd (Zc 1) (Zd (Zc 1) Zm)))) (G0 (GY T.n_all rfl (A0 (ZX rfl rfl (N:=["crowd","thing","many"]) (Zw (sc:=Zf NR) (XN:=["thing","many"])) (ZK (Zc 0)) (λ_ _ _ _ _=>Bx) (λ_ _ _ _ _=>(Zn Ep hr (Zd (Zc 0) (Zd (Zc 2) Zm)))))))))))
theorem nW:Zv ["thing","many"] ["thing","many"] (Zf Oi):=tD
theorem nV(T:tu K mg)(Dx:Callee P w K mg base k "is_row" D9)(RR:Callee P w K mg base k "is_deed" IA)(D:sP K mg "are_deeds" Oi ["thing","many"]):Callee P w K mg base (k+1) "are_deeds" L7 :=
 D.ok nW λ_ sN A outer s H E hr=>by exact(Zl (Zz (GZ (Zn Dx hr (Zd (Zc 0) (Zd Zo (Zd (Ni T.c_MOST_DEEDS) Zm)))) (G0 (GY T.n_all rfl (A0 (ZX rfl rfl (N:=["deed","thing","many"]) (Zw (sc:=Zf Oi) (XN:=["thing","many"])) (ZK (Zc 0)) (λ_ _ _ _ _=>Bx) (λ_ _ _ _ _=>(Zn RR hr (Zd (Zc 0) (Zd (Zc 2) Zm)))))))))))
theorem mH:Zv ["thing","many"] ["thing","many"] (Zf NQ):=tD
theorem mG(T:tu K mg)(Dx:Callee P w K mg base k "is_row" D9)(Gq:Callee P w K mg base k "is_number" Gu)(D:sP K mg "is_look" NQ ["thing","many"]):Callee P w K mg base (k+1) "is_look" Iz :=
 D.ok mH λ_ sN A outer s H E hr=>by exact(Zl (Zz (GZ (Zn Dx hr (Zd (Zc 0) (Zd (Zc 1) (Zd (Zc 1) Zm)))) (G0 (GY T.n_all rfl (A0 (ZX rfl rfl (N:=["told","thing","many"]) (Zw (sc:=Zf NQ) (XN:=["thing","many"])) (ZK (Zc 0)) (λ_ _ _ _ _=>Bx) (λ_ _ _ _ _=>(Zn Gq hr (Zd (Zc 0) (Zd Zo (Zd (Ni T.c_MOST_SEEN) Zm))))))))))))
theorem nU:Zv ["thing","many"] ["thing","many"] (Zf Oh):=tD
theorem nT(T:tu K mg)(Dx:Callee P w K mg base k "is_row" D9)(RQ:Callee P w K mg base k "is_look" Iz)(D:sP K mg "are_looks" Oh ["thing","many"]):Callee P w K mg base (k+1) "are_looks" L6 :=
 D.ok nU λ_ sN A outer s H E hr=>by exact(Zl (Zz (GZ (Zn Dx hr (Zd (Zc 0) (Zd Zo (Zd (Ni T.c_MOST_LOOKS) Zm)))) (G0 (GY T.n_all rfl (A0 (ZX rfl rfl (N:=["look","thing","many"]) (Zw (sc:=Zf Oh) (XN:=["thing","many"])) (ZK (Zc 0)) (λ_ _ _ _ _=>Bx) (λ_ _ _ _ _=>(Zn RQ hr (Zd (Zc 0) (Zd (Zc 2) Zm)))))))))))
theorem ai:Zv ["thing","many"] ["thing"] (Zf SR):=tD
theorem nS(T:tu K mg)(Su:Callee P w K mg base k "is_crowd" LQ)(Ep:Callee P w K mg base k "is_rising" DQ)(Dx:Callee P w K mg base k "is_row" D9)(Gq:Callee P w K mg base k "is_number" Gu)(SO:Callee P w K mg base k "are_deeds" L7)(SN:Callee P w K mg base k "are_looks" L6)(D:sP K mg "are_works" SR ["thing"]):Callee P w K mg base (k+1) "are_works" L5 :=
 D.ok ai λ_ sN A outer s H E hr=>by
  exact(Zh (AZ (HR (MX (EM (B1 (Zn Dx hr (Zd (Zc 0) (Zd Zo (Zd Zo Zm)))))) (M5 (EM (B1 (Zn Gq hr (Zd (Z1 (Zp 0) Zo) (Zd Zo (Zd (Ni T.c_MOST_STATES) Zm))))))))) (Zl (Zz Cm)) ZT)
  (Zh (ZL 1 ai.nd (Z1 (Zp 0) Zo))
  (Zh (AZ (HR (MX (EM (B1 (Zn SO hr (Zd (Z1 (Zp 0) Zo) (Zd (Zc 1) Zm))))) (M5 (EM (B1 (Zn SN hr (Zd (Z1 (Zp 0) Zo) (Zd (Zc 1) Zm)))))))) (Zl (Zz Cm)) ZT)
  (Zl (Zz (GZ (Zn Su hr (Zd (Z1 (Zp 0) Zo) (Zd (Zc 1) Zm))) (G0 (Zn Ep hr (Zd (Z1 (Zp 0) Zo) (Zd (Zc 1) Zm))))))))))
theorem mF:Zv ["works"] ["works"] (Zf RU):=tD
theorem mE(T:tu K mg)(SM:Callee P w K mg base k "are_works" L5)(D:sP K mg "checked" RU ["works"]):Callee P w K mg base (k+1) "checked" LJ :=
 D.ok mF λ_ sN A outer s H E hr=>by
  exact(Zh (AZ (EM (B1 (Zn SM hr (Zd (Zc 0) Zm)))) (Zl Xj) ZT)
  (Zl (Zz (Zc 0))))
theorem nc:Zv ["works"] ["works"] (Zf Sf):=tD
theorem nG(T:tu K mg)(D:sP K mg "looks_of" Sf ["works"]):Callee P w K mg base (k+1) "looks_of" IP :=
 D.ok nc λ_ sN A outer s H E hr=>by exact(Zl (Zz (Z1 (Zp 0) Zo)))
theorem pf:Zv ["works","looks"] ["works","looks"] (Zf Ta):=tD
theorem pe(T:tu K mg)(Ep:Callee P w K mg base k "is_rising" DQ)(JP:Callee P w K mg base k "looks_of" IP)(D:sP K mg "checked_looks" Ta ["works","looks"]):Callee P w K mg base (k+1) "checked_looks" Mc :=
 D.ok pf λ_ sN A outer s H E hr=>by
  exact(Zh (AZ (EM (B1 (Zn Ep hr (Zd (Zc 1) (Zd (Cf T.n_len (BI (Zn JP hr (Zd (Zc 0) Zm)))) Zm))))) (Zl Xj) ZT)
  (Zl (Zz (Zc 1))))
theorem ah:Zv ["rows"] ["rows"] (Zf JZ):=tD
theorem oz(T:tu K mg)(Fn:vB K "crowds_in" "crowds_in" JZ f fd)(hm:mg "crowds_in"=Z (.ref f))(hb:Binds K fd ["rows"] []):G4 P w K mg base (k+1) "crowds_in" ZB :=
 lD Fn ah hm hb rfl (λr b h=>je _ _ _ r b h) λsN A outer s H E hr=>by exact(ZX rfl rfl (N:=["row","rows"]) (Zw (sc:=Zf JZ) (XN:=["rows"])) (ZK (Zc 0)) (λ_ _ _ _ _=>Bx) (λ_ _ _ _ _=>(Z1 (Zp 0) Zo)))
theorem nR(T:tu K mg)(D:sP K mg "crowds_in" JZ ["rows"]):Callee P w K mg base (k+1) "crowds_in" ZB :=
 D.ok ah λ_ sN A outer s H E hr=>by exact(Zl (Zz (B2 (ZX rfl rfl (N:=["row","rows"]) (Zw (sc:=Zf JZ) (XN:=["rows"])) (ZK (Zc 0)) (λ_ _ _ _ _=>Bx) (λ_ _ _ _ _=>(Z1 (Zp 0) Zo))))))
theorem aN:Zv ["way","luck","least"] ["way","luck"] (Zf J9):=tD
theorem oZ(T:tu K mg)(DO:Callee P w K mg base k "crowds_in" ZB)(D:sP K mg "deeds_by_luck" J9 ["way","luck"]):Callee P w K mg base (k+1) "deeds_by_luck" EW :=
 D.ok aN λ_ sN A outer s H E hr=>by
  have hu:=Dr hr;exact(Zh (ZL 2 aN.nd (QA T.n_min rfl (A0 (ZX rfl rfl (N:=["part","way","luck","least"]) (Zw (sc:=Zf J9) (XN:=["way","luck","least"])) (ZK (Zn DO hr (Zd (Z1 (Zp 0) Zo) Zm))) (λ_ _ _ _ _=>(Cw (fH hu (Zc 0) (Zp 2)))) (λ_ _ _ _ _=>(CK hu (Zp 2) (Zc 0)))))))
  (Zl (Zz (P8 (A6 KO (Zc 2) Dw) Dw (ZQ BE (Zc 2) Zo)))))
theorem mD:Zv ["works","looks","state"] ["works","looks","state"] (Zf N9):=tD
theorem mC(T:tu K mg)(JP:Callee P w K mg base k "looks_of" IP)(D:sP K mg "seen_in" N9 ["works","looks","state"]):Callee P w K mg base (k+1) "seen_in" LI :=
 D.ok mD λ_ sN A outer s H E hr=>by exact(Zl (Zz (C9 T.n_tuple (A0 (ZX rfl rfl (N:=["look","works","looks","state"]) (Zw (sc:=Zf N9) (XN:=["works","looks","state"])) (ZK (Zc 1)) (λ_ _ _ _ _=>Bx) (λ_ _ _ _ _=>(Z1 (BI (Z1 (BI (Zn JP hr (Zd (Zc 1) Zm))) (Zc 0))) (Zc 3))))))))
abbrev Rf:z9:=["works","looks","crowd","found","state"]
theorem RP:Zv Rf ["works","looks","crowd"] (Zf NB):=tD
theorem lh(T:tu K mg)(RO:Callee P w K mg base k "seen_in" LI)(D:sP K mg "parted" NB ["works","looks","crowd"]):Callee P w K mg base (k+1) "parted" Df :=
 D.ok RP λ_ sN A outer s H E hr=>by
  have hu:=Dr hr;exact(Zh (Bw 3 RP.nd Vi)
  (Zh (B0 4 RP.nd rfl rfl (ZK (Zc 2)) (Zl (kd hu 3 (Zn RO hr (Zd (Zc 0) (Zd (Zc 1) (Zd (Zc 4) Zm)))) (Zc 4) ⟨rfl,rfl,rfl,rfl⟩)))
  (Zl (Zz (B2 (ZX rfl rfl (N:="seen" :: Rf) (Zw (sc:=Zf NB) (XN:=Rf)) (ZK (B2 (NC T.n_sorted rfl (Zp 3)))) (λ_ _ _ _ _=>Bx) (λ_ _ _ _ _=>(Gi (Zd (Zc 0) (Zd (C9 T.n_tuple (Vh hu 4 (Zc 0))) Zm))))))))))
theorem nF:Zv ["works"] ["works"] (Zf Sg):=tD
theorem nE(T:tu K mg)(D:sP K mg "deeds_of" Sg ["works"]):Callee P w K mg base (k+1) "deeds_of" Gx :=
 D.ok nF λ_ sN A outer s H E hr=>by exact(Zl (Zz (Z1 (Zp 0) Zo)))
theorem aM:Zv ["works","crowd","deed","leads"] ["works","crowd","deed"] (Zf OB):=tD
theorem oT(T:tu K mg)(Gw:Callee P w K mg base k "deeds_of" Gx)(D:sP K mg "can_be_done" OB ["works","crowd","deed"]):Callee P w K mg base (k+1) "can_be_done" Me :=
 D.ok aM λ_ sN A outer s H E hr=>by
  exact(Zh (ZL 3 aM.nd (Z1 (BI (Zn Gw hr (Zd (Zc 0) Zm))) (Zc 2)))
  (Zl (Zz (GY T.n_all rfl (A0 (ZX rfl rfl (N:=["state","works","crowd","deed","leads"]) (Zw (sc:=Zf OB) (XN:=["works","crowd","deed","leads"])) (ZK (Zc 1)) (λ_ _ _ _ _=>Bx) (λ_ _ _ _ _=>(Ia yJ (Cf T.n_len (BI (Z1 (Zp 4) (Zc 0)))) Zo))))))))
theorem ow:Zv ["works","crowd"] ["works","crowd"] (Zf OF):=tD
theorem ou(T:tu K mg)(S2:Callee P w K mg base k "can_be_done" Me)(Gw:Callee P w K mg base k "deeds_of" Gx)(D:sP K mg "deeds_with" OF ["works","crowd"]):Callee P w K mg base (k+1) "deeds_with" LX :=
 D.ok ow λ_ sN A outer s H E hr=>by exact(Zl (Zz (B2 (ZX rfl rfl (N:=["deed","works","crowd"]) (Zw (sc:=Zf OF) (XN:=["works","crowd"])) (EV T.n_range (Cf T.n_len (BI (Zn Gw hr (Zd (Zc 0) Zm))))) (λ_ _ _ _ _=>(Cw (B1 (Zn S2 hr (Zd (Zc 1) (Zd (Zc 2) (Zd (Zc 0) Zm))))))) (λ_ _ _ _ _=>(Zc 0))))))
theorem LG:Zv ["works","crowd","deed","leads","found","state","target"] ["works","crowd","deed"] (Zf Ru):=tD
theorem lg(T:tu K mg)(Gw:Callee P w K mg base k "deeds_of" Gx)(D:sP K mg "led_to" Ru ["works","crowd","deed"]):Callee P w K mg base (k+1) "led_to" JN :=
 D.ok LG λ_ sN A outer s H E hr=>by
  have hu:=Dr hr;exact(Zh (ZL 3 LG.nd (Z1 (BI (Zn Gw hr (Zd (Zc 0) Zm))) (Zc 2)))
  (Zh (Bw 4 LG.nd cw)
  (Zh (B0 5 LG.nd rfl rfl (ZK (Zc 1)) (Zl (B0 6 LG.nd rfl rfl (ZK (Z1 (Zp 3) (Zc 5))) (Zl (H8 hu 4 (Zc 6) Cm)))))
  (Zl (Zz (C9 T.n_tuple (A0 (NC T.n_sorted rfl (Zp 4)))))))))
theorem nQ:Zv ["works","looks","crowd"] ["works","looks","crowd"] (Zf Og):=tD
theorem nO(T:tu K mg)(Gp:Callee P w K mg base k "parted" Df)(Sx:Callee P w K mg base k "deeds_with" LX)(Rt:Callee P w K mg base k "led_to" JN)(D:sP K mg "ways_with" Og ["works","looks","crowd"]):Callee P w K mg base (k+1) "ways_with" EX :=
 D.ok nQ λ_ sN A outer s H E hr=>by exact(Zl (Zz (B2 (ZX rfl rfl (N:=["deed","works","looks","crowd"]) (Zw (sc:=Zf Og) (XN:=["works","looks","crowd"])) (ZK (Zn Sx hr (Zd (Zc 0) (Zd (Zc 2) Zm)))) (λ_ _ _ _ _=>Bx) (λ_ _ _ _ _=>(Gi (Zd (Zc 0) (Zd (Zn Gp hr (Zd (Zc 1) (Zd (Zc 2) (Zd (Zn Rt hr (Zd (Zc 1) (Zd (Zc 3) (Zd (Zc 0) Zm)))) Zm)))) Zm))))))))
abbrev LU:z9:=["ways","costs","cost_by","told"]
theorem aJ:Zv LU ["ways","costs","cost_by"] (Zf LV):=tD
theorem aI(T:tu K mg)(CV:EK P w K mg base k ap)(D:sP K mg "least_cost" LV ["ways","costs","cost_by"]):Callee P w K mg base (k+1) "least_cost" (Gv ap) :=
 D.ok aJ λ_ sN A outer s H E hr=>by
  exact(Zh (LK 3 aJ.nd rfl rfl (N:="way" :: LU) (Zw (sc:=Zf LV) (XN:=LU)) (ZK (Zc 0)) (λ_ _ _ _ _=>Bx) (λ_ _ _ _ _=>(Rj CV hr 3 (Zd (Zc 0) (Zd (Zc 2) Zm)))))
  (Zl (Du 3 (Zz (QA T.n_min rfl (A0 (ZX rfl rfl (N:="cost" :: LU) (Zw (sc:=Zf LV) (XN:=LU)) (ZK (Zc 3)) (λ_ _ _ _ _=>(Cw (A6 K7 (Zc 0) Dw))) (λ_ _ _ _ _=>(Zc 0)))))))))
theorem Oz:Zv ["reach","costs","cost_by","found","crowd","cost"] ["reach","costs","cost_by"] (Zf Sz):=tD
theorem oB(T:tu K mg)(JV:Callee P w K mg base k "least_cost" (Gv ap))(Fn:vB K "next_costs" "next_costs" Sz f fd)(hm:mg "next_costs"=Z (.ref f))(hb:Binds K fd ["reach","costs","cost_by"] []):G3 P w K mg base (k+1) "next_costs" (Hn ap) :=
 la Fn Oz hm hb λsN A outer s H E hr=>by
  have hu:=Dr hr;exact(Wr (Bw 3 Oz.nd K2)
  (Wr (G1 0 (B0 4 Oz.nd rfl rfl (G7 0) (Zl (AZ (Yq hu (Zc 4) (Zp 1)) (Zh (ZL 5 Oz.nd (Zn JV hr (Zd (CK hu (Zp 0) (Zc 4)) (Zd (Zc 1) (Zd (Zc 2) Zm)))))
  (Zl (AZ (A6 K7 (Zc 5) Dw) (Zl (H8 hu 3 (Zc 4) (Zc 5))) ZT))) ZT))))
  (fR 3)))
theorem mB:Zv ["works"] ["works"] (Zf RV):=tD
theorem mz(T:tu K mg)(D:sP K mg "goal_of" RV ["works"]):Callee P w K mg base (k+1) "goal_of" LH :=
 D.ok mB λ_ sN A outer s H E hr=>by exact(Zl (Zz (Z1 (Zp 0) Zo)))
theorem nD:Zv ["works","crowd"] ["works","crowd"] (Zf Ox):=tD
theorem nC(T:tu K mg)(RN:Callee P w K mg base k "goal_of" LH)(D:sP K mg "is_there" Ox ["works","crowd"]):Callee P w K mg base (k+1) "is_there" Hj :=
 D.ok nD λ_ sN A outer s H E hr=>by exact(Zl (Zz (GY T.n_all rfl (A0 (ZX rfl rfl (N:=["state","works","crowd"]) (Zw (sc:=Zf Ox) (XN:=["works","crowd"])) (ZK (Zc 1)) (λ_ _ _ _ _=>Bx) (λ_ _ _ _ _=>(fI (Zc 0) (BI (Zn RN hr (Zd (Zc 1) Zm))))))))))
abbrev Ot:z9:=["works","reach","cost_by","costs","cost","found","crowd","offered"]
theorem Hm:Zv Ot ["works","reach","cost_by"] (Zf JR):=tD
theorem nB(T:tu K mg)(Ss:Callee P w K mg base k "is_there" Hj)(Gf_next_costs:G3 P w K mg base k "next_costs" (Hn ap))(D:sP K mg "costs_of" JR ["works","reach","cost_by"]):Callee P w K mg base (k+1) "costs_of" (Es ap) :=
 D.ok Hm λ_ sN A outer s H E hr=>by
  have hu:=Dr hr;exact(Zh (Bw 3 Hm.nd K2)
  (Zh (ZL 4 Hm.nd Zo)
  (Zh (G1 1 (LK 5 Hm.nd rfl rfl (N:=["crowd","works","reach","cost_by","costs","cost","found"," ","offered"]) (Zw (sc:=Zf JR) (XN:=Ot)) (G7 1) (λ_ _ _ _ _=>(Cw (B1 (Zn Ss hr (Zd (Zc 1) (Zd (Zc 0) Zm)))))) (λ_ _ _ _ _=>(Zc 0))))
  (Zh (JI 100000 rfl (A6 yJ (Cf T.n_len (Zp 5)) Zo) (Zh (Du 5 (B0 6 Hm.nd rfl rfl (ZK (Zc 5)) (Zl (H8 hu 3 (Zc 6) (Zc 4)))))
  (Zh (Bw 7 Hm.nd (j6 Gf_next_costs hr (LD (Zc 1) (Xh (Zp 3) (LD (Zc 2) (Vf Zm))))))
  (Zh (Du 7 (G1 7 (ZL 4 Hm.nd (QA T.n_min rfl (A0 (ZX rfl rfl (N:=["crowd","works","reach","cost_by","costs","cost","found"," ","offered"]) (Zw (sc:=Zf JR) (XN:=Ot)) (G7 7) (λ_ _ _ _ _=>Bx) (λ_ _ _ _ _=>(CK hu (Zp 8) (Zc 0)))))))))
  (Zl (Du 7 (G1 7 (LK 5 Hm.nd rfl rfl (N:=["crowd","works","reach","cost_by","costs","cost","found"," ","offered"]) (Zw (sc:=Zf JR) (XN:=Ot)) (G7 7) (λ_ _ _ _ _=>(Cw (A6 (wH hr) (CK hu (Zp 8) (Zc 0)) (Zc 5)))) (λ_ _ _ _ _=>(Zc 0))))))))))
  (Zl (Du 3 (Zz (Zc 3))))))))
abbrev LY:z9:=["reach","crowds","found","crowd"]
theorem SU:Zv LY ["reach","crowds"] (Zf OA):=tD
theorem oR(T:tu K mg)(DO:Callee P w K mg base k "crowds_in" ZB)(D:sP K mg "ways_within" OA ["reach","crowds"]):Callee P w K mg base (k+1) "ways_within" Md :=
 D.ok SU λ_ sN A outer s H E hr=>by
  have hu:=Dr hr;exact(Zh (Bw 2 SU.nd K2)
  (Zh (G1 1 (B0 3 SU.nd rfl rfl (G7 1) (Zl (H8 hu 2 (Zc 3) (B2 (ZX rfl rfl (N:="way" :: LY) (Zw (sc:=Zf OA) (XN:=LY)) (ZK (CK hu (Zp 0) (Zc 3))) (λ_ _ _ _ _=>(Cw (B1 (GY T.n_all rfl (A0 (ZX rfl rfl (N:="part" :: "way" :: LY) (Zw (XN:="way" :: LY) rfl rfl rfl (by kernel_rfl)) (ZK (Zn DO hr (Zd (Z1 (Zp 0) Zo) Zm))) (λ_ _ _ _ _=>Bx) (λ_ _ _ _ _=>(Vg hu (Zc 0) (Zp 3))))))))) (λ_ _ _ _ _=>(Zc 0))))))))
  (Zl (Du 2 (Zz (Zc 2))))))
theorem Mh:Zv ["works","coming","reach","luck"] ["works","coming"] (Zf S9):=tD
theorem oY(T:tu K mg)(IM:Callee P w K mg base k "costs_of" (Es ap))(S1:Callee P w K mg base k "ways_within" Md)(Vff_deeds_by_luck:zU mg "deeds_by_luck" 3)(D:sP K mg "patient_reach" S9 ["works","coming"]):Callee P w K mg base (k+1) "patient_reach" (Mb ap) :=
 D.ok Mh λ_ sN A outer s H E hr=>by
  exact(Zh (ZL 2 Mh.nd (Zc 1))
  (Zh (ZL 3 Mh.nd (Zn IM hr (Zd (Zc 0) (Zd (Zc 2) (Zd (M3 Vff_deeds_by_luck) Zm)))))
  (Zh (JI 100000 rfl (A6 yI (Nh T.n_len (Zp 3)) (Nh T.n_len (Zp 2))) (Zh (ZL 2 Mh.nd (Zn S1 hr (Zd (Zc 2) (Zd (Zc 3) Zm))))
  (Zl (ZL 3 Mh.nd (Zn IM hr (Zd (Zc 0) (Zd (Zc 2) (Zd (M3 Vff_deeds_by_luck) Zm))))))))
  (Zl (Zz (Zc 2))))))
theorem nA:Zv ["works"] ["works"] (Zf Se):=tD
theorem nz(T:tu K mg)(D:sP K mg "begin_of" Se ["works"]):Callee P w K mg base (k+1) "begin_of" ET :=
 D.ok nA λ_ sN A outer s H E hr=>by exact(Zl (Zz (Z1 (Zp 0) Zo)))
theorem pk:Zv ["works","looks"] ["works","looks"] (Zf S5):=tD
theorem pj(T:tu K mg)(DO:Callee P w K mg base k "crowds_in" ZB)(Gp:Callee P w K mg base k "parted" Df)(JO:Callee P w K mg base k "begin_of" ET)(D:sP K mg "parts_of_begin" S5 ["works","looks"]):Callee P w K mg base (k+1) "parts_of_begin" Mi :=
 D.ok pk λ_ sN A outer s H E hr=>by exact(Zl (Zz (Zn DO hr (Zd (Zn Gp hr (Zd (Zc 0) (Zd (Zc 1) (Zd (Zn JO hr (Zd (Zc 0) Zm)) Zm)))) Zm))))
theorem Ma:Zv ["crowds","ways_for","reach","waiting","crowd","way"] ["crowds","ways_for"] (Zf SW):=tD
theorem ph(T:tu K mg)(DO:Callee P w K mg base k "crowds_in" ZB)(SK:G4 P w K mg base k "crowds_in" ZB)(CV:EK P w K mg base k ap)(D:sP K mg "reached_from" SW ["crowds","ways_for"]):Callee P w K mg base (k+1) "reached_from" (FR ap) :=
 D.ok Ma λ_ sN A outer s H E hr=>by
  have hu:=Dr hr;exact(Zh (Bw 2 Ma.nd K2)
  (Zh (Bw 3 Ma.nd (ND T.n_list (Zp 0)))
  (Zh (JI 100000 rfl (A6 yJ (Cf T.n_len (Zp 3)) Zo) (Zh (fG 4 3 Ma.nd)
  (Zl (AZ (Yq hu (Zc 4) (Zp 2)) (Zh (H8 hu 2 (Zc 4) (Rj CV hr 1 (Zd (Zc 4) Zm)))
  (Zl (B0 5 Ma.nd rfl rfl (ZK (CK hu (Zp 2) (Zc 4))) (Zl (ku 3 (A0 (j7 SK hr (Zd (Z1 (Zp 5) Zo) Zm)))))))) ZT))))
  (Zl (Du 2 (Zz (Zc 2)))))))
theorem oQ:Zv ["works","looks","crowd"] ["works","looks","crowd"] (Zf Z2):=tD
theorem fw:MP ["works","looks","crowd"] (Zf Z2) (Ei Z2) ["works","looks"] [0,1]=Aa:=by decide +kernel
theorem oP(T:tu K mg)(Ke:Callee P w K mg base k "reached_from" (FR ap))(DO:Callee P w K mg base k "crowds_in" ZB)(Gp:Callee P w K mg base k "parted" Df)(J6:Callee P w K mg base k "ways_with" EX)(hc:FT K c Tl=Aa)(ht:(Tl,("coming_from.<locals>.<lambda>":Str))∈FX.tl)(hq:∀q,(Tl,q)∈FX.tl->q=("coming_from.<locals>.<lambda>":Str))(bm:BMod base mg)(good:∀F p cs,vo K F p (ML Z2) (Jt Z2) (Ei Z2) ["works","looks"] cs->FX.fv 1 cs F p)(Fn:KQ K "coming_from" "coming_from" Z2 f fd c)(hm:mg "coming_from"=Z (.ref f))(hb:Binds K fd ["works","looks","crowd"] []):Callee P w K mg base (k+1) "coming_from" (JX ap) :=
 Ym Fn oQ hm hb λA outer s H E hr=>by exact(Zl (Zz (YA Ke hr (Xp fw hc ht hq bm good) (Zn DO hr (Zd (Zn Gp hr (Zd (Zc 0) (Zd (Zc 1) (Zd (Zc 2) Zm)))) Zm)))))
abbrev RF:z9:=["ways","costs","cost_by","least"]
theorem az:Zv RF ["ways","costs","cost_by"] (Zf Ow):=tD
theorem ay(T:tu K mg)(JV:Callee P w K mg base k "least_cost" (Gv ap))(CV:EK P w K mg base k ap)(D:sP K mg "best_way" Ow ["ways","costs","cost_by"]):Callee P w K mg base (k+1) "best_way" (JT ap) :=
 D.ok az λ_ sN A outer s H E hr=>by
  exact(Zh (ZL 3 az.nd (Zn JV hr (Zd (Zc 0) (Zd (Zc 1) (Zd (Zc 2) Zm)))))
  (Zl (Zz (Z1 (A0 (ZX rfl rfl (N:="way" :: RF) (Zw (sc:=Zf Ow) (XN:=RF)) (ZK (Zc 0)) (λ_ _ _ _ _=>(Cw (A6 (wH hr) (Rj CV hr 3 (Zd (Zc 0) (Zd (Zc 2) Zm))) (Zc 4)))) (λ_ _ _ _ _=>(Zc 0)))) Zo))))
theorem oO:Zv ["reach","luck","crowd"] ["reach","luck","crowd"] (Zf SV):=tD
theorem aR(T:tu K mg)(Sr:Callee P w K mg base k "best_way" (JT ap))(Vff_deeds_by_luck:zU mg "deeds_by_luck" 3)(D:sP K mg "patient_ways" SV ["reach","luck","crowd"]):Callee P w K mg base (k+1) "patient_ways" (Hl ap) :=
 D.ok oO λ_ sN A outer s H E hr=>by have hu:=Dr hr;exact(Zl (Zz (P8 (A6 (wH hr) (CK hu (Zp 1) (Zc 2)) Zo) (B2 (Dv Zm)) (B2 (Dv (Zd (Zn Sr hr (Zd (CK hu (Zp 0) (Zc 2)) (Zd (Zc 1) (Zd (M3 Vff_deeds_by_luck) Zm)))) Zm))))))
abbrev L9:z9:=["works","looks","reach","first","luck","table"]
theorem Mg:Zv L9 ["works","looks"] (Zf ZM):=tD
theorem d5:MP ["works","looks","reach","first","luck","table"] (Zf ZM) (Ei ZM) ["reach","luck"] [2,4]=Aa:=by decide +kernel
theorem oX(T:tu K mg)(RM:Callee P w K mg base k "checked" LJ)(S8:Callee P w K mg base k "checked_looks" Mc)(S7:Callee P w K mg base k "patient_reach" (Mb ap))(S4:Callee P w K mg base k "parts_of_begin" Mi)(IM:Callee P w K mg base k "costs_of" (Es ap))(Ke:Callee P w K mg base k "reached_from" (FR ap))(S0:Callee P w K mg base k "coming_from" (JX ap))(JO:Callee P w K mg base k "begin_of" ET)(OI:Callee P w K mg base k "patient_ways" (Hl ap))(Vff_deeds_by_luck:zU mg "deeds_by_luck" 3)(hc:FT K c Tl=Aa)(ht:(Tl,("patient_table.<locals>.<lambda>":Str))∈FX.tl)(hq:∀q,(Tl,q)∈FX.tl->q=("patient_table.<locals>.<lambda>":Str))(bm:BMod base mg)(good:∀F p cs,vo K F p (ML ZM) (Jt ZM) (Ei ZM) ["reach","luck"] cs->FX.fv 4 cs F p)(Fn:KQ K "patient_table" "patient_table" ZM f fd c)(hm:mg "patient_table"=Z (.ref f))(hb:Binds K fd ["works","looks"] []):Callee P w K mg base (k+1) "patient_table" (IS ap) :=
 Ym Fn Mg hm hb λA outer s H E hr=>by
  have hu:=Dr hr;exact(Zh (VG (Zn RM hr (Zd (Zc 0) Zm)))
  (Zh (VG (Zn S8 hr (Zd (Zc 0) (Zd (Zc 1) Zm))))
  (Zh (ZL 2 Mg.nd (Zn S7 hr (Zd (Zc 0) (Zd (Zn S0 hr (Zd (Zc 0) (Zd (Zc 1) (Zd (Zn JO hr (Zd (Zc 0) Zm)) Zm)))) Zm))))
  (Zh (ZL 3 Mg.nd (Zn S4 hr (Zd (Zc 0) (Zd (Zc 1) Zm))))
  (Zh (AZ (EM (B1 (GY T.n_all rfl (A0 (ZX rfl rfl (N:="part" :: L9) (Zw (sc:=Zf ZM) (XN:=L9)) (ZK (Zc 3)) (λ_ _ _ _ _=>Bx) (λ_ _ _ _ _=>(Vg hu (Zc 0) (Zp 3)))))))) (Zl (Zz Dw)) ZT)
  (Zh (ZL 4 Mg.nd (Zn IM hr (Zd (Zc 0) (Zd (Zc 2) (Zd (M3 Vff_deeds_by_luck) Zm)))))
  (Zh (ZL 5 Mg.nd (YA Ke hr (Xp d5 hc ht hq bm good) (Zc 3)))
  (Zl (Zz (B2 (ZX rfl rfl (N:="crowd" :: L9) (Zw (sc:=Zf ZM) (XN:=L9)) (ZK (B2 (Yz T.n_sorted rfl (Zp 5)))) (λ_ _ _ _ _=>Bx) (λ_ _ _ _ _=>(Gi (Zd (Zc 0) (Zd (P8 (A6 yJ (Cf T.n_len (BI (CK hu (Zp 6) (Zc 0)))) Zo) (Z1 (BI (Z1 (BI (CK hu (Zp 6) (Zc 0))) Zo)) Zo) Dw) Zm)))))))))))))))
abbrev R3:z9:=["_law_works_here","_law_crowd_here"]
theorem nN:Zv R3 ["_law_works_here","_law_crowd_here"] (Zf Oc):=tD
theorem nM(T:tu K mg)(D:sP K mg "_law_there" Oc ["_law_works_here","_law_crowd_here"]):Callee P w K mg base (k+1) "_law_there" FK :=
 D.ok nN λ_ sN A outer s H E hr=>by exact(Zl (Zz (Ia (wH hr) (B2 (ZX rfl rfl (N:="_law_state" :: R3) (Zw (sc:=Zf Oc) (XN:=R3)) (ZK (Zc 1)) (λ_ _ _ _ _=>(Cw (kx (Zc 0) (BI (Z1 (Zp 1) Zo))))) (λ_ _ _ _ _=>(Zc 0)))) (B2 (Dv Zm)))))
theorem nL:Zv ["_law_found"] ["_law_found"] (Zf SQ):=tD
theorem nK(T:tu K mg)(D:sP K mg "_law_whole" SQ ["_law_found"]):Callee P w K mg base (k+1) "_law_whole" J2 :=
 D.ok nL λ_ sN A outer s H E hr=>by exact(Zl (Zz (GZ (YB T.n_isinstance T.n_int (Zc 0)) (G0 (fN (YV T.n_isinstance T.n_bool (Zc 0)))))))
abbrev Kd:z9:=["_law_works_here","_law_looks_here","_law_table","_law_begin","_law_comes","_law_near","_law_crowd_here","_law_other","_law_turn"]
theorem FQ:Zv Kd ["_law_works_here","_law_looks_here","_law_table","_law_begin"] (Zf Kf):=tD
theorem oN(T:tu K mg)(J5:Callee P w K mg base k "_law_there" FK)(SJ:Callee P w K mg base k "_law_whole" J2)(FO:Callee P w K mg base k "_law_led" DS)(DP:Callee P w K mg base k "_law_split" ZU)(D:sP K mg "_law_is_table" Kf ["_law_works_here","_law_looks_here","_law_table","_law_begin"]):Callee P w K mg base (k+1) "_law_is_table" Kg :=
 D.ok FQ λ_ sN A outer s H E hr=>by
  have hu:=Dr hr;exact(Zh (Bw 4 FQ.nd (ND T.n_list (Zp 3)))
  (Zh (G1 2 (Bw 5 FQ.nd (ZX rfl rfl (N:=["_law_crowd_here","_law_works_here","_law_looks_here","_law_table","_law_begin","_law_comes","_law_near"," ","_law_other","_law_turn"]) (Zw (sc:=Zf Kf) (XN:=Kd)) (G7 2) (λ_ _ _ _ _=>(Cw (A6 KO (CK hu (Zp 3) (Zc 0)) Dw))) (λ_ _ _ _ _=>(Zc 0)))))
  (Zh (G1 2 (B0 6 FQ.nd rfl rfl (G7 2) (Zh (AZ (A6 (cNe hr) (Ia KO (CK hu (Zp 2) (Zc 6)) Dw) (Zn J5 hr (Zd (Zc 0) (Zd (Zc 6) Zm)))) (Zl (Zz Cm)) ZT)
  (Zl (AZ (A6 K7 (CK hu (Zp 2) (Zc 6)) Dw) (Zh (ZL 7 FQ.nd Dw)
  (Zh (AZ (HR (Qz (B1 (Zn SJ hr (Zd (CK hu (Zp 2) (Zc 6)) Zm))) (QB (j8 zP yI Zo (CK hu (Zp 2) (Zc 6)) (Cf T.n_len (BI (Z1 (Zp 0) Zo))))))) (Zl (ZL 7 FQ.nd (Zn FO hr (Zd (Zc 0) (Zd (Zc 6) (Zd (CK hu (Zp 2) (Zc 6)) Zm)))))) ZT)
  (Zh (AZ (A6 KO (Zc 7) Dw) (Zl (Zz Cm)) ZT)
  (Zl (Bw 4 FQ.nd (La (Zp 4) (A0 (Rk rfl rfl (N:="_law_seen" :: "_law_part" :: Kd) (Zw (sc:=Zf Kf) (XN:=Kd)) (ZK (Zn DP hr (Zd (Zc 0) (Zd (Zc 1) (Zd (Zc 7) Zm))))) (λ_ _ _ _ _=>Bx) (λ_ _ _ _ _=>(Zc 1)))))))))) ZT)))))
  (Zh (AZ (A6 (cNe hr) (B2 (ak T.n_sorted T.n_set rfl hr.units (Zp 4))) (B2 (Yz T.n_sorted rfl (Zp 2)))) (Zl (Zz Cm)) ZT)
  (Zh (B0 8 FQ.nd rfl rfl (EV T.n_range (Nh T.n_len (Zp 2))) (Zl (G1 2 (B0 6 FQ.nd rfl rfl (G7 2) (Zl (AZ (LC hr (Zc 6) (Zp 5)) (Zh (ZL 7 FQ.nd (Zn FO hr (Zd (Zc 0) (Zd (Zc 6) (Zd (CK hu (Zp 2) (Zc 6)) Zm)))))
  (Zl (AZ (Qy (A0 (Rk rfl rfl (N:="_law_seen" :: "_law_part" :: Kd) (Zw (sc:=Zf Kf) (XN:=Kd)) (ZK (Zn DP hr (Zd (Zc 0) (Zd (Zc 1) (Zd (Zc 7) Zm))))) (λ_ _ _ _ _=>(Cw (Qx hr (Zc 1) (Zp 7)))) (λ_ _ _ _ _=>(Zc 1))))) (Zl (IC 5 (Zc 6))) ZT))) ZT))))))
  (Zl (Zz (Ia (wH hr) (Cf T.n_len (Zp 5)) (Nh T.n_len (Zp 2))))))))))
abbrev IL:z9:=["_law_works_here","_law_looks_here","_law_crowd_here","_law_crowds","_law_found","_law_deed_here","_law_other","_law_some"]
theorem Oa:Zv IL ["_law_works_here","_law_looks_here","_law_crowd_here","_law_crowds","_law_found"] (Zf JQ):=tD
theorem ny(T:tu K mg)(FO:Callee P w K mg base k "_law_led" DS)(DP:Callee P w K mg base k "_law_split" ZU)(D:sP K mg "_law_step" JQ ["_law_works_here","_law_looks_here","_law_crowd_here","_law_crowds","_law_found"]):Callee P w K mg base (k+1) "_law_step" Hi :=
 D.ok Oa λ_ sN A outer s H E hr=>by
  exact(Zh (B0 5 Oa.nd rfl rfl (EV T.n_range (Cf T.n_len (BI (Z1 (Zp 0) Zo)))) (Zh (ZL 6 Oa.nd (Zn FO hr (Zd (Zc 0) (Zd (Zc 2) (Zd (Zc 5) Zm)))))
  (Zl (AZ (A6 K7 (Zc 6) Dw) (Zh (Sl 7 Oa.nd rfl rfl (N:="_law_seen" :: "_law_part" :: IL) (Zw (sc:=Zf JQ) (XN:=IL)) (ZK (Zn DP hr (Zd (Zc 0) (Zd (Zc 1) (Zd (Zc 6) Zm))))) (λ_ _ _ _ _=>Bx) (λ_ _ _ _ _=>(Zc 1)))
  (Zl (Du 7 (AZ (HR (Qz (A6 (wH hr) (B2 (ZX rfl rfl (N:="_law_part" :: IL) (Zw (sc:=Zf JQ) (XN:=IL)) (ZK (Zc 7)) (λ_ _ _ _ _=>(Cw (LC hr (Zc 0) (Zp 4)))) (λ_ _ _ _ _=>(Zc 0)))) (B2 (Dv Zm))) (QB (Qy (A0 (ZX rfl rfl (N:="_law_part" :: IL) (Zw (sc:=Zf JQ) (XN:=IL)) (ZK (Zc 7)) (λ_ _ _ _ _=>(Cw (Qx hr (Zc 0) (Zp 5)))) (λ_ _ _ _ _=>(Zc 0)))))))) (Zl (Zz Cm)) ZT)))) ZT))))
  (Zl (Zz Cm)))
abbrev YL:z9:=["_law_works_here","_law_looks_here","_law_crowds","_law_found","_law_grows","_law_crowd_here"]
theorem J4:Zv YL ["_law_works_here","_law_looks_here","_law_crowds"] (Zf Ov):=tD
theorem nv(T:tu K mg)(J5:Callee P w K mg base k "_law_there" FK)(Sq:Callee P w K mg base k "_law_step" Hi)(D:sP K mg "_law_good" Ov ["_law_works_here","_law_looks_here","_law_crowds"]):Callee P w K mg base (k+1) "_law_good" JS :=
 D.ok J4 λ_ sN A outer s H E hr=>by
  exact(Zh (LK 3 J4.nd rfl rfl (N:=["_law_crowd_here","_law_works_here","_law_looks_here","_law_crowds","_law_found","_law_grows"," "]) (Zw (sc:=Zf Ov) (XN:=YL)) (ZK (Zc 2)) (λ_ _ _ _ _=>(Cw (B1 (Zn J5 hr (Zd (Zc 1) (Zd (Zc 0) Zm)))))) (λ_ _ _ _ _=>(Zc 0)))
  (Zh (ZL 4 J4.nd Cm)
  (Zh (JI 100000 rfl (B1 (Zc 4)) (Zh (ZL 4 J4.nd Cm)
  (Zl (B0 5 J4.nd rfl rfl (ZK (Zc 2)) (Zl (AZ (fF 3 (HR (Qz (LC hr (Zc 5) (Zp 3)) (QB (B1 (Zn Sq hr (Zd (Zc 0) (Zd (Zc 1) (Zd (Zc 5) (Zd (Zc 2) (Zd (Zc 3) Zm))))))))))) (Zh (IC 3 (Zc 5))
  (Zl (ZL 4 J4.nd Cm))) ZT))))))
  (Zl (Du 3 (Zz (Zc 3)))))))
abbrev Ft:z9:=["_law_script","_law_works_here","_law_looks_here","_law_crowds","_law_less","_law_begin","_law_found","_law_table","_law_crowd_here","_law_deed_here"]
theorem FA:Zv Ft ["_law_script"] (Zf Ek):=tD
theorem g8(T:tu K mg)(SI:Callee P w K mg base k "_law_works" Gr)(SH:Callee P w K mg base k "_law_looks" L1)(RL:Callee P w K mg base k "_law_all" NS)(S6:Callee P w K mg base k "patient_table" (IS ap))(SS:Callee P w K mg base k "_law_is_table" Kg)(ES:Callee P w K mg base k "_law_cell" Eb)(So:Callee P w K mg base k "_law_good" JS)(DP:Callee P w K mg base k "_law_split" ZU)(Fn:vB K "law" "law" Ek f fd):CF P w K mg base uU (k+1) f fd ["_law_script"] (spD K 1 (HZ ap)) :=
 Wa Fn FA λsN A outer s H E hr=>by
  have hu:=Dr hr;exact(Zh (ZL 1 FA.nd (Zn SI hr (Zd (Zc 0) (Zd Zo Zm))))
  (Zh (ZL 2 FA.nd (Zn SH hr (Zd (Zc 1) (Zd (Zn ES hr (Zd (Zc 0) (Zd Zo Zm))) Zm))))
  (Zh (ZL 3 FA.nd (Zn RL hr (Zd (Zc 1) (Zd (Zc 2) Zm))))
  (Zh (JI 100000 rfl (B1 Cm) (Zh (Du 3 (ZL 4 FA.nd (Zn So hr (Zd (Zc 1) (Zd (Zc 2) (Zd (Zc 3) Zm))))))
  (Zh (AZ (A6 (wH hr) (Cf T.n_len (Zp 4)) (Cf T.n_len (Zp 3))) (Zl ki) ZT)
  (Zl (Du 3 (Bw 3 FA.nd (ZX rfl rfl (N:=["_law_crowd_here","_law_script","_law_works_here","_law_looks_here","_law_crowds","_law_less","_law_begin","_law_found","_law_table"," ","_law_deed_here"]) (Zw (sc:=Zf Ek) (XN:=Ft)) (ZK (Zc 3)) (λ_ _ _ _ _=>(Cw (Qx hr (Zc 0) (Zp 5)))) (λ_ _ _ _ _=>(Zc 0)))))))))
  (Zh (Sl 5 FA.nd rfl rfl (N:="_law_seen" :: "_law_part" :: Ft) (Zw (sc:=Zf Ek) (XN:=Ft)) (ZK (Zn DP hr (Zd (Zc 1) (Zd (Zc 2) (Zd (Z1 (Zp 1) Zo) Zm))))) (λ_ _ _ _ _=>Bx) (λ_ _ _ _ _=>(Zc 1)))
  (Zh (ZL 6 FA.nd (Zn S6 hr (Zd (Zc 1) (Zd (Zc 2) Zm))))
  (Zh (Du 5 (AZ (Qy (A0 (ZX rfl rfl (N:="_law_part" :: Ft) (Zw (sc:=Zf Ek) (XN:=Ft)) (ZK (Zc 5)) (λ_ _ _ _ _=>(Cw (LC hr (Zc 0) (Zp 4)))) (λ_ _ _ _ _=>(Zc 0))))) (Zl (Zz (Ia KO (Zc 6) Dw))) ZT))
  (Zh (AZ (HR (MX (EM (B1 (mQ T.n_isinstance T.n_list (Zc 6)))) (M5 (A6 (cNe hr) (B2 (ZX rfl rfl (N:="_law_row" :: Ft) (Zw (sc:=Zf Ek) (XN:=Ft)) (ZK (Zc 6)) (λ_ _ _ _ _=>Bx) (λ_ _ _ _ _=>(Z1 (Zp 0) Zo)))) (B2 (ak T.n_sorted T.n_set rfl hr.units (A0 (ZX rfl rfl (N:="_law_row" :: Ft) (Zw (sc:=Zf Ek) (XN:=Ft)) (ZK (Zc 6)) (λ_ _ _ _ _=>Bx) (λ_ _ _ _ _=>(Z1 (Zp 0) Zo)))))))))) (Zl (Zz Cm)) ZT)
  (Zh (Bw 7 FA.nd K2)
  (Zh (hJ 8 9 FA.nd rfl rfl (ZK (Zc 6)) (Zl (H8 hu 7 (Zc 8) (Zc 9))))
  (Zl (Du 5 (Zz (j9 SS hr (LD (Zc 1) (LD (Zc 2) (Xh (Zp 7) (LD (Zc 5) (Vf Zm)))))))))))))))))))
end
section
variable[FX]{P:Program}{w:World}{K:Af}{mg:z6}{base:Heap}{k:Nat}
def FvI(K:Af)(t:Nat)(cs:z5)(F:Hp)(a:Addr):Prop :=
 (t=3/\cs=[]/\Gy K BD "deeds_by_luck"=Z (Z (.ref a)))\/(t=1/\vo K F a (ML Z2) (Jt Z2) (Ei Z2) ["works","looks"] cs)\/(t=4/\vo K F a (ML ZM) (Jt ZM) (Ei ZM) ["reach","luck"] cs)
theorem UT:Ny (Ei Z2) "part" ["works","looks"]:=⟨rfl,rfl,rfl,by decide +kernel,rfl,by decide +kernel,by decide +kernel⟩
theorem Vp(T:tu K mg)(J6:Callee P w K mg base k "ways_with" EX)(qual:Str)(f:Addr)(cd:Value)(sJ:List (Str×Addr))(A:Around)(outer:List PySem.Env)(s:Shared)(H:Hp)(hr:AA k (A.deeper (Jg qual (Ei Z2) s.heap.objs.size f cd sJ))):XE (K5 P w K mg base ["part","works","looks"] qual (Ei Z2) f cd sJ A outer s H) (Jt Z2) (Zi EX (Zb (Za 1) (Zb (Za 2) (Zb (Za 0) Zj)))):=by
 have hu:=Dr hr;exact(Zn J6 hr (Zd (Zc 1) (Zd (Zc 2) (Zd (Zc 0) Zm))))
theorem cz:Ny (Ei ZM) "crowd" ["reach","luck"]:=⟨rfl,rfl,rfl,by decide +kernel,rfl,by decide +kernel,by decide +kernel⟩
theorem fZ(T:tu K mg)(OI:Callee P w K mg base k "patient_ways" (Hl ap0))(qual:Str)(f:Addr)(cd:Value)(sJ:List (Str×Addr))(A:Around)(outer:List PySem.Env)(s:Shared)(H:Hp)(hr:AA k (A.deeper (Jg qual (Ei ZM) s.heap.objs.size f cd sJ))):XE (K5 P w K mg base ["crowd","reach","luck"] qual (Ei ZM) f cd sJ A outer s H) (Jt ZM) (Zi (Hl ap0) (Zb (Za 1) (Zb (Za 2) (Zb (Za 0) Zj)))):=by
 have hu:=Dr hr;exact(Zn OI hr (Zd (Zc 1) (Zd (Zc 2) (Zd (Zc 0) Zm))))
theorem c9(T:tu K mg)(V:∀t cs F a,FX.fv t cs F a->FvI K t cs F a)(Fn0:vB K "deeds_by_luck" "deeds_by_luck" J9 f0 fd0)(yy:mg "deeds_by_luck"=Z (.ref f0))(yd:∀a,Gy K BD "deeds_by_luck"=Z (Z (.ref a))->mg "deeds_by_luck"=Z (.ref a))(J8:Callee P w K mg base (k+1) "deeds_by_luck" EW)(Lf_ways_with:Callee P w K mg base k "ways_with" EX):EK P w K mg base (k+1) ap0:=by
 constructor
 .intro t cs F a h A outer s H e0 sub
  rcases V t cs F a h with⟨rfl,rfl,hn⟩|⟨rfl,hC⟩|⟨rfl,hC⟩
  .exact V0 Fn0 yy (yd a hn) e0
  .exact M7 hC e0 sub
  .exact M7 hC e0 sub
 .intro t cs F a h A outer s H e0 sub us vs ds d Q hr tb nt rv rs wC kk
  rcases V t cs F a h with⟨rfl,rfl,hn⟩|⟨rfl,hC⟩|⟨rfl,hC⟩
  .exact WQ J8 (yd a hn) e0 sub hr tb nt rv rs wC kk
  .exact QP UT (λ_ _ _ _ _ _=>rfl) (Vp T Lf_ways_with) hC e0 sub hr tb nt rv rs wC kk
  .exact absurd (show(Z_:Option PyData)=Z d from wC) (by simp)
theorem cn(T:tu K mg)(V:∀t cs F a,FX.fv t cs F a->FvI K t cs F a)(Fn0:vB K "deeds_by_luck" "deeds_by_luck" J9 f0 fd0)(yy:mg "deeds_by_luck"=Z (.ref f0))(yd:∀a,Gy K BD "deeds_by_luck"=Z (Z (.ref a))->mg "deeds_by_luck"=Z (.ref a))(J8:Callee P w K mg base (k+1) "deeds_by_luck" EW)(Lf_ways_with:Callee P w K mg base k "ways_with" EX)(Lf_patient_ways:Callee P w K mg base k "patient_ways" (Hl ap0)):EK P w K mg base (k+1) ap:=by
 constructor
 .intro t cs F a h A outer s H e0 sub
  rcases V t cs F a h with⟨rfl,rfl,hn⟩|⟨rfl,hC⟩|⟨rfl,hC⟩
  .exact V0 Fn0 yy (yd a hn) e0
  .exact M7 hC e0 sub
  .exact M7 hC e0 sub
 .intro t cs F a h A outer s H e0 sub us vs ds d Q hr tb nt rv rs wC kk
  rcases V t cs F a h with⟨rfl,rfl,hn⟩|⟨rfl,hC⟩|⟨rfl,hC⟩
  .exact WQ J8 (yd a hn) e0 sub hr tb nt rv rs wC kk
  .exact QP UT (λ_ _ _ _ _ _=>rfl) (Vp T Lf_ways_with) hC e0 sub hr tb nt rv rs wC kk
  .exact QP cz (λ_ _ _ _ _ _=>rfl) (fZ T Lf_patient_ways) hC e0 sub hr tb nt rv rs wC kk
def zl:List (Addr×Str):=[(221,"coming_from.<locals>.<lambda>"),(259,"patient_table.<locals>.<lambda>")]
@[reducible] def zO(K:Af):FX where
 tl:=zl
 fv:=FvI K
 sw:=λhF uk h=>by
  rcases h with h|h|h
  .exact AB (h)
  .exact Ap (AB (⟨h.1,h.2.sw hF uk⟩))
  .exact Ap (Ap ((⟨h.1,h.2.sw hF uk⟩)))
 drop:=λh=>by
  rcases h with h|h|h
  .exact AB (h)
  .exact Ap (AB (⟨h.1,h.2.drop⟩))
  .exact Ap (Ap ((⟨h.1,h.2.drop⟩)))
 mono:=λh s=>by
  rcases h with h|h|h
  .exact AB (h)
  .exact Ap (AB (⟨h.1,h.2.mono s⟩))
  .exact Ap (Ap ((⟨h.1,h.2.mono s⟩)))
theorem qy{kV:Value}(X:K.In h)(G:h.Ns BD mg)(a:Gy K BD x=Z (Z (.ref f)))(l:K.lookup f=Z ⟨oc,od,.func (DT x x (El st) (B4 st) (Zf st) .none kV ub pm an sN ct),vh⟩)(c:Hv K sN x=Aa)(kp:E6 K (.ref f)=Aa)(b:∀(kV ub pm:Value) (an:Option Addr) (sN ct:Value) (us:z8),BC us=ps.length->bindArgs (DT x x (El st) (B4 st) (Zf st) .none kV ub pm an sN ct) ⟨us,[]⟩=pure (ps.zip us)):sP K mg x st ps :=
 ⟨f,_,Qo l c kp,Mq X G a,(Qo l c kp).binds b⟩
structure P4(K:Af)(mg:z6)(x:Str)(st:Stmt)(ps:z9)(c T:Addr):Prop where
 ex:∃f fd,KQ K x x st f fd c/\mg x=Z (.ref f)/\Binds K fd ps []/\FT K c T=Aa
theorem qx{T:Addr}{kV:Value}(X:K.In h)(G:h.Ns BD mg)(a:Gy K BD x=Z (Z (.ref f)))(l:K.lookup f=Z ⟨oc,od,.func (DT x x (El st) (B4 st) (Zf st) .none kV ub pm an sN ct),vh⟩)(cc:Hv K sN x=Aa)(kp:E6 K (.ref f)=Aa)(b:∀(kV ub pm:Value) (an:Option Addr) (sN ct:Value) (us:z8),BC us=ps.length->bindArgs (DT x x (El st) (B4 st) (Zf st) .none kV ub pm an sN ct) ⟨us,[]⟩=pure (ps.zip us))(e:sN=.ref c)(hc:FT K c T=Aa):P4 K mg x st ps c T:=by
 subst e;exact⟨f,_,eR l cc kp,Mq X G a,.all (b kV ub pm an _ ct),hc⟩
def NsV(K:Af)(mg:z6)(x:Str):Prop:=(∀a,Gy K BD x=Z (Z (.ref a))->mg x=Z (.ref a))/\∃f,Gy K BD x=Z (Z (.ref f))
theorem pY(X:K.In h)(G:h.Ns BD mg)(a:Gy K BD x=Z (Z (.ref f))):NsV K mg x:=⟨λ_ e=>Mq X G e,f,a⟩
end
structure Ds(K:Af)(mg:z6):Prop where
 qX:sP K mg "_law_cell" Sd ["_law_script","_law_k"]
 qK:sP K mg "_law_mix" RT ["_law_cell_here","_law_prime","_law_many"]
 rJ:sP K mg "_law_crowd" Of ["_law_cell_here","_law_many","_law_least"]
 qU:sP K mg "_law_deed" Sb ["_law_cell_here","_law_many"]
 qS:sP K mg "_law_walk" Sa ["_law_cell_here","_law_many"]
 rH:sP K mg "_law_works" Oe ["_law_script","_law_at"]
 rG:sP K mg "_law_looks" Od ["_law_works_here","_law_cell_here"]
 rF:sP K mg "_law_split" LZ ["_law_works_here","_law_looks_here","_law_crowd_here"]
 qJ:sP K mg "_law_led" RS ["_law_works_here","_law_crowd_here","_law_deed_here"]
 qI:sP K mg "_law_all" JK ["_law_works_here","_law_looks_here"]
 rE:sP K mg "is_number" SE ["thing","least","most"]
 rD:sP K mg "is_rising" SD ["thing","many"]
 rh:sP K mg "is_crowd" Sh ["thing","many"]
 qB:sP K mg "is_row" Rv ["thing","least","most"]
 qG:sP K mg "is_deed" NR ["thing","many"]
 rC:sP K mg "are_deeds" Oi ["thing","many"]
 qF:sP K mg "is_look" NQ ["thing","many"]
 rB:sP K mg "are_looks" Oh ["thing","many"]
 rA:sP K mg "are_works" SR ["thing"]
 qE:sP K mg "checked" RU ["works"]
 rg:sP K mg "looks_of" Sf ["works"]
 rR:sP K mg "checked_looks" Ta ["works","looks"]
 rX:sP K mg "crowds_in" JZ ["rows"]
 rY:sP K mg "deeds_by_luck" J9 ["way","luck"]
 qD:sP K mg "seen_in" N9 ["works","looks","state"]
 qA:sP K mg "parted" NB ["works","looks","crowd"]
 rf:sP K mg "deeds_of" Sg ["works"]
 rN:sP K mg "can_be_done" OB ["works","crowd","deed"]
 rL:sP K mg "deeds_with" OF ["works","crowd"]
 qz:sP K mg "led_to" Ru ["works","crowd","deed"]
 rn:sP K mg "ways_with" Og ["works","looks","crowd"]
 rW:sP K mg "least_cost" LV ["ways","costs","cost_by"]
 rK:sP K mg "next_costs" Sz ["reach","costs","cost_by"]
 qC:sP K mg "goal_of" RV ["works"]
 rb:sP K mg "is_there" Ox ["works","crowd"]
 ra:sP K mg "costs_of" JR ["works","reach","cost_by"]
 rM:sP K mg "ways_within" OA ["reach","crowds"]
 rQ:sP K mg "patient_reach" S9 ["works","coming"]
 q9:sP K mg "begin_of" Se ["works"]
 rV:sP K mg "parts_of_begin" S5 ["works","looks"]
 rT:sP K mg "reached_from" SW ["crowds","ways_for"]
 rO:P4 K mg "coming_from" Z2 ["works","looks","crowd"] 225 221
 rU:sP K mg "best_way" Ow ["ways","costs","cost_by"]
 rZ:sP K mg "patient_ways" SV ["reach","luck","crowd"]
 rP:P4 K mg "patient_table" ZM ["works","looks"] 261 259
 rm:sP K mg "_law_there" Oc ["_law_works_here","_law_crowd_here"]
 rj:sP K mg "_law_whole" SQ ["_law_found"]
 rS:sP K mg "_law_is_table" Kf ["_law_works_here","_law_looks_here","_law_table","_law_begin"]
 qZ:sP K mg "_law_step" JQ ["_law_works_here","_law_looks_here","_law_crowd_here","_law_crowds","_law_found"]
 qY:sP K mg "_law_good" Ov ["_law_works_here","_law_looks_here","_law_crowds"]
 Nf_deeds_by_luck:NsV K mg "deeds_by_luck"
section
variable[FX]{P:Program}{w:World}{K:Af}{mg:z6}{base:Heap}{k:Nat}
theorem qv(T:tu K mg)(hV:∀t cs F a,FX.fv t cs F a↔FvI K t cs F a)(zd:FX.tl=zl)(Dd:Ds K mg)(bm:BMod base mg){f:Addr}{fd:FuncData}(Fn:vB K "law" "law" Ek f fd):CF P w K mg base uU 15 f fd ["_law_script"] (spD K 1 (HZ ap)):=by
 have Vff_deeds_by_luck:zU mg "deeds_by_luck" 3:=by obtain⟨h1,g,h2⟩:=Dd.Nf_deeds_by_luck;exact⟨g,h1 g h2,λF=>(hV _ _ _ _).mpr (AB (⟨rfl,rfl,h2⟩))⟩
 have ES:Callee P w K mg base 1 _ _:=nq T Dd.qX;have ZP:Callee P w K mg base 1 _ _:=mM T Dd.qK;have Ob:Callee P w K mg base 2 _ _:=n8 T (sV ZP) Dd.rJ;have R9:Callee P w K mg base 2 _ _:=nk T (sV ZP) Dd.qU;have Sv:Callee P w K mg base 2 _ _:=nj T (sV ZP) Dd.qS;have SI:Callee P w K mg base 3 _ _:=n6 T (sV ES) (sV Ob) (sV ZP) (sV R9) (sV Sv) Dd.rH;have SH:Callee P w K mg base 2 _ _:=n4 T (sV ZP) Dd.rG;have DP:Callee P w K mg base 1 _ _:=n0 T Dd.rF;have FO:Callee P w K mg base 1 _ _:=mL T Dd.qJ;have RL:Callee P w K mg base 2 _ _:=mK T (sV DP) (sV FO) Dd.qI;have Gq:Callee P w K mg base 1 _ _:=nY T Dd.rE;have Ep:Callee P w K mg base 2 _ _:=nX T (sV Gq) Dd.rD;have Su:Callee P w K mg base 3 _ _:=ng T (sV Ep) Dd.rh;have Dx:Callee P w K mg base 1 _ _:=lj T Dd.qB;have RR:Callee P w K mg base 3 _ _:=mI T (sV Dx) (sV Ep) Dd.qG;have SO:Callee P w K mg base 4 _ _:=nV T (sV Dx) (sV RR) Dd.rC;have RQ:Callee P w K mg base 2 _ _:=mG T (sV Dx) (sV Gq) Dd.qF;have SN:Callee P w K mg base 3 _ _:=nT T (sV Dx) (sV RQ) Dd.rB;have SM:Callee P w K mg base 5 _ _:=nS T (sV Su) (sV Ep) (sV Dx) (sV Gq) (sV SO) (sV SN) Dd.rA;have RM:Callee P w K mg base 6 _ _:=mE T (sV SM) Dd.qE;have JP:Callee P w K mg base 1 _ _:=nG T Dd.rg;have S8:Callee P w K mg base 3 _ _:=pe T (sV Ep) (sV JP) Dd.rR;have DO:Callee P w K mg base 1 _ _:=nR T Dd.rX;have SK:G4 P w K mg base 1 "crowds_in" ZB:=by obtain⟨f,fd,F,m,b⟩:=Dd.rX.ex;exact oz T  F m b
 have J8:Callee P w K mg base 2 _ _:=oZ T (sV DO) Dd.rY;have RO:Callee P w K mg base 2 _ _:=mC T (sV JP) Dd.qD;have Gp:Callee P w K mg base 3 _ _:=lh T (sV RO) Dd.qA;have Gw:Callee P w K mg base 1 _ _:=nE T Dd.rf;have S2:Callee P w K mg base 2 _ _:=oT T (sV Gw) Dd.rN;have Sx:Callee P w K mg base 3 _ _:=ou T (sV S2) (sV Gw) Dd.rL;have Rt:Callee P w K mg base 2 _ _:=lg T (sV Gw) Dd.qz;have J6:Callee P w K mg base 4 _ _:=nO T (sV Gp) (sV Sx) (sV Rt) Dd.rn;obtain⟨f0,fd0,F0,m0,b0⟩:=Dd.rY.ex;have CV0:EK P w K mg base 5 ap0:=c9 (k:=4) T (λt cs F a h=>(hV t cs F a).mp h) F0 m0 Dd.Nf_deeds_by_luck.1 (sV J8) (sV J6);have C0f_least_cost:Callee P w K mg base 6 _ _:=aI T (CV0.mono (by decide)) Dd.rW;have C0f_best_way:Callee P w K mg base 7 _ _:=ay T (sV C0f_least_cost) (CV0.mono (by decide)) Dd.rU;have C0f_patient_ways:Callee P w K mg base 8 _ _:=aR T (sV C0f_best_way) Vff_deeds_by_luck Dd.rZ;have CV:EK P w K mg base 9 ap:=cn (k:=8) T (λt cs F a h=>(hV t cs F a).mp h) F0 m0 Dd.Nf_deeds_by_luck.1 (sV J8) (sV J6) (sV C0f_patient_ways);have JV:Callee P w K mg base 10 _ _:=aI T (CV.mono (by decide)) Dd.rW;have Gf_next_costs:G3 P w K mg base 11 "next_costs" (Hn ap):=by obtain⟨f,fd,F,m,b⟩:=Dd.rK.ex;exact oB T (sV JV) F m b
 have RN:Callee P w K mg base 1 _ _:=mz T Dd.qC;have Ss:Callee P w K mg base 2 _ _:=nC T (sV RN) Dd.rb;have IM:Callee P w K mg base 12 _ _:=nB T (sV Ss) (Gf_next_costs.mono (by decide)) Dd.ra;have S1:Callee P w K mg base 2 _ _:=oR T (sV DO) Dd.rM;have S7:Callee P w K mg base 13 _ _:=oY T (sV IM) (sV S1) Vff_deeds_by_luck Dd.rQ;have JO:Callee P w K mg base 1 _ _:=nz T Dd.q9;have S4:Callee P w K mg base 4 _ _:=pj T (sV DO) (sV Gp) (sV JO) Dd.rV;have Ke:Callee P w K mg base 10 _ _:=ph T (sV DO) (SK.mono (by decide)) (CV.mono (by decide)) Dd.rT;have S0:Callee P w K mg base 11 "coming_from" (JX ap):=by obtain⟨f,fd,F,m,b,hc⟩:=Dd.rO.ex;exact oP T (sV Ke) (sV DO) (sV Gp) (sV J6) hc (by rw[zd];decide) (by rw[zd];intro q h;simpa [zl]using h) bm (λF p cs h=>(hV _ _ _ _).mpr (Ap (AB (⟨rfl,h⟩)))) F m b
 have Sr:Callee P w K mg base 11 _ _:=ay T (sV JV) (CV.mono (by decide)) Dd.rU;have OI:Callee P w K mg base 12 _ _:=aR T (sV Sr) Vff_deeds_by_luck Dd.rZ;have S6:Callee P w K mg base 14 "patient_table" (IS ap):=by obtain⟨f,fd,F,m,b,hc⟩:=Dd.rP.ex;exact oX T (sV RM) (sV S8) (sV S7) (sV S4) (sV IM) (sV Ke) (sV S0) (sV JO) (sV OI) Vff_deeds_by_luck hc (by rw[zd];decide) (by rw[zd];intro q h;simpa [zl]using h) bm (λF p cs h=>(hV _ _ _ _).mpr (Ap (Ap ((⟨rfl,h⟩))))) F m b
 have J5:Callee P w K mg base 1 _ _:=nM T Dd.rm;have SJ:Callee P w K mg base 1 _ _:=nK T Dd.rj;have SS:Callee P w K mg base 2 _ _:=oN T (sV J5) (sV SJ) (sV FO) (sV DP) Dd.rS;have Sq:Callee P w K mg base 2 _ _:=ny T (sV FO) (sV DP) Dd.qZ;have So:Callee P w K mg base 3 _ _:=nv T (sV J5) (sV Sq) Dd.qY;exact g8 (k:=14) T (sV SI) (sV SH) (sV RL) (sV S6) (sV SS) (sV ES) (sV So) (sV DP) Fn
end
theorem all_mk{l:TV}{w:World}{K:Af}{mg:z6}{fa f4:Addr}{od4 an4:Option Addr}{sl4:Array (Option Value)}{oc4 kV4 dc4 pm4 cd4 ct4:Value}(X:K.In h)(G:h.Ns BD mg)(hfa:mg "law"=Z (.ref fa))(T:tu K mg)(Dd:Ds K mg)(a4:Gy K BD "law"=Z (Z (.ref f4)))(l4:K.lookup f4=Z ⟨oc4,od4,.func (DT "law" "law" (El Ek) (B4 Ek) (Zf Ek) .none kV4 dc4 pm4 an4 cd4 ct4),sl4⟩)(c4:Hv K cd4 "law"=Aa)(k4:E6 K (.ref f4)=Aa):∃fd:FuncData,(∀(s:Shared) (v:Value),BindsTo s fd ⟨[v],[]⟩ [("_law_script",v)])/\∀base:Heap,K.In base->base.Ns BD mg->BMod base mg->CF l.prog w K mg base uU 15 fa fd ["_law_script"] (@spD (zO K) K 1 (HZ ap)):=by
 have e:=hfa.symm.trans (Mq X G a4);cases e;have fx0:FX:=uC;exact⟨_,λs v=>.of_eq rfl,λbase _ _ bm=>@qv (zO K) _ _ _ _ _ T (λ_ _ _ _=>Iff.rfl) rfl Dd bm _ _ (Qo (st:=Ek) l4 c4 k4)⟩
theorem walk{l:TV}{q:Program}{vb:z9}{XP:z6->Heap->Prop}{YP:World->Heap->Prop}{d:DefRec}{K:Params->Af}(hn:l.most=Z 63)(zI:d.params.defaults=[])(Ys:∀ns:zZ,BC ns<=63->(HZ ap) [.list (HM.uQ ns)]=Z (.bool Aa))(hY:∀(w:World) (h:Heap),YP w h->(K w.params).In h)(hYT:∀(w:World) (h:Heap),YP w h->∀q∈([(225,221),(261,259)]:List (Addr×Addr)),h.get? q.2=Z (Kw #[]))(hT:∀(w:World),∀q∈([(225,221),(261,259)]:List (Addr×Addr)),FT (K w.params) q.1 q.2=Aa/\(K w.params).lookup q.2=Z_)
  (F:∀(w:World) (mg:z6) (fa:Addr) (h:Heap),(K w.params).In h->h.Ns BD mg->mg d.name=Z (.ref fa) ->
   ∃fd:FuncData,(∀(s:Shared) (u:Value),BindsTo s fd ⟨[u],[]⟩ [("_law_script",u)])/\∀base:Heap,(K w.params).In base->base.Ns BD mg->BMod base mg->CF l.prog w (K w.params) mg base uU 15 fa fd ["_law_script"] (@spD (zO (K w.params)) (K w.params) 1 (HZ ap))):
  PySem.W.WalkO q vb XP YP l.row.toRowW d [] (λf vs=>PySem.call f vs) :=
 iS (n:=63) (k:=15) (x:="_law_script") (sp:=λw=>@spD (zO (K w.params)) (K w.params) 1 (HZ ap)) (tabs:=[(225,221),(261,259)]) hn (by decide) zI ⟨rfl,by decide,by decide⟩ hY hYT hT F λw H a ns hl hO hS=>@qu (zO (K w.params)) _ _ _ _ _ _ hO (λT q h=>by
  have:∀p∈zl,p.1∈([(225,221),(261,259)]:List (Addr×Addr)).map (·.2):=by decide
  exact this _ h) hS (Ys ns hl)
section
variable{P:Program}{w:World}{K:Af}{mg:z6}{base:Heap}{k:Nat}
abbrev se{K:Af}(_:K.In h)(mg:z6):Prop:=Ds K mg
abbrev qj{K:Af}(_:K.In h)(mg:z6):Prop:=tu K mg
theorem int_mk{mg:z6}{n:Str}{v:Value}{k:Int}(h:mg n=Z v)(e:∃t,v=.int k t):∃t,mg n=Z (.int k t):=by obtain⟨t,rfl⟩:=e;exact⟨t,h⟩
end
end HT
namespace PySem.W.Fast
theorem tw6721793882478155058:1=1:=rfl
theorem tw6869721123633671057:1=1:=rfl
theorem tw13021761224059959803:1=1:=rfl
theorem tw11260067008197929425:1=1:=rfl
theorem tw12580691347824773649:1=1:=rfl
theorem tw14902829460948911713:1=1:=rfl
theorem tw14739985433851324611:1=1:=rfl
theorem tw12727996246603371026:1=1:=rfl
theorem tw13824631552667391555:1=1:=rfl
theorem tw1126346384563106252:1=1:=rfl
theorem tw4683845728603517293:1=1:=rfl
theorem tw9644166078253317692:1=1:=rfl
theorem tw16967391815415932838:1=1:=rfl
theorem tw10294237458240993454:1=1:=rfl
theorem tw2990999404404212049:1=1:=rfl
theorem tw982686695816023229:1=1:=rfl
theorem tw14591607168346712327:1=1:=rfl
theorem tw13990510313208364448:1=1:=rfl
theorem tw13816600850752739278:1=1:=rfl
theorem tw7333647456822953809:1=1:=rfl
theorem tw13263194157376992032:1=1:=rfl
theorem tw1897049496062379206:1=1:=rfl
theorem tw5213398963796583747:1=1:=rfl
theorem tw8385283648429550109:1=1:=rfl
theorem tw16995183071000701938:1=1:=rfl
theorem tw18329973263535384025:1=1:=rfl
theorem tw12280837597453040674:1=1:=rfl
theorem tw17223119181720365169:1=1:=rfl
theorem tw18159745498883368466:1=1:=rfl
theorem tw10321370915179003732:True:=⟨⟩
theorem tw11149594102910491865:True:=⟨⟩
theorem tw11363094935594188358:True:=⟨⟩
theorem tw11747055683947073653:True:=⟨⟩
theorem tw12760998124496043339:True:=⟨⟩
theorem tw12907129699498607143:True:=⟨⟩
theorem tw13129116441455759166:True:=⟨⟩
theorem tw1431048700296281834:True:=⟨⟩
theorem tw14790526872180045429:True:=⟨⟩
theorem tw15267829697209185938:True:=⟨⟩
theorem tw15269772431184046939:True:=⟨⟩
theorem tw16032057187171863226:True:=⟨⟩
theorem tw17423942497972026086:True:=⟨⟩
theorem tw17850201954855714979:True:=⟨⟩
theorem tw3543906483654555667:True:=⟨⟩
theorem tw3672118461888553996:True:=⟨⟩
theorem tw4256083494214547188:True:=⟨⟩
theorem tw4452103273138002681:True:=⟨⟩
theorem tw4815747076905919601:True:=⟨⟩
theorem tw5187718003539228656:True:=⟨⟩
theorem tw5582936125363246763:True:=⟨⟩
theorem tw5584544354018549136:True:=⟨⟩
theorem tw6107378213117273598:True:=⟨⟩
theorem tw6355524643074921386:True:=⟨⟩
theorem tw6995204122111019825:True:=⟨⟩
theorem tw716420632374429058:True:=⟨⟩
theorem tw7248145136180694124:True:=⟨⟩
theorem tw7478979068878223454:True:=⟨⟩
theorem tw7513710073014312656:True:=⟨⟩
theorem tw7563640979828084187:True:=⟨⟩
theorem tw8571370388469206744:True:=⟨⟩
theorem tw9769598698419749232:True:=⟨⟩
end PySem.W.Fast
open PySem PySem.W PyProof.Rows
set_option maxRecDepth 100000 in
set_option maxHeartbeats 0 in
theorem PySem.Challenge.cw_halfseen_k19_patience_holds : PySem.Challenge.rw_halfseen_k19_patience.Holds := by
 w_on;o_law;k_head;(case hw=>w_witness2)
 k_fill
 refine HT.walk (l:=PySem.Challenge.rw_halfseen_k19_patience) rfl rfl HG19.Ys (λw h Y=>PySem.W.km_in_of Y) (λw h Y q hq=>PySem.W.km_tabs_of Y _ (by clear Y;revert q;decide)) ?Tab ?F
 case Tab =>
  intro w q hq;rcases As.mp hq with e|hq
  .cases e
   exact⟨by kernel_rfl,by kernel_rfl⟩
  cases Ax.mp hq;exact⟨by kernel_rfl,by kernel_rfl⟩
 case F =>
  intro w mg fa h KX G zC;have fx0:HP.FX:=HP.uC;have T:HT.qj KX mg:=by
   refine⟨?_,?_,?_,?_,?_,?_,?_,?_,?_,?_,?_,?_,?_,?_,?_,?_⟩
   all_goals first
    |(refine PySem.W.mg_none_of KX G ?z;(case z=>k_is))
    |(refine' HT.int_mk (Mq KX G ?z) ?e;(case z=>k_is);(case e=>exact⟨_,rfl⟩))
  have Dd:HT.se KX mg:=by
   refine⟨?_,?_,?_,?_,?_,?_,?_,?_,?_,?_,?_,?_,?_,?_,?_,?_,?_,?_,?_,?_,?_,?_,?_,?_,?_,?_,?_,?_,?_,?_,?_,?_,?_,?_,?_,?_,?_,?_,?_,?_,?_,?_,?_,?_,?_,?_,?_,?_,?_,?_,?_⟩
   all_goals first
    |(refine' HT.qy KX G ?a ?l ?c ?k ?b;(case a=>k_is);(case l=>k_is);(case c=>k_is);(case k=>k_is);(case b=>first|exact λ_ _ _ _ _ _ us hl=>(match us,hl with|[_],_=>rfl)|exact λ_ _ _ _ _ _ us hl=>(match us,hl with|[_,_],_=>rfl)|exact λ_ _ _ _ _ _ us hl=>(match us,hl with|[_,_,_],_=>rfl)|exact λ_ _ _ _ _ _ us hl=>(match us,hl with|[_,_,_,_],_=>rfl)|exact λ_ _ _ _ _ _ us hl=>(match us,hl with|[_,_,_,_,_],_=>rfl)))
    |(refine' HT.qx KX G ?a ?l ?c ?k ?b ?e ?h;(case a=>k_is);(case l=>k_is);(case c=>k_is);(case k=>k_is);(case h=>kernel_rfl);(case e=>exact rfl);(case b=>first|exact λ_ _ _ _ _ _ us hl=>(match us,hl with|[_],_=>rfl)|exact λ_ _ _ _ _ _ us hl=>(match us,hl with|[_,_],_=>rfl)|exact λ_ _ _ _ _ _ us hl=>(match us,hl with|[_,_,_],_=>rfl)|exact λ_ _ _ _ _ _ us hl=>(match us,hl with|[_,_,_,_],_=>rfl)|exact λ_ _ _ _ _ _ us hl=>(match us,hl with|[_,_,_,_,_],_=>rfl)))
    |(refine' HT.pY KX G ?z;(case z=>k_is))
  refine' HT.all_mk KX G zC T Dd ?a4 ?l4 ?c4 ?k4
  (case a4=>k_is);(case l4=>k_is);(case c4=>k_is);(case k4=>k_is)