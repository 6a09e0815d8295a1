import PyProof.Rows.All
import Wide.All
import OpenK.AllK
import PySem.Challenge.RW_halfseen_k32_refusals_stand_apart
set_option Elab.async false
set_option linter.all false
set_option maxRecDepth 100000
set_option bootstrap.genMatcherCode false
set_option compiler.extract_closed false
noncomputable abbrev mB:=List Int
noncomputable abbrev mC:=List (List Int)
noncomputable abbrev mD:=PySem.Value->PySem.Shared->Prop
noncomputable abbrev mE:=List PySem.PyData
noncomputable abbrev mF:=PySem.Str->Option PySem.Value
noncomputable abbrev mG:=List (PySem.Addr×PySem.Obj)
noncomputable abbrev mH:=List PySem.Value
noncomputable abbrev mI:=List PySem.Str
open Option renaming some->Z,none->U
open Bool renaming true->Y,false->Ab
open PySem renaming wpAny_bind->Ac,starEach->Ae,wpAny_pure->Ag,mainGlobals->Ar,wpAny_mono->Ax,bootBuiltins->A4,wpAny_newObj_type->CU,sysModules->Bn,swapsWith->Bj,wpAny_Call_Name_kw->Du,wpAny_call_entry->CY,wpAny_loadPart_at->Dt,compareOp->Bp,wpAny_field->BQ,attributeBase->Ck,lookup_relabel_local->EH,wpAny_holding->CL,wpAny_typeNameOfWhole_keyiter->Hn,wpAny_seqItems->Dj,wpAny_passesOwn->DW,behindInMarks->Di,wpAny_truthy_bool->EG,sizeLine_eq->CQ,excClassObj->CO,wpAny_typeNameOf_keyiter->Hu,mem_of_lookup->FZ,codeAny_builtin->EL,wpAny_setField_rec->FW,foldedSetIterable->FV,codeAny_mono->DY,codeAny_call_builtin->Ho,tupleKind_room_in1->G4,wpAny_dictEntries->G1,keywordEach->EB,strLen_append->Fy,tupleKind->DU,plainObj_wpAny_Assign_Attribute->Mo,wpAny_execs_nil->Hg,letOwnedTupleGo->Hf,wpAny_ite_split->Hd,wpAny_setField->G8,firstArgMember->G7,wpAny_standAt->Hm,wpAny_attempt->Hl,plainId_quiet->Hk,wpAny_pyIter_list->IX,builtinsNs->Fu,assignEach->Ft,wpAny_call->Fq,wpAny_rule->Fp,wpAny_execs_cons->IU,binaryOp->EA,backToKw->Ez,wpAny_isInstance->IS,checkBuiltinCall->IQ,wpAny_specialOf->Jf,wpAny_dictEpoch->Jc,subscripted->GO,Within->Jj
open PySem.W renaming Frag->Ad,findIn->AL,nsIn->AN,mg_of->Bb,fnOf->BE,keepIn->B3,emptyDict->CV,hideAll_get->D9,instObj->Dm,codeIn->D3,kitOne->D0,specialIn->FR,readsIn->F6,findCls->F5,exmOne->FA,hasDictIn->G2,plainGet->GX,codeHdIn->GU,hideAll->Hh,tabObj->G6,of_hideAll->Jt,isNs_of_in->Js,excIn->Hj,mroIn->Hi,methodObj->I0,plainOver->IZ,handedIn->IT,isFn->GN,takerIn->Ji,makesIn->Jh,OpenLaw->Jb,cellsFrom_some->L7,funFrames_hide->L5,lookIn->Ja,hideAll_none->Mi,clsIn->Jk,callWith_K->LQ,tail_of_in->LP
open PySem.Heap renaming get?_push_of_some->Aj,lt_size->Ai,get?_push_size->Az,SameBut->Bo,get?_update_self->EJ,size_push->Dl,get?_push_ne->FT,get?_update_other->Jo,size_update->GV,get?_none_of_le->Jx,FlyingW->FD,get?_update_ne->Ju,MadeExcOf->G5
open Option renaming map_eq_some_iff->Ao,isSome_iff_exists->Jr
open List renaming mem_cons->Ak,getElem?_eq_some_iff->AE,length_map->Ap,map_cons->An,size_toArray->Ay,mem_cons_of_mem->AQ,getElem?_set_ne->Ba,length_append->A3,mem_cons_self->A9,getElem?_eq_getElem->BS,length_cons->A8,getElem?_map->Bh,getElem?_cons_succ->B2,length_replicate->BR,getElem?_append_right->CT,getElem?_append_left->CS,getElem?_set_self->Cr,mem_singleton->BW,mem_append_right->Cq,mem_of_getElem?->Cp,length_reverse->Cn,find?_cons->BV,map_append->BU,nodup_cons->Cm,length_set->CW,length->BX,lookup_cons->Dq,all_eq_true->Dp,replicate->CM,getElem?_reverse->EI,getElem?_replicate->FO,mem_map->CK,getElem?_eq_none->FN,range->Cg,map_map->Dr,mem_append->EN,nodup_nil->EK,length_take->FP,any_cons->ES,lookup->D4,append_nil->F8,mem_filterMap->Hv,getElem?_cons_zero->Jp,set_getElem_self->Jm,getD->DV,mem_append_left->Jw,map_nil->FF,set_set->FE,filterMap_cons->Jv,mem_range->G9,length_range->IW,drop_eq_getElem_cons->LX,getElem?_take_of_lt->LV,set_eq_of_length_le->LU,pairwise_mergeSort->L8,of_mem_zip->Jg,forIn_cons->Je,dropLast_eq_take->LY,map->Fx,all_cons->Jl
open Bool renaming and_eq_true->Av,false_ne_true->Bw,false_eq_true->FY,not_eq_true'->IV,or_eq_true->Jd
open Or renaming inr->Af,inl->Ah
open Nat renaming ne_of_lt->Am,le_refl->Al,lt_of_lt_of_le->AW,le_trans->Bi,ne_of_gt->Cj,zero_le->CP,lt_irrefl->DZ,lt_succ_self->FQ,le_of_lt->EO,le_of_eq->EC,lt_succ_of_lt->GZ,le_add_right->GS,le_succ->GP
open PySem.Value renaming ref->Au,none->AR,type->Ci,builtin->Fz,int->Fw,str->GQ
open PySem.PyData renaming tuple->AO,canLayAll0->IY
open PySem.Str renaming ofString->AV,empty->Fv
open False renaming elim->AX
open Array renaming length_toList->Co,getElem?_toList->D5,perm_iff_toList_perm->Mp,getElem?_eq_getElem->LW,getD->GR
open PyProof.Rows renaming callWith_type1->D7,callWith_builtin1->Mn,sortedHeap->Fo
open Ne renaming symm->AD
open PySem.Builtin.SmallTypes renaming nextOf->D6,ownedTupleIsFree->Hw,ownedTupleHandOut->Mj
open Option.some renaming inj->B4
open PySem.Builtin.List renaming listExtendWith->EU,listTooLong->Jq,listLengthHint->Mr,listSameRef->Me,listUpdate->Ma,listItems->L4
open PySem.Heap.SameBut renaming update->D8
open PySem.Calls renaming spliced_cons->DX,evalArgs_plain->FJ,callWith_builtin->Hq,spliced_nil->FU,Name_function_global->Mq
open PyProof.Rows.KeyOrd renaming kle_of_not_klt->FK,kle_refl->EM,kle_of_klt->G0,kle_trans->GW,kle_antisymm->Mh
open PySem.Around renaming under_plainId->FH,under->FG
open PySem.F renaming plainAttrs_list->Hr,excBase_ValueError->Jz,slot_dict_get->Jn,slot_dict_setdefault->Mm,slot_list_append->LS,type_list_append->LR,args_dict_get_3->Mc,plainAttrs_dict->Mb,plain_list_iadd->L9,entry_dict_get->L6
open True renaming intro->CN
open PySem.Paired renaming length->ET
open PySem.NameKind renaming free->ER
open PySem.Obj renaming data_mapFields->G3,mapSeq->ED
open Sum renaming inl->Cf,inr->DT
open Int renaming toNat_natCast->GY
open ForInStep renaming yield->He
open PySem.Builtin.Dict_items renaming ownsTuple->Ml
open PySem.Code renaming quiet_builtin->Jy,isFrame->IP
open PySem.Expr renaming Call->EE
open PySem.W.Looks renaming ld->Ey
open PySem.Builtin.Tuple renaming tupleExact->Md
open PySem.Builtin.Dict renaming showsAll->LZ
open PySem.SeqAt.EqAt renaming int_str->Mg,str_int->Mf
open PySem.Heap.Ns1 renaming of_empty->LO
noncomputable section
namespace L2
open PySem PySem.Spec PyProof.Rows
noncomputable abbrev YS:=Sum Int Str
noncomputable def Ed:YS->Value->Bool
 | .inl k,v=>Value.isInt k v
 | .inr x,v=>Value.isStrOf x v
noncomputable def PC(w:World):YS->Int
 | .inl k=>hashInt k
 | .inr x=>hashStr w x
theorem CG:∀{k:YS} {v:Value},Ed k v=Y->(∃i t,k=Cf i/\v=Fw i t)\/(∃x t,k=DT x/\v=GQ x t)
 | .inl i,v,h=>by obtain⟨t,e⟩:=Value.isInt_shape (k:=i) (v:=v) h;exact .inl ⟨i,t,rfl,e⟩
 | .inr x,v,h=>by obtain⟨t,e⟩:=Value.isStrOf_shape (x:=x) (v:=v) h;exact .inr ⟨x,t,rfl,e⟩
theorem T7(i:Int)(t:Tok):Ed (.inl i) (.int i t)=Y:=by simp[Ed,Value.isInt]
theorem Uq(x:Str)(t:Tok):Ed (.inr x) (.str x t)=Y:=by simp[Ed,Value.isStrOf]
theorem Qc(a b:Int):decide ((Cf a:YS)=Cf b)=(a==b):=by
 by_cases e:a=b
 .subst e;simp
 .have h:¬(Cf a:YS)=Cf b:=λq=>e (Sum.inl.inj q)
  rw[decide_eq_false h];exact(beq_eq_false_iff_ne.mpr e).symm
theorem P5(a b:Str):decide ((DT a:YS)=DT b)=decide (a=b):=by
 by_cases e:a=b
 .subst e;simp
 .have h:¬(DT a:YS)=DT b:=λq=>e (Sum.inr.inj q)
  rw[decide_eq_false h,decide_eq_false e]
theorem Rk(a:Int)(b:Str):decide ((Cf a:YS)=DT b)=Ab:=decide_eq_false (λq=>nomatch q)
theorem RD(a:Str)(b:Int):decide ((DT a:YS)=Cf b)=Ab:=decide_eq_false (λq=>nomatch q)
noncomputable def A2(prog:Program)(w:World):PySem.KeyKind prog w YS where
 is:=Ed
 hash:=PC w
 inj:=λv a b ha hb=>by
  rcases CG ha with⟨i,t,rfl,rfl⟩|⟨x,t,rfl,rfl⟩
  .rcases CG hb with⟨j,u,rfl,e⟩|⟨y,u,rfl,e⟩
   .injection e with e1 _;rw[e1]
   .exact nomatch e
  .rcases CG hb with⟨j,u,rfl,e⟩|⟨y,u,rfl,e⟩
   .exact nomatch e
   .injection e with e1 _;rw[e1]
 byValue:=λk v h=>by rcases CG h with⟨i,t,rfl,rfl⟩|⟨x,t,rfl,rfl⟩<;>rfl
 pyHash:=λhv h=>by
  rcases CG hv with⟨i,t,rfl,rfl⟩|⟨x,t,rfl,rfl⟩
  .exact wpAny_pyHash_int h
  .exact wpAny_pyHash_str h
 eqBool:=λhu hv h=>by
  rcases CG hu with⟨i,t,rfl,rfl⟩|⟨x,t,rfl,rfl⟩
  .rcases CG hv with⟨j,u,rfl,rfl⟩|⟨y,u,rfl,rfl⟩
   .rw[Qc]at h;exact wpAny_eqBool_int h
   .rw[Rk]at h;exact Mg i t y u _ _ _ _ h
  .rcases CG hv with⟨j,u,rfl,rfl⟩|⟨y,u,rfl,rfl⟩
   .rw[RD]at h;exact Mf x t j u _ _ _ _ h
   .rw[P5]at h;exact wpAny_eqBool_str h
 «strs»:=λk x t v h=>by
  rcases CG h with⟨i,u,rfl,e⟩|⟨y,u,rfl,e⟩
  .exact nomatch e
  .injection e with e1 _
   subst e1;cases v<;>rfl
theorem UB(prog:Program)(w:World)(k:YS)(v:Value):(A2 prog w).is k v=Ed k v:=rfl
theorem Va(prog:Program)(w:World)(i:Int)(t:Tok):(A2 prog w).is (.inl i) (.int i t)=Y:=T7 i t
theorem U8(prog:Program)(w:World)(x:Str)(t:Tok):(A2 prog w).is (.inr x) (.str x t)=Y:=Uq x t
section
variable{a b:Addr}{o u:HO}{h:Heap}{H:Hp}
inductive V where
 |non|bl (b:Bool)|int (i:Int)|str (x:Str)|byt (b:Array UInt8)|flt (b:UInt64)|ref (a:Addr)|ty (n:String)
 deriving DecidableEq
noncomputable def RelV:V->Value->Prop
 | .non,u=>u=AR
 | .bl b,u=>u=Value.bool b
 | .int i,u=>∃t,u=Fw i t
 | .str x,u=>∃t,u=GQ x t
 | .byt b,u=>∃t,u=Value.bytes b t
 | .flt b,u=>∃t,u=Value.float b t
 | .ref a,u=>u=Au a
 | .ty n,u=>u=Ci n
noncomputable abbrev YN:List V->mH->Prop:=Paired RelV
theorem YN.length{xs:List V}{us:mH}(r:YN xs us):BX xs=us.length:=ET r
theorem YN.get:∀{xs:List V} {us:mH} {i:Nat} {x:V},YN xs us->xs[i]?=Z x->∃u,us[i]?=Z u/\RelV x u
 |_,_,_,_,.nil,e=>by simp at e
 |_,_,0,_,.cons r _,e=>by simp at e;subst e;exact⟨_,rfl,r⟩
 |_,_,i+1,x,.cons _ t,e=>by obtain⟨u,h1,h2⟩:=YN.get (i:=i) (x:=x) t (by simpa using e);exact⟨u,by simpa using h1,h2⟩
theorem YN.append:∀{xs ys:List V} {us ws:mH},YN xs us->YN ys ws->YN (xs++ys) (us++ws)
 |_,_,_,_,.nil,s=>s
 |_,_,_,_,.cons r t,s=>.cons r (YN.append t s)
noncomputable def Bs:Option V->Option Value->Prop
 |some v,Z u=>RelV v u
 |none,U=>True
 |_,_=>False
noncomputable def KV{κ:Type}:List (κ×V)->List (κ×Value)->Prop:=Paired λ(p:κ×V) (q:κ×Value)=>p.1=q.1/\RelV p.2 q.2
noncomputable def kV:YS->V
 | .inl i=>.int i
 | .inr x=>.str x
inductive HO where
 |lst (xs:List V)
 |tup (xs:List V)
 |dK (kvs:List (YS×V))|dT (kvs:List (List YS×V))
 |set (mr:Int->Bool) (n:Nat)
 |ins (C dx:Addr) (fs:List (Str×V))
 |own (x:Addr)
 |xd (fs:List (Str×V))
 |met (f x:Addr)
 |rng (lo hi:Int)
 |frz (o:Obj) (u:HO)
 |tbl (ps:Array Value)
 |ext (φ:Heap->Prop)
noncomputable abbrev Hp:=Addr->Option HO
noncomputable def upd(H:Hp)(a:Addr)(o:HO):Hp:=λb=>if b=a then Z o else H b
theorem Zq:upd H a o a=Z o:=by unfold upd;rw[if_pos rfl]
theorem Zo(h:b≠a):upd H a o b=H b:=by unfold upd;rw[if_neg h]
theorem Ek:upd (upd H a o) a u=upd H a u:=by funext b;unfold upd;split<;>rfl
theorem MT(h:H a=Z o)(h':H b=Z u)(d:o≠u):a≠b:=by intro e;subst e;rw[h]at h';exact d (B4 h')
theorem BA(h:H a=Z o)(h':H b=U):a≠b:=by intro e;subst e;rw[h]at h';cases h'
section
variable(P:Program)(w:World)
noncomputable def Z0(H:Hp)(h:Heap)(a:Addr):HO->Prop
 | .lst xs=>xs.length<=sizeLine/\∃(YL:mH) (n:Nat),YN xs YL/\h.get? a=Z {cls:=.type "list",data:=.seq YL.toArray n}
 | .tup xs=>xs.length<=sizeLine/\∃YL:mH,YN xs YL/\IsTup h a YL.toArray
 | .dK kvs=>kvs.length<=sizeLine/\(a==Bn)=Ab/\∃vs,KV kvs vs/\h.DictOf (A2 P w) a vs
 | .dT kvs=>kvs.length<=sizeLine/\(a==Bn)=Ab/\∃xs:List (List YS×Addr×Value),
   Paired (λ(p:List YS×V) (q:List YS×Addr×Value)=>p.1=q.1/\H q.2.1=Z (.tup (p.1.map kV))/\RelV p.2 q.2.2) kvs xs /\
   ∃o es ep,h.get? a=Z o/\o.ExactDict/\o.data=.dict es ep/\es.toList=xs.map (entryOfKey (DU (A2 P w)))/\(xs.map (·.1)).Nodup
 | .set mr n=>h.SetOf (intKind P w) a mr n
 | .ins C dx fs=>H dx=Z (.own a)/\fs.length<=1000/\dx≠a/\h.get? a=Z (Dm C dx) /\
   ∃mA,h.Ns1 dx mA/\(∀f,Bs (fs.lookup f) (mA f))/\Jj mA (fs.map (·.1))
 | .own _=>∃o,h.get? a=Z o
 | .xd fs=>∃mA,h.Ns1 a mA/\∀f,Bs (fs.lookup f) (mA f)
 | .rng lo hi=>∃t u v,h.get? a=Z {cls:=.type "range",data:=.fields #[.int lo t,.int hi u,.int 1 v]}
 | .frz o u=>h.get? a=Z o/\Z0 H h a u
 | .tbl ps=>h.get? a=Z {cls:=.none,data:=.fields ps}
 | .met f x=>h.get? a=Z (I0 (.ref f) (.ref x))
 | .ext φ=>φ h/\(∃o,h.get? a=Z o)/\∀h1 h2:Heap,φ h1->(∀o,h1.get? a=Z o->h2.get? a=Z o)->φ h2
noncomputable def ai(H:Hp)(h:Heap):Prop:=∀a o,H a=Z o->Z0 P w H h a o
end
section
variable{P:Program}{w:World}{H H':Hp}{h h':Heap}{a:Addr}{o:HO}
theorem Z0.lt(x:Z0 P w H h a o):a<h.objs.size:=by
 cases o with
 |lst xs=>obtain⟨_,_,_,_,e⟩:=x;exact Ai e
 |tup xs=>obtain⟨_,_,_,p⟩:=x;exact p.lt
 |dK kvs=>obtain⟨_,_,_,_,o,_,_,e,_⟩:=x;exact Ai e
 |dT kvs=>obtain⟨_,_,_,_,o,_,_,e,_⟩:=x;exact Ai e
 |set mr n=>obtain⟨o,_,_,_,e,_⟩:=x;exact Ai e
 |ins C dx fs=>obtain⟨_,_,_,e,_⟩:=x;exact Ai e
 |own y=>obtain⟨_,e⟩:=x;exact Ai e
 |xd fs=>obtain⟨_,⟨_,_,_,e,_⟩,_⟩:=x;exact Ai e
 |rng lo hi=>obtain⟨_,_,_,e⟩:=x;exact Ai e
 |frz ob u=>obtain⟨e,_⟩:=x;exact Ai e
 |tbl ps=>exact Ai (show h.get? a=Z _ from x)
 |met f y=>exact Ai (show h.get? a=Z _ from x)
 |ext φ=>obtain⟨_,⟨_,e⟩,_⟩:=x;exact Ai e
theorem Paired.mapP{α β:Type}{F G:α->β->Prop}:∀{l₁:List α} {l₂:List β},Paired F l₁ l₂->(∀a b,F a b->G a b)->Paired G l₁ l₂
 |_,_,.nil,_=>.nil
 |_,_,.cons r t,f=>.cons (f _ _ r) (Paired.mapP t f)
theorem Z0.stay(x:Z0 P w H h a o)(k:∀b u,(b=a\/H b=Z (.own a))->h.get? b=Z u->h'.get? b=Z u)(ho:∀b,H b=Z (.own a)->H' b=Z (.own a))(ht:∀b xs,H b=Z (.tup xs)->H' b=Z (.tup xs)):Z0 P w H' h' a o:=by
 induction o with
 |lst xs=>obtain⟨z,YL,n,r,e⟩:=x;exact⟨z,YL,n,r,k _ _ (.inl rfl) e⟩
 |tup xs=>obtain⟨z,YL,r,ob,e,c⟩:=x;exact⟨z,YL,r,ob,k _ _ (.inl rfl) e,c⟩
 |dK kvs=>obtain⟨z,y,vs,r,ob,es,ep,e,c⟩:=x;exact⟨z,y,vs,r,ob,es,ep,k _ _ (.inl rfl) e,c⟩
 |dT kvs=>obtain⟨z,y,xs,r,ob,es,ep,e,c⟩:=x;exact⟨z,y,xs,Paired.mapP r λp q z=>⟨z.1,ht _ _ z.2.1,z.2.2⟩,ob,es,ep,k _ _ (.inl rfl) e,c⟩
 |set mr n=>obtain⟨ob,es,ep,t,e,c⟩:=x;exact⟨ob,es,ep,t,k _ _ (.inl rfl) e,c⟩
 |ins C dx fs=>obtain⟨d,z,ne,e,mA,⟨od,es,ep,e2,c⟩,r⟩:=x;exact⟨ho _ d,z,ne,k _ _ (.inl rfl) e,mA,⟨od,es,ep,k _ _ (.inr d) e2,c⟩,r⟩
 |own y=>obtain⟨ob,e⟩:=x;exact⟨ob,k _ _ (.inl rfl) e⟩
 |xd fs=>obtain⟨mA,⟨od,es,ep,e,c⟩,r⟩:=x;exact⟨mA,⟨od,es,ep,k _ _ (.inl rfl) e,c⟩,r⟩
 |rng lo hi=>obtain⟨t,u,v,e⟩:=x;exact⟨t,u,v,k _ _ (.inl rfl) e⟩
 |frz ob u ih=>obtain⟨e,q⟩:=x;exact⟨k _ _ (.inl rfl) e,ih q⟩
 |tbl ps=>have e:h.get? a=Z {cls:=.none,data:=.fields ps}:=x;show h'.get? a=Z {cls:=.none,data:=.fields ps};exact k a _ (.inl rfl) e
 |met f y=>have e:h.get? a=Z (I0 (.ref f) (.ref y)):=x;show h'.get? a=Z (I0 (.ref f) (.ref y));exact k a _ (.inl rfl) e
 |ext φ=>obtain⟨p,⟨o,e⟩,st⟩:=x;exact⟨st _ _ p λo q=>k _ _ (.inl rfl) q,⟨o,k _ _ (.inl rfl) e⟩,st⟩
theorem ai.lt(x:ai P w H h)(e:H a=Z o):a<h.objs.size:=(x a o e).lt
theorem ai.fresh(x:ai P w H h)(e:h.objs.size<=a):H a=U:=by
 cases q:H a with
 |none=>rfl
 |some u=>exact absurd (AW (x.lt q) e) (DZ _)
theorem ai.kept(x:ai P w H h)(k:∀b u,h.get? b=Z u->h'.get? b=Z u):ai P w H h':=λa o e=>(x a o e).stay (λb u _ q=>k b u q) (λ_ q=>q) λ_ _ q=>q
theorem ai.laid(x:ai P w H h)(k:∀b u,h.get? b=Z u->h'.get? b=Z u)(hp:h.objs.size<=a)(new:Z0 P w (upd H a o) h' a o):ai P w (upd H a o) h':=λb u e=>by
 have hn:=x.fresh hp
 by_cases hb:b=a
 .subst hb;rw[Zq]at e;cases e;exact new
 .rw[Zo hb]at e
  exact(x b u e).stay (λc v _ q=>k c v q) (λc q=>by rw[Zo (BA q hn)];exact q) λc xs q=>by rw[Zo (BA q hn)];exact q
end
noncomputable def Rd(H:Hp)(a:Addr)(u:HO):Prop:=H a=Z u\/∃o,H a=Z (.frz o u)
theorem Rd.ok{P:Program}{w:World}{H:Hp}{h:Heap}{a:Addr}{u:HO}(r:Rd H a u)(x:ai P w H h):Z0 P w H h a u:=by
 rcases r with r|⟨o,r⟩
 .exact x a u r
 .obtain⟨_,q⟩:=x a _ r
  exact q
noncomputable def eF:Option HO->Prop
 |some (.lst _)=>True
 |some (.dK _)=>True
 |some (.dT _)=>True
 |some (.set _ _)=>True
 |some (.ins _ _ _)=>True
 |some (.ext _)=>True
 |_=>False
section
variable{P:Program}{w:World}{H:Hp}{h h':Heap}{x e:Addr}{o':HO}
theorem ai.write(ok:ai P w H h)(mu:eF (H x))(he:e=x\/H e=Z (.own x))(k:∀b u,b≠e->h.get? b=Z u->h'.get? b=Z u)(dS:∃u,h'.get? e=Z u)(new:Z0 P w (upd H x o') h' x o'):ai P w (upd H x o') h':=λb u q=>by
 have eJ:∀c y,H c=Z (.own y)->c≠x:=λc y r z=>by subst z;rw[r]at mu;exact mu
 have iz:∀c xs,H c=Z (.tup xs)->c≠x:=λc xs r z=>by subst z;rw[r]at mu;exact mu
 by_cases hb:b=x
 .subst hb;rw[Zq]at q;cases q;exact new
 .rw[Zo hb]at q
  by_cases hbe:b=e
  .have q':H b=Z (.own x):=by
    rcases he with z|z
    .exact absurd (hbe.trans z) hb
    .rw[hbe];exact z
   rw[q]at q';cases q';obtain⟨v,hv⟩:=dS;exact⟨v,by rw[hbe];exact hv⟩
  .refine(ok b u q).stay (λc v hc r=>k c v ?_ r) (λc r=>by rw[Zo (eJ c b r)];exact r) λc xs r=>by rw[Zo (iz c xs r)];exact r
   rcases hc with rfl|hc
   .exact hbe
   .rintro rfl
    rcases he with z|z
    .exact eJ c b hc z
    .rw[hc]at z;cases z;exact hb rfl
end
structure Un(fs ex:List Addr)(H H':Hp)(h h':Heap):Prop where
 keep:∀b o,h.get? b=Z o->H b=U->b∉fs->b∉ex->h'.get? b=Z o
 slot:∀b o,h.get? b=Z o->H b=U->b∈fs->b∉ex->∃sl,h'.get? b=Z {o with slots:=sl}
 free:∀b o,h.get? b=Z o->H b=U->b∉ex->H' b=U
 there:∀b o,h.get? b=Z o->b∉ex->∃o',h'.get? b=Z o'
 tups:∀b xs,H b=Z (.tup xs)->H' b=Z (.tup xs)
 frzs:∀b o u,H b=Z (.frz o u)->H' b=Z (.frz o u)
 tbls:∀b ps,H b=Z (.tbl ps)->∃more,H' b=Z (.tbl (ps++more))
section
variable{fs fs' ex ex':List Addr}{H H1 H2:Hp}{h h1 h2 h':Heap}{a x e:Addr}{o:HO}
theorem Un.any(u:Un fs ex H H1 h h1){ob:Obj}(q:h.get? b=Z ob)(n:H b=U)(hx:b∉ex):∃sl,h1.get? b=Z {ob with slots:=sl}:=by
 by_cases hb:b∈fs
 .exact u.slot b ob q n hb hx
 .exact⟨ob.slots,u.keep b ob q n hb hx⟩
theorem Un.kept(k:∀b u,h.get? b=Z u->h'.get? b=Z u):Un fs ex H H h h' :=
 ⟨λb ob q _ _ _=>k b ob q,λb ob q _ _ _=>⟨ob.slots,k b ob q⟩,λ_ _ _ n _=>n,λb ob q _=>⟨ob,k b ob q⟩,λ_ _ q=>q,λ_ _ _ q=>q,λ_ ps q=>⟨#[],by rw[q];simp⟩⟩
theorem Un.refl:Un fs ex H H h h:=Un.kept λ_ _ q=>q
theorem Un.laid(k:∀b u,h.get? b=Z u->h'.get? b=Z u)(hp:h.objs.size<=a)(hn:H a=U):Un fs ex H (upd H a o) h h' where
 keep:=λb u q _ _ _=>k b u q
 slot:=λb u q _ _ _=>⟨u.slots,k b u q⟩
 free:=λb u q n _=>by rw[Zo (Am (AW (Ai q) hp))];exact n
 there:=λb u q _=>⟨u,k b u q⟩
 tups:=λb xs q=>by rw[Zo (BA q hn)];exact q
 frzs:=λb u xs q=>by rw[Zo (BA q hn)];exact q
 tbls:=λb ps q=>⟨#[],by rw[Zo (BA q hn),q];simp⟩
theorem Un.write(mu:eF (H x))(he:e=x\/H e=Z (.own x))(k:∀b u,b≠e->h.get? b=Z u->h'.get? b=Z u)(dS:∃u,h'.get? e=Z u):Un fs ex H (upd H x o) h h':=by
 have hx:∀b,H b=U->b≠x:=λb n z=>by subst z;rw[n]at mu;exact mu
 have hb:∀b,H b=U->b≠e:=λb n z=>by
  subst z;rcases he with r|r
  .exact hx b n r
  .rw[n]at r;cases r
 have hm:∀b u,H b=Z u->¬eF (Z u)->b≠x:=λb u q nm z=>by subst z;rw[q]at mu;exact nm mu
 refine⟨λb u q n _ _=>k b u (hb b n) q,λb u q n _ _=>⟨u.slots,k b u (hb b n) q⟩,λb u q n _=>by rw[Zo (hx b n)];exact n,λb u q _=>?_,
  λb xs q=>by rw[Zo (hm b _ q λz=>z)];exact q,λb u xs q=>by rw[Zo (hm b _ q λz=>z)];exact q,λb ps q=>⟨#[],by rw[Zo (hm b _ q λz=>z),q];simp⟩⟩
 by_cases hbe:b=e
 .subst hbe;exact dS
 .exact⟨u,k b u hbe q⟩
end
noncomputable def trk(h:Heap)(H:Hp):List Addr:=(Cg h.objs.size).filter λa=>(H a).isSome
noncomputable def Cs(h:Heap)(H:Hp):Heap:=Hh h (trk h H)
theorem TU(h:Heap)(H:Hp):(Cs h H).objs.size=h.objs.size:=PySem.W.hideAll_size _ _
theorem RL{o:Obj}(e:h.get? b=Z o)(n:H b=U):(Cs h H).get? b=Z o :=
 D9 _ e λhm=>by have q:(H b).isSome=Y:=(List.mem_filter.mp hm).2;rw[n]at q;simp at q
theorem RB{o:Obj}(e:(Cs h H).get? b=Z o):h.get? b=Z o/\H b=U:=by
 have e':h.get? b=Z o:=Jt (trk h H) e;refine⟨e',?_⟩;cases q:H b with
 |none=>rfl
 |some x=>have hm:b∈trk h H:=List.mem_filter.mpr ⟨G9.mpr (Ai e'),by simp[q]⟩;have z:(Cs h H).get? b=U:=Mi (trk h H) hm;rw[z]at e;cases e
end
section
variable{A:Around}{X:Cx}{YK:mG}{ch:List Addr}{i t':Nat}{s:Shared}{L:St}{x:Str}{v:V}{u:Value}{E:mD}
structure Mod(K:Ad)(mg:mF)(base:Heap):Prop where
 kin:K.In base
 glob:base.Ns Ar mg
 blt:∃mb,base.Ns Fu mb/\∀x:Str,x ≠ "__name__"->mb x=A4 x
 nolimit:base.NoLimit
structure Cx where
 prog:Program
 w:World
 K:Ad
 mg:mF
 base:Heap
 A:Around
 N:mI
 s₀:Shared
 H₀:Hp
 env:Env
 outer:List Env
 stack:List Env
 ex:List Addr
 fn:Str->Bool
 calm:Bool
 pn:mG
 xe:Value->Shared->Prop
noncomputable def Y8(l:List Env):List Addr:=l.filterMap (·.frame)
noncomputable abbrev Cx.fs(X:Cx):List Addr:=Y8 X.outer
noncomputable def br(sc:Scope)(x:Str):Prop:=sc.names.lookup x=Z .local\/sc.names.lookup x=Z .cell\/sc.names.lookup x=Z .free
noncomputable def Loc(sc:Scope)(x:Str):Prop:=sc.names.lookup x=Z .local\/sc.names.lookup x=Z .cell
noncomputable def Look(env:Env)(h:Heap)(m:mF)(x:Str)(u:Value):Prop :=
 (env.kindOf x=Z .local/\m x=Z u)\/((env.kindOf x=Z .cell\/env.kindOf x=Z .free)/\∃c,env.cells.lookup x=Z c/\h.IsCell c (Z u))
structure Cx.Ok(X:Cx):Prop where
 mod:Mod X.K X.mg X.base
 kind:X.env.scope.kind=.function
 glob:X.env.globals=Ar
 blt:X.env.builtins=Fu
 above:X.s₀.heap.objs.size<=X.env.locals
 inj:∀x y c,X.env.cells.lookup x=Z c->X.env.cells.lookup y=Z c->x=y
 has:∀x,(X.env.kindOf x=Z .cell\/X.env.kindOf x=Z .free)->∃c,X.env.cells.lookup x=Z c
 cab:∀x c,X.fn x=Y->X.env.cells.lookup x=Z c->X.s₀.heap.objs.size<=c
 hd:X.calm=Y->X.A.handled=U
 frames:X.A.frames=Z X.stack
 stk:X.stack=X.outer\/(X.stack=X.env::X.outer/\X.env.frame=Z X.env.locals)
 exf:∀b∈X.ex,b≠X.env.locals/\∀x c,X.env.cells.lookup x=Z c->c≠b
 bs:∀b o,X.base.get? b=Z o->X.s₀.heap.get? b=Z o/\X.H₀ b=U
 bsz:X.base.objs.size<=X.s₀.heap.objs.size
 noex:∀b o,X.base.get? b=Z o->b∉X.ex
 exfs:∀b∈X.ex,b∉X.fs
 funs:X.s₀.heap.FunFrames X.base X.outer
 frf:∀b∈X.fs,X.H₀ b=U
structure Inv(X:Cx)(YK:mG)(L:List (Option V))(H:Hp)(s:Shared):Prop where
 ok:X.Ok
 os:s.os=X.s₀.os
 bare:AllBare s.gens
 base:Un X.fs X.ex X.H₀ H X.s₀.heap s.heap
 loc:∃m,s.heap.Ns X.env.locals m/\∀(i:Nat) (x:Str) (v:V),X.N[i]?=Z x->L[i]?=Z (Z v)->br X.env.scope x->∃u,RelV v u/\Look X.env s.heap m x u
 cell:∀x c,X.env.cells.lookup x=Z c->∃v,s.heap.IsCell c v
 free:H X.env.locals=U
 freeC:∀x c,X.env.cells.lookup x=Z c->H c=U
 pin:∀p∈X.pn++YK,s.heap.get? p.1=Z p.2/\H p.1=U/\p.1≠X.env.locals/\p.1∉X.fs/\∀v,p.2.data≠.cell v
 hok:ai X.prog X.w H s.heap
 len:BX L=X.N.length
section
variable{X:Cx}{YK:mG}{L:List (Option V)}{H H':Hp}{s:Shared}{h':Heap}
theorem Cx.Ok.nofr(ok:X.Ok){b:Addr}{o:Obj}(e:X.base.get? b=Z o):b∉X.fs:=λhb=>by have:=(ok.funs.mem hb).1;rw[e]at this;cases this
theorem Inv.bs(I:Inv X YK L H s):∀b o,X.base.get? b=Z o->s.heap.get? b=Z o/\H b=U:=λb o e=>⟨I.base.keep b o (I.ok.bs b o e).1 (I.ok.bs b o e).2 (I.ok.nofr e) (I.ok.noex b o e),I.base.free b o (I.ok.bs b o e).1 (I.ok.bs b o e).2 (I.ok.noex b o e)⟩
theorem Inv.bk(I:Inv X YK L H s):∀b o,X.base.get? b=Z o->s.heap.get? b=Z o:=λb o e=>(I.bs b o e).1
theorem Inv.mod(I:Inv X YK L H s):Mod X.K X.mg X.base:=I.ok.mod
theorem Inv.kIn(I:Inv X YK L H s):X.K.In s.heap:=I.ok.mod.kin.keeps I.bk
theorem Inv.lt(I:Inv X YK L H s):X.env.locals<s.heap.objs.size:=let ⟨_,hn,_⟩:=I.loc;hn.lt
theorem Inv.sz(I:Inv X YK L H s):X.s₀.heap.objs.size<=s.heap.objs.size:=Bi I.ok.above (EO I.lt)
theorem Inv.nofs(I:Inv X YK L H s){a:Addr}(h:s.heap.objs.size<=a):a∉X.fs:=λhb=>by obtain⟨_,o,ho,_⟩:=I.ok.funs.mem hb;exact absurd (AW (Ai ho) (Bi I.sz h)) (DZ _)
theorem Inv.cne(I:Inv X YK L H s):∀x c,X.env.cells.lookup x=Z c->c≠X.env.locals:=λx c e z=>by obtain⟨v,o,ho,hd⟩:=I.cell x c e;obtain⟨m,⟨o',es,ep,ho',hd',_⟩,_⟩:=I.loc;rw[z,ho']at ho;cases ho;rw[hd']at hd;cases hd
theorem Inv.funs(I:Inv X YK L H s):s.heap.FunFrames X.base X.outer:=by
 have all:∀(l:List Env),(∀b∈Y8 l,b∈X.fs)->X.s₀.heap.FunFrames X.base l->s.heap.FunFrames X.base l:=by
  intro l
  induction l with
  |nil=>intro _ _;trivial
  |cons env r ih=>intro hs hl;obtain⟨hk,⟨mm,o,hf,hn,ho,hd⟩,hr⟩:=hl;have hL:mm∈X.fs:=hs mm (by unfold Y8;rw[Jv,hf];exact A9);obtain⟨sl,e⟩:=I.base.slot mm o ho (I.ok.frf mm hL) hL λz=>I.ok.exfs mm z hL;exact⟨hk,⟨mm,_,hf,hn,e,hd⟩,ih (λb hb=>hs b (by unfold Y8;rw[Jv,hf];exact AQ _ hb)) hr⟩
 exact all X.outer (λ_ hb=>hb) I.ok.funs
theorem Inv.stack(I:Inv X YK L H s):s.heap.FunFrames X.base X.stack:=by
 rcases I.ok.stk with e|⟨e,hf⟩
 .rw[e];exact I.funs
 .rw[e]
  obtain⟨m,hn,_⟩:=I.loc;refine .cons (by rw[I.ok.kind];decide) hf hn ?_ I.funs;exact Jx (Bi I.ok.bsz I.ok.above)
theorem Inv.stkSub(I:Inv X YK L H s):∀b∈Y8 X.stack,b∈X.env.locals::X.fs:=λb hb=>by
 rcases I.ok.stk with e|⟨e,hf⟩
 .rw[e]at hb;exact AQ _ hb
 .rw[e]at hb
  unfold Y8 at hb;rw[Jv,hf]at hb;exact hb
theorem Inv.stkFree(I:Inv X YK L H s):∀b∈Y8 X.stack,H b=U:=λb hb=>by
 rcases Ak.mp (I.stkSub b hb)with e|hb
 .rw[e];exact I.free
 .obtain⟨_,o,ho,_⟩:=I.ok.funs.mem hb
  exact I.base.free b o ho (I.ok.frf b hb) λz=>I.ok.exfs b z hb
theorem Inv.step{g':Array GenState}{d':Drawn}(I:Inv X YK L H s)(cC:∀b∈ch,(b∈X.ex\/X.s₀.heap.objs.size<=b)/\b≠X.env.locals/\(∀x c,X.env.cells.lookup x=Z c->c≠b)/\∀p∈X.pn++YK,p.1≠b)(keep:∀b o,b≠X.env.locals->b∉X.fs->b∉ch->s.heap.get? b=Z o->H b=U->h'.get? b=Z o)(slot:∀b o,b≠X.env.locals->b∈X.fs->b∉ch->s.heap.get? b=Z o->H b=U->∃sl,h'.get? b=Z {o with slots:=sl})(free:∀b o,b∉ch->s.heap.get? b=Z o->H b=U->H' b=U)(there:∀b o,b∉ch->s.heap.get? b=Z o->∃o',h'.get? b=Z o')(tups:∀b xs,H b=Z (.tup xs)->H' b=Z (.tup xs))(frzs:∀b o u,H b=Z (.frz o u)->H' b=Z (.frz o u))(tbls:∀b ps,H b=Z (.tbl ps)->∃more,H' b=Z (.tbl (ps++more)))(ns:∀m,s.heap.Ns X.env.locals m->h'.Ns X.env.locals m)(hok:ai X.prog X.w H' h')(hg:AllBare g'):Inv X YK L H' {s with heap:=h',gens:=g',drawn:=d',toks:=t'}:=by
 have dP:∀b o,X.s₀.heap.get? b=Z o->b≠X.env.locals:=λb o e=>Am (AW (Ai e) I.ok.above);have fm:∀b o,X.s₀.heap.get? b=Z o->b∉X.ex->b∉ch:=λb o e hx hb=>by
  rcases(cC b hb).1 with z|z
  .exact hx z
  .exact absurd (AW (Ai e) z) (DZ _)
 have dj:∀x c,X.env.cells.lookup x=Z c->∀v,s.heap.IsCell c v->h'.IsCell c v:=λx c e v ⟨o,ho,hd⟩=>by
  have d9:c∉ch:=λz=>(cC c z).2.2.1 x c e rfl
  by_cases hc:c∈X.fs
  .obtain⟨sl,q⟩:=slot c o (I.cne x c e) hc d9 ho (I.freeC x c e)
   exact⟨_,q,hd⟩
  .exact⟨o,keep c o (I.cne x c e) hc d9 ho (I.freeC x c e),hd⟩
 refine⟨I.ok,I.os,hg,⟨λb o e n hb hx=>?_,λb o e n hb hx=>?_,λb o e n hx=>?_,λb o e hx=>?_,λb xs e=>tups b xs (I.base.tups b xs e),λb o xs e=>frzs b o xs (I.base.frzs b o xs e),λb ps e=>?_⟩,?_,λx c e=>?_,?_,λx c e=>?_,λp hp=>?_,hok,I.len⟩
 .exact keep b o (dP b o e) hb (fm b o e hx) (I.base.keep b o e n hb hx) (I.base.free b o e n hx)
 .obtain⟨sl,e1⟩:=I.base.slot b o e n hb hx
  obtain⟨sl',e2⟩:=slot b _ (dP b o e) hb (fm b o e hx) e1 (I.base.free b o e n hx);exact⟨sl',e2⟩
 .obtain⟨o',e1⟩:=I.base.there b o e hx
  exact free b o' (fm b o e hx) e1 (I.base.free b o e n hx)
 .obtain⟨o',e1⟩:=I.base.there b o e hx
  exact there b o' (fm b o e hx) e1
 .obtain⟨m1,e1⟩:=I.base.tbls b ps e
  obtain⟨m2,e2⟩:=tbls b _ e1;exact⟨m1++m2,by rw[e2,Array.append_assoc]⟩
 .obtain⟨m,hn,hl⟩:=I.loc
  refine⟨m,ns m hn,λi x v e1 e2 e3=>?_⟩;obtain⟨u,r,l⟩:=hl i x v e1 e2 e3;refine⟨u,r,?_⟩;rcases l with l|⟨k,c,e,z⟩
  .exact .inl l
  .exact .inr ⟨k,c,e,dj x c e _ z⟩
 .obtain⟨v,z⟩:=I.cell x c e
  exact⟨v,dj x c e v z⟩
 .obtain⟨m,⟨o,_,_,ho,_⟩,_⟩:=I.loc
  exact free _ o (λz=>(cC _ z).2.1 rfl) ho I.free
 .obtain⟨v,o,ho,hd⟩:=I.cell x c e
  exact free c o (λz=>(cC c z).2.2.1 x c e rfl) ho (I.freeC x c e)
 .obtain⟨e,n,ne,nf,d⟩:=I.pin p hp
  have d9:p.1∉ch:=λz=>(cC p.1 z).2.2.2 p hp rfl;exact⟨keep p.1 p.2 ne nf d9 e n,free p.1 p.2 d9 e n,ne,nf,d⟩
theorem Inv.un(I:Inv X YK L H s)(u:Un X.fs [] H H' s.heap h')(hok:ai X.prog X.w H' h'):Inv X YK L H' {s with heap:=h',toks:=t'}:=by obtain⟨m,⟨o,es,ep,ho,r⟩,_⟩:=id I.loc;obtain⟨sl,hL⟩:=u.any ho I.free (by simp);exact I.step (g':=s.gens) (d':=s.drawn) (ch:=[]) (λ_ z=>nomatch z) (λb o _ hb _ e n=>u.keep b o e n hb (by simp)) (λb o _ hb _ e n=>u.slot b o e n hb (by simp)) (λb o _ e n=>u.free b o e n (by simp)) (λb o _ e=>u.there b o e (by simp)) u.tups u.frzs u.tbls (λm' hm=>by obtain⟨o',es',ep',ho',r'⟩:=hm;rw[ho]at ho';cases ho';exact⟨_,es',ep',hL,r'⟩) hok I.bare
theorem Inv.call{g':Array GenState}{d':Drawn}(I:Inv X YK L H s)(u:Un (Y8 X.stack) ch H H' s.heap h')(hok:ai X.prog X.w H' h')(hg:AllBare g')(cC:∀b∈ch,(b∈X.ex\/X.s₀.heap.objs.size<=b)/\b≠X.env.locals/\(∀x c,X.env.cells.lookup x=Z c->c≠b)/\∀p∈X.pn++YK,p.1≠b):Inv X YK L H' {s with heap:=h',gens:=g',drawn:=d',toks:=t'}:=by
 obtain⟨m,⟨o,es,ep,ho,r⟩,_⟩:=id I.loc;obtain⟨sl,hL⟩:=u.any ho I.free λz=>(cC _ z).2.1 rfl;exact I.step (ch:=ch) cC (λb o hL hb hc e n=>u.keep b o e n (λz=>(Ak.mp (I.stkSub b z)).elim hL hb) hc) (λb o _ _ hc e n=>u.any e n hc) (λb o hc e n=>u.free b o e n hc) (λb o hc e=>u.there b o e hc) u.tups u.frzs u.tbls (λm' hm=>by obtain⟨o',es',ep',ho',r'⟩:=hm;rw[ho]at ho';cases ho';exact⟨_,es',ep',hL,r'⟩) hok hg
theorem Inv.turned{it:Addr}(I:Inv X YK L H s)(k:∀b o,b≠it->s.heap.get? b=Z o->h'.get? b=Z o)(hn:H it=U)(hL:it≠X.env.locals)(h1:it∈X.ex\/X.s₀.heap.objs.size<=it)(h2:∀x c,X.env.cells.lookup x=Z c->c≠it)(h3:∀p∈X.pn++YK,p.1≠it):Inv X YK L H {s with heap:=h',toks:=t'}:=by
 have jl:∀b u,H b=Z u->b≠it:=λb u e z=>by rw[z,hn]at e;cases e
 refine I.step (g':=s.gens) (d':=s.drawn) (ch:=[it]) (λb hb=>?_) (λb o _ _ hc e _=>k b o (λz=>hc (by simp[z])) e) (λb o _ _ hc e _=>⟨o.slots,k b o (λz=>hc (by simp[z])) e⟩) (λ_ _ _ _ n=>n)
  (λb o hc e=>⟨o,k b o (λz=>hc (by simp[z])) e⟩) (λ_ _ e=>e) (λ_ _ _ e=>e) (λb ps e=>⟨#[],by rw[e];simp⟩) (λm hm=>?_) (λb u e=>?_) I.bare
 .have e:b=it:=by simpa using hb
  subst e;exact⟨h1,hL,h2,h3⟩
 .obtain⟨o,es,ep,ho,r⟩:=hm
  exact⟨o,es,ep,k _ o (AD hL) ho,r⟩
 .refine(I.hok b u e).stay (λc v hc q=>k c v ?_ q) (λ_ q=>q) λ_ _ q=>q
  rcases hc with z|z
  .rw[z];exact jl b u e
  .exact jl c _ z
theorem Inv.tok(I:Inv X YK L H s)(t:Nat):Inv X YK L H {s with toks:=t}:=I.un (h':=s.heap) (t':=t) Un.refl I.hok
theorem Inv.kept{t':Nat}(I:Inv X YK L H s)(k:∀b u,s.heap.get? b=Z u->h'.get? b=Z u):Inv X YK L H {s with heap:=h',toks:=t'}:=I.un (Un.kept k) (I.hok.kept k)
theorem Inv.laid{a:Addr}{o:HO}{t':Nat}(I:Inv X YK L H s)(k:∀b u,s.heap.get? b=Z u->h'.get? b=Z u)(hp:s.heap.objs.size<=a)(new:Z0 X.prog X.w (upd H a o) h' a o):Inv X YK L (upd H a o) {s with heap:=h',toks:=t'}:=I.un (Un.laid k hp (I.hok.fresh hp)) (I.hok.laid k hp new)
theorem Inv.write{x e:Addr}{o:HO}{t':Nat}(I:Inv X YK L H s)(mu:eF (H x))(he:e=x\/H e=Z (.own x))(k:∀b u,b≠e->s.heap.get? b=Z u->h'.get? b=Z u)(dS:∃u,h'.get? e=Z u)(new:Z0 X.prog X.w (upd H x o) h' x o):Inv X YK L (upd H x o) {s with heap:=h',toks:=t'}:=I.un (Un.write mu he k dS) (I.hok.write mu he k dS new)
theorem Inv.weak{σ':List (Option V)}(I:Inv X YK L H s)(hl:σ'.length=L.length)(w:∀(i:Nat) v,σ'[i]?=Z (Z v)->L[i]?=Z (Z v)):Inv X YK σ' H s :=
 ⟨I.ok,I.os,I.bare,I.base,let ⟨m,hn,hl'⟩:=I.loc;⟨m,hn,λi x v e1 e2 e3=>hl' i x v e1 (w i v e2) e3⟩,I.cell,I.free,I.freeC,I.pin,I.hok,hl.trans I.len⟩
theorem Inv.pins_of{pins':mG}(I:Inv X YK L H s)(h:∀p∈pins',s.heap.get? p.1=Z p.2/\H p.1=U/\p.1≠X.env.locals/\p.1∉X.fs/\∀v,p.2.data≠.cell v):Inv X pins' L H s :=
 ⟨I.ok,I.os,I.bare,I.base,I.loc,I.cell,I.free,I.freeC,λp hp=>(EN.mp hp).elim (λz=>I.pin p (Jw _ z)) (h p),I.hok,I.len⟩
theorem N2{N:mI}(hN:N.Nodup){j:Nat}(a:N[i]?=Z x)(b:N[j]?=Z x):i=j:=by obtain⟨h1,e1⟩:=AE.mp a;obtain⟨h2,e2⟩:=AE.mp b;exact(List.getElem_inj hN).mp (e1.trans e2.symm)
theorem SR{M:Model}{Q:Unit->Shared->Prop}(I:Inv X YK L H s)(hN:X.N.Nodup)(hi:X.N[i]?=Z x)(hx:Loc X.env.scope x)(r:RelV v u)(h:∀s',Inv X YK (L.set i (Z v)) H s'->(∃a,Bo a s.heap s'.heap/\(a=X.env.locals\/X.env.cells.lookup x=Z a))->Q () s')(hf:X.fn x=Y\/X.env.scope.names.lookup x=Z .local:=by first|exact .inl rfl|exact .inr rfl|assumption):wpAny M A (storeName X.env x u) Q E s:=by
 obtain⟨m,hn,hl⟩:=id I.loc;have cu:(X.env.scope.kind==.class||(X.env.scope.kind==.module&&X.env.locals != X.env.globals))=Ab:=by rw[I.ok.kind];rfl
 have jx:i<BX L:=by rw[I.len];exact(AE.mp hi).1
 have cne:=I.cne;have bT:∀{a:Addr} {h':Heap},(∃o,s.heap.get? a=Z o/\H a=U)->Bo a s.heap h'->ai X.prog X.w H h':=λ{a h'} ha hs b ob e=>by
  obtain⟨_,_,aX⟩:=ha;refine(I.hok b ob e).stay (λc w' hc q=>(hs.2 c ?_).trans q) (λ_ q=>q) λ_ _ q=>q
  rintro rfl
  rcases hc with rfl|hc
  .rw[aX]at e;cases e
  .rw[aX]at hc;cases hc
 rcases hx with hk|hk
 .refine wpAny_storeName_local hk hn (λh' hn' hs=>?_) cu
  obtain⟨oL,_,_,dm,_⟩:=id hn;refine h _ ⟨I.ok,I.os,I.bare,⟨λb o e n hb hx=>?_,λb o e n hb hx=>?_,I.base.free,λb o e hx=>?_,I.base.tups,I.base.frzs,I.base.tbls⟩,⟨_,hn',λj y v' e1 e2 e3=>?_⟩,λy c e=>?_,I.free,I.freeC,λp hp=>?_,bT ⟨oL,dm,I.free⟩ hs,by simpa using I.len⟩ ⟨_,hs,.inl rfl⟩
  .exact(hs.2 b (Am (AW (Ai e) I.ok.above))).trans (I.base.keep b o e n hb hx)
  .obtain⟨sl,e1⟩:=I.base.slot b o e n hb hx
   exact⟨sl,(hs.2 b (Am (AW (Ai e) I.ok.above))).trans e1⟩
  .obtain⟨o',e1⟩:=I.base.there b o e hx
   exact⟨o',(hs.2 b (Am (AW (Ai e) I.ok.above))).trans e1⟩
  .by_cases hj:j=i
   .subst hj
    rw[hi]at e1;cases e1;rw[Cr jx]at e2;cases e2;exact⟨u,r,.inl ⟨hk,by simp⟩⟩
   .rw[Ba (AD hj)]at e2
    obtain⟨u',r',q⟩:=hl j y v' e1 e2 e3;refine⟨u',r',?_⟩;rcases q with⟨k,e⟩|⟨k,c,e,z⟩
    .refine .inl ⟨k,?_⟩
     have:y≠x:=λe=>hj (N2 hN e1 (e▸hi));simp[this,e]
    .exact .inr ⟨k,c,e,z.sameBut hs (cne y c e)⟩
  .obtain⟨w',z⟩:=I.cell y c e
   exact⟨w',z.sameBut hs (cne y c e)⟩
  .obtain⟨e,n,ne,nf,d⟩:=I.pin p hp
   exact⟨(hs.2 p.1 ne).trans e,n,ne,nf,d⟩
 .have gO:X.fn x=Y:=by
   rcases hf with z|z
   .exact z
   .rw[z]at hk;cases hk
  obtain⟨c,hc⟩:=I.ok.has x (.inl hk);obtain⟨w',z⟩:=I.cell x c hc;refine wpAny_storeName_cell I.ok.kind hk hc z (λh' hc' hs=>?_);obtain⟨oc,jt,iL⟩:=id z;refine h {s with heap:=h'} ⟨I.ok,I.os,I.bare,⟨λb o e n hb hx=>?_,λb o e n hb hx=>?_,I.base.free,λb o e hx=>?_,I.base.tups,I.base.frzs,I.base.tbls⟩,⟨m,hn.sameBut hs (AD (cne x c hc)),λj y v' e1 e2 e3=>?_⟩,λy c' e=>?_,I.free,I.freeC,λp hp=>?_,bT ⟨oc,jt,I.freeC x c hc⟩ hs,by simpa using I.len⟩ ⟨c,hs,.inr hc⟩
  .exact(hs.2 b (Am (AW (Ai e) (I.ok.cab x c gO hc)))).trans (I.base.keep b o e n hb hx)
  .obtain⟨sl,e1⟩:=I.base.slot b o e n hb hx
   exact⟨sl,(hs.2 b (Am (AW (Ai e) (I.ok.cab x c gO hc)))).trans e1⟩
  .obtain⟨o',e1⟩:=I.base.there b o e hx
   exact⟨o',(hs.2 b (Am (AW (Ai e) (I.ok.cab x c gO hc)))).trans e1⟩
  .by_cases hj:j=i
   .subst hj
    rw[hi]at e1;cases e1;rw[Cr jx]at e2;cases e2;exact⟨u,r,.inr ⟨.inl hk,c,hc,hc'⟩⟩
   .rw[Ba (AD hj)]at e2
    obtain⟨u',r',q⟩:=hl j y v' e1 e2 e3;refine⟨u',r',?_⟩;rcases q with q|⟨k,c',e,z'⟩
    .exact .inl q
    .refine .inr ⟨k,c',e,z'.sameBut hs ?_⟩
     rintro rfl
     exact hj (N2 hN e1 (I.ok.inj _ _ _ e hc▸hi))
  .by_cases et:c'=c
   .subst et;exact⟨_,hc'⟩
   .obtain⟨w2,z2⟩:=I.cell y c' e
    exact⟨w2,z2.sameBut hs et⟩
  .obtain⟨e,n,ne,nf,d⟩:=I.pin p hp
   refine⟨(hs.2 p.1 ?_).trans e,n,ne,nf,d⟩;intro q;rw[q,jt]at e;have q':oc=p.2:=B4 e;exact d w' (by rw[<-q'];exact iL)
theorem Kc{M:Model}{Q:Unit->Shared->Prop}(I:Inv X YK L H s)(hN:X.N.Nodup)(hi:X.N[i]?=Z x)(hx:Loc X.env.scope x)(r:RelV v u)(h:∀s',Inv X YK (L.set i (Z v)) H s'->Q () s')(hf:X.fn x=Y\/X.env.scope.names.lookup x=Z .local:=by first|exact .inl rfl|exact .inr rfl|assumption):wpAny M A (storeName X.env x u) Q E s :=
 SR I hN hi hx r (λs' I' _=>h s' I') hf
theorem Inv.call'{s':Shared}(I:Inv X YK L H s)(ho:s'.os=s.os)(u:Un (Y8 X.stack) ch H H' s.heap s'.heap)(hok:ai X.prog X.w H' s'.heap)(hg:AllBare s'.gens)(cC:∀b∈ch,(b∈X.ex\/X.s₀.heap.objs.size<=b)/\b≠X.env.locals/\(∀x c,X.env.cells.lookup x=Z c->c≠b)/\∀p∈X.pn++YK,p.1≠b):Inv X YK L H' s':=by
 obtain⟨h',g',d',t',o'⟩:=s';have e:o'=s.os:=ho;subst e;exact I.call (g':=g') (t':=t') (d':=d') u hok hg cC
end
noncomputable abbrev XK:=Value->Option Addr->Hp->Prop
noncomputable abbrev St:=List (Option V)
noncomputable abbrev VK:=V->Hp->Prop
noncomputable abbrev TE:=St->Hp->VK->Prop
noncomputable abbrev TT:=St->Hp->(Bool->Hp->Prop)->Prop
noncomputable abbrev TA:=St->Hp->(List V->Hp->Prop)->Prop
structure bZ where
 nx:St->Hp->Prop
 rt:VK
 bk:St->Hp->Prop:=λ_ _=>False
 ct:St->Hp->Prop:=λ_ _=>False
noncomputable abbrev TS:=bZ->St->Hp->Prop
inductive EP(X:Cx)(YK:mG)(L:St)(Q:VK)(u:Value)(s':Shared):Prop
 |mk (v:V) (H':Hp) (I:Inv X YK L H' s') (r:RelV v u) (q:Q v H'):EP X YK L Q u s'
inductive TP(X:Cx)(YK:mG)(L:St)(Q:Bool->Hp->Prop)(b:Bool)(s':Shared):Prop
 |mk (H':Hp) (I:Inv X YK L H' s') (q:Q b H'):TP X YK L Q b s'
inductive AP(X:Cx)(YK:mG)(L:St)(Q:List V->Hp->Prop)(us:mH)(s':Shared):Prop
 |mk (vs:List V) (H':Hp) (I:Inv X YK L H' s') (r:YN vs us) (q:Q vs H'):AP X YK L Q us s'
inductive fT(X:Cx)(YK:mG)(N:St->Hp->Prop)(s':Shared):Prop
 |mk (σ':St) (H':Hp) (I:Inv X YK σ' H' s') (q:N σ' H'):fT X YK N s'
inductive jI(X:Cx)(YK:mG)(R:V->Hp->Prop)(u:Value)(s':Shared):Prop
 |mk (v:V) (σ':St) (H':Hp) (I:Inv X YK σ' H' s') (r:RelV v u) (q:R v H'):jI X YK R u s'
noncomputable def SP(X:Cx)(YK:mG)(D:bZ)(f:Flow)(s':Shared):Prop :=
 match f with
 | .next=>fT X YK D.nx s'
 | .brk=>fT X YK D.bk s'
 | .cont=>fT X YK D.ct s'
 | .ret u=>jI X YK D.rt u s'
noncomputable def PE(X:Cx)(e:Expr)(t:TE):Prop :=
 ∀(YK:mG) (s:Shared) (L:St) (H:Hp) (Q:VK),Inv X YK L H s->t L H Q->wpAny (model X.prog X.w) X.A (eval e X.env) (EP X YK L Q) X.xe s
noncomputable def PT(X:Cx)(e:Expr)(t:TT):Prop :=
 ∀(YK:mG) (s:Shared) (L:St) (H:Hp) (Q:Bool->Hp->Prop),Inv X YK L H s->t L H Q->wpAny (model X.prog X.w) X.A (isTrue e X.env (eval e X.env)) (TP X YK L Q) X.xe s
theorem Dx{Q:List V->Hp->Prop}{t:Sem mH}{Q':mH->Shared->Prop}{M:Model}(h:wpAny M A t (AP X YK L Q) E s)(hQ:∀a s v H',Inv X YK L H' s->YN v a->Q v H'->Q' a s):wpAny M A t Q' E s:=Ax h (λa s ⟨v,H',I,r,q⟩=>hQ a s v H' I r q) λ_ _ x=>x
noncomputable def PW(X:Cx)(e:Expr)(t:TT):Prop :=
 ∀(aO:Sem Value) (YK:mG) (s:Shared) (L:St) (H:Hp) (Q:Bool->Hp->Prop),Inv X YK L H s->t L H Q->wpAny (model X.prog X.w) X.A (isTrue e X.env aO) (TP X YK L Q) X.xe s
theorem PW.pt{e:Expr}{t:TT}(h:PW X e t):PT X e t:=h _
noncomputable def PA(X:Cx)(es:List Expr)(t:TA):Prop :=
 ∀(pos:Pos) (YK:mG) (s:Shared) (L:St) (H:Hp) (Q:List V->Hp->Prop),Inv X YK L H s->t L H Q->wpAny (model X.prog X.w) X.A (spliced (backTo pos (Ae es X.env))) (AP X YK L Q) X.xe s
noncomputable def PS(X:Cx)(st:Stmt)(t:TS):Prop :=
 ∀(YK:mG) (s:Shared) (L:St) (H:Hp) (D:bZ),Inv X YK L H s->t D L H->wpAny (model X.prog X.w) X.A (exec st X.env) (SP X YK D) X.xe s
noncomputable def aA(X:Cx)(st:List Stmt)(t:TS):Prop :=
 ∀(YK:mG) (s:Shared) (L:St) (H:Hp) (D:bZ),Inv X YK L H s->t D L H->wpAny (model X.prog X.w) X.A (execs st X.env) (SP X YK D) X.xe s
theorem Aw{Q:VK}{t:Sem Value}{Q':mD}{M:Model}(h:wpAny M A t (EP X YK L Q) E s)(hQ:∀a s v H',Inv X YK L H' s->RelV v a->Q v H'->Q' a s):wpAny M A t Q' E s:=Ax h (λa s ⟨v,H',I,r,q⟩=>hQ a s v H' I r q) λ_ _ x=>x
theorem Y6{α:Type}{t:Sem α}{Q Q':α->Shared->Prop}{M:Model}(h:wpAny M A t Q E s)(hQ:∀a s,Q a s->Q' a s):wpAny M A t Q' E s:=Ax h hQ λ_ _ x=>x
end
section
variable{H:Hp}{YK:mG}{pos:Pos}{s:Shared}{L:St}{x:Str}{v:V}{u:Value}{E Q:mD}
section
variable{X:Cx}
theorem l8{a b:Expr}{ta tb:TE}(ha:PE X a ta)(hb:PE X b tb){R:V->V->Hp->Prop}(I:Inv X YK L H s)(h:ta L H λx H1=>tb L H1 λy H2=>R x y H2){α:Type} {Q:α->Shared->Prop} {f:Value->Value->Sem α}(hf:∀v u s2 x y H2,Inv X YK L H2 s2->RelV x v->RelV y u->R x y H2->wpAny (model X.prog X.w) X.A (f v u) Q X.xe s2):wpAny (model X.prog X.w) X.A (eval a X.env) (λv s₁=>wpAny (model X.prog X.w) X.A (eval b X.env) (λu s₂=>wpAny (model X.prog X.w) X.A (f v u) Q X.xe s₂) X.xe s₁) X.xe s:=by
 refine Aw (ha YK s L H _ I h) λv s1 x H1 I1 r1 q1=>?_;refine Aw (hb YK s1 L H1 _ I1 q1) λu s2 y H2 I2 r2 q2=>?_;exact hf v u s2 x y H2 I2 r1 r2 q2
noncomputable def Bl(i:Nat):TE:=λL H Q=>∃v,L[i]?=Z (Z v)/\Q v H
noncomputable def tC (v:V):TE:=λ_ H Q=>Q v H
theorem ZS{i:Nat}(hN:X.N[i]?=Z x)(hv:br X.env.scope x)(hd:(x==("__debug__":Str))=Ab:=by decide)(Y7:(x==("__classdict__":Str))=Ab:=by decide):PE X (.Name x pos) (Bl i):=by
 intro YK s L H Q I h;obtain⟨v,e,h⟩:=h;obtain⟨m,hn,hl⟩:=I.loc;obtain⟨u,r,l⟩:=hl i x v hN e hv;have YZ:EP X YK L Q u s:=⟨v,H,I,r,h⟩;rcases l with⟨hk,hm⟩|⟨hk,c,hc,dg⟩
 .exact wpAny_Name (wpAny_loadName_local I.ok.kind hk hn hm YZ) hd
 .rcases hk with hk|hk
  .exact wpAny_Name (wpAny_loadName_cell I.ok.kind hk hc dg YZ) hd
  .exact wpAny_Name (wpAny_loadName_free I.ok.kind hk hc dg YZ Y7) hd
theorem HG{i j pos}:PE X (.Constant (.int i) j pos) (tC (.int i)):=λ_ _ _ H _ I h=>wpAny_Constant_int ⟨.int i,H,I.tok _,⟨_,rfl⟩,h⟩
theorem Pb{b j pos}:PE X (.Constant (.bool b) j pos) (tC (.bl b)):=λ_ _ _ H _ I h=>Constant_bool ⟨.bl b,H,I,rfl,h⟩
theorem M4{j pos}:PE X (.Constant .none j pos) (tC .non):=λ_ _ _ H _ I h=>Constant_none ⟨.non,H,I,rfl,h⟩
theorem M0{x j pos}:PE X (.Constant (.str x) j pos) (tC (.str x)):=λ_ _ _ H _ I h=>Calls.Constant_str ⟨.str x,H,I.tok _,⟨_,rfl⟩,h⟩
noncomputable def Gl(X:Cx)(x:Str):Prop:=X.env.kindOf x=Z .globalImplicit
theorem Eo(I:Inv X YK L H s)(hg:Gl X x)(hm:X.mg x=Z u)(h:Q u s)(hd:(x==("__debug__":Str))=Ab:=by decide):wpAny (model X.prog X.w) X.A (eval (.Name x pos) X.env) Q E s :=
 Mq I.ok.kind hg (Calls.loadGlobal_global (by rw[I.ok.glob];exact I.mod.glob.keeps I.bk) hm h) hd
theorem Dc(I:Inv X YK L H s)(hg:Gl X x)(hm:X.mg x=U)(hv:A4 x=Z u)(h:Q u s)(hn:x ≠ "__name__":=by decide)(hd:(x==("__debug__":Str))=Ab:=by decide):wpAny (model X.prog X.w) X.A (eval (.Name x pos) X.env) Q E s:=by
 obtain⟨mb,h1,h2⟩:=I.mod.blt;exact Mq I.ok.kind hg (Calls.loadGlobal_builtin (by rw[I.ok.glob];exact I.mod.glob.keeps I.bk) hm (by rw[I.ok.blt];exact h1.keeps I.bk) ((h2 x hn).trans hv) h) hd
theorem Nw(hg:Gl X x)(hm:X.mg x=Z u)(r:RelV v u)(hd:(x==("__debug__":Str))=Ab:=by decide):PE X (.Name x pos) (tC v) :=
 λ_ _ _ H _ I h=>Eo I hg hm ⟨v,H,I,r,h⟩ hd
theorem QX(hg:Gl X x)(hm:X.mg x=U)(hv:A4 x=Z u)(r:RelV v u)(hn:x ≠ "__name__":=by decide)(hd:(x==("__debug__":Str))=Ab:=by decide):PE X (.Name x pos) (tC v) :=
 λ_ _ _ H _ I h=>Dc I hg hm hv ⟨v,H,I,r,h⟩ hn hd
noncomputable def jT(ta tb:TE)(k:Int->Int->Hp->Prop):St->Hp->Prop:=λL H=>ta L H λx H1=>tb L H1 λy H2=>∃i j,x=.int i/\y=.int j/\k i j H2
noncomputable def MF(ta tb:TE):TE:=λL H Q=>jT ta tb (λi j H2=>Q (.int (i+j)) H2) L H
variable{a b:Expr}{ta tb:TE}{pos:Pos}
theorem Rj(ha:PE X a ta)(hb:PE X b tb):PE X (.BinOp a .Add b pos) (MF ta tb):=by intro YK s L H Q I h;refine wpAny_BinOp (l8 ha hb I h λv u s2 x y H2 I2 rx ry q=>?_);obtain⟨i,j,rfl,rfl,q⟩:=q;obtain⟨t,rfl⟩:=rx;obtain⟨t',rfl⟩:=ry;exact add_int ⟨.int _,H2,I2.tok _,⟨_,rfl⟩,q⟩
theorem Kb(b:Expr){op:CmpOp}(h:op≠.In)(h2:op≠.NotIn):Di op b=Ab:=by
 have e1:(op==CmpOp.In)=Ab:=by cases op<;>first|rfl|exact absurd rfl h
 have e2:(op==CmpOp.NotIn)=Ab:=by cases op<;>first|rfl|exact absurd rfl h2
 cases b<;>simp[Di,e1,e2]
noncomputable def tB(t:TE):TT:=λL H Q=>t L H λx H1=>∃c,x=.bl c/\Q c H1
theorem Rp{e:Expr}{t:TE}(h:PE X e t)(he:∀aO,isTrue e X.env aO=(do let v <-aO;standAt e.pos;holding [v] (truthy v)):=by intro _;rfl):PT X e (tB t):=by intro YK s L H Q I hw;refine isTrue_plain (Aw (h YK s L H _ I hw) λv s1 x H1 I1 r1 q1=>?_) (he _);obtain⟨d,rfl,q⟩:=q1;cases r1;exact EG ⟨H1,I1,q⟩
variable{tA tB':TT}{rest:List Expr}
noncomputable def b7(t u:TT):TT:=λL H Q=>t L H λc H1=>if c=Y then Q Y H1 else u L H1 Q
noncomputable def ZY(t:TT):TT:=λL H Q=>t L H λc H1=>Q (!c) H1
theorem Qq(ha:PT X a tA):PW X (.BoolOp .Or [a] pos) tA:=by
 intro wh YK s L H Q I h;refine isTrue_or (Y6 (ha YK s L H Q I h) λc s1 e=>?_);cases c with
 |false=>exact isTrue_or_nil e
 |true=>exact e
theorem MO(ha:PT X a tA)(hb:PW X (.BoolOp .Or (b::rest) pos) tB'):PW X (.BoolOp .Or (a::b::rest) pos) (b7 tA tB'):=by
 intro wh YK s L H Q I h;refine isTrue_or (Y6 (ha YK s L H _ I h) λc s1 ⟨H1,I1,q1⟩=>?_);cases c with
 |true=>exact⟨H1,I1,q1⟩
 |false=>exact hb wh YK s1 L H1 Q I1 q1
theorem Pt(ha:PT X a tA):PT X (.UnaryOp .Not a pos) (ZY tA):=by intro YK s L H Q I h;exact isTrue_not (Y6 (ha YK s L H (λc H1=>Q (!c) H1) I h) λ_ _ ⟨H',I',q'⟩=>⟨H',I',q'⟩)
noncomputable def O2(ta tb:TE):TE:=λL H Q=>ta L H λx H1=>∃c,x=.bl c/\if c=Y then tb L H1 Q else Q (.bl Ab) H1
noncomputable def PF(ta tb:TE):TE:=λL H Q=>ta L H λx H1=>∃c,x=.bl c/\if c=Y then Q (.bl Y) H1 else tb L H1 Q
theorem Qb{op}{t:TE}(h:PE X a t):PE X (.BoolOp op [a] pos) t:=λYK s L H Q I hw=>BoolOp_one (h YK s L H Q I hw)
theorem MY(ha:PE X a ta)(hb:PE X (.BoolOp .And (b::rest) pos) tb):PE X (.BoolOp .And (a::b::rest) pos) (O2 ta tb):=by
 intro YK s L H Q I h;refine BoolOp_and (Aw (ha YK s L H _ I h) λv s1 x H1 I1 r1 q1=>?_);obtain⟨c,rfl,q1⟩:=q1;cases r1;refine EG ?_;cases c with
 |true=>exact hb YK s1 L H1 Q I1 q1
 |false=>exact⟨.bl Ab,H1,I1,rfl,q1⟩
theorem MN(ha:PE X a ta)(hb:PE X (.BoolOp .Or (b::rest) pos) tb):PE X (.BoolOp .Or (a::b::rest) pos) (PF ta tb):=by
 intro YK s L H Q I h;refine BoolOp_or (Aw (ha YK s L H _ I h) λv s1 x H1 I1 r1 q1=>?_);obtain⟨c,rfl,q1⟩:=q1;cases r1;refine EG ?_;cases c with
 |false=>exact hb YK s1 L H1 Q I1 q1
 |true=>exact⟨.bl Y,H1,I1,rfl,q1⟩
noncomputable def i4(t:TT)(ta tb:TE):TE:=λL H Q=>t L H λc H1=>if c=Y then ta L H1 Q else tb L H1 Q
theorem RS{c:Expr}(hc:PT X c tA)(ha:PE X a ta)(hb:PE X b tb):PE X (.IfExp c a b pos) (i4 tA ta tb):=by
 intro YK s L H Q I h;refine wpAny_IfExp (Y6 (hc YK s L H _ I h) λd s1 ⟨H1,I1,q1⟩=>?_);cases d with
 |true=>exact ha YK s1 L H1 Q I1 q1
 |false=>exact hb YK s1 L H1 Q I1 q1
end
end
section
variable{X:Cx}{c tg:Expr}{H:Hp}{YK:mG}{es:List Expr}{i:Nat}{P:Program}{K:Ad}{s:Shared}{L:St}{x:Str}{u:Value}{E:mD}{w:World}
noncomputable def au(K:Ad)(H:Hp)(a:Addr)(xs:List V):Prop :=
 Rd H a (.lst xs) \/
  ∃(o:Obj) (YL:Array Value) (n:Nat),K.lookup a=Z o/\o.cls=.type "list"/\o.dict=U/\o.data=.seq YL n/\YL.size<=sizeLine/\YN xs YL.toList
noncomputable def aN(K:Ad)(H:Hp)(a:Addr)(xs:List V):Prop :=
 Rd H a (.tup xs) \/
  ∃(o:Obj) (YL:Array Value) (n:Nat),K.lookup a=Z o/\o.cls=.type "tuple"/\o.data=.seq YL n/\YL.size<=sizeLine/\YN xs YL.toList
noncomputable def Pu:Value->Option V
 | .none=>Z .non
 | .bool b=>Z (.bl b)
 | .int i _=>Z (.int i)
 | .str x _=>Z (.str x)
 | .bytes b _=>Z (.byt b)
 | .float b _=>Z (.flt b)
 | .ref a=>Z (.ref a)
 | .type n=>Z (.ty n)
 |_=>U
theorem RelV.abs{x:V}(r:RelV x u):Pu u=Z x:=by
 cases x with
 |non=>cases r;rfl
 |bl _=>cases r;rfl
 |int _=>obtain⟨t,rfl⟩:=r;rfl
 |str _=>obtain⟨t,rfl⟩:=r;rfl
 |byt _=>obtain⟨t,rfl⟩:=r;rfl
 |flt _=>obtain⟨t,rfl⟩:=r;rfl
 |ref _=>cases r;rfl
 |ty _=>cases r;rfl
theorem RelV.inj{x y:V}{u:Value}(r:RelV x u)(q:RelV y u):x=y:=B4 (r.abs.symm.trans q.abs)
theorem YN.inj:∀{xs ys:List V} {us:mH},YN xs us->YN ys us->xs=ys
 |_,_,_,.nil,.nil=>rfl
 |_,_,_,.cons r t,.cons r' t'=>by rw[r.inj r',YN.inj t t']
section
variable{X:Cx}{YK:mG}{L:St}{H:Hp}{s:Shared}{a:Addr}{xs ys:List V}
theorem au.of(h:H a=Z (.lst xs)):au K H a xs:=.inl (.inl h)
theorem aN.of(h:H a=Z (.tup xs)):aN K H a xs:=.inl (.inl h)
theorem Inv.list(I:Inv X YK L H s)(h:au X.K H a xs):∃YL:mH,YN xs YL/\PlainL s.heap a YL.toArray/\xs.length<=sizeLine:=by
 rcases h with h|⟨o,YL,n,hk,hc,hd,hs,hz,r⟩
 .obtain⟨z,YL,n,r,e⟩:=h.ok I.hok
  exact⟨YL,r,⟨_,n,e,rfl,rfl,rfl⟩,z⟩
 .refine⟨YL.toList,r,⟨o,n,I.kIn a o hk,hc,hd,by simpa using hs⟩,?_⟩
  have e:=r.length;simp only[Co]at e;omega
theorem Inv.tuple(I:Inv X YK L H s)(h:aN X.K H a xs):∃YL:mH,YN xs YL/\IsTup s.heap a YL.toArray/\xs.length<=sizeLine:=by
 rcases h with h|⟨o,YL,n,hk,hc,hs,hz,r⟩
 .obtain⟨z,YL,r,p⟩:=h.ok I.hok
  exact⟨YL,r,p,z⟩
 .refine⟨YL.toList,r,⟨o,I.kIn a o hk,hc,n,by simpa using hs⟩,?_⟩
  have e:=r.length;simp only[Co]at e;omega
theorem Inv.list_inj(I:Inv X YK L H s)(h:au X.K H a xs)(h':au X.K H a ys):xs=ys:=by
 obtain⟨YL,r,⟨o,n,e,_,_,d⟩,_⟩:=I.list h;obtain⟨its',r',⟨o',n',e',_,_,d'⟩,_⟩:=I.list h';rw[e]at e';cases e';rw[d]at d';injection d' with d1 _
 have:YL=its':=by simpa using congrArg Array.toList d1
 subst this;exact r.inj r'
theorem Inv.tuple_inj(I:Inv X YK L H s)(h:aN X.K H a xs)(h':aN X.K H a ys):xs=ys:=by
 obtain⟨YL,r,⟨o,e,_,n,d⟩,_⟩:=I.tuple h;obtain⟨its',r',⟨o',e',_,n',d'⟩,_⟩:=I.tuple h';rw[e]at e';cases e';rw[d]at d';injection d' with d1 _
 have:YL=its':=by simpa using congrArg Array.toList d1
 subst this;exact r.inj r'
end
noncomputable abbrev Cx.wish(X:Cx)(E:mD):Cx:={X with xe:=E}
noncomputable abbrev Cx.nox(X:Cx):Cx:=X.wish λ_ _=>False
theorem Cx.Ok.wish{X:Cx}(ok:X.Ok)(E:mD):(X.wish E).Ok :=
 ⟨ok.mod,ok.kind,ok.glob,ok.blt,ok.above,ok.inj,ok.has,ok.cab,ok.hd,ok.frames,ok.stk,ok.exf,ok.bs,ok.bsz,ok.noex,ok.exfs,ok.funs,ok.frf⟩
theorem Cx.Ok.unwish(ok:(X.wish E).Ok):X.Ok :=
 ⟨ok.mod,ok.kind,ok.glob,ok.blt,ok.above,ok.inj,ok.has,ok.cab,ok.hd,ok.frames,ok.stk,ok.exf,ok.bs,ok.bsz,ok.noex,ok.exfs,ok.funs,ok.frf⟩
section
variable{X:Cx}{YK:mG}{L:St}{H:Hp}{s:Shared}{E:mD}
theorem Inv.wish(I:Inv X YK L H s)(E:mD):Inv (X.wish E) YK L H s:=⟨I.ok.wish E,I.os,I.bare,I.base,I.loc,I.cell,I.free,I.freeC,I.pin,I.hok,I.len⟩
theorem Inv.unwish(I:Inv (X.wish E) YK L H s):Inv X YK L H s:=⟨I.ok.unwish,I.os,I.bare,I.base,I.loc,I.cell,I.free,I.freeC,I.pin,I.hok,I.len⟩
theorem SP.unwish{D:bZ}{f:Flow}{s':Shared}(h:SP (X.wish E) YK D f s'):SP X YK D f s':=by
 cases f with
 |next=>obtain⟨σ',H',I,q⟩:=h;exact⟨σ',H',I.unwish,q⟩
 |brk=>obtain⟨σ',H',I,q⟩:=h;exact⟨σ',H',I.unwish,q⟩
 |cont=>obtain⟨σ',H',I,q⟩:=h;exact⟨σ',H',I.unwish,q⟩
 |ret u=>obtain⟨v,σ',H',I,r,q⟩:=h;exact⟨v,σ',H',I.unwish,r,q⟩
theorem aA.nox{st:List Stmt}{t:TS}(h:aA X.nox st t):aA X st t:=λYK s L H D I hw=>Ax (h YK s L H D (I.wish _) hw) (λ_ _ q=>q.unwish) λ_ _ z=>AX z
end
section
variable{X:Cx}{st:Stmt}{rest:List Stmt}{t u:TS}{e:Expr}{te:TE}{pos:Pos}
noncomputable def O8:TS:=λD L H=>D.nx L H
noncomputable def E3 (t u:TS):TS:=λD L H=>t {D with nx:=u D} L H
theorem QT:aA X [] O8:=λ_ _ L H _ I h=>Hg ⟨L,H,I,h⟩
theorem B1(h1:PS X st t)(h2:aA X rest u):aA X (st::rest) (E3 t u):=by
 intro YK s L H D I h;refine IU (Y6 (h1 YK s L H {D with nx:=u D} I h) λf s1 q=>?_);cases f with
 |next=>obtain⟨σ',H',I',q⟩:=q;exact h2 YK s1 σ' H' D I' q
 |ret v=>exact q
 |brk=>exact q
 |cont=>exact q
theorem Gw(h1:PS X st t):aA X [st] t:=by
 intro YK s L H D I h;refine IU (Y6 (h1 YK s L H D I h) λf s1 q=>?_);cases f with
 |next=>exact Hg q
 |ret v=>exact q
 |brk=>exact q
 |cont=>exact q
theorem Inv.quiet(I:Inv X YK L H s):interactive X.env=Ab:=by simp[interactive,I.ok.kind]
noncomputable def MU(te:TE):TS:=λD L H=>te L H λ_ H1=>D.nx L H1
theorem Fd(he:PE X e te)(hs:Bj e U pos.line X.env=pure Ab:=by rfl):PS X (.Expr e pos) (MU te):=by intro YK s L H D I h;exact wpAny_Expr_any (Aw (he YK s L H _ I h) λv s1 x H1 I1 r1 q1=>⟨L,H1,I1,q1⟩) I.quiet hs
noncomputable def PV(te:TE):TS:=λD L H=>te L H D.rt
theorem HJ(he:PE X e te):PS X (.Return (Z e) pos) (PV te):=by intro YK s L H D I h;exact wpAny_Return_some (Aw (he YK s L H _ I h) λv s1 x H1 I1 r1 q1=>⟨x,L,H1,I1,r1,q1⟩)
noncomputable def PJ(c:TT)(t u:TS):TS:=λD L H=>c L H λb H1=>if b=Y then t D L H1 else u D L H1
theorem HD{a b:List Stmt}{tc:TT}(hc:PT X c tc)(ha:aA X a t)(hb:aA X b u):PS X (.If c a b pos) (PJ tc t u):=by
 intro YK s L H D I h;refine wpAny_If (Y6 (hc YK s L H _ I h) λd s1 ⟨H1,I1,q1⟩=>?_);cases d with
 |true=>exact ha YK s1 L H1 D I1 q1
 |false=>exact hb YK s1 L H1 D I1 q1
noncomputable def P7:TS:=λ_ _ _=>False
theorem Ep{bU:List Stmt}:aA X bU P7:=λ_ _ _ _ _ _ h=>h.elim
end
noncomputable abbrev TG:=V->St->Hp->(St->Hp->Prop)->Prop
noncomputable abbrev dA:=List V->St->Hp->(St->Hp->Prop)->Prop
noncomputable def PG(X:Cx)(aJ:Expr)(t:TG):Prop :=
 ∀(YK:mG) (s:Shared) (L:St) (H:Hp) (v:V) (u:Value) (Q:St->Hp->Prop),Inv X YK L H s->RelV v u->t v L H Q ->
  wpAny (model X.prog X.w) X.A (assign aJ X.env u) (λ_ s'=>∃σ' H',Inv X YK σ' H' s'/\Q σ' H') X.xe s
noncomputable def fU(X:Cx)(ts:List Expr)(t:dA):Prop :=
 ∀(YK:mG) (s:Shared) (L:St) (H:Hp) (vs:List V) (us:mH) (Q:St->Hp->Prop),Inv X YK L H s->YN vs us->t vs L H Q ->
  wpAny (model X.prog X.w) X.A (assignInOrder ((Ft ts X.env).map (·.2)) us) (λ_ s'=>∃σ' H',Inv X YK σ' H' s'/\Q σ' H') X.xe s
section
variable{X:Cx}{pos:Pos}
noncomputable def MS(i:Nat):TG:=λv L H Q=>Q (L.set i (Z v)) H
theorem HQ(hN:X.N.Nodup)(hi:X.N[i]?=Z x)(hx:Loc X.env.scope x)(hf:X.fn x=Y\/X.env.scope.names.lookup x=Z .local:=by first|exact .inl rfl|exact .inr rfl|assumption):PG X (.Name x pos) (MS i):=by intro YK s L H v u Q I r h;exact wpAny_assign_Name (Kc I hN hi hx r (λs' I'=>⟨_,H,I',h⟩) hf)
noncomputable def PM:dA:=λvs L H Q=>vs=[]/\Q L H
noncomputable def Pn(t:TG)(u:dA):dA:=λvs L H Q=>∃v r,vs=v::r/\t v L H λσ' H'=>u r σ' H' Q
theorem QS:fU X [] PM:=by intro YK s L H vs us Q I r h;obtain⟨e,h⟩:=h;subst e;cases r;exact assignInOrder_nil ⟨L,H,I,h⟩
theorem N1{e:Expr}{t:TG}{u:dA}(h1:PG X e t)(h2:fU X es u)(hs:(Ft (e::es) X.env).map (·.2)=assign e X.env::(Ft es X.env).map (·.2):=by rfl):fU X (e::es) (Pn t u):=by
 intro YK s L H vs us Q I r h;obtain⟨v,vr,e1,h⟩:=h;subst e1;cases r with
 |cons r rr=>rw[hs];refine assignInOrder_cons (Y6 (h1 YK s L H _ _ _ I r h) λ_ s1 ⟨σ1,H1,I1,q1⟩=>?_);exact h2 YK s1 σ1 H1 _ _ Q I1 rr q1
noncomputable def Pz(K:Ad)(n:Nat)(t:dA):TG:=λv L H Q=>∃a xs,v=.ref a/\aN K H a xs/\xs.length=n/\t xs L H Q
theorem QO{k:Nat}{t:dA}{n:Nat}(hc:X.calm=Y)(h:fU X es t)(hn:(Ft es X.env).length=n:=by rfl)(bu:(Ft es X.env).findIdx? (·.1)=U:=by rfl):PG X (.Tuple es k pos) (Pz X.K n t):=by
 intro YK s L H v u Q I r hw;obtain⟨a,xs,e1,hq,hl,hw⟩:=hw;subst e1;cases r;obtain⟨YL,rv,ht,hz⟩:=I.tuple hq;refine assign_Tuple_tuple (I.ok.hd hc) ht (by simp[hn,<-hl,rv.length]) bu λh' hx=>?_;have I1:Inv X YK L H {s with heap:=h'}:=I.kept (t':=s.toks) λb o e=>hx b o (Am (Ai e)) e;exact h YK _ L H xs _ Q I1 (by simpa using rv) hw
noncomputable def Px(te:TE)(g:TG):TS:=λD L H=>te L H λx H1=>g x L H1 D.nx
theorem E8{e:Expr}{te:TE}{pos':Pos}(hN:X.N.Nodup)(hi:X.N[i]?=Z x)(hx:Loc X.env.scope x)(he:PE X e te)(hs:Bj e (Z (.Name x pos')) pos.line X.env=pure Ab:=by rfl)(hf:X.fn x=Y\/X.env.scope.names.lookup x=Z .local:=by first|exact .inl rfl|exact .inr rfl|assumption):PS X (.Assign [.Name x pos'] e pos) (Px te (MS i)):=by
 intro YK s L H D I h;refine wpAny_Assign_Name (Aw (he YK s L H _ I h) λv s1 y H1 I1 r1 q1=>?_) hs;exact Kc I1 hN hi hx r1 (λs2 I2=>⟨_,H1,I2,q1⟩) hf
end
section
variable{X:Cx}{pos:Pos}
noncomputable def RH(c:TT)(tb:TS):TS:=λD L H=>∃W:Nat->St->Hp->Prop,(∃m,W m L H)/\∀m L H,W m L H ->
 c L H λb H1=>if b=Y then ∃N:St->Hp->Prop,(∀σ' H',N σ' H'->∃m',m'<m/\W m' σ' H')/\tb {D with nx:=N,ct:=N,bk:=D.nx} L H1 else D.nx L H1
theorem S6{body:List Stmt}{tc:TT}{tb:TS}(hp:PassesOwn (model X.prog X.w) X.A X.env X.xe)(hc:PT X c tc)(hb:aA X body tb):PS X (.While c body [] pos) (RH tc tb):=by
 intro YK s L H D I h;obtain⟨W,⟨m0,w0⟩,cp⟩:=h;refine wpAny_While (codeAny_whileLoop (λn s'=>∃σ' H',Inv X YK σ' H' s'/\W n σ' H') ?_ m0 ⟨L,H,I,w0⟩)
 rintro n s1 ⟨σ1,H1,I1,w1⟩
 refine DW hp (Y6 (hc YK s1 σ1 H1 _ I1 (cp n σ1 H1 w1)) λb s2 ⟨H2,I2,q2⟩=>?_);cases b with
 |true =>
  obtain⟨N,hN,q2⟩:=q2;rw[if_pos rfl];refine DW hp (Y6 (hb YK s2 σ1 H2 _ I2 q2) λf s3 q3=>?_);cases f with
  |next=>obtain⟨σ3,H3,I3,n3⟩:=q3;obtain⟨m',hm,w3⟩:=hN σ3 H3 n3;exact⟨m',hm,σ3,H3,I3,w3⟩
  |cont=>obtain⟨σ3,H3,I3,n3⟩:=q3;obtain⟨m',hm,w3⟩:=hN σ3 H3 n3;exact⟨m',hm,σ3,H3,I3,w3⟩
  |brk=>exact q3
  |ret v=>exact q3
 |false=>rw[if_neg Bw];exact Hg ⟨σ1,H2,I2,q2⟩
end
structure It where
 go:Nat->Hp->Prop
 yld:Nat->Hp->V->Hp->Prop
 stop:Nat->Hp->Prop
noncomputable def BZ(X:Cx)(YK:mG)(H:Hp)(b:Addr):Prop :=
 H b=U/\b≠X.env.locals/\b∉X.fs/\(b∈X.ex\/X.s₀.heap.objs.size<=b)/\(∀x c,X.env.cells.lookup x=Z c->c≠b)/\∀p∈X.pn++YK,p.1≠b
theorem Inv.fpOk{H':Hp}{b:Addr}(I:Inv X YK L H s)(hb:s.heap.objs.size<=b)(hn:H' b=U):BZ X YK H' b:=by
 refine⟨hn,Cj (AW I.lt hb),I.nofs hb,.inr (Bi I.sz hb),λx c e z=>?_,λp hp z=>?_⟩
 .obtain⟨v,q⟩:=I.cell x c e
  exact absurd (AW q.lt (by rw[z];exact hb)) (DZ _)
 .exact absurd (AW (Ai (I.pin p hp).1) (by rw[z];exact hb)) (DZ _)
structure bY(P:Program)(w:World)(K:Ad)(tg:Expr)(J:It)(fp:List Addr)(it:Addr)(tn:Nat->Heap->Prop):Prop where
 mem:it∈fp
 obj:∀i h,tn i h->∀b∈fp,∃o,h.get? b=Z o/\∀v,o.data≠.cell v
 keep:∀i h h',tn i h->(∀b∈fp,∀o,h.get? b=Z o->h'.get? b=Z o)->tn i h'
 item:∀(X:Cx),X.prog=P->X.w=w->X.K=K->X.calm=Y->∀(i:Nat) (YK:mG) (s:Shared) (L:St) (H:Hp) (E:mD),Inv X YK L H s->(∀b∈fp,BZ X YK H b)->tn i s.heap->J.go i H ->
  wpAny (model P w) X.A (pyNext (.ref it)) (λr s1=>∃u,r=Z u /\
   wpAny (model P w) X.A (Hf tg (.ref it) u) (λ_ s2=>∃x H',Inv X YK L H' s2/\RelV x u/\J.yld i H x H'/\tn (i+1) s2.heap/\∀b∈fp,H' b=U) E s1) E s
 done:∀(X:Cx),X.prog=P->X.w=w->X.K=K->X.calm=Y->∀(i:Nat) (YK:mG) (s:Shared) (L:St) (H:Hp) (E:mD),Inv X YK L H s->(∀b∈fp,BZ X YK H b)->tn i s.heap->J.stop i H ->
  wpAny (model P w) X.A (pyNext (.ref it)) (λr s1=>r=U/\Inv X YK L H s1) E s
 self:∀(A:Around) (i:Nat) (s:Shared) (Q:mD) (E:mD),tn i s.heap->Q (.ref it) s->wpAny (model P w) A (pyIter (.ref it)) Q E s
noncomputable abbrev TI:=St->Hp->(It->Hp->Prop)->Prop
noncomputable def jK(X:Cx)(YK:mG)(L:St)(tg:Expr)(R:It->Hp->Prop)(gq:Value)(s2:Shared):Prop :=
 ∃(it:Addr) (fp:List Addr) (tn:Nat->Heap->Prop) (J:It) (H':Hp),gq=.ref it/\Inv X YK L H' s2/\bY X.prog X.w X.K tg J fp it tn/\tn 0 s2.heap/\(∀b∈fp,BZ X YK H' b)/\R J H'
noncomputable def PI(X:Cx)(tg iter:Expr)(wi:TI):Prop :=
 ∀(YK:mG) (s:Shared) (L:St) (H:Hp) (R:It->Hp->Prop),Inv X YK L H s->wi L H R ->
  wpAny (model X.prog X.w) X.A (eval iter X.env) (λv s1=>wpAny (model X.prog X.w) X.A (pyIter v) (jK X YK L tg R) X.xe s1) X.xe s
theorem JM{M:Model}{A:Around}{it:Addr}{o:Obj}{n:String}{vs:Array Value}{Q:Unit->Shared->Prop}(ho:s.heap.get? it=Z o)(hc:o.cls=.type n)(hd:o.data=.fields vs)(hn:["enumerate","zip","dict_itemiterator","dict_reverseitemiterator","odict_iterator","itertools.zip_longest","itertools.pairwise"].contains n=Ab)(hQ:Q () s):wpAny M A (Hf tg (.ref it) u) Q E s:=by
  unfold Hf
  cases tg<;>first
    | exact Ag hQ
    | (cases u<;>first
        | exact Ag hQ
        | (refine Ac (wpAny_load ho ?_)
           rw [hc, hd]
           show wpAny M A (if (["enumerate", "zip", "dict_itemiterator", "dict_reverseitemiterator", "odict_iterator", "itertools.zip_longest", "itertools.pairwise"].contains n && vs[0]? == Z (rawInt _)) = Y then _ else _) Q E s
           rw [if_neg (by intro h; rw [hn, Bool.false_and] at h; cases h)]
           exact Ag hQ))
noncomputable def il(K:Ad)(a:Addr):It :=
 ⟨λi H=>∃xs x,au K H a xs/\xs[i]?=Z x,λi H x H'=>H'=H/\∀xs,au K H a xs->xs[i]?=Z x,λi H=>∃xs,au K H a xs/\xs.length<=i⟩
noncomputable def fV(K:Ad)(a:Addr):It :=
 ⟨λi H=>∃xs x,aN K H a xs/\xs[i]?=Z x,λi H x H'=>H'=H/\∀xs,aN K H a xs->xs[i]?=Z x,λi H=>∃xs,aN K H a xs/\xs.length<=i⟩
noncomputable def fW(lo:Int)(n:Nat):It:=⟨λi _=>i<n,λi H x H'=>H'=H/\x=.int (lo+i),λi _=>n<=i⟩
theorem TH(a it:Addr):bY P w K tg (il K a) [it] it (λi h=>h.IsListIter it a i) where
 mem:=by simp
 obj:=λi h st b hb=>by
  have e:b=it:=by simpa using hb
  subst e;obtain⟨o,e,c,d⟩:=st;exact⟨o,e,λv z=>by rw[d]at z;cases z⟩
 keep:=λi h h' st k=>st.at λo e=>k it (by simp) o e
 item:=by intro X hP hw hK hc i YK s L H E I hf st hg;subst hP hw hK;obtain⟨xs,x,hq,hx⟩:=hg;obtain⟨YL,rv,p,hz⟩:=I.list hq;obtain⟨u,hu,ru⟩:=rv.get hx;obtain⟨f0,f1,f2,f3,f4,f5⟩:=hf it (by simp);refine wpAny_pyNext_list_item st p.isList (x:=u) (by simpa using hu) λh' st' sb=>?_;have I1:Inv X YK L H {s with heap:=h'}:=I.turned (t':=s.toks) (λb o hb e=>(sb.2 b hb).trans e) f0 f1 f3 f4 f5;obtain⟨o,e,c,d⟩:=id st';exact⟨u,rfl,JM (s:={s with heap:=h'}) e c d (by decide) ⟨x,H,I1,ru,⟨rfl,λys hy=>by rw[I.list_inj hy hq];exact hx⟩,st',λb hb=>(hf b hb).1⟩⟩
 done:=by intro X hP hw hK hc i YK s L H E I hf st hg;subst hP hw hK;obtain⟨xs,hq,hx⟩:=hg;obtain⟨YL,rv,p,hz⟩:=I.list hq;obtain⟨f0,f1,f2,f3,f4,f5⟩:=hf it (by simp);have hl:=rv.length;exact wpAny_pyNext_list_end (I.ok.hd hc) st p.isList (by simp;omega) λh' eb=>⟨rfl,I.turned (t':=s.toks) (λb o hb e=>eb b o hb e) f0 f1 f3 f4 f5⟩
 self:=λ_ _ _ _ _ st h=>wpAny_pyIter_listiter st h
theorem U0(a it:Addr):bY P w K tg (fV K a) [it] it (λi h=>h.IsTupleIter it a i) where
 mem:=by simp
 obj:=λi h st b hb=>by
  have e:b=it:=by simpa using hb
  subst e;obtain⟨o,e,c,d⟩:=st;exact⟨o,e,λv z=>by rw[d]at z;cases z⟩
 keep:=λi h h' st k=>st.at λo e=>k it (by simp) o e
 item:=by intro X hP hw hK hc i YK s L H E I hf st hg;subst hP hw hK;obtain⟨xs,x,hq,hx⟩:=hg;obtain⟨YL,rv,p,hz⟩:=I.tuple hq;obtain⟨u,hu,ru⟩:=rv.get hx;obtain⟨f0,f1,f2,f3,f4,f5⟩:=hf it (by simp);refine wpAny_pyNext_tuple_item st (show s.heap.IsTuple a YL.toArray from p) (x:=u) (by simpa using hu) λh' st' sb=>?_;have I1:Inv X YK L H {s with heap:=h'}:=I.turned (t':=s.toks) (λb o hb e=>(sb.2 b hb).trans e) f0 f1 f3 f4 f5;obtain⟨o,e,c,d⟩:=id st';exact⟨u,rfl,JM (s:={s with heap:=h'}) e c d (by decide) ⟨x,H,I1,ru,⟨rfl,λys hy=>by rw[I.tuple_inj hy hq];exact hx⟩,st',λb hb=>(hf b hb).1⟩⟩
 done:=by intro X hP hw hK hc i YK s L H E I hf st hg;subst hP hw hK;obtain⟨xs,hq,hx⟩:=hg;obtain⟨YL,rv,p,hz⟩:=I.tuple hq;obtain⟨f0,f1,f2,f3,f4,f5⟩:=hf it (by simp);have hl:=rv.length;exact wpAny_pyNext_tuple_end (I.ok.hd hc) st (show s.heap.IsTuple a YL.toArray from p) (by simp;omega) λh' eb=>⟨rfl,I.turned (t':=s.toks) (λb o hb e=>eb b o hb e) f0 f1 f3 f4 f5⟩
 self:=λ_ _ _ _ _ st h=>wpAny_pyIter_tupleiter st h
theorem UO(it:Addr)(lo:Int)(n:Nat):bY P w K tg (fW lo n) [it] it (λi h=>IsRangeIter h it (lo+(i:Nat)*1) ((n:Int)-(i:Nat)) 1) where
 mem:=by simp
 obj:=λi h st b hb=>by
  have e:b=it:=by simpa using hb
  subst e;exact⟨_,st,λv z=>by have z':Data.fields _=Data.cell v:=z;cases z'⟩
 keep:=λi h h' st k=>k it (by simp) _ st
 item:=by intro X hP hw hK hc i YK s L H E I hf st hg;subst hP hw hK;obtain⟨f0,f1,f2,f3,f4,f5⟩:=hf it (by simp);have W:=Walks.range (prog:=X.prog) (w:=X.w) (I.ok.hd hc) it lo 1 n;refine W.item i s _ _ hg st λv h' tk hv st' kk=>?_;obtain⟨t,rfl⟩:=hv;have I1:Inv X YK L H {s with heap:=h',toks:=tk}:=I.turned (λb o hb e=>kk b o (by simpa using hb) e) f0 f1 f3 f4 f5;refine⟨_,rfl,JM (s:={s with heap:=h',toks:=tk}) (n:="range_iterator") st' rfl rfl (by decide) ⟨.int (lo+i),H,I1,⟨t,?_⟩,⟨rfl,rfl⟩,st',λb hb=>(hf b hb).1⟩⟩;rw[Int.mul_one]
 done:=by intro X hP hw hK hc i YK s L H E I hf st hg;subst hP hw hK;obtain⟨f0,f1,f2,f3,f4,f5⟩:=hf it (by simp);exact wpAny_pyNext_range_end (I.ok.hd hc) st (by have:n<=i:=hg;omega) λh' eb=>⟨rfl,I.turned (t':=s.toks) (λb o hb e=>eb b o hb e) f0 f1 f3 f4 f5⟩
 self:=λ_ _ _ _ _ st h=>wpAny_pyIter_rangeiter st h
end
section
variable{h:Heap}{H:Hp}{YK:mG}{fp:List Addr}{pos:Pos}{s:Shared}{L:St}
section
variable{X:Cx}{tg:Expr}
theorem Sx{R:It->Hp->Prop}{E:mD}{lo hi:Int}{t u v:Tok}{tk:Nat}(I:Inv X YK L H s)(h1:-(2 ^ 62)<=lo)(h2:lo<2 ^ 62)(h3:-(2 ^ 62)<=hi)(h4:hi<2 ^ 62)(q:R (fW lo (hi-lo).toNat) H):wpAny (model X.prog X.w) X.A (pyIter (.ref s.heap.objs.size)) (jK X YK L tg R) E {s with heap:=s.heap.push {cls:=.type "range",data:=.fields #[.int lo t,.int hi u,.int 1 v]},toks:=tk}:=by
 refine wpAny_pyIter_range (IsRange.new ..) (small_one h1 h2 h3 h4) ?_;have I1:Inv X YK L H {s with heap:=s.heap.push {cls:=.type "range",data:=.fields #[.int lo t,.int hi u,.int 1 v]},toks:=tk}:=I.kept λb o e=>Aj _ e;refine⟨(s.heap.push {cls:=.type "range",data:=.fields #[.int lo t,.int hi u,.int 1 v]}).objs.size,[(s.heap.push {cls:=.type "range",data:=.fields #[.int lo t,.int hi u,.int 1 v]}).objs.size],_,_,H,rfl,
  I1.kept (t':=tk) λb o e=>Aj _ e,UO _ lo (hi-lo).toNat,?_,λb hb=>?_,q⟩
 .have e1:lo+((0:Nat):Int)*1=lo:=by simp
  have e2:(((hi-lo).toNat:Nat):Int)-((0:Nat):Int)=Builtin.Range.rangeSize lo hi 1:=by rw[rangeSize_one];split<;>omega
  show IsRangeIter _ _ (lo+((0:Nat):Int)*1) ((((hi-lo).toNat:Nat):Int)-((0:Nat):Int)) 1;rw[e1,e2];exact Az _ rfl
 .have e:b=(s.heap.push {cls:=.type "range",data:=.fields #[.int lo t,.int hi u,.int 1 v]}).objs.size:=by simpa using hb
  subst e;exact I1.fpOk (Al _) (I1.hok.fresh (Al _))
noncomputable def HR(ta:TA):TI:=λL H R=>ta L H λvs H1=>∃j:Int,vs=[.int j]/\-(2 ^ 62)<=j/\j<2 ^ 62/\R (fW 0 j.toNat) H1
theorem Ut{a:Expr}{ta:TA}{p:Pos}(hg:Gl X "range")(hm:X.mg "range"=U)(ha:PA X [a] ta)(hs:Ae [a] X.env=[(Ab,eval a X.env)]:=by rfl):PI X tg (.Call (.Name "range" p) [a] [] pos) (HR ta):=by
 intro YK s L H R I h;refine Call_ (Dc I hg hm boot_range (D7 (Dx (ha pos YK s L H _ I h) λus s1 vs H1 I1 r1 q1=>?_) hs rfl));obtain⟨j,e,q1,q2,q⟩:=q1;subst e;cases r1 with
 |cons r rr=>cases rr;obtain⟨t,rfl⟩:=r;exact call_range_1 (Sx I1 (by omega) (by omega) q1 q2 (by simpa using q))
noncomputable def PX(wi:TI)(g:TG)(tb:TS):TS:=λD L H=>wi L H λJ H1=>∃W:Nat->Nat->St->Hp->Prop,(∃m,W 0 m L H1)/\∀i m L H,W i m L H ->
 (J.stop i H/\D.nx L H)\/(J.go i H/\∃N:St->Hp->Prop,(∀σ' H',N σ' H'->∃m',m'<m/\W (i+1) m' σ' H')/\∀x H',J.yld i H x H'->g x L H' λσ2 H2=>tb {D with nx:=N,ct:=N,bk:=D.nx} σ2 H2)
noncomputable def Gi(fp:List Addr)(h:Heap):mG:=fp.filterMap λb=>(h.get? b).map λo=>(b,o)
theorem Ir{b:Addr}{o:Obj}(hb:b∈fp)(e:h.get? b=Z o):(b,o)∈Gi fp h:=Hv.mpr ⟨b,hb,by rw[e];rfl⟩
theorem Uo{p:Addr×Obj}(hp:p∈Gi fp h):p.1∈fp/\h.get? p.1=Z p.2:=by
 obtain⟨b,hb,e⟩:=Hv.mp hp;cases q:h.get? b with
 |none=>rw[q]at e;cases e
 |some o=>rw[q]at e;have e':(b,o)=p:=B4 e;subst e';exact⟨hb,q⟩
theorem Inv.pinned(I:Inv X YK L H s)(hf:∀b∈fp,BZ X YK H b)(ho:∀b∈fp,∃o,s.heap.get? b=Z o/\∀v,o.data≠.cell v):Inv X (YK++Gi fp s.heap) L H s :=
 I.pins_of λp hp=>(EN.mp hp).elim (λz=>I.pin p (Cq _ z)) λz=>by obtain⟨hb,e⟩:=Uo z;obtain⟨f0,f1,f2,_⟩:=hf p.1 hb;obtain⟨o,e',d⟩:=ho p.1 hb;rw[e]at e';cases e';exact⟨e,f0,f1,f2,d⟩
theorem Inv.unpinned{pl:mG}(I:Inv X (YK++pl) L H s):Inv X YK L H s:=I.pins_of λp hp=>I.pin p (Cq _ (Jw _ hp))
theorem Rl{iter:Expr}{body:List Stmt}{wi:TI}{g:TG}{tb:TS}(hp:PassesOwn (model X.prog X.w) X.A X.env X.xe)(hc:X.calm=Y)(hi:PI X tg iter wi)(hg:PG X tg g)(hb:aA X body tb)(hs:∀x,FV iter X.env x=pure x:=by intro _;rfl):PS X (.For tg iter body [] pos) (PX wi g tb):=by
 intro YK s L H D I h;refine wpAny_For (Y6 (hi YK s L H _ I h) λv s1 h1=>Y6 h1 λgq s2 h2=>?_) hs;obtain⟨it,fp,tn,J,H2,e,I2,T,e8,f2,W,⟨m0,w0⟩,cp⟩:=h2;subst e;have bI:∀{H':Hp},(∀b∈fp,H' b=U)->∀b∈fp,BZ X YK H' b:=λhn b hb=>⟨hn b hb,(f2 b hb).2⟩;refine codeAny_forLoop_any (λn s'=>∃i σ' H',Inv X YK σ' H' s'/\tn i s'.heap/\(∀b∈fp,H' b=U)/\W i n σ' H') ?_ m0 ⟨0,L,H2,I2,e8,λb hb=>(f2 b hb).1,w0⟩
 rintro n s3 ⟨i,σ3,H3,I3,st3,fr3,w3⟩
 rcases cp i n σ3 H3 w3 with⟨stop,qn⟩|⟨go,N,hN,step⟩
 .refine DW hp (Y6 (T.done X rfl rfl rfl hc i YK s3 σ3 H3 X.xe I3 (bI fr3) st3 stop) λr s4 ⟨hr,I4⟩=>?_)
  subst hr;exact Hg ⟨σ3,H3,I4,qn⟩
 .refine DW hp (Y6 (T.item X rfl rfl rfl hc i YK s3 σ3 H3 X.xe I3 (bI fr3) st3 go) λr s4 ⟨u,hr,h4⟩=>?_)
  subst hr;refine DW hp (Y6 h4 λ_ s5 ⟨x,H5,I5,r5,y5,st5,fr5⟩=>?_);have I5':=I5.pinned (bI fr5) (T.obj _ _ st5);refine DW hp (Y6 (hg _ s5 σ3 H5 x u _ I5' r5 (step x H5 y5)) λ_ s6 ⟨σ6,H6,I6,q6⟩=>?_);refine DW hp (Y6 (hb _ s6 σ6 H6 _ I6 q6) λf s7 q7=>?_);have again:∀{σ7:St} {H7:Hp},Inv X (YK++Gi fp s5.heap) σ7 H7 s7->N σ7 H7->∃m,m<n/\∃i σ' H',Inv X YK σ' H' s7/\tn i s7.heap/\(∀b∈fp,H' b=U)/\W i m σ' H':=λ{σ7 H7} I7 n7=>by obtain⟨m',hm,w7⟩:=hN σ7 H7 n7;refine⟨m',hm,i+1,σ7,H7,I7.unpinned,T.keep _ _ _ st5 λb hb o e=>(I7.pin (b,o) (Cq _ (Cq _ (Ir hb e)))).1,λb hb=>?_,w7⟩;obtain⟨o,e,d⟩:=T.obj _ _ st5 b hb;exact(I7.pin (b,o) (Cq _ (Cq _ (Ir hb e)))).2.1
  cases f with
  |next=>obtain⟨σ7,H7,I7,n7⟩:=q7;exact again I7 n7
  |cont=>obtain⟨σ7,H7,I7,n7⟩:=q7;exact again I7 n7
  |brk=>obtain⟨σ7,H7,I7,q7⟩:=q7;exact⟨σ7,H7,I7.unpinned,q7⟩
  |ret v=>obtain⟨x7,σ7,H7,I7,r7,q7⟩:=q7;exact⟨x7,σ7,H7,I7.unpinned,r7,q7⟩
end
end
section
variable{H:Hp}{g:Int->Int->Int}{YK:mG}{us:mH}{s:Shared}{L:St}{x:V}
noncomputable abbrev R2:=V->V->Hp->VK->Prop
noncomputable def aM(X:Cx)(f:Value->Value->Sem Value)(r:R2):Prop :=
 ∀(YK:mG) (s:Shared) (L:St) (H:Hp) (x y:V) (v u:Value) (Q:VK),Inv X YK L H s->RelV x v->RelV y u->r x y H Q ->
  wpAny (model X.prog X.w) X.A (f v u) (EP X YK L Q) X.xe s
noncomputable def AI(X:Cx)(f:Value)(r:List V->Hp->VK->Prop):Prop :=
 ∀(YK:mG) (s:Shared) (L:St) (H:Hp) (xs:List V) (us:mH) (Q:VK),Inv X YK L H s->YN xs us->r xs H Q ->
  wpAny (model X.prog X.w) X.A (call f us) (EP X YK L Q) X.xe s
noncomputable def dM(r:R2)(ta tb:TE):TE:=λL H Q=>ta L H λx H1=>tb L H1 λy H2=>r x y H2 Q
noncomputable def rI(C:Int->Int->Prop)(g:Int->Int->V):R2:=λx y H Q=>∃i j,x=.int i/\y=.int j/\C i j/\Q (g i j) H
noncomputable def cV(g:Int->Int->V):R2:=λx y H Q=>∃i j,x=.int i/\y=.int j/\Q (g i j) H
section
variable{X:Cx}{a b c:Expr}{ta tb tc:TE}{pos:Pos}
theorem JG(ha:PE X a ta)(hb:PE X b tb){R:V->V->Hp->Prop}(I:Inv X YK L H s)(h:ta L H λx H1=>tb L H1 λy H2=>R x y H2){Q:mD}{f:Value->Value->Sem Value}(hf:∀v u s2 x y H2,Inv X YK L H2 s2->RelV x v->RelV y u->R x y H2->wpAny (model X.prog X.w) X.A (f v u) Q X.xe s2):wpAny (model X.prog X.w) X.A (eval a X.env) (λv s₁=>wpAny (model X.prog X.w) X.A (eval b X.env) (λu s₂=>wpAny (model X.prog X.w) X.A (f v u) Q X.xe s₂) X.xe s₁) X.xe s:=by
 refine Aw (ha YK s L H _ I h) λv s1 x H1 I1 r1 q1=>?_;refine Aw (hb YK s1 L H1 _ I1 q1) λu s2 y H2 I2 r2 q2=>?_;exact hf v u s2 x y H2 I2 r1 r2 q2
theorem ML{op:Operator}{r:R2}(ho:aM X (EA op) r)(ha:PE X a ta)(hb:PE X b tb):PE X (.BinOp a op b pos) (dM r ta tb):=by intro YK s L H Q I h;exact wpAny_BinOp (JG ha hb I h λv u s2 x y H2 I2 rx ry q=>ho YK s2 L H2 x y v u Q I2 rx ry q)
theorem kd{f:Value->Value->Sem Value}{C:Int->Int->Prop}(rule:∀(i j:Int) (t u:Tok) (s:Shared) (Q:mD) (E:mD),C i j->Q (.int (g i j) s.toks) {s with toks:=s.toks+1}->wpAny (model X.prog X.w) X.A (f (.int i t) (.int j u)) Q E s):aM X f (rI C λi j=>.int (g i j)):=by
 intro YK s L H x y v u Q I rx ry h;obtain⟨i,j,rfl,rfl,hc,q⟩:=h;obtain⟨t,rfl⟩:=rx;obtain⟨t',rfl⟩:=ry;exact rule i j t t' s _ _ hc ⟨.int (g i j),H,I.tok _,⟨_,rfl⟩,q⟩
theorem MH{f:Value->Value->Sem Value}(rule:∀(i j:Int) (t u:Tok) (s:Shared) (Q:mD) (E:mD),Q (.int (g i j) s.toks) {s with toks:=s.toks+1}->wpAny (model X.prog X.w) X.A (f (.int i t) (.int j u)) Q E s):aM X f (cV λi j=>.int (g i j)):=by
 intro YK s L H x y v u Q I rx ry h;obtain⟨i,j,rfl,rfl,q⟩:=h;obtain⟨t,rfl⟩:=rx;obtain⟨t',rfl⟩:=ry;exact rule i j t t' s _ _ ⟨.int (g i j),H,I.tok _,⟨_,rfl⟩,q⟩
theorem JA{f:Value->Value->Sem Value}{g:Int->Int->Bool}(rule:∀(i j:Int) (t u:Tok) (s:Shared) (Q:mD) (E:mD),Q (.bool (g i j)) s->wpAny (model X.prog X.w) X.A (f (.int i t) (.int j u)) Q E s):aM X f (cV λi j=>.bl (g i j)):=by
 intro YK s L H x y v u Q I rx ry h;obtain⟨i,j,rfl,rfl,q⟩:=h;obtain⟨t,rfl⟩:=rx;obtain⟨t',rfl⟩:=ry;exact rule i j t t' s _ _ ⟨.bl (g i j),H,I,rfl,q⟩
theorem Ro:aM X (EA .Add) (cV λi j=>.int (i+j)):=MH λ_ _ _ _ _ _ _ q=>add_int q
theorem Qg:aM X (EA .Sub) (cV λi j=>.int (i-j)):=MH λ_ _ _ _ _ _ _ q=>sub_int q
theorem QA:aM X (EA .Mod) (rI (λ_ j=>0<j) λi j=>.int (i%j)):=kd λi j _ _ _ _ _ hc q=>by have h1:(0:Int)<j:=hc;exact mod_int' (by omega) (by rw[Int.fmod_eq_emod_of_nonneg i (by omega)];exact q)
end
section
variable{X:Cx}{a b c:Expr}{ta tb tc:TE}{pos:Pos}
theorem Na{Q:VK}{k k':Bool}(I:Inv X YK L H s)(q:Q (.bl k) H)(e:k=k'):EP X YK L Q (.bool k') s:=by subst e;exact⟨.bl k,H,I,rfl,q⟩
theorem Pg:aM X (Bp .Lt) (cV λi j=>.bl (decide (i<j))):=JA λ_ _ _ _ _ _ _ q=>lt_int q
theorem Po:aM X (Bp .LtE) (cV λi j=>.bl (decide (i<=j))):=JA λ_ _ _ _ _ _ _ q=>le_int q
theorem O5:aM X (Bp .Gt) (cV λi j=>.bl (decide (j<i))):=JA λ_ _ _ _ _ _ _ q=>gt_int q
theorem Rm:aM X (Bp .Is) (λx y H Q=>y=.non/\Q (.bl (decide (x=.non))) H):=by
 intro YK s L H x y v u Q I rx ry h;obtain⟨rfl,q⟩:=h;cases ry;refine is_none_gen (Na I q ?_);cases x<;>first
  |(cases rx;rfl)
  |(obtain⟨t,rfl⟩:=rx;rfl)
theorem Q9:aM X (Bp .IsNot) (λx y H Q=>y=.non/\Q (.bl (!decide (x=.non))) H):=by
 intro YK s L H x y v u Q I rx ry h;obtain⟨rfl,q⟩:=h;cases ry;refine isnot_none_gen (Na I q ?_);cases x<;>first
  |(cases rx;rfl)
  |(obtain⟨t,rfl⟩:=rx;rfl)
theorem Nq{op:CmpOp}{r:R2}(ho:aM X (Bp op) r)(ha:PE X a ta)(hb:PE X b tb)(hm:Di op b=Ab):PE X (.Compare a [op] [b] pos) (dM r ta tb):=by intro YK s L H Q I h;exact wpAny_Compare1 (JG ha hb I h λv u s2 x y H2 I2 rx ry q=>ho YK s2 L H2 x y v u Q I2 rx ry q) hm
noncomputable def MM(t:TE):TT:=λL H Q=>t L H λx H'=>∃k,x=.bl k/\Q k H'
theorem J0{op:CmpOp}{r:R2}(ho:aM X (Bp op) r)(ha:PE X a ta)(hb:PE X b tb)(hm:Di op b=Ab):PT X (.Compare a [op] [b] pos) (MM (dM r ta tb)):=by intro YK s L H Q I h;refine wpAny_isTrue_Compare1 (Aw (ha YK s L H _ I h) λv s1 x H1 I1 r1 q1=>Aw (hb YK s1 L H1 _ I1 q1) λu s2 y H2 I2 r2 q2=>Aw (ho YK s2 L H2 x y v u _ I2 r1 r2 q2) λc s3 z H3 I3 r3 ⟨k,e,q3⟩=>?_) hm;subst e;cases r3;exact EG ⟨H3,I3,q3⟩
noncomputable def QL(r r':R2)(ta tb tc:TE):TE:=λL H Q=>ta L H λx H1=>tb L H1 λy H2=>r x y H2 λz H3=>∃k,z=.bl k /\
 (if k=Y then tc L H3 λw' H4=>r' y w' H4 Q else Q (.bl Ab) H3)
theorem N7{op op':CmpOp}{r r':R2}(ho:aM X (Bp op) r)(ho':aM X (Bp op') r')(ha:PE X a ta)(hb:PE X b tb)(hc:PE X c tc)(hm:lastMarks [op,op'] [b,c]=Ab:=by with_unfolding_all rfl):PE X (.Compare a [op,op'] [b,c] pos) (QL r r' ta tb tc):=by
 intro YK s L H Q I h;refine Compare_chain (Aw (ha YK s L H _ I h) λv s1 x H1 I1 r1 q1=>chain_link (Aw (hb YK s1 L H1 _ I1 q1) λu s2 y H2 I2 r2 q2=>Aw (ho YK s2 L H2 x y v u _ I2 r1 r2 q2) λd s3 z H3 I3 r3 ⟨k,e,q3⟩=>?_)) hm;subst e;cases r3;refine EG ?_;cases k with
 |false=>exact ite_ff ⟨.bl Ab,H3,I3,rfl,q3⟩
 |true=>exact ite_tt (chain_last (Aw (hc YK s3 L H3 _ I3 q3) λw' s4 z' H4 I4 r4 q4=>ho' YK s4 L H4 y z' u w' Q I4 r2 r4 q4))
theorem HF:(sizeLine:Nat)<2 ^ 63:=by rw[CQ];decide
theorem vals1(r:YN [x] us):∃u,us=[u]/\RelV x u:=by
 cases r with
 |cons r1 r2=>cases r2;exact⟨_,rfl,r1⟩
theorem vals2{y:V}(r:YN [x,y] us):∃u w',us=[u,w']/\RelV x u/\RelV y w':=by
 cases r with
 |cons r1 r2 =>
  cases r2 with
  |cons r3 r4=>cases r4;exact⟨_,_,rfl,r1,r3⟩
theorem TC(hc:X.calm=Y):AI X (.builtin "max") (λxs H Q=>∃i j,xs=[.int i,.int j]/\Q (.int (if j > i then j else i)) H):=by
 intro YK s L H xs us Q I r h;obtain⟨i,j,rfl,q⟩:=h;obtain⟨u,w',rfl,⟨t,rfl⟩,⟨t',rfl⟩⟩:=vals2 r;refine max_two_ints (I.ok.hd hc) λh' tk k=>⟨_,H,I.kept k,?_,q⟩
 by_cases hj:j > i
 .rw[if_pos hj,if_pos hj];exact⟨_,rfl⟩
 .rw[if_neg hj,if_neg hj];exact⟨_,rfl⟩
end
end
section
variable{C dx:Addr}{h:Heap}{K:Ad}{mA:mF}{v:V}{u:Value}{Q:mD}
structure EW(h:Heap)(x dx C:Addr)(mA:mF):Prop where
 obj:h.get? x=Z (Dm C dx)
 ns:h.Ns1 dx mA
 ne:dx≠x
theorem SU(n:h.Ns1 dx mA):∃od,h.get? dx=Z od/\∀name,Ja name od=Z (mA name):=by
 obtain⟨o,es,ep,ho,hd,hk,_,hm⟩:=n;refine⟨o,ho,λname=>?_⟩;have e:=hm name;unfold nsFind findBy at e;rw[<-Array.find?_toList]at e;unfold Ja;rw[hd];dsimp only;split
 .rename_i y q
  rw[q]at e;exact congrArg Z e
 .rename_i q
  rw[q]at e;have a:es.toList.any (·.refKey)=Ab:=by rw[List.any_eq_false];intro y hy;obtain⟨z,t,bK⟩:=hk y (Array.mem_toList_iff.mp hy);simp[DictEntry.refKey,bK]
  have a':¬es.toList.any (·.refKey)=Y:=by rw[a];exact Bw
  rw[if_neg a'];exact congrArg Z e
theorem EW.look{x:Addr}(I:EW h x dx C mA):∃od,PySem.W.InstAt h x (Dm C dx) C (Z od)/\∀name,Ja name od=Z (mA name) :=
 let ⟨od,ho,hl⟩:=SU I.ns
 ⟨od,⟨I.obj,rfl,rfl,ho⟩,hl⟩
section
variable{prog:Program}{w:World}{A:Around}{E:mD}{s:Shared}{K:Ad}{x dx C f:Addr}{mA:mF}{name:Str}{v:Value}
theorem cS{cv:Bool}(X:K.In s.heap)(I:EW s.heap x dx C mA)(hg:GX K C name=Y)(hh:G2 K C=Y)(ha:AL K (.ref C) name=Z U)(hv:mA name=Z v)(hv':IT v=Y)(h:Q v {s with toks:=s.toks+1}):wpAny (model prog w) A (getAttr (.ref x) name cv) Q E s:=by
 obtain⟨od,J,hl⟩:=I.look;exact PySem.W.get_value X J (PySem.W.plainGet_of hg).1 (PySem.W.findObj_own hh ha rfl (by rw[hl,hv])) hv' h
theorem Sn{ns:mI}{Q:Unit->Shared->Prop}(X:K.In s.heap)(I:EW s.heap x dx C mA)(hs:AL K (.ref C) "__setattr__"=Z (Z (.builtin "object.__setattr__")))(hp:IZ K C=Y)(ht:Ji K C name=Z U)(hh:G2 K C=Y)(hw:Jj mA ns)(hsz:BX ns<=sizeLine)(h:∀h',EW h' x dx C (λy=>if y=name then Z v else mA y)->Bo dx s.heap h'->Q () {s with heap:=h',toks:=s.toks+2}):wpAny (model prog w) A (setAttr (.ref x) name v) Q E s:=by
 obtain⟨od,J,hl⟩:=I.look;refine PySem.W.set_plain X J hs (PySem.W.osa_open (s:={s with toks:=s.toks+1}) (r:=U) X J hp ht λb=>?_);obtain⟨cd,hc,hd'⟩:=PySem.W.any_some hh;have hx:s.heap.get? x=Z ⟨.ref C,Z dx,.plain,#[]⟩:=I.obj;refine Ac (Ag (Ac (Ac (wpAny_loadPart hx (Ac (PySem.W.Looks.here (s:={s with toks:=s.toks+1}) (PySem.W.looks_clsIn X hc) ?_))))));rw[hd'];refine Ag (a:=Z dx) (Ac (Ag (Ac ?_)));refine wpAny_nsSet1 (s:={s with toks:=s.toks+1}) I.ns λh' fG aQ=>?_;obtain⟨oD,lT,lW,gB,gQ,cj⟩:=fG.count (PySem.Within.cons name v hw);refine Ac (wpAny_lookBehind gB (by rw[gQ];exact pastItsLine_dict (Bi cj (by rw[A8];omega))) ?_);exact Ag (h _ ⟨(aQ.2 _ (AD I.ne)).trans I.obj,fG,I.ne⟩ aQ)
theorem SW{R:Result->Shared->Prop}{vs:mH}{kw:List (Str×Value)}(X:K.In s.heap)(hm:Jh K C=Y)(hi:AL K (.ref C) "__init__"=Z (Z (.ref f)))(hf:PySem.W.typeIn K (.ref f)=Z (.type "function"))
  (h:codeAny (model prog w) (A.under (.builtin "type.__call__" ⟨.ref C::vs,kw⟩)) (.call (.ref f) ⟨.ref (s.heap.objs.size+1)::vs,kw⟩) (PySem.W.InitBack (s.heap.objs.size+1) R)
   {s with heap:=(s.heap.push CV).push (Dm C s.heap.objs.size)}):
  codeAny (model prog w) A (.call (.ref C) ⟨vs,kw⟩) R s:=by
 obtain⟨hh,g,d,t,os⟩:=s;exact PySem.W.make_core (PySem.W.makes_of X hm) (PySem.W.looks_findIn X hi) (λself=>PySem.W.bind_fn X self hf) (.inl rfl) h
end
noncomputable def Bc(f:Str)(v:V):List (Str×V)->List (Str×V)
 |[]=>[(f,v)]
 |(g,x)::r=>if g=f then(g,v)::r else(g,x)::Bc f v r
theorem OE(f g:Str)(v:V):∀fs:List (Str×V),(Bc f v fs).lookup g=if g=f then Z v else fs.lookup g
 |[]=>by
  show D4 g [(f,v)]=_
  by_cases h:g=f
  .have hb:(g==f)=Y:=beq_iff_eq.mpr h
   simp only[D4,hb,if_pos h]
  .have hb:(g==f)=Ab:=beq_eq_false_iff_ne.mpr h
   simp only[D4,hb,if_neg h]
 |(k,x)::r=>by
  have ih:=OE f g v r;rw[show Bc f v ((k,x)::r)=(if k=f then(k,v)::r else(k,x)::Bc f v r) from rfl]
  by_cases hk:k=f
  .rw[if_pos hk]
   by_cases h:g=k
   .have hb:(g==k)=Y:=beq_iff_eq.mpr h
    simp only[D4,hb,if_pos (h.trans hk)]
   .have hb:(g==k)=Ab:=beq_eq_false_iff_ne.mpr h
    simp only[D4,hb,if_neg (λe:g=f=>h (e.trans hk.symm))]
  .rw[if_neg hk]
   by_cases h:g=k
   .have hb:(g==k)=Y:=beq_iff_eq.mpr h
    simp only[D4,hb,if_neg (λe:g=f=>hk (h.symm.trans e))]
   .have hb:(g==k)=Ab:=beq_eq_false_iff_ne.mpr h
    simp only[D4,hb];exact ih
theorem J8(f:Str)(v:V):∀fs:List (Str×V),f∈(Bc f v fs).map (·.1)/\∀g,g∈fs.map (·.1)->g∈(Bc f v fs).map (·.1)
 |[]=>⟨by simp[Bc],λg h=>by simp at h⟩
 |(k,x)::r=>by
  obtain⟨i1,i2⟩:=J8 f v r;rw[show Bc f v ((k,x)::r)=(if k=f then(k,v)::r else(k,x)::Bc f v r) from rfl]
  by_cases hk:k=f
  .rw[if_pos hk]
   subst hk;exact⟨by simp,λg h=>by simpa using h⟩
  .rw[if_neg hk]
   refine⟨?_,λg h=>?_⟩
   .rw[An]
    exact AQ _ i1
   .rw[An]at h ⊢
    rcases Ak.mp h with e|e
    .exact Ak.mpr (.inl e)
    .exact AQ _ (i2 g e)
theorem OD(f:Str)(v:V):∀fs:List (Str×V),(Bc f v fs).length<=BX fs+1
 |[]=>by simp[Bc]
 |(k,x)::r=>by
  have ih:=OD f v r;rw[show Bc f v ((k,x)::r)=(if k=f then(k,v)::r else(k,x)::Bc f v r) from rfl]
  by_cases hk:k=f
  .rw[if_pos hk,A8,A8];omega
  .rw[if_neg hk,A8,A8];omega
theorem Bs.some_of{o:Option Value}(r:Bs (Z v) o):∃u,o=Z u/\RelV v u:=by
 cases o with
 |none=>exact(show False from r).elim
 |some u=>exact⟨u,rfl,r⟩
theorem Uv(r:RelV v u):IT u=Y:=by
 cases v with
 |non=>cases(show u=AR from r);rfl
 |bl b=>cases(show u=Value.bool b from r);rfl
 |int i=>obtain⟨t,e⟩:=(show ∃t,u=Fw i t from r);cases e;rfl
 |str x=>obtain⟨t,e⟩:=(show ∃t,u=GQ x t from r);cases e;rfl
 |byt b=>obtain⟨t,e⟩:=(show ∃t,u=Value.bytes b t from r);cases e;rfl
 |flt b=>obtain⟨t,e⟩:=(show ∃t,u=Value.float b t from r);cases e;rfl
 |ref a=>cases(show u=Au a from r);rfl
 |ty n=>cases(show u=Ci n from r);rfl
section
variable{P:Program}{w:World}{H H':Hp}{h h':Heap}{a C dx:Addr}{fs fs':List (Str×V)}
theorem NK(hok:ai P w H h)(e:H a=Z (.ins C dx fs)):∃mA,EW h a dx C mA/\(∀f,Bs (fs.lookup f) (mA f))/\Jj mA (fs.map (·.1))/\fs.length<=1000/\H dx=Z (.own a):=by obtain⟨d,z,ne,ob,mA,n,r,q⟩:=(show Z0 P w H h a (.ins C dx fs) from hok a _ e);exact⟨mA,⟨ob,n,ne⟩,r,q,z,d⟩
end
structure cn(K:Ad)(C:Addr):Prop where
 pg:GX K C Fv=Y
 hd:G2 K C=Y
 po:IZ K C=Y
 sa:AL K (.ref C) "__setattr__"=Z (Z (.builtin "object.__setattr__"))
theorem cn.get(c:cn K C)(f:Str):GX K C f=Y:=c.pg
noncomputable def B8(K:Ad)(C:Addr)(f:Str):Prop:=AL K (.ref C) f=Z U
theorem B8.taker{f:Str}(n:B8 K C f):Ji K C f=Z U:=by unfold Ji;rw[show AL K (.ref C) f=Z U from n];rfl
section
variable{X:Cx}{YK:mG}{L:St}{H:Hp}{s:Shared}{a C dx:Addr}{fs:List (Str×V)}{f:Str}{v:V}{A:Around}{E:mD}
theorem Ux{b:Bool}(I:Inv X YK L H s)(e:H a=Z (.ins C dx fs))(c:cn X.K C)(n:B8 X.K C f)(l:fs.lookup f=Z v)(h:∀u s',Inv X YK L H s'->RelV v u->Q u s'):wpAny (model X.prog X.w) A (getAttr (.ref a) f b) Q E s:=by
 obtain⟨mA,O,r,_,_,_⟩:=NK I.hok e;obtain⟨u,hu,ru⟩:=Bs.some_of (v:=v) (o:=mA f) (by rw[<-l];exact r f);exact cS I.kIn O (c.get f) c.hd n hu (Uv ru) (h u _ (I.tok _) ru)
theorem UM{y:V}{Q:Unit->Shared->Prop}(I:Inv X YK L H s)(e:H a=Z (.ins C dx fs))(c:cn X.K C)(n:B8 X.K C f)(hl:BX fs<1000)(ry:RelV y u)(h:∀s',Inv X YK L (upd H a (.ins C dx (Bc f y fs))) s'->Q () s'):wpAny (model X.prog X.w) A (setAttr (.ref a) f u) Q E s:=by
 obtain⟨mA,O,r,wi,_,ho⟩:=NK I.hok e;have hz:(fs.map (·.1)).length<=sizeLine:=by rw[Ap,CQ];omega
 refine Sn I.kIn O c.sa c.po n.taker c.hd wi hz λh' O' sb=>h _ ?_;have hd:∃o,h'.get? dx=Z o:=let ⟨o,_,_,e',_⟩:=O'.ns;⟨o,e'⟩
 refine I.write (x:=a) (e:=dx) (by rw[e];exact CN) (.inr ho) (λb q hb z=>(sb.2 b hb).trans z) hd ?_;refine⟨by rw[Zo O.ne];exact ho,?_,O.ne,O'.obj,_,O'.ns,λg=>?_,λg hg=>?_⟩
 .have:=OD f y fs;omega
 .show Bs ((Bc f y fs).lookup g) (if g=f then Z u else mA g)
  rw[OE]
  by_cases q:g=f
  .rw[if_pos q,if_pos q];exact ry
  .rw[if_neg q,if_neg q];exact r g
 .by_cases q:g=f
  .rw[q];exact(J8 f y fs).1
  .refine(J8 f y fs).2 g (wi g λz=>hg ?_)
   show(if g=f then Z u else mA g)=U;rw[if_neg q];exact z
theorem Inv.made(I:Inv X YK L H s):Inv X YK L (upd (upd H s.heap.objs.size (.own (s.heap.objs.size+1))) (s.heap.objs.size+1) (.ins C s.heap.objs.size [])) {s with heap:=(s.heap.push CV).push (Dm C s.heap.objs.size)}:=by
 have e1:(s.heap.push CV).get? s.heap.objs.size=Z CV:=Az s.heap rfl;have e2:((s.heap.push CV).push (Dm C s.heap.objs.size)).get? (s.heap.objs.size+1)=Z (Dm C s.heap.objs.size):=by
  have:=Az (s.heap.push CV) (o:=Dm C s.heap.objs.size) rfl
  rwa [Dl]at this
 have e3:(s.heap.push CV).Ns s.heap.objs.size (λ_=>U):=⟨CV,#[],_,e1,rfl,(λe he=>absurd he (by simp)),λ_=>rfl⟩;have I1:=I.laid (a:=s.heap.objs.size) (o:=.own (s.heap.objs.size+1)) (h':=s.heap.push CV) (t':=s.toks) (λb u q=>Aj _ q) (Al _) ⟨_,e1⟩;refine I1.laid (a:=s.heap.objs.size+1) (o:=.ins C s.heap.objs.size []) (t':=s.toks) (λb u q=>Aj _ q) (EC (Dl _ _)) ?_;have ne:s.heap.objs.size≠s.heap.objs.size+1:=Am (FQ _);refine⟨by rw[Zo ne,Zq],CP _,ne,e2,λ_=>U,(LO e3).at λo q=>Aj _ q,λ_=>CN,λy hy=>absurd rfl hy⟩
theorem Sw{prog:Program}{w:World}{env:Env}{e:Expr}{f:Str}{pos:Pos}{s:Shared}(hb:Ck e f env (eval e env)=eval e env)(h:wpAny (model prog w) A (eval e env) (λo s₁=>wpAny (model prog w) A (getAttr o f Y) Q E s₁) E s):wpAny (model prog w) A (eval (.Attribute e f pos) env) Q E s :=
 Attribute_any_ h (by rw[arm_eval_Attribute,hb])
end
noncomputable def My(K:Ad)(ta:TE)(f:Str):TE:=λL H Q=>ta L H λx H1=>∃a C dx fs v,x=.ref a/\H1 a=Z (.ins C dx fs)/\cn K C/\B8 K C f/\fs.lookup f=Z v/\Q v H1
noncomputable def EV(K:Ad)(ta tv:TE)(f:Str):TS:=λD L H=>tv L H λy H1=>ta L H1 λx H2=>∃a C dx fs,x=.ref a/\H2 a=Z (.ins C dx fs)/\cn K C/\B8 K C f/\fs.length<1000 /\
 D.nx L (upd H2 a (.ins C dx (Bc f y fs)))
section
variable{X:Cx}{o e value:Expr}{f:Str}{pos pos' iu:Pos}{ta tv:TE}
theorem M6(he:PE X e ta)(hb:Ck e f X.env (eval e X.env)=eval e X.env):PE X (.Attribute e f pos) (My X.K ta f):=by intro YK s L H Q I h;refine Sw hb (Aw (he YK s L H _ I h) λu s1 x H1 I1 rx ⟨a,C,dx,fs,v,ex,ea,c,n,l,q⟩=>?_);subst ex;obtain rfl:u=Au a:=rx;exact Ux I1 ea c n l λu' s2 I2 ru=>⟨v,H1,I2,ru,q⟩
theorem Gp(ha:PE X o ta)(hv:PE X value tv)(hs:Bj value (Z (.Attribute o f pos')) pos.line X.env=pure Ab):PS X (.Assign [.Attribute o f pos'] value pos) (EV X.K ta tv f):=by intro YK s L H D I h;refine Mo (Aw (hv YK s L H _ I h) λu s1 y H1 I1 ry q=>Aw (ha YK s1 L H1 _ I1 q) λov s2 x H2 I2 rx ⟨a,C,dx,fs,ex,ea,c,n,l,q2⟩=>?_) hs;subst ex;obtain rfl:ov=Au a:=rx;exact UM I2 ea c n l ry λs3 I3=>⟨L,_,I3,q2⟩
end
end
section
variable{C f:Addr}{A:Around}{base:Heap}{H:Hp}{YK:mG}{kw:List (Str×Value)}{outer:List Env}{ps:mI}{vs:List V}{us:mH}{P:Program}{K:Ad}{scope:Scope}{s:Shared}{L:St}{YO:Str}{mg:mF}{w:World}
structure Z6(k:Nat)(A:Around):Prop where
 hd:A.handled=U
 dp:A.depth+3*k+5<recursionLimit
 (un:A.units+16*k+200<cLine) (gd:A.guards=Z [])
theorem Z6.mono{j k:Nat}{A:Around}(r:Z6 k A)(h:j<=k):Z6 j A:=⟨r.hd,by have:=r.dp;omega,by have:=r.un;omega,r.gd⟩
theorem Z6.deeper{k:Nat}{A:Around}(r:Z6 (k+1) A)(env:Env):Z6 k (A.deeper env) :=
 ⟨r.hd,by have:=r.dp;show A.depth+1+3*k+5<_;omega,by have:=r.un;show A.units+3+16*k+200<_;omega,by first|exact r.gd|simpa [Around.deeper,FG,Code.guards]using r.gd⟩
theorem UL:(A.under (.builtin "type.__call__" ⟨.ref C::us,kw⟩)).depth=A.depth+1:=by first|rfl|simp[FG,Code.weight,Code.isCreation,Code.isGuard,Code.isCaller,Code.frames,IP,guardIds]
theorem US:(A.under (.builtin "type.__call__" ⟨.ref C::us,kw⟩)).units=A.units+1:=by first|rfl|simp[FG,Code.cUnits,Code.frames,IP]
theorem Z6.make{k:Nat}(r:Z6 (k+1) A)(C:Addr)(us:mH)(kw:List (Str×Value)):Z6 k (A.under (.builtin "type.__call__" ⟨.ref C::us,kw⟩)) :=
 ⟨r.hd,by have:=r.dp;rw[UL];omega,by have:=r.un;rw[US];omega,by first|exact r.gd|simpa [FG,Code.guards,Code.isGuard,guardIds]using r.gd⟩
theorem Z6.depth{k:Nat}{A:Around}(r:Z6 k A):A.depth<recursionLimit:=by have:=r.dp;omega
theorem Z6.units{k:Nat}{A:Around}(r:Z6 k A):A.units+64<cLine:=by have:=r.un;omega
noncomputable def Mv:TA:=λ_ H Q=>Q [] H
noncomputable def JN(ta:TE)(tr:TA):TA:=λL H Q=>ta L H λx H1=>tr L H1 λxs H2=>Q (x::xs) H2
section
variable{X:Cx}{e:Expr}{es:List Expr}{te:TE}{t:TA}{pos:Pos}
theorem BL:PA X [] Mv:=λ_ _ _ _ H Q I h=>FU ⟨[],H,I,.nil,h⟩
theorem Bf(ha:PE X e te)(hr:PA X es t)(hs:Ae (e::es) X.env=(Ab,eval e X.env)::Ae es X.env:=by rfl):PA X (e::es) (JN te t):=by intro pos YK s L H Q I h;rw[hs];show wpAny _ _ (spliced ((Ab,eval e X.env)::backTo pos (Ae es X.env))) _ _ s;refine DX (Aw (ha YK s L H _ I h) λu s1 x H1 I1 r1 q1=>?_);exact Dx (hr pos YK s1 L H1 _ I1 q1) λus s2 xs H2 I2 r2 q2=>⟨x::xs,H2,I2,.cons r1 r2,q2⟩
noncomputable def PU(t:TA):TE:=λL H Q=>t L H λxs H1=>xs.length<=sizeLine/\∀p,H1 p=U->Q (.ref p) (upd H1 p (.tup xs))
noncomputable def PN(t:TA):TE:=λL H Q=>t L H λxs H1=>xs.length<=sizeLine/\∀p,H1 p=U->Q (.ref p) (upd H1 p (.lst xs))
theorem QN{x1}(h:PA X es t):PE X (.Tuple es x1 pos) (PU t):=by intro YK s L H Q I hq;refine wpAny_Tuple_spliced (Dx (h pos YK s L H _ I hq) λus s1 xs H1 I1 r ⟨z,q⟩=>⟨by rw[<-r.length];exact z,?_⟩);have hf:H1 s1.heap.objs.size=U:=I1.hok.fresh (Al _);refine⟨.ref s1.heap.objs.size,upd H1 s1.heap.objs.size (.tup xs),I1.laid (t':=s1.toks) (λb u e=>Aj _ e) (Al _) ?_,rfl,q _ hf⟩;exact⟨z,us,r,⟨_,Az _ rfl,rfl,_,rfl⟩⟩
theorem M7(h:PA X es t):PE X (.List es pos) (PN t):=by intro YK s L H Q I hq;refine wpAny_List_spliced (Dx (h pos YK s L H _ I hq) λus s1 xs H1 I1 r ⟨z,q⟩=>⟨by rw[<-r.length];exact z,?_⟩);have hf:H1 s1.heap.objs.size=U:=I1.hok.fresh (Al _);refine⟨.ref s1.heap.objs.size,upd H1 s1.heap.objs.size (.lst xs),I1.laid (t':=s1.toks) (λb u e=>Aj _ e) (Al _) ?_,rfl,q _ hf⟩;exact⟨z,us,0,r,Az _ rfl⟩
end
noncomputable abbrev Sp:=List V->Hp->VK->XK->Prop
noncomputable abbrev cD:=List Env->Hp->Shared->XK->Value->Shared->Prop
structure Ea(P:Program)(w:World)(K:Ad)(mg:mF)(base:Heap)(A:Around)(outer:List Env)(s:Shared)(H:Hp):Prop where
 frames:A.frames=Z outer
 mod:Mod K mg base
 bs:∀b o,base.get? b=Z o->s.heap.get? b=Z o/\H b=U
 bsz:base.objs.size<=s.heap.objs.size
 funs:s.heap.FunFrames base outer
 frf:∀b∈Y8 outer,H b=U
 hok:ai P w H s.heap
 bare:AllBare s.gens
noncomputable def CE(outer:List Env)(P:Program)(w:World)(H:Hp)(s:Shared)(Q:VK)(u:Value)(s':Shared):Prop :=
 ∃v H',s'.os=s.os/\AllBare s'.gens/\Un (Y8 outer) [] H H' s.heap s'.heap/\ai P w H' s'.heap/\RelV v u/\Q v H'
noncomputable def CR(CX:cD)(outer:List Env)(P:Program)(w:World)(H:Hp)(s:Shared)(Q:VK)(E:XK)(r:Result)(s':Shared):Prop :=
 match r with
 | .ok (.ret u)=>CE outer P w H s Q u s'
 | .ok _=>False
 | .error e=>CX outer H s E e s'
structure AK(P:Program)(w:World)(K:Ad)(mg:mF)(base:Heap)(CX:cD)(k:Nat)(f:Addr)(fd:FuncData)(ps:mI)(sp:Sp):Prop where
 len:∀vs H Q E,sp vs H Q E->vs.length=ps.length
 run:∀(A:Around) (outer:List Env) (s:Shared) (H:Hp) (args:Args) (us:mH) (vs:List V) (Q:VK) (E:XK),Z6 k A->Ea P w K mg base A outer s H->BindsTo s fd args (ps.zip us)->YN vs us->sp vs H Q E ->
  codeAny (model P w) A (.call (.ref f) args) (CR CX outer P w H s Q E) s
theorem AK.mono{P:Program}{w:World}{K:Ad}{mg:mF}{base:Heap}{CX:cD}{j k:Nat}{f:Addr}{fd:FuncData}{ps:mI}{sp:Sp}(F:AK P w K mg base CX j f fd ps sp)(h:j<=k):AK P w K mg base CX k f fd ps sp:=⟨F.len,λA outer s H args us vs Q E hr=>F.run A outer s H args us vs Q E (hr.mono h)⟩
theorem Ea.make(e:Ea P w K mg base A outer s H)(C:Addr)(us:mH)(kw:List (Str×Value)):Ea P w K mg base (A.under (.builtin "type.__call__" ⟨.ref C::us,kw⟩)) outer s H:=⟨by first|exact e.frames|(simpa [FG,Code.envs,IP,pushEnvs]using e.frames),e.mod,e.bs,e.bsz,e.funs,e.frf,e.hok,e.bare⟩
section
variable{X:Cx}{YK:mG}{L:St}{H:Hp}{s s':Shared}
theorem Inv.env0(I:Inv X YK L H s):Ea X.prog X.w X.K X.mg X.base X.A X.stack s H :=
 ⟨I.ok.frames,I.ok.mod,I.bs,Bi I.ok.bsz I.sz,I.stack,I.stkFree,I.hok,I.bare⟩
theorem Inv.after{Q:VK}{u:Value}(I:Inv X YK L H s)(h:CE X.stack X.prog X.w H s Q u s'):EP X YK L Q u s':=by obtain⟨v,H',os,bare,un,hok,r,q⟩:=h;obtain⟨hh,g,d,t,os'⟩:=s';obtain rfl:os'=s.os:=os;exact⟨v,H',I.call (h':=hh) (g':=g) (d':=d) (t':=t) (ch:=[]) un hok bare (λb z=>absurd z (by simp)),r,q⟩
end
noncomputable def Pk (sp:Sp) (bF:List V) (E:XK) (t:TA):TE:=λL H Q=>t L H λvs H1=>sp (vs++bF) H1 Q E
noncomputable def O4(C:Addr)(sp:Sp)(bF:List V)(E:XK)(t:TA):TE:=λL H Q=>t L H λvs H1=>∀x dx,H1 x=U->H1 dx=U->dx≠x ->
 sp (.ref x::(vs++bF)) (upd (upd H1 dx (.own x)) x (.ins C dx [])) (λv H2=>v=.non/\Q (.ref x) H2) E
noncomputable def Binds(K:Ad)(fd:FuncData)(ps:mI)(ds:mH):Prop :=
 ∀(s:Shared) (us:mH),K.In s.heap->(us++ds).length=ps.length->BindsTo s fd ⟨us,[]⟩ (ps.zip (us++ds))
theorem Binds.all{fd:FuncData}(h:∀us:mH,BX us=ps.length->bindArgs fd ⟨us,[]⟩=pure (ps.zip us)):Binds K fd ps []:=λs us _ hl=>by rw[F8]at hl ⊢;exact .of_eq (h us hl)
noncomputable def Y1(CX:cD)(X:Cx)(E:XK):Prop:=∀(YK:mG) (L:St) (H:Hp) (s:Shared) (e:Value) (s':Shared),Inv X YK L H s->CX X.stack H s E e s'->X.xe e s'
section
variable{X:Cx}{CX:cD}{k:Nat}{f C:Addr}{fd:FuncData}{ps:mI}{sp:Sp}{bF:List V}{ds:mH}{E:XK}{x m:Str}{p pos ao:Pos}{e o:Expr}{es:List Expr}{ta:TE}{t:TA}
theorem QJ{Q:VK}(F:AK X.prog X.w X.K X.mg X.base CX k f fd ps sp)(hr:Z6 k X.A)(hb:Binds X.K fd ps ds)(hd:YN bF ds)(hx:Y1 CX X E)(I:Inv X YK L H s)(r:YN vs us)(h:sp (vs++bF) H Q E):wpAny (model X.prog X.w) X.A (call (.ref f) us) (EP X YK L Q) X.xe s:=by
 have r2:YN (vs++bF) (us++ds):=r.append hd;have hl:(us++ds).length=ps.length:=by rw[<-r2.length];exact F.len _ _ _ _ h
 refine Fq (DY (F.run X.A X.stack s H ⟨us,[]⟩ (us++ds) (vs++bF) Q E hr I.env0 (hb s us I.kIn hl) r2 h) λr s' hq=>?_);cases r with
 |error e=>exact hx YK L H s e s' I hq
 |ok fl =>
  cases fl with
  |ret u=>exact I.after hq
  |next=>exact AX hq
  |brk=>exact AX hq
  |cont=>exact AX hq
theorem NG(F:AK X.prog X.w X.K X.mg X.base CX k f fd ps sp)(hr:Z6 k X.A)(hg:Gl X x)(hm:X.mg x=Z (.ref f))(hk:B3 X.K (.ref f)=Y)(hb:Binds X.K fd ps ds)(hd:YN bF ds)(hx:Y1 CX X E)(ha:PA X (e::es) t)(aE:(x==("__debug__":Str))=Ab:=by decide)(he:Ae (e::es) X.env=(Ab,eval e X.env)::Ae es X.env:=by rfl)(hpl:(backTo pos (Ae es X.env)).any (·.1)=Ab:=by rfl):PE X (.Call (.Name x p) (e::es) [] pos) (Pk sp bF E t):=by
 intro YK s L H Q I h;refine Du (Eo I hg hm ?_ aE);refine LQ (h₀:=X.base) I.ok.mod.kin hk (Dx (ha pos YK s L H _ I h) λus s1 vs H1 I1 r q=>⟨I1.kIn,?_⟩) he hpl;exact QJ F hr hb hd hx I1 r q
structure Mk(K:Ad)(C f:Addr):Prop where
 makes:Jh K C=Y
 init:AL K (.ref C) "__init__"=Z (Z (.ref f))
 fn:GN K (.ref f)=Y
 kp:B3 K (.ref C)=Y
theorem S4{Q:VK}(M:Mk X.K C f)(F:AK X.prog X.w X.K X.mg X.base CX k f fd ps sp)(hr:Z6 (k+1) X.A)(hb:Binds X.K fd ps ds)(hd:YN bF ds)(hx:Y1 CX X E)(I:Inv X YK L H s)(r:YN vs us)(h:∀x dx,H x=U->H dx=U->dx≠x->sp (.ref x::(vs++bF)) (upd (upd H dx (.own x)) x (.ins C dx [])) (λv H2=>v=.non/\Q (.ref x) H2) E):wpAny (model X.prog X.w) X.A (call (.ref C) us) (EP X YK L Q) X.xe s:=by
 have hq:=h (s.heap.objs.size+1) s.heap.objs.size (I.hok.fresh (GP _)) (I.hok.fresh (Al _)) (Am (FQ _));have I2:=Inv.made (C:=C) I;have r2:YN (V.ref (s.heap.objs.size+1)::(vs++bF)) (Au (s.heap.objs.size+1)::(us++ds)):=.cons rfl (r.append hd);have hl:(Au (s.heap.objs.size+1)::us++ds).length=ps.length:=by have e:=r2.length;rw[F.len _ _ _ _ hq]at e;exact e.symm
 refine Fq (SW (f:=f) I.kIn M.makes M.init (beq_iff_eq.mp M.fn) (DY (F.run _ X.stack _ _ ⟨Au (s.heap.objs.size+1)::us,[]⟩ (Au (s.heap.objs.size+1)::(us++ds)) _ _ E (hr.make C us [])
  (I2.env0.make C us []) (hb _ (Au (s.heap.objs.size+1)::us) I2.kIn hl) r2 hq) λr s' hq'=>?_))
 cases r with
 |error e=>exact hx YK L _ _ e s' I2 hq'
 |ok fl =>
  cases fl with
  |ret u=>obtain⟨v,H',I3,rv,ev,q3⟩:=I2.after hq';subst ev;exact⟨rv,⟨V.ref (s.heap.objs.size+1),H',I3,rfl,q3⟩⟩
  |next=>exact AX hq'
  |brk=>exact AX hq'
  |cont=>exact AX hq'
theorem QP(M:Mk X.K C f)(F:AK X.prog X.w X.K X.mg X.base CX k f fd ps sp)(hr:Z6 (k+1) X.A)(hg:Gl X x)(hm:X.mg x=Z (.ref C))(hb:Binds X.K fd ps ds)(hd:YN bF ds)(hx:Y1 CX X E)(ha:PA X (e::es) t)(aE:(x==("__debug__":Str))=Ab:=by decide)(he:Ae (e::es) X.env=(Ab,eval e X.env)::Ae es X.env:=by rfl)(hpl:(backTo pos (Ae es X.env)).any (·.1)=Ab:=by rfl):PE X (.Call (.Name x p) (e::es) [] pos) (O4 C sp bF E t):=by
 intro YK s L H Q I h;refine Du (Eo I hg hm ?_ aE);refine LQ (h₀:=X.base) I.ok.mod.kin M.kp (Dx (ha pos YK s L H _ I h) λus s1 vs H1 I1 r q=>⟨I1.kIn,?_⟩) he hpl;exact S4 M F hr hb hd hx I1 r q
end
structure Zp(N P:mI)(sc:Scope):Prop where
 kind:sc.kind=.function
 co:sc.isCoroutine=Ab
 gen:sc.isGenerator=Ab
 nd:N.Nodup
 pre:N.take P.length=P
 par:∀x∈P,sc.names.lookup x=Z .local\/sc.names.lookup x=Z .cell
 nofree:∀y∈sc.names,y.2≠.free
theorem Ox{kindOf:Str->Option NameKind}{x:Str}:∀{binds:List (Str×Value)} {m:mF},(∀v,(x,v)∉binds)->bindL kindOf binds m x=m x
 |[],_,_=>rfl
 |(n,v)::r,m,h=>by
  unfold bindL;rw[Ox λw hw=>h w (AQ _ hw)];split
  .have:x≠n:=by rintro rfl;exact h v A9
   simp[this]
  .rfl
theorem Oc{kindOf:Str->Option NameKind}{x:Str}:∀{binds:List (Str×Value)} {m:mF},(∀v,(x,v)∉binds)->bindC kindOf binds m x=m x
 |[],_,_=>rfl
 |(n,v)::r,m,h=>by
  unfold bindC;rw[Oc λw hw=>h w (AQ _ hw)];split
  .rfl
  .have:x≠n:=by rintro rfl;exact h v A9
   simp[this]
theorem N9{kindOf:Str->Option NameKind}{x:Str}{v:Value}:∀{P:mI} {vs:mH} {i:Nat} {m:mF},P.Nodup->P[i]?=Z x->vs[i]?=Z v->kindOf x=Z .local ->bindL kindOf (P.zip vs) m x=Z v
 |[],_,_,_,_,h,_,_=>by simp at h
 |_::_,[],_,_,_,_,h,_=>by simp at h
 |p::P,w::vs,0,m,nd,h1,h2,hk=>by simp at h1 h2;subst h1;subst h2;show bindL kindOf ((p,w)::P.zip vs) m p=_;unfold bindL;rw[Ox λv hv=>(Cm.mp nd).1 (Jg hv).1,if_pos hk];simp
 |p::P,w::vs,i+1,m,nd,h1,h2,hk=>by show bindL kindOf ((p,w)::P.zip vs) m x=_;unfold bindL;exact N9 (i:=i) (Cm.mp nd).2 (by simpa using h1) (by simpa using h2) hk
theorem Of{kindOf:Str->Option NameKind}{x:Str}{v:Value}:∀{P:mI} {vs:mH} {i:Nat} {m:mF},P.Nodup->P[i]?=Z x->vs[i]?=Z v->kindOf x≠Z .local ->bindC kindOf (P.zip vs) m x=Z v
 |[],_,_,_,_,h,_,_=>by simp at h
 |_::_,[],_,_,_,_,h,_=>by simp at h
 |p::P,w::vs,0,m,nd,h1,h2,hk=>by simp at h1 h2;subst h1;subst h2;show bindC kindOf ((p,w)::P.zip vs) m p=_;unfold bindC;rw[Oc λv hv=>(Cm.mp nd).1 (Jg hv).1,if_neg hk];simp
 |p::P,w::vs,i+1,m,nd,h1,h2,hk=>by show bindC kindOf ((p,w)::P.zip vs) m x=_;unfold bindC;exact Of (i:=i) (Cm.mp nd).2 (by simpa using h1) (by simpa using h2) hk
noncomputable def start(N:mI)(vs:List V):St:=vs.map Z++CM (N.length-vs.length) U
noncomputable def AG(CX:cD)(P:Program)(w:World)(K:Ad)(mg:mF)(base:Heap)(N:mI)(YO:Str)(scope:Scope)(f:Addr)(cd:Value)(A:Around)(outer:List Env)(s:Shared)(H:Hp)(E:XK):Cx where
 prog:=P
 w:=w
 K:=K
 mg:=mg
 base:=base
 A:=A.deeper (envOfC YO scope s.heap.objs.size f cd)
 N:=N
 s₀:=s
 H₀:=H
 env:=envOfC YO scope s.heap.objs.size f cd
 outer:=outer
 stack:=envOfC YO scope s.heap.objs.size f cd::outer
 ex:=[]
 calm:=Y
 fn:=λ_=>Y
 pn:=[]
 xe:=λe s'=>wpAny (model P w) (A.deeper (envOfC YO scope s.heap.objs.size f cd)) (leaving (envOfC YO scope s.heap.objs.size f cd) e) (λ_ s''=>CX outer H s E e s'') (λe' s''=>CX outer H s E e' s'') s'
theorem NX{sc:Scope}{n:Nat}{x:Str}(h:sc.names.lookup x=Z .cell):∃c,(cellsFrom n sc.names []).lookup x=Z c:=by have q:=L7 sc.names n [] (.inl h);exact Jr.mp q
theorem SS{CX:cD}{N:mI}{cd:Value}{s1:Shared}{E:XK}(mr:Zp N ps scope)(hd:A.handled=U)(e0:Ea P w K mg base A outer s H)(hl:BX vs=ps.length)(r:YN vs us)(x:InCallC s s.heap.objs.size (bindL (envOfC YO scope s.heap.objs.size f cd).kindOf (ps.zip us) λ_=>U) (cellsFrom (s.heap.objs.size+1) scope.names []) (bindC (envOfC YO scope s.heap.objs.size f cd).kindOf (ps.zip us) λ_=>U) s1):Inv (AG CX P w K mg base N YO scope f cd A outer s H E) [] (start N vs) H s1:=by
 have hpl:BX ps<=BX N:=by have:=congrArg BX mr.pre;rw[FP]at this;omega
 obtain⟨h1,tk,rfl,hk⟩:=x.done;have d8:∀b:Addr,b∉(AG CX P w K mg base N YO scope f cd A outer s H E).ex:=λb z=>absurd (show b∈([]:List Addr) from z) (by simp);refine⟨⟨e0.mod,mr.kind,rfl,rfl,Al _,λy z c h1 h2=>?_,λy hy=>?_,λy c _ h=>?_,λ_=>hd,Around.frames_deeper e0.frames,.inr ⟨rfl,rfl⟩,λb z=>absurd z (d8 b),e0.bs,e0.bsz,λb _ _=>d8 b,λb z=>absurd z (d8 b),e0.funs,e0.frf⟩,
  rfl,e0.bare,Un.kept hk,⟨_,x.toInCall.ns,λi y v h1 h2 h3=>?_⟩,λy c h=>⟨_,x.cell y c h⟩,e0.hok.fresh (Al _),λy c h=>?_,λp hp=>absurd (show p∈([]:mG) from hp) (by simp),e0.hok.kept hk,?_⟩
 .exact name_of_addr x.apart (FZ h1) (FZ h2)
 .have hy:scope.names.lookup y=Z .cell\/scope.names.lookup y=Z .free:=hy
  rcases hy with hy|hy
  .exact NX hy
  .exact absurd rfl (mr.nofree _ (FZ hy))
 .exact EO (x.above y c (FZ h))
 .have hi:i<BX vs:=by
   unfold start at h2
   by_cases hi:i<BX vs
   .exact hi
   .rw[CT (by simpa using hi)]at h2
    rw[FO]at h2;split at h2<;>cases h2
  have ha:vs[i]?=Z v:=by
   unfold start at h2;rw[CS (by simpa using hi),Bh]at h2;cases e:vs[i]? with
   |none=>rw[e]at h2;cases h2
   |some a=>rw[e]at h2;cases h2;rfl
  obtain⟨u,hu,rv⟩:=r.get ha;have hp:ps[i]?=Z y:=by rw[<-mr.pre,LV (by omega)];exact h1
  have jm:ps.Nodup:=by rw[<-mr.pre];exact mr.nd.sublist (List.take_sublist _ _)
  refine⟨u,rv,?_⟩;rcases mr.par y (Cp hp)with k|k
  .exact .inl ⟨k,N9 jm hp hu k⟩
  .obtain⟨c,e⟩:=NX (n:=s.heap.objs.size+1) k
   refine .inr ⟨.inl k,c,e,?_⟩;have q:=x.cell y c e;rw[Of jm hp hu (by show scope.names.lookup y≠_;rw[k];decide)]at q;exact q
 .exact e0.hok.fresh (EO (x.above y c (FZ h)))
 .unfold start
  show _=N.length;rw[A3,Ap,BR];omega
theorem MK{CX:cD}{k:Nat}{name:Str}{params:Arguments}{body:List Stmt}{dV kV aH pm YQ ct oc:Value}{an od:Option Addr}{bO:Array (Option Value)}{N ps:mI}{sp:Sp}(lk:K.lookup f=Z ⟨oc,od,.func (BE name YO params body scope dV kV aH pm an YQ ct),bO⟩)(Y7:D3 K YQ YO=Y)(mr:Zp N ps scope)(len:∀vs H Q E,sp vs H Q E->vs.length=ps.length)
  (cz:∀(A:Around) (outer:List Env) (s:Shared) (H:Hp) (vs:List V) (Q:VK) (E:XK),Z6 k (A.deeper (envOfC YO scope s.heap.objs.size f YQ))->sp vs H Q E ->
   ∃t,aA (AG CX P w K mg base N YO scope f YQ A outer s H E) body t/\t {nx:=λ_ H'=>Q .non H',rt:=Q} (start N vs) H):
  AK P w K mg base CX (k+1) f (BE name YO params body scope dV kV aH pm an YQ ct) ps sp:=by
 refine⟨len,λA outer s H args us vs Q E hr e0 hb r cX=>?_⟩;have hl:=len _ _ _ _ cX;have KX:K.In s.heap:=e0.mod.kin.keeps λb o e=>(e0.bs b o e).1;have kh:s.heap.NoLimit:=e0.mod.nolimit.keeps λb o e=>(e0.bs b o e).1;have eU:∀y∈ps.zip us,scope.names.lookup y.1=Z .local\/(scope.names.lookup y.1=Z .cell/\((cellsFrom (s.heap.objs.size+1) scope.names []).lookup y.1).isSome=Y):=λ⟨n,v⟩ hy=>by
  rcases mr.par n (Jg hy).1 with q|q
  .exact .inl q
  .exact .inr ⟨q,L7 _ _ _ (.inl q)⟩
 refine codeAny_call_function hr.depth (KX _ _ lk) rfl mr.co mr.gen rfl (PySem.W.codeRec_of KX Y7) (hb _ _ _ _ ?_);refine wpAny_newFunctionEnv_cells mr.kind eU λenv he s1 x=>?_;subst he;refine⟨kh.keeps x.toInCall.keep,codeAny_func ?_⟩;obtain⟨t,ht,hq⟩:=cz A outer s H vs Q E (hr.deeper _) cX;have I:Inv (AG CX P w K mg base N YO scope f YQ A outer s H E) [] (start N vs) H s1:=SS mr hr.hd e0 hl r x;refine Ax (ht [] s1 (start N vs) H _ I hq) (λfl s' hs=>?_) λe s' hs=>hs;have YZ:∀{σ':St} {H':Hp} {v:V} {u:Value},Inv (AG CX P w K mg base N YO scope f YQ A outer s H E) [] σ' H' s'->RelV v u->Q v H'->CE outer P w H s Q u s' :=
  λ{σ' H' v u} J rv q=>⟨v,H',J.os,J.bare,J.base,J.hok,rv,q⟩
 cases fl with
 |ret u=>obtain⟨v,σ',H',J,rv,q⟩:=hs;exact YZ J rv q
 |next=>obtain⟨σ',H',J,q⟩:=hs;exact YZ (v:=V.non) (u:=AR) J rfl q
 |brk=>obtain⟨_,_,_,q⟩:=hs;exact AX q
 |cont=>obtain⟨_,_,_,q⟩:=hs;exact AX q
end
section
variable{X:Cx}{x:Str}{p pos:Pos}{e:Expr}{es:List Expr}{t:TA}{id T:String}{r:List V->Hp->VK->Prop}
noncomputable def eZ(r:List V->Hp->VK->Prop)(t:TA):TE:=λL H Q=>t L H λvs H1=>r vs H1 Q
theorem E9(hc:AI X (.builtin id) r)(hg:Gl X x)(hm:X.mg x=U)(hv:A4 x=Z (.builtin id))(ha:PA X (e::es) t)(hn:x ≠ "__name__":=by decide)(aE:(x==("__debug__":Str))=Ab:=by decide)(he:Ae (e::es) X.env=(Ab,eval e X.env)::Ae es X.env:=by rfl)(hpl:(backTo pos (Ae es X.env)).any (·.1)=Ab:=by rfl):PE X (.Call (.Name x p) (e::es) [] pos) (eZ r t):=by
 intro YK s L H Q I h;refine Du (Dc I hg hm hv ?_ hn aE);exact Mn (Dx (ha pos YK s L H _ I h) λus s1 vs H1 I1 r1 q1=>hc YK s1 L H1 vs us Q I1 r1 q1) he hpl
theorem OA(hc:AI X (.type T) r)(hg:Gl X x)(hm:X.mg x=U)(hv:A4 x=Z (.type T))(ha:PA X (e::es) t)(hn:x ≠ "__name__":=by decide)(aE:(x==("__debug__":Str))=Ab:=by decide)(he:Ae (e::es) X.env=(Ab,eval e X.env)::Ae es X.env:=by rfl)(hpl:(backTo pos (Ae es X.env)).any (·.1)=Ab:=by rfl):PE X (.Call (.Name x p) (e::es) [] pos) (eZ r t):=by
 intro YK s L H Q I h;refine Du (Dc I hg hm hv ?_ hn aE);exact D7 (Dx (ha pos YK s L H _ I h) λus s1 vs H1 I1 r1 q1=>hc YK s1 L H1 vs us Q I1 r1 q1) he hpl
end
end L2
namespace HT
set_option maxHeartbeats 8000000
open PySem PyProof.Rows
section
open PySem.SeqAt
open PySem.MeetsSeq PySem.MeetsSeq2 PySem.MeetsSeq3
end
end HT
namespace L2
open PySem PySem.Spec PyProof.Rows
section
variable{i:Int}{s:Shared}{x y:V}{u v:Value}
noncomputable def cG(n:Nat)(i:Int):Option Nat:=if 0<=i then(if i<n then Z i.toNat else U)else if -(n:Int)<=i then Z (i+n).toNat else U
noncomputable def dz{α:Type}(xs:List α)(i:Int):Option α:=(cG xs.length i).bind λj=>xs[j]?
theorem R7{n:Nat}{j:Nat}(h:cG n i=Z j):seqIndex? i n=Z j/\j<n/\-(n:Int)<=i/\i<n:=by
 unfold cG at h
 by_cases h0:0<=i
 .rw[if_pos h0]at h
  by_cases h1:i<n
  .rw[if_pos h1]at h
   have e:i.toNat=j:=B4 h;exact⟨by rw[seqIndex_of h0 h1,e],by omega,by omega,h1⟩
  .rw[if_neg h1]at h;cases h
 .rw[if_neg h0]at h
  by_cases h1:-(n:Int)<=i
  .rw[if_pos h1]at h
   have e:(i+n).toNat=j:=B4 h;exact⟨by rw[seqIndex_neg (by omega) h1,e],by omega,h1,by omega⟩
  .rw[if_neg h1]at h;cases h
theorem JZ{α:Type}{xs:List α}{v:α}(h:dz xs i=Z v):∃j,seqIndex? i xs.length=Z j/\xs[j]?=Z v/\j<BX xs/\-(xs.length:Int)<=i/\i<BX xs:=by
 unfold dz at h;cases e:cG xs.length i with
 |none=>rw[e]at h;cases h
 |some j=>rw[e]at h;obtain⟨h1,h2,h3,h4⟩:=R7 e;exact⟨j,h1,h,h2,h3,h4⟩
noncomputable def Ny(b:Expr):Prop:=∀o i,GO b Ab o i=operate [o,i] (getItem o i)
noncomputable def cM(X:Cx)(r:R2):Prop :=
 ∀(value Y9:Expr) (YK:mG) (s:Shared) (L:St) (H:Hp) (x y:V) (v u:Value) (Q:VK),Inv X YK L H s->RelV x v->RelV y u->r x y H Q ->
  GO Y9 Ab v u=operate [v,u] (getItem v u)->wpAny (model X.prog X.w) X.A (subscriptTail value Y9 v u) (EP X YK L Q) X.xe s
noncomputable def jL(X:Cx)(id:String)(r:V->List V->Hp->VK->Prop):Prop :=
 ∀(YK:mG) (s:Shared) (L:St) (H:Hp) (x:V) (xs:List V) (v:Value) (us:mH) (Q:VK),Inv X YK L H s->RelV x v->YN xs us->r x xs H Q ->
  wpAny (model X.prog X.w) X.A (call (.builtin id) (v::us)) (EP X YK L Q) X.xe s
section
variable{X:Cx}{a b:Expr}{ta tb:TE}{pos:Pos}
theorem cM.or{r r':R2}(h:cM X r)(h':cM X r'):cM X (λx y H Q=>r x y H Q\/r' x y H Q):=by
 intro value Y9 YK s L H x y v u Q I rx ry q hs;rcases q with q|q
 .exact h value Y9 YK s L H x y v u Q I rx ry q hs
 .exact h' value Y9 YK s L H x y v u Q I rx ry q hs
theorem O3{r:R2}(hr:cM X r)(ha:PE X a ta)(hb:PE X b tb)(hs:Ny b):PE X (.Subscript a b pos) (dM r ta tb):=by intro YK s L H Q I h;exact Subscript_ (JG ha hb I h λv u s2 x y H2 I2 rx ry q=>hr a b YK s2 L H2 x y v u Q I2 rx ry q (hs _ _))
noncomputable def Mt(K:Ad):R2:=λx y H Q=>∃p xs i v,x=.ref p/\y=.int i/\au K H p xs/\dz xs i=Z v/\Q v H
noncomputable def ME(K:Ad):R2:=λx y H Q=>∃p xs i v,x=.ref p/\y=.int i/\aN K H p xs/\dz xs i=Z v/\Q v H
noncomputable def Mx:R2:=λx y H Q=>∃z i c,x=.str z/\y=.int i/\z.length<=sizeLine/\dz z.cps.toList i=Z c/\Q (.str ⟨#[c]⟩) H
theorem QZ:cM X (Mt X.K):=by
 intro value Y9 YK s L H x y v u Q I rx ry h hs;obtain⟨p,xs,i,z,rfl,rfl,hq,he,q⟩:=h;cases rx;obtain⟨t,rfl⟩:=ry;obtain⟨YL,r,pl,hz⟩:=I.list hq;obtain⟨j,h1,h2,h3,h4,h5⟩:=JZ he;obtain⟨w,ew,rw'⟩:=r.get h2;have hl:=r.length;have hn:=HF;have YZ:EP X YK L Q w s:=⟨z,H,I,rw',q⟩
 by_cases h0:0<=i
 .have hj:i.toNat=j:=by
   rw[seqIndex_of h0 h5]at h1;exact B4 h1
  exact item_listR pl.isList h0 (by omega) (by rw[hj];simpa using ew) YZ hs
 .have hj:(i+(YL.toArray.size:Int)).toNat=j:=by
   rw[seqIndex_neg (by omega) h4]at h1;rw[Ay,<-hl];exact B4 h1
  exact subscriptTail_builtinR (x:=w) pl.isList.typeIs slot_list_getitem.lookup
   (wpAny_getItem_list_neg (Q:=λr s'=>r=w/\EP X YK L Q r s') pl.isList (by omega) (by rw[Ay]<;>omega) (by omega) (by rw[hj];simpa using ew) ⟨rfl,YZ⟩) hs
theorem Qf:cM X (ME X.K):=by
 intro value Y9 YK s L H x y v u Q I rx ry h hs;obtain⟨p,xs,i,z,rfl,rfl,hq,he,q⟩:=h;cases rx;obtain⟨t,rfl⟩:=ry;obtain⟨YL,r,pl,hz⟩:=I.tuple hq;obtain⟨j,h1,h2,h3,h4,h5⟩:=JZ he;obtain⟨w,ew,rw'⟩:=r.get h2;have hl:=r.length;have hn:=HF;have YZ:EP X YK L Q w s:=⟨z,H,I,rw',q⟩;exact subscriptTail_builtinR (x:=w) pl.typeIs slot_tuple_getitem.lookup
  (getItem_tuple (j:=j) (Q:=λr s'=>r=w/\EP X YK L Q r s') pl (by omega) (by omega) (by rw[Ay,<-hl];exact h1) (by simpa using ew) ⟨rfl,YZ⟩) hs
theorem Rq:cM X Mx:=by
 intro value Y9 YK s L H x y v u Q I rx ry h hs;obtain⟨z,i,c,rfl,rfl,hz,he,q⟩:=h;obtain⟨t,rfl⟩:=rx;obtain⟨t',rfl⟩:=ry;obtain⟨j,h1,h2,h3,h4,h5⟩:=JZ he;have hl:z.cps.toList.length=z.length:=by simp[Str.length]
 rw[hl]at h1 h4 h5;have hn:=HF;exact tail_any (typeIs_str s z t) slot_str_getitem.lookup (getItem_str (c:=c) (by have e1:decide (i < -(2 ^ 63:Int))=Ab:=decide_eq_false (by omega);have e2:decide (i ≥ 2 ^ 63)=Ab:=decide_eq_false (by omega);rw[e1,e2,Bool.or_false]) (by rw[h1];simpa using h2) ⟨.str ⟨#[c]⟩,H,I.tok _,⟨_,rfl⟩,q⟩) hs
noncomputable def j7(K:Ad):R2:=λx y H Q=>Mt K x y H Q\/ME K x y H Q\/Mx x y H Q
theorem RE:cM X (j7 X.K):=QZ.or (Qf.or Rq)
noncomputable def De:V->Bool
 | .non=>Y
 | .bl _=>Y
 | .int _=>Y
 | .str _=>Y
 |_=>Ab
noncomputable def da:V->V->Bool
 | .non,.non=>Y
 | .bl a,.bl b=>a==b
 | .bl a,.int b=>(if a then 1 else 0)==b
 | .int a,.bl b=>a==(if b then 1 else 0)
 | .int a,.int b=>a==b
 | .str a,.str b=>a==b
 |_,_=>Ab
theorem Qz{A:Around}(ry:RelV y u)(rx:RelV x v)(fy:De y=Y)(fx:De x=Y):SeqAt.EqAt A s u v (da y x):=by
 cases y with
 |non =>
  cases ry;cases x with
  |non=>cases rx;exact SeqAt.EqAt.same _
  |bl b=>cases rx;exact SeqAt.EqAt.none_bool b
  |int b=>obtain⟨t,rfl⟩:=rx;exact SeqAt.EqAt.none_int b t
  |str b=>obtain⟨t,rfl⟩:=rx;exact SeqAt.EqAt.none_str b t
  |_=>exact absurd (show Ab=Y from fx) Bw
 |bl a =>
  cases ry;cases x with
  |non=>cases rx;exact SeqAt.EqAt.bool_none a
  |bl b=>cases rx;exact SeqAt.EqAt.bool_bool a b
  |int b=>obtain⟨t,rfl⟩:=rx;exact SeqAt.EqAt.bool_int a b t
  |str b=>obtain⟨t,rfl⟩:=rx;exact SeqAt.EqAt.bool_str a b t
  |_=>exact absurd (show Ab=Y from fx) Bw
 |int a =>
  obtain⟨t',rfl⟩:=ry;cases x with
  |non=>cases rx;exact SeqAt.EqAt.int_none a t'
  |bl b=>cases rx;exact SeqAt.EqAt.int_bool a t' b
  |int b=>obtain⟨t,rfl⟩:=rx;exact SeqAt.EqAt.int_int a t' b t
  |str b=>obtain⟨t,rfl⟩:=rx;exact Mg a t' b t
  |_=>exact absurd (show Ab=Y from fx) Bw
 |str a =>
  obtain⟨t',rfl⟩:=ry;cases x with
  |non=>cases rx;exact SeqAt.EqAt.str_none a t'
  |bl b=>cases rx;exact SeqAt.EqAt.str_bool a t' b
  |int b=>obtain⟨t,rfl⟩:=rx;exact Mf a t' b t
  |str b=>obtain⟨t,rfl⟩:=rx;exact SeqAt.EqAt.str_str a t' b t
  |_=>exact absurd (show Ab=Y from fx) Bw
 |_=>exact absurd (show Ab=Y from fy) Bw
noncomputable def bE(x:V)(u:Value):Bool:=match u with
 | .none=>da .non x
 | .bool b=>da (.bl b) x
 | .int i _=>da (.int i) x
 | .str z _=>da (.str z) x
 |_=>Ab
theorem MX(r:RelV y u)(f:De y=Y):bE x u=da y x:=by
 cases y with
 |non=>cases r;rfl
 |bl b=>cases r;rfl
 |int i=>obtain⟨t,rfl⟩:=r;rfl
 |str z=>obtain⟨t,rfl⟩:=r;rfl
 |_=>exact absurd (show Ab=Y from f) Bw
theorem Gv{x:V}:∀{xs:List V} {us:mH},YN xs us->xs.all De=Y->us.any (bE x)=xs.any λy=>da y x
 |_,_,.nil,_=>rfl
 |y::xs,u::us,.cons r t,f=>by rw[Jl,Av]at f;rw[ES,ES,MX r f.1,Gv t f.2]
theorem Gs{A:Around}{s:Shared}{x:V}{v:Value}(rx:RelV x v)(fx:De x=Y):∀{xs:List V} {us:mH},YN xs us->xs.all De=Y->∀u∈us,SeqAt.EqAt A s u v (bE x u)
 |_,_,.nil,_=>λu hu=>by cases hu
 |y::xs,u::us,.cons r t,f=>λu' hu=>by
  rw[Jl,Av]at f;rcases Ak.mp hu with rfl|hu
  .rw[MX r f.1];exact Qz r rx f.1 fx
  .exact Gs rx fx t f.2 u' hu
noncomputable def fu(x:V)(xs:List V):Bool:=xs.any λy=>da y x
noncomputable def fh(K:Ad)(cW:Bool):R2:=λx y H Q=>∃p xs,y=.ref p/\(au K H p xs\/aN K H p xs)/\De x=Y/\xs.all De=Y/\Q (.bl (if cW then !fu x xs else fu x xs)) H
theorem Ul:aM X (Bp .In) (fh X.K Ab):=by
 intro YK s L H x y v u Q I rx ry h;obtain⟨p,xs,rfl,hq,fx,fs,q⟩:=h;cases ry;rcases hq with hq|hq
 .obtain⟨YL,r,pl,hz⟩:=I.list hq
  refine SeqAt.in_listAt (bE x) pl.isList (λw hw=>Gs rx fx r fs w (by simpa using hw)) ⟨.bl _,H,I,rfl,?_⟩;rw[show YL.toArray.any (bE x)=YL.any (bE x) by simp,Gv r fs];exact q
 .obtain⟨YL,r,pl,hz⟩:=I.tuple hq
  refine SeqAt.in_tupleAt (bE x) pl (λw hw=>Gs rx fx r fs w (by simpa using hw)) ⟨.bl _,H,I,rfl,?_⟩;rw[show YL.toArray.any (bE x)=YL.any (bE x) by simp,Gv r fs];exact q
theorem VD:aM X (Bp .NotIn) (fh X.K Y):=by
 intro YK s L H x y v u Q I rx ry h;obtain⟨p,xs,rfl,hq,fx,fs,q⟩:=h;cases ry;rcases hq with hq|hq
 .obtain⟨YL,r,pl,hz⟩:=I.list hq
  refine SeqAt.notIn_listAt (bE x) pl.isList (λw hw=>Gs rx fx r fs w (by simpa using hw)) ⟨.bl _,H,I,rfl,?_⟩;rw[show YL.toArray.any (bE x)=YL.any (bE x) by simp,Gv r fs];exact q
 .obtain⟨YL,r,pl,hz⟩:=I.tuple hq
  refine SeqAt.notIn_tupleAt (bE x) pl (λw hw=>Gs rx fx r fs w (by simpa using hw)) ⟨.bl _,H,I,rfl,?_⟩;rw[show YL.toArray.any (bE x)=YL.any (bE x) by simp,Gv r fs];exact q
theorem VN:AI X (.builtin "len") (λxs H Q=>∃p ys,xs=[.ref p]/\(au X.K H p ys\/aN X.K H p ys)/\Q (.int ys.length) H):=by
 intro YK s L H xs us Q I r h;obtain⟨p,ys,rfl,hq,q⟩:=h;obtain⟨u,rfl,rx⟩:=vals1 r;cases rx;have hn:=HF;rcases hq with hq|hq
 .obtain⟨YL,r',pl,hz⟩:=I.list hq
  have aw:=r'.length;exact Calls.call_len_list pl.isList (by simp only[Ay]<;>omega) ⟨.int ys.length,H,I.tok _,⟨s.toks+1,by rw[Ay,aw]⟩,q⟩
 .obtain⟨YL,r',pl,hz⟩:=I.tuple hq
  have aw:=r'.length;exact len_tuple pl (by simp only[Ay]<;>omega) ⟨.int ys.length,H,I.tok _,⟨s.toks+1,by rw[Ay,aw]⟩,q⟩
theorem AI.or{f:Value}{r r':List V->Hp->VK->Prop}(h:AI X f r)(h':AI X f r'):AI X f (λxs H Q=>r xs H Q\/r' xs H Q):=by
 intro YK s L H xs us Q I rs q;rcases q with q|q
 .exact h YK s L H xs us Q I rs q
 .exact h' YK s L H xs us Q I rs q
theorem Wt:AI X (.type "tuple") (λxs H Q=>∃p ys,xs=[.ref p]/\((au X.K H p ys/\∀l,H l=U->Q (.ref l) (upd H l (.tup ys)))\/(aN X.K H p ys/\Q (.ref p) H))):=by
 intro YK s L H xs us Q I r h;obtain⟨p,ys,rfl,h⟩:=h;obtain⟨u,rfl,rx⟩:=vals1 r;cases rx;rcases h with⟨hq,q⟩|⟨hq,q⟩
 .obtain⟨YL,r',pl,hz⟩:=I.list hq
  have aw:=r'.length;refine call_tuple_list pl.isList (λh' kp=>?_) (by simp only[Ay]<;>omega);have I1:Inv X YK L H {s with heap:=h'}:=I.kept (t':=s.toks) kp;have I2:Inv X YK L (upd H h'.objs.size (.tup ys)) {s with heap:=h'.push {cls:=.type "tuple",data:=.seq YL.toArray}} :=
   I1.laid (t':=s.toks) (λb o e=>Aj _ e) (Al _) (show Z0 X.prog X.w _ _ _ (.tup ys) from⟨hz,YL,r',IsTup.new _ _⟩)
  exact⟨.ref h'.objs.size,_,I2,rfl,q _ (I1.hok.fresh (Al _))⟩
 .obtain⟨YL,r',pl,hz⟩:=I.tuple hq
  exact call_tuple_same pl ⟨.ref p,H,I,rfl,q⟩
noncomputable def eY(K:Ad)(T:String)(x:V)(H:Hp):Prop:=match x with
 | .str _=>T = "str"
 | .int _=>T = "int"
 | .ref p=>(T = "list"/\∃xs,au K H p xs)\/(T = "tuple"/\∃o,K.lookup p=Z o/\o.cls=.type "tuple"/\o.dict=U) \/
   (T = "dict"/\((∃kvs,H p=Z (.dK kvs))\/∃kvs,H p=Z (.dT kvs)))\/(T = "set"/\∃mr n,H p=Z (.set mr n))
 |_=>False
theorem Nb{YK:mG}{L:St}{H:Hp}{T:String}(I:Inv X YK L H s)(r:RelV x v)(ty:eY X.K T x H):s.TypeIs v T/\∀a,v=.ref a->∃ob,s.heap.get? a=Z ob/\ob.dict=U:=by
 cases x with
 |str z=>obtain⟨t,rfl⟩:=r;cases(show T = "str" from ty);exact⟨typeIs_str s z t,λ_ e=>nomatch e⟩
 |int i=>obtain⟨t,rfl⟩:=r;cases(show T = "int" from ty);exact⟨typeIs_int s i t,λ_ e=>nomatch e⟩
 |ref p =>
  cases r;rcases ty with⟨rfl,xs,hq⟩|⟨rfl,o,hk,hc,hd⟩|⟨rfl,hk⟩|⟨rfl,mr,n,hk⟩
  .obtain⟨YL,_,pl,_⟩:=I.list hq
   refine⟨pl.isList.typeIs,λa e=>?_⟩;cases e;obtain⟨o,n,e,c,hd,_⟩:=pl;exact⟨o,e,hd⟩
  .refine⟨⟨o,I.kIn p o hk,hc⟩,λa e=>?_⟩
   cases e;exact⟨o,I.kIn _ o hk,hd⟩
  .have z:∃o,s.heap.get? p=Z o/\o.ExactDict:=by
    rcases hk with⟨kvs,hk⟩|⟨kvs,hk⟩
    .obtain⟨_,_,_,_,o,_,_,e,ex,_⟩:=I.hok p _ hk
     exact⟨o,e,ex⟩
    .obtain⟨_,_,_,_,o,_,_,e,ex,_⟩:=I.hok p _ hk
     exact⟨o,e,ex⟩
   obtain⟨o,e,ex⟩:=z;refine⟨⟨o,e,ex.1⟩,λa e2=>?_⟩;cases e2;exact⟨o,e,ex.2.1⟩
  .obtain⟨o,_,_,_,e,ex,_⟩:=I.hok p _ hk
   refine⟨⟨o,e,ex.1⟩,λa e2=>?_⟩;cases e2;exact⟨o,e,ex.2.1⟩
 |_=>exact AX ty
noncomputable def Pw(K:Ad)(T:String)(r:V->List V->Hp->VK->Prop)(to:TE):TE:=λL H Q=>to L H λx H1=>eY K T x H1/\r x [] H1 Q
noncomputable def jS(K:Ad)(T:String)(r:V->List V->Hp->VK->Prop)(to:TE)(t:TA):TE:=λL H Q=>to L H λx H1=>eY K T x H1/\t L H1 λxs H2=>r x xs H2 Q
variable{o e:Expr}{es:List Expr}{to:TE}{t:TA}{name:Str}{ao YW:Pos}{T id:String}{r:V->List V->Hp->VK->Prop}
theorem RK(pa:PlainAttrs T)(slot:Slot T name id)(gx:typeOf (.builtin id)=pure (.type "method_descriptor"))(hm:jL X id r)(ho:PE X o to)(Y3:Ck o name X.env (eval o X.env)=eval o X.env:=by rfl)(aq:(ao.endLine==YW.line)=Y:=by rfl):PE X (.Call (.Attribute o name ao) [] [] YW) (Pw X.K T r to):=by
 intro YK s L H Q I h;refine wpAny_Call_method0_late Y3 aq (Aw (ho YK s L H _ I h) λv s1 x H1 I1 r1 ⟨ty,q1⟩=>?_);obtain⟨h1,h2⟩:=Nb I1 r1 ty;exact⟨T,id,pa,slot,gx,h1,h2,Hq rfl (PySem.evalArgs_none (hm YK s1 L H1 x [] v [] Q I1 r1 .nil q1))⟩
theorem JH(pa:PlainAttrs T)(slot:Slot T name id)(gx:typeOf (.builtin id)=pure (.type "method_descriptor"))(hm:jL X id r)(ho:PE X o to)(ha:PA X (e::es) t)(Y3:Ck o name X.env (eval o X.env)=eval o X.env:=by rfl)
  (bL:((backTo YW (Ae (e::es) X.env)).all (λx=>!x.1)&&(Ez YW (EB [] X.env)).all (λx=>x.1.isSome)
   && decide ((e::es).length+([]:List Keyword).length+(if([]:List Keyword).isEmpty then 0 else 1)<30))=Y:=by rfl)
  (aq:(ao.endLine==YW.line)=Y:=by rfl)(hs:Ae (e::es) X.env=(Ab,eval e X.env)::Ae es X.env:=by rfl)(bM:(backTo YW (Ae es X.env)).any (·.1)=Ab:=by rfl):
  PE X (.Call (.Attribute o name ao) (e::es) [] YW) (jS X.K T r to t):=by
 intro YK s L H Q I h;refine wpAny_Call_method_late Y3 bL aq rfl (Aw (ho YK s L H _ I h) λv s1 x H1 I1 r1 ⟨ty,q1⟩=>?_);obtain⟨h1,h2⟩:=Nb I1 r1 ty;refine⟨T,id,pa,slot,gx,h1,h2,?_⟩;have hA:=ha YW YK s1 L H1 _ I1 q1;rw[hs]at hA ⊢;refine Hq (by show(Ab||(backTo YW (Ae es X.env)).any (·.1))=Ab;rw[bM]<;>rfl) (FJ ?_);exact Y6 hA λus s2 ⟨vs,H2,I2,r2,q2⟩=>hm YK s2 L H2 x vs v us Q I2 r1 r2 q2
end
end
section
variable{YL:mH}{n t':Nat}
noncomputable def ik(X:Cx)(id:String)(r:V->List V->Hp->VK->Prop):Prop :=
 ∀(YK:mG) (s:Shared) (L:St) (H:Hp) (x:V) (xs:List V) (v:Value) (us:mH) (Q:VK),Inv X YK L H s->RelV x v->YN xs us->r x xs H Q ->
  wpAny (model X.prog X.w) X.A (call (.builtin id) (v::us)) (EP X YK L Q) X.xe s
theorem YN.one:∀{x:V} {us:mH},YN [x] us->∃u,us=[u]/\RelV x u
 |_,_,.cons r .nil=>⟨_,rfl,r⟩
theorem YN.zero:∀{us:mH},YN [] us->us=[]
 |_,.nil=>rfl
theorem YN.dropLast{xs:List V}{us:mH}(h:YN xs us):YN xs.dropLast us.dropLast:=by
 induction h with
 |nil=>exact .nil
 |cons r t ih =>
  cases t with
  |nil=>exact .nil
  |cons q t'=>exact .cons r ih
theorem UA{α:Type}(l:List α):l.eraseIdx (l.length-1)=l.dropLast:=by
 induction l with
 |nil=>rfl
 |cons a r ih =>
  cases r with
  |nil=>rfl
  |cons b r =>
   have e:(a::b::r).length-1=((b::r).length-1)+1:=by have h1:(a::b::r).length=r.length+2:=rfl;have h2:(b::r).length=r.length+1:=rfl;omega
   rw[e,List.eraseIdx_cons_succ,ih]
   all_goals rfl
section
variable{X:Cx}{YK:mG}{L:St}{H:Hp}{s:Shared}{l b:Addr}{xs ys zs:List V}
theorem Inv.lset{its':mH}{f:Array Value->Array Value}(I:Inv X YK L H s)(hH:H l=Z (.lst xs))(e:s.heap.get? l=Z {cls:=.type "list",data:=.seq YL.toArray n})(hf:f YL.toArray=its'.toArray)(hv:YN ys its')(hz:BX ys<=sizeLine):Inv X YK L (upd H l (.lst ys)) {s with heap:=s.heap.update l (ED f),toks:=t'}:=by
 have q:=PySem.IsL.update e f;rw[hf]at q;refine I.write (x:=l) (e:=l) (by rw[hH];exact trivial) (.inl rfl) (λb' u hb hu=>(Jo s.heap (ED f) (AD hb)).trans hu) ⟨_,q⟩ ?_;exact⟨hz,its',_,hv,q⟩
theorem Inv.lnew(I:Inv X YK L H s)(hv:YN ys YL)(hz:BX ys<=sizeLine):Inv X YK L (upd H s.heap.objs.size (.lst ys)) {s with heap:=s.heap.push {cls:=.type "list",data:=.seq YL.toArray},toks:=t'} :=
 I.laid (λ_ _ q=>Aj _ q) (Al _) ⟨hz,YL,0,hv,Az _ rfl⟩
theorem Inv.fresh(I:Inv X YK L H s):H s.heap.objs.size=U:=I.hok.fresh (Al _)
theorem Inv.lstM(I:Inv X YK L H s)(hH:H l=Z (.lst xs)):BX xs<=sizeLine/\∃(YL:mH) (n:Nat),YN xs YL/\xs.length=YL.length/\s.heap.get? l=Z {cls:=.type "list",data:=.seq YL.toArray n}:=by obtain⟨z,YL,n,r,e⟩:=I.hok l _ hH;exact⟨z,YL,n,r,r.length,e⟩
theorem SJ(h:n<=sizeLine):Jq n=Ab:=by unfold Jq;exact decide_eq_false (by omega)
end
section
variable{X:Cx}
noncomputable def NA:V->List V->Hp->VK->Prop:=λx vs H Q=>∃l xs y,x=.ref l/\vs=[y]/\H l=Z (.lst xs)/\xs.length<sizeLine/\Q .non (upd H l (.lst (xs++[y])))
theorem KD:ik X "list.append" NA:=by intro YK s L H x vs v us Q I rx rv h;obtain⟨l,xs,y,rfl,rfl,hH,hz,q⟩:=h;cases rx;obtain⟨u,rfl,ru⟩:=rv.one;obtain⟨z,YL,n,r,hl,e⟩:=I.lstM hH;refine call_meets F.slot_list_append ⟨_,e,rfl⟩ F.entry_list_append (F.args_list_append_2 _ _) (PySem.list_append l YL.toArray n u (by rw[Ay];omega)) ⟨e,?_⟩;refine⟨.non,_,I.lset (its':=YL++[u]) hH e (by simp) (r.append (.cons ru .nil)) ?_,rfl,q⟩;rw[A3,List.length_singleton];omega
noncomputable def QR:V->List V->Hp->VK->Prop:=λx vs H Q=>∃l b xs zs,x=.ref l/\vs=[.ref b]/\H l=Z (.lst xs)/\H b=Z (.lst zs)/\xs.length+BX zs<=sizeLine/\Q .non (upd H l (.lst (xs++zs)))
theorem Uj:ik X "list.extend" QR:=by
 intro YK s L H x vs v us Q I rx rv h;obtain⟨l,b,xs,zs,rfl,rfl,hH,hB,hz,q⟩:=h;cases rx;obtain⟨u,rfl,ru⟩:=rv.one;cases ru;obtain⟨z,YL,n,r,hl,e⟩:=I.lstM hH;obtain⟨z2,aL,n2,r2,ei,e2⟩:=I.lstM hB;have hsz:YL.toArray.size+aL.toArray.size<=sizeLine:=by rw[Ay,Ay];omega
 have eT:¬(!YL.toArray.isEmpty&&Jq (YL.toArray.size+aL.toArray.size))=Y:=by rw[SJ hsz,Bool.and_false];exact Bw
 refine call_meets F.slot_list_extend ⟨_,e,rfl⟩ F.entry_list_extend (F.args_list_extend_2 _ _)
  (AutoSeq1.list_extend_list_list_0 l YL.toArray n b aL.toArray n2 eT (by rw[Ay];omega) (by omega)) ⟨e,e2,?_⟩
 refine⟨.non,_,I.lset (its':=YL++aL) hH e (by simp) (r.append r2) ?_,rfl,q⟩;rw[A3];omega
noncomputable def PK:V->List V->Hp->VK->Prop:=λx vs H Q=>∃l xs y,x=.ref l/\vs=[]/\H l=Z (.lst xs)/\xs[xs.length-1]?=Z y/\Q y (upd H l (.lst xs.dropLast))
theorem QD:ik X "list.pop" PK:=by
 intro YK s L H x vs v us Q I rx rv h;obtain⟨l,xs,y,rfl,rfl,hH,hy,q⟩:=h;cases rx;have kr:=rv.zero;subst kr;obtain⟨z,YL,n,r,hl,e⟩:=I.lstM hH;obtain⟨u,hu,ru⟩:=r.get hy;have hy':YL.toArray[YL.toArray.size-1]?=Z u:=by show YL.toArray[YL.length-1]?=Z u;rw[<-D5,<-hl];exact hu
 refine call_meets F.slot_list_pop ⟨_,e,rfl⟩ F.entry_list_pop (F.args_list_pop_1 _) (MeetsSeq.list_pop_last l YL.toArray n u hy' (by rw[Ay];omega)) ⟨e,?_⟩;refine⟨y,_,I.lset (its':=YL.dropLast) hH e ?_ r.dropLast ?_,ru,q⟩
 .show YL.toArray.eraseIdxIfInBounds (YL.toArray.size-1)=YL.dropLast.toArray
  rw[Ay,List.eraseIdxIfInBounds_toArray,UA]
 .rw[List.length_dropLast]
  omega
noncomputable def PB:R2:=λx y H Q=>∃l b xs zs,x=.ref l/\y=.ref b/\H l=Z (.lst xs)/\H b=Z (.lst zs)/\xs.length+BX zs<=sizeLine/\∀p,H p=U->Q (.ref p) (upd H p (.lst (xs++zs)))
theorem QH:aM X (EA .Add) PB:=by
 intro YK s L H x y v u Q I rx ry h;obtain⟨l,b,xs,zs,rfl,rfl,hH,hB,hz,q⟩:=h;cases rx;cases ry;obtain⟨z,YL,n,r,hl,e⟩:=I.lstM hH;obtain⟨z2,aL,n2,r2,ei,e2⟩:=I.lstM hB;refine PySem.P.add_list e e2 ?_ (by rw[Ay,Ay];omega);have ea:YL.toArray++aL.toArray=(YL++aL).toArray:=by simp
 rw[ea];exact⟨.ref _,_,I.lnew (t':=s.toks) (r.append r2) (by rw[A3];omega),rfl,q _ I.fresh⟩
end
end
section
variable{a b:Addr}{X:Cx}{h':Heap}{H H':Hp}{YK:mG}{xs:List (List YS×Addr×Value)}{kvs:List (List YS×V)}{o:Option V}{P:Program}{s:Shared}{L:St}{y:V}{u:Value}{Q:mD}{w:World}
section
variable{κ:Type}[DecidableEq κ]
noncomputable def Aq(kvs:List (κ×V))(k:κ):Option V:=(kvs.find? λkv=>decide (kv.1=k)).map (·.2)
noncomputable def av(kvs:List (κ×V))(k:κ)(v:V):List (κ×V) :=
 if(kvs.any λkv=>decide (kv.1=k))=Y then kvs.map (λkv=>if kv.1=k then(kv.1,v)else kv)else kvs++[(k,v)]
theorem Es{p:κ×V}{r:List (κ×V)}{k:κ}(e:p.1=k):Aq (p::r) k=Z p.2:=by simp[Aq,BV,e]
theorem Er{p:κ×V}{r:List (κ×V)}{k:κ}(e:¬p.1=k):Aq (p::r) k=Aq r k:=by simp[Aq,BV,e]
theorem Ki(k:κ):∀kvs:List (κ×V),(kvs.any λkv=>decide (kv.1=k))=(Aq kvs k).isSome
 |[]=>rfl
 |p::r=>by
  rw[ES]
  by_cases e:p.1=k
  .simp only[Es e,decide_eq_true e,Bool.true_or,Option.isSome_some]
  .rw[Er e,decide_eq_false e,Bool.false_or];exact Ki k r
theorem OL(kvs:List (κ×V))(k:κ)(v:V):(av kvs k v).length<=BX kvs+1:=by
 unfold av;split
 .rw[Ap];omega
 .rw[A3,A8,List.length_nil];omega
theorem Bs.isSome_eq{u:Option Value}(r:Bs o u):o.isSome=u.isSome:=by
 cases o with
 |none=>cases u with
  |none=>rfl
  |some _=>exact(show False from r).elim
 |some _=>cases u with
  |none=>exact(show False from r).elim
  |some _=>rfl
theorem Bs.getD{o:Option V}{u:Option Value}{d:V}{d':Value}(r:Bs o u)(rd:RelV d d'):RelV (o.getD d) (u.getD d'):=by
 cases o with
 |none=>cases u with
  |none=>exact rd
  |some _=>exact(show False from r).elim
 |some _=>cases u with
  |none=>exact(show False from r).elim
  |some _=>exact r
theorem KV.val{kvs:List (κ×V)}{vs:List (κ×Value)}(r:KV kvs vs)(k:κ):Bs (Aq kvs k) (valueAt vs k):=by
 unfold KV at r
 induction r with
 |nil=>exact CN
 | @cons p q ps qs h t ih =>
  obtain⟨h1,h2⟩:=h
  by_cases e:p.1=k
  .have e':q.1=k:=h1.symm.trans e
   have b:valueAt (q::qs) k=Z q.2:=by simp[valueAt,BV,e']
   rw[Es e,b];exact h2
  .have e':¬q.1=k:=λz=>e (h1.trans z)
   have b:valueAt (q::qs) k=valueAt qs k:=by simp[valueAt,BV,e']
   rw[Er e,b];exact ih
theorem KV.any{kvs:List (κ×V)}{vs:List (κ×Value)}(r:KV kvs vs)(k:κ):(kvs.any λkv=>decide (kv.1=k))=vs.any λkv=>decide (kv.1=k):=by
 unfold KV at r
 induction r with
 |nil=>rfl
 |cons h t ih=>rw[ES,ES,ih,h.1]
theorem KV.repl{kvs:List (κ×V)}{vs:List (κ×Value)}(r:KV kvs vs)(k:κ)(ry:RelV y u):KV (kvs.map λkv=>if kv.1=k then(kv.1,y)else kv) (vs.map λkv=>if kv.1=k then(kv.1,u)else kv):=by
 unfold KV at r ⊢
 induction r with
 |nil=>exact .nil
 | @cons p q ps qs h t ih =>
  rw[An,An];refine .cons ?_ ih;obtain⟨h1,h2⟩:=h
  by_cases e:p.1=k
  .rw[if_pos e,if_pos (h1.symm.trans e)];exact⟨h1,ry⟩
  .rw[if_neg e,if_neg (λz=>e (h1.trans z))];exact⟨h1,h2⟩
theorem KV.put{kvs:List (κ×V)}{vs:List (κ×Value)}(r:KV kvs vs)(k:κ)(ry:RelV y u):KV (av kvs k y) (stored vs k u):=by
 unfold av stored;rw[r.any k]
 by_cases e:(vs.any λkv=>decide (kv.1=k))=Y
 .rw[if_pos e,if_pos e];exact r.repl k ry
 .rw[if_neg e,if_neg e];exact Paired.snoc r ⟨rfl,ry⟩
theorem KV.length{kvs:List (κ×V)}{vs:List (κ×Value)}(r:KV kvs vs):BX kvs=vs.length:=ET r
end
theorem HC{k:YS}(r:RelV (kV k) u):(A2 P w).is k u=Y:=by
 cases k with
 |inl i=>obtain⟨t,e⟩:=(show ∃t,u=Fw i t from r);subst e;exact Va P w i t
 |inr x=>obtain⟨t,e⟩:=(show ∃t,u=GQ x t from r);subst e;exact U8 P w x t
theorem Ob{P:Program}{w:World}:∀{ks:List YS} {us:mH},YN (ks.map kV) us->ItemsAre (A2 P w) ks us
 |[],_,r=>by rw[FF]at r;cases r;exact .nil
 |k::ks,_,r=>by
  rw[An]at r;cases r with
  |cons h t=>exact .cons (HC h) (Ob t)
noncomputable abbrev KT(H:Hp):List (List YS×V)->List (List YS×Addr×Value)->Prop:=Paired λp q=>p.1=q.1/\H q.2.1=Z (.tup (p.1.map kV))/\RelV p.2 q.2.2
theorem KT.val(r:KT H kvs xs)(k:List YS):Bs (Aq kvs k) ((atKey xs k).map (·.2)):=by
 induction r with
 |nil=>exact CN
 | @cons p q ps qs h t ih =>
  obtain⟨h1,_,h2⟩:=h
  by_cases e:p.1=k
  .have e':q.1=k:=h1.symm.trans e
   have b:atKey (q::qs) k=Z q.2:=by simp[atKey,BV,e']
   rw[Es e,b];exact h2
  .have e':¬q.1=k:=λz=>e (h1.trans z)
   have b:atKey (q::qs) k=atKey qs k:=by simp[atKey,BV,e']
   rw[Er e,b];exact ih
theorem KT.repl(r:KT H kvs xs)(k:List YS)(ry:RelV y u):KT H (kvs.map λkv=>if kv.1=k then(kv.1,y)else kv) (xs.map (putAt k u)):=by
 induction r with
 |nil=>exact .nil
 | @cons p q ps qs h t ih =>
  rw[An,An];refine .cons ?_ ih;obtain⟨h1,h2,h3⟩:=h;unfold putAt
  by_cases e:p.1=k
  .rw[if_pos e,if_pos (h1.symm.trans e)];exact⟨h1,h2,ry⟩
  .rw[if_neg e,if_neg (λz=>e (h1.trans z))];exact⟨h1,h2,h3⟩
theorem KT.put(r:KT H kvs xs)(k:List YS)(hb:H b=Z (.tup (k.map kV)))(ry:RelV y u):KT H (av kvs k y) (storedH xs k b u):=by
 have e:(kvs.any λkv=>decide (kv.1=k))=(atKey xs k).isSome:=by rw[Ki,(r.val k).isSome_eq,Option.isSome_map]
 unfold av storedH;rw[e]
 by_cases q:(atKey xs k).isSome=Y
 .rw[if_pos q,if_pos q];exact r.repl k ry
 .rw[if_neg q,if_neg q];exact Paired.snoc r ⟨rfl,hb,ry⟩
theorem KT.keeps(r:KT H kvs xs)(ht:∀b ys,H b=Z (.tup ys)->H' b=Z (.tup ys)):KT H' kvs xs :=
 Paired.mapP r λ_ _ z=>⟨z.1,ht _ _ z.2.1,z.2.2⟩
section
variable{P:Program}{w:World}{H:Hp}{h:Heap}{a:Addr}
theorem JQ{u:HO}(ok:ai P w H h)(e:Rd H a u):Z0 P w H h a u:=e.ok ok
theorem Eb{kvs:List (YS×V)}(ok:ai P w H h)(e:Rd H a (.dK kvs)):BX kvs<=sizeLine/\(a==Bn)=Ab/\∃vs,KV kvs vs/\h.DictOf (A2 P w) a vs :=
 show Z0 P w H h a (.dK kvs) from JQ ok e
theorem O6{kvs:List (YS×V)}(ok:ai P w H h)(e:H a=Z (.dK kvs)):BX kvs<=sizeLine/\(a==Bn)=Ab/\∃vs,KV kvs vs/\h.DictOf (A2 P w) a vs:=Eb ok (.inl e)
theorem Gm{ks:List YS}(ok:ai P w H h)(e:H a=Z (.tup (ks.map kV))):(DU (A2 P w)).is h ks a:=by obtain⟨_,YL,r,o,h1,h2,n,h3⟩:=(show Z0 P w H h a (.tup (ks.map kV)) from ok a _ e);exact⟨o,YL.toArray,n,h1,h2,h3,by simpa using Ob r⟩
theorem Gg(ok:ai P w H h)(e:Rd H a (.dT kvs)):BX kvs<=sizeLine/\(a==Bn)=Ab /\ ∃xs,KT H kvs xs/\h.DictOfH (DU (A2 P w)) a xs:=by
 obtain⟨z,y,xs,r,o,es,ep,h1,h2,h3,h4,h5⟩:=(show Z0 P w H h a (.dT kvs) from JQ ok e);refine⟨z,y,xs,r,o,es,ep,h1,h2,h3,h4,λx hx=>?_,h5⟩;have all:∀{l:List (List YS×V)} {m:List (List YS×Addr×Value)},KT H l m->∀x∈m,(DU (A2 P w)).is h x.1 x.2.1:=by
  intro l m q
  induction q with
  |nil=>intro x hx;exact nomatch hx
  | @cons p q ps qs hq t ih =>
   intro x hx;rcases Ak.mp hx with e|hx
   .subst e
    exact Gm ok (by rw[<-hq.1];exact hq.2.1)
   .exact ih x hx
 exact all r x hx
theorem MQ(ok:ai P w H h)(e:H a=Z (.dT kvs)):BX kvs<=sizeLine/\(a==Bn)=Ab /\ ∃xs,KT H kvs xs/\h.DictOfH (DU (A2 P w)) a xs:=Gg ok (.inl e)
end
noncomputable def BJ(H:Hp)(a:Addr)(y:V)(r:Option V):Prop :=
 (∃kvs k,Rd H a (.dK kvs)/\y=kV k/\r=Aq kvs k)\/∃kvs k b,Rd H a (.dT kvs)/\y=.ref b/\H b=Z (.tup (k.map kV))/\r=Aq kvs k
noncomputable def Dv(H:Hp)(a:Addr)(y v:V)(H':Hp):Prop :=
 (∃kvs k,H a=Z (.dK kvs)/\y=kV k/\kvs.length<sizeLine/\H'=upd H a (.dK (av kvs k v))) \/
 ∃kvs k b,H a=Z (.dT kvs)/\y=.ref b/\H b=Z (.tup (k.map kV))/\kvs.length<sizeLine/\H'=upd H a (.dT (av kvs k v))
theorem BJ.k{H:Hp}{a:Addr}{kvs:List (YS×V)}{k:YS}(e:H a=Z (.dK kvs)):BJ H a (kV k) (Aq kvs k):=.inl ⟨kvs,k,.inl e,rfl,rfl⟩
theorem BJ.t{k:List YS}(e:H a=Z (.dT kvs))(eb:H b=Z (.tup (k.map kV))):BJ H a (.ref b) (Aq kvs k):=.inr ⟨kvs,k,b,.inl e,rfl,eb,rfl⟩
theorem Dv.k{H:Hp}{a:Addr}{kvs:List (YS×V)}{k:YS}{v:V}(e:H a=Z (.dK kvs))(hl:BX kvs<sizeLine):Dv H a (kV k) v (upd H a (.dK (av kvs k v))):=.inl ⟨kvs,k,e,rfl,hl,rfl⟩
theorem Dv.t{k:List YS}{v:V}(e:H a=Z (.dT kvs))(eb:H b=Z (.tup (k.map kV)))(hl:BX kvs<sizeLine):Dv H a (.ref b) v (upd H a (.dT (av kvs k v))):=.inr ⟨kvs,k,b,e,rfl,eb,hl,rfl⟩
section
variable{X:Cx}{YK:mG}{L:St}{H:Hp}{s:Shared}{a:Addr}{y v:V}{u r:Value}{o:Option V}{A:Around}{E:mD}
theorem Inv.big(I:Inv X YK L H s):Bn<s.heap.objs.size:=by have h:Ar<s.heap.objs.size:=(I.mod.glob.keeps I.bk).lt;exact Nat.lt_trans (by decide) h
theorem SQ(hu:A.units+1<cLine)(I:Inv X YK L H s)(g:BJ H a y (Z v))(ry:RelV y u)(h:∀w' s',Inv X YK L H s'->RelV v w'->Q w' s'):wpAny (model X.prog X.w) A (getItem (.ref a) u) Q E s:=by
 rcases g with⟨kvs,k,e,ey,l⟩|⟨kvs,k,b,e,ey,eb,l⟩
 .subst ey
  obtain⟨z,hd,vs,aG,dd⟩:=Eb I.hok e;obtain⟨w',hw,rw'⟩:=Bs.some_of (v:=v) (o:=valueAt vs k) (by rw[l];exact aG.val k);exact wpAny_getItem_of (HC ry) dd.mapOf hw (h w' _ (I.tok _) rw')
 .subst ey
  cases(show u=Au b from ry);obtain⟨z,hd,xs,aG,dd⟩:=Gg I.hok e;obtain⟨w',hw,rw'⟩:=Bs.some_of (v:=v) (o:=(atKey xs k).map (·.2)) (by rw[l];exact aG.val k);obtain⟨p,hp,kF⟩:=Ao.mp hw;refine wpAny_getItem_heap (G4 hu) (Gm I.hok eb) dd hp ?_;rw[kF];exact h w' _ (I.tok _) rw'
theorem J2{t':Nat}{ob:HO}(I:Inv X YK L H s)(mu:eF (H a))(hs:Bo a s.heap h')(he:∃q,h'.get? a=Z q)(new:Z0 X.prog X.w (upd H a ob) h' a ob):Inv X YK L (upd H a ob) {s with heap:=h',toks:=t'} :=
 I.write (x:=a) (e:=a) mu (.inl rfl) (λb q hb z=>(hs.2 b hb).trans z) he new
theorem Qa{kvs:List (YS×V)}{vs:List (YS×Value)}(z:BX kvs<=sizeLine)(hd:(a==Bn)=Ab)(aG:KV kvs vs)(dd:h'.DictOf (A2 P w) a vs):Z0 P w H' h' a (.dK kvs):=⟨z,hd,vs,aG,dd⟩
theorem Uc{Q:Unit->Shared->Prop}(hu:A.units+1<cLine)(I:Inv X YK L H s)(g:Dv H a y v H')(ry:RelV y u)(rv:RelV v r)(h:∀s',Inv X YK L H' s'->Q () s'):wpAny (model X.prog X.w) A (setItem (.ref a) u r) Q E s:=by
 rcases g with⟨kvs,k,e,ey,l,eH⟩|⟨kvs,k,b,e,ey,eb,l,eH⟩
 .subst ey eH
  obtain⟨z,hd,vs,aG,dd⟩:=O6 I.hok e;have hz:BX vs<=sizeLine:=by rw[<-aG.length];exact z
  have hl:(av kvs k v).length<=sizeLine:=by have:=OL kvs k v;omega
  refine wpAny_setItem_pairs (hsz:=hz) (HC ry) dd λh' dd' hs=>h _ ?_;have he:∃q,h'.get? a=Z q:=let ⟨q,_,_,hq,_⟩:=dd';⟨q,hq⟩
  exact J2 I (by rw[e];exact CN) hs he (Qa hl hd (aG.put k rv) dd')
 .subst ey eH
  cases(show u=Au b from ry);obtain⟨z,hd,xs,aG,dd⟩:=MQ I.hok e;have hz:BX xs<=sizeLine:=by rw[<-ET aG];exact z
  have hl:(av kvs k v).length<=sizeLine:=by have:=OL kvs k v;omega
  refine wpAny_setItem_heap (hsz:=hz) (G4 hu) (Gm I.hok eb) dd λh' dd' hs=>h _ ?_;obtain⟨q,es,ep,hq,h2,h3,h4,_,h5⟩:=dd';refine J2 I (by rw[e];exact CN) hs ⟨q,hq⟩ ⟨hl,hd,_,(aG.put k eb rv).keeps λc ys ec=>?_,q,es,ep,hq,h2,h3,h4,h5⟩;rw[Zo (MT ec e (λz=>nomatch z))];exact ec
end
section
variable{X:Cx}{YK:mG}{L:St}{H:Hp}{s:Shared}{a:Addr}{kvs:List (YS×V)}{k:YS}{u:Value}{A:Around}{E:mD}
theorem Pf(I:Inv X YK L H s)(e:Rd H a (.dK kvs))(h:∀t s',Inv X YK L H s'->Q (.int kvs.length t) s'):wpAny (model X.prog X.w) A (call (.builtin "len") [.ref a]) Q E s:=by obtain⟨z,hd,vs,aG,dd⟩:=Eb I.hok e;refine call_len_dict hd dd (by rw[<-aG.length];rw[CQ]at z;omega) ?_;rw[<-aG.length];exact h _ _ (I.tok _)
end
noncomputable def JE(i:Expr):Prop:=∀ov iv,GO i Ab ov iv=operate [ov,iv] (getItem ov iv)
theorem Q8{prog:Program}{A:Around}{E:mD}{env:Env}{value Y9:Expr}{pos:Pos}{T id:String}(hl:typeLookup (.type T) "__getitem__"=pure (Z (.builtin id)))(hs:JE Y9)(h:wpAny (model prog w) A (eval value env) (λo s₁=>wpAny (model prog w) A (eval Y9 env) (λi s₂=>s₂.TypeIs o T/\wpAny (model prog w) A (getItem o i) Q E s₂) E s₁) E s):wpAny (model prog w) A (eval (.Subscript value Y9 pos) env) Q E s:=by
 refine Subscript_ (Ax h (λo s₁ h₁=>Ax h₁ (λi s₂ h₂=>?_) λ_ _ x=>x) λ_ _ x=>x);obtain⟨hT,h₂⟩:=h₂;unfold subscriptTail;refine Ac ?_;rw[getitemInPython_of_ne hT.not_modules];refine Ac (Jf hT hl ?_);have YZ:wpAny (model prog w) A (GO Y9 Ab o i) (λr s₃=>wpAny (model prog w) A (letTemporaryGo value o r >>= λ_=>pure r) Q E s₃) E s₂:=by rw[hs o i];exact wpAny_operating (Ax h₂ (λr s₃ h₃=>Ac (wpAny_letTemporaryGo (Ag h₃))) λ_ _ x=>x)
 first
  |exact Ag (Ac YZ)
  |exact Ac (Ag (Ac YZ))
  |exact Ac YZ
theorem Vo(I:Inv X YK L H s)(g:BJ H a y o):s.TypeIs (.ref a) "dict":=by
 rcases g with⟨kvs,k,e,_,_⟩|⟨kvs,k,b,e,_,_,_⟩
 .obtain⟨_,_,vs,_,dd⟩:=Eb I.hok e
  exact dd.typeIs
 .obtain⟨_,_,xs,_,dd⟩:=Gg I.hok e
  exact dd.typeIs
noncomputable def Ph(td ty:TE):TE:=λL H Q=>td L H λx H1=>ty L H1 λy H2=>∃a v,x=.ref a/\BJ H2 a y (Z v)/\Q v H2
noncomputable def Pp(td ty tv:TE):TS:=λD L H=>tv L H λv H1=>td L H1 λx H2=>ty L H2 λy H3=>∃a H4,x=.ref a/\Dv H3 a y v H4/\D.nx L H4
section
variable{X:Cx}{o i e value:Expr}{pos pos' iu:Pos}{td ty tv:TE}
theorem Sd(hu:X.A.units+1<cLine)(ho:PE X o td)(hi:PE X i ty)(hs:JE i):PE X (.Subscript o i pos) (Ph td ty):=by intro YK s L H Q I h;refine Q8 PySem.F.slot_dict_getitem.lookup hs (Aw (ho YK s L H _ I h) λu s1 x H1 I1 rx q1=>Aw (hi YK s1 L H1 _ I1 q1) λiv s2 y H2 I2 ry ⟨a,v,ex,g,q2⟩=>?_);subst ex;obtain rfl:u=Au a:=rx;exact⟨Vo I2 g,SQ hu I2 g ry λw' s3 I3 rw'=>⟨v,H2,I3,rw',q2⟩⟩
theorem Nr(hu:X.A.units+1<cLine)(ho:PE X o td)(hi:PE X i ty)(hv:PE X value tv)(hs:Bj value (Z (.Subscript o i pos')) pos.line X.env=pure Ab):PS X (.Assign [.Subscript o i pos'] value pos) (Pp td ty tv):=by
 intro YK s L H D I h;refine wpAny_Assign_Subscript (Aw (hv YK s L H _ I h) λr s1 v H1 I1 rv q1=>Aw (ho YK s1 L H1 _ I1 q1) λu s2 x H2 I2 rx q2=>Aw (hi YK s2 L H2 _ I2 q2) λiv s3 y H3 I3 ry ⟨a,H4,ex,g,q3⟩=>?_) hs;subst ex;obtain rfl:u=Au a:=rx;exact Uc hu I3 g ry rv λs4 I4=>⟨L,H4,I4,q3⟩
end
theorem SX(h:Heap)(hb:Bn<h.objs.size):Z0 P w H (h.push {cls:=.type "dict",data:=.dict #[]}) h.objs.size (.dK []) :=
 ⟨CP _,beq_eq_false_iff_ne.mpr (AD (Am hb)),[],.nil,Heap.DictOf.new h⟩
theorem Tn(h:Heap)(hb:Bn<h.objs.size):Z0 P w H (h.push {cls:=.type "dict",data:=.dict #[]}) h.objs.size (.dT []) :=
 ⟨CP _,beq_eq_false_iff_ne.mpr (AD (Am hb)),[],.nil,_,#[],0,Az _ rfl,⟨rfl,rfl,rfl⟩,rfl,rfl,EK⟩
noncomputable def QE:TE:=λ_ H Q=>∀p,H p=U->Q (.ref p) (upd H p (.dK []))
noncomputable def Qy:TE:=λ_ H Q=>∀p,H p=U->Q (.ref p) (upd H p (.dT []))
section
variable{X:Cx}{pos:Pos}
theorem Te:PE X (.Dict [] [] pos) QE:=λYK s L H Q I h=>wpAny_Dict_empty ⟨.ref s.heap.objs.size,_,I.laid (a:=s.heap.objs.size) (o:=.dK []) (t':=s.toks) (λ_ _ q=>Aj _ q) (Al _) (SX s.heap I.big),rfl,h _ (I.hok.fresh (Al _))⟩
theorem SV:PE X (.Dict [] [] pos) Qy:=λYK s L H Q I h=>wpAny_Dict_empty ⟨.ref s.heap.objs.size,_,I.laid (a:=s.heap.objs.size) (o:=.dT []) (t':=s.toks) (λ_ _ q=>Aj _ q) (Al _) (Tn s.heap I.big),rfl,h _ (I.hok.fresh (Al _))⟩
end
structure M2(X:Cx)(o:Expr)(m:Str)(ao:Pos)(e f:Expr)(YW:Pos):Prop where
 base:Ck o m X.env (eval o X.env)=eval o X.env
 few:((backTo YW (Ae [e,f] X.env)).all (λx=>!x.1)&&(Ez YW (EB [] X.env)).all (λx=>x.1.isSome)
  && decide (([e,f]:List Expr).length+([]:List Keyword).length+(if([]:List Keyword).isEmpty then 0 else 1)<30))=Y
 line:(ao.endLine==YW.line)=Y
 trees:backTo YW (Ae [e,f] X.env)=[(Ab,eval e X.env),(Ab,eval f X.env)]
noncomputable def ip(H:Hp)(a:Addr):Prop:=(∃kvs,Rd H a (.dK kvs))\/∃kvs,Rd H a (.dT kvs)
theorem M9(I:Inv X YK L H s)(d:ip H a):s.TypeIs (.ref a) "dict"/\(∀b,Au a=.ref b->∃ob,s.heap.get? b=Z ob/\ob.dict=U)/\(a==Bn)=Ab:=by
 rcases d with⟨kvs,e⟩|⟨kvs,e⟩
 .obtain⟨_,hd,vs,_,dd⟩:=Eb I.hok e
  refine⟨dd.typeIs,λb q=>?_,hd⟩;cases q;obtain⟨ob,_,_,h1,h2,_⟩:=dd;exact⟨ob,h1,h2.2.1⟩
 .obtain⟨_,hd,xs,_,dd⟩:=Gg I.hok e
  refine⟨dd.typeIs,λb q=>?_,hd⟩;cases q;obtain⟨ob,_,_,h1,h2,_⟩:=dd;exact⟨ob,h1,h2.2.1⟩
section
variable{X:Cx}{YK:mG}{L:St}{H:Hp}{s:Shared}{a:Addr}{y d:V}{u r:Value}{o:Option V}{A:Around}{E:mD}
theorem QI(hu:A.units+1<cLine)(I:Inv X YK L H s)(g:BJ H a y o)(ry:RelV y u)(rd:RelV d r)(h:∀w' s',Inv X YK L H s'->RelV (o.getD d) w'->Q w' s'):wpAny (model X.prog X.w) A (call (.builtin "dict.get") [.ref a,u,r]) Q E s:=by
 rcases g with⟨kvs,k,e,ey,l⟩|⟨kvs,k,b,e,ey,eb,l⟩
 .subst ey
  obtain⟨z,hd,vs,aG,dd⟩:=Eb I.hok e;refine call_meetsIn Jn dd.typeIs L6 (Mc _ _ _) (meets_dict_get_default (A2 X.prog X.w) a (HC ry) hd r) ⟨_,dd.mapOf,h _ _ (I.tok _) ?_⟩;rw[l];exact(aG.val k).getD rd
 .subst ey
  cases(show u=Au b from ry);obtain⟨z,hd,xs,aG,dd⟩:=Gg I.hok e;refine call_meetsIn Jn dd.typeIs L6 (Mc _ _ _) (meetsH_dict_get_default (DU (A2 X.prog X.w)) a b hd r) ⟨G4 hu,k,xs,Gm I.hok eb,dd,h _ _ (I.tok _) ?_⟩;rw[l];exact(aG.val k).getD rd
end
noncomputable def QK(td ty tx:TE):TE:=λL H Q=>td L H λx H1=>∃a,x=.ref a/\ip H1 a/\ty L H1 λy H2=>tx L H2 λz H3=>∃o,BJ H3 a y o/\Q (o.getD z) H3
section
variable{X:Cx}{o e f:Expr}{ao YW:Pos}{td ty tx:TE}
theorem S9(hu:X.A.units+1<cLine)(ho:PE X o td)(he:PE X e ty)(hf:PE X f tx)(m:M2 X o "get" ao e f YW):PE X (.Call (.Attribute o "get" ao) [e,f] [] YW) (QK td ty tx):=by intro YK s L H Q I h;refine wpAny_Call_method m.base m.few m.line Mb Jn PySem.F.type_dict_get (Aw (ho YK s L H _ I h) λu s1 x H1 I1 rx ⟨a,ex,d,q1⟩=>?_);subst ex;obtain rfl:u=Au a:=rx;obtain⟨t1,t2,_⟩:=M9 I1 d;refine⟨t1,t2,?_⟩;rw[m.trees];refine Hq rfl (FJ (DX (Aw (he YK s1 L H1 _ I1 q1) λiv s2 y H2 I2 ry q2=>DX (Aw (hf YK s2 L H2 _ I2 q2) λfv s3 z H3 I3 rz ⟨ov,g,q3⟩=>FU ?_))));exact QI hu I3 g ry rz λw' s4 I4 rw'=>⟨_,H3,I4,rw',q3⟩
end
end
end L2
namespace Att
open PySem PySem.W PySem.Calls PyProof.Rows
variable{h:Heap}{n:Nat}
theorem WK{P:Params}:∀(ns:mB) (vs:mH),WellAll P h vs (ns.map WData.int)->IntsAre vs ns:=by
 intro ns
 induction ns with
 |nil=>intro vs w;rw[FF]at w;cases w;exact .nil
 |cons n ns ih =>
  intro vs w;rw[An]at w;cases w with
  |cons a b=>cases a;exact .cons _ _ (ih _ b)
theorem Uu{l:OpenLaw}(hn:l.most=Z n){P:Params}{args:List WData}{dB:mH}(cO:l.row.toRowW.claim.pre args=Y)(gw:WellAll P h dB args):∃a vs ns,dB=[Au a]/\args=[WData.list (ns.map WData.int)]/\h.get? a=Z {cls:=.type "list",data:=.seq vs.toArray}/\IntsAre vs ns/\ns.length<=n:=by
 have kA:WShape.hasAll [] args [.list .int]=Y:=(pre_splitW cO).1;have hc:l.pre.holds [] {args:=args}=Y:=(pre_splitW cO).2;obtain⟨d,r,rfl,h1,h2⟩:=hasAllW_cons kA;obtain rfl:=hasAllW_nil h2;obtain⟨xs,rfl,h3⟩:=hasW_list h1;obtain⟨ns,rfl⟩:=items_int h3;have aw:BX ns<=n:=by
  unfold OpenLaw.pre at hc;have h4:(WTm.not (.lt (.lit (.int (n:Int))) (.len (.arg 0)))).holds [] {args:=[.list (ns.map .int)]}=Y:=by have h4:=(holds_andW hc).1;rw[hn]at h4;exact h4
  have h5:=condW_of h4 (w_not (w_lt w_lit (w_len_list (w_arg rfl))));rw[Ap]at h5;refine Nat.le_of_not_lt λq=>?_;have q':(n:Int)<((ns.length:Nat):Int):=by omega
  first
   |(rw[decide_eq_true q']at h5;exact absurd h5 (by decide))
   |(simp at h5;omega)
 cases gw with
 |cons w1 w2 =>
  cases w2;cases w1 with
  |list ho hall=>exact⟨_,_,ns,rfl,rfl,ho,WK ns _ hall,aw⟩
theorem Ue(l:OpenLaw)(args:List WData):l.row.toRowW.claim.post args (.bool Y) args=Y :=
 postW_of (r:=l.row.toRowW) (X:=(Y==Y))
  (show WShape.has [] (.bool Y) .bool=Y by first|rfl|decide|simp[WShape.has,WShape.arms,WShape.armsAll])
  (show(WTm.eq .res (.lit (.bool Y))).value [] {args:=args,res:=Z (.bool Y),after:=args}=Z (.bool (Y==Y)) from w_eq_bool (w_res rfl) w_lit) rfl
theorem Ye{l:OpenLaw}{q:Program}{aW:mI}{XP:mF->Heap->Prop}{YP:World->Heap->Prop}{d:DefRec}(hn:l.most=Z n)(er:d.params.defaults=[])
  (call:∀(w:World) (s₀ s₁:Shared) (mg mb:mF) (fa:Addr) (o:Obj) (pm cd aH:Value) (a:Addr) (vs:mH) (ns:mB),
   Ground q aW [] XP w s₀ mg mb s₁.heap->YP w s₁.heap ->
   s₁.heap.get? fa=Z o->o.data=.func (docDef d.name d.params d.body d.scope pm cd aH)->s₁.heap.CodeRec cd d.name->mg d.name=Z (.ref fa) ->
   s₁.heap.get? a=Z {cls:=.type "list",data:=.seq vs.toArray}->IntsAre vs ns->ns.length<=n->s₁.gens=#[] ->
   codeAny (model l.prog w) callerA (.call (.ref fa) ⟨[.ref a],[]⟩) (λr s'=>r=.ok (.ret (.bool Y))/\OldK s₁.heap s'.heap/\s'.os=s₁.os/\AllBare s'.gens) s₁):
  WalkO q aW XP YP l.row.toRowW d [] (λf vs=>PySem.call f vs):=by
 intro w s₀ s₁ mg mb G mq fa o pm cd aH dV kV ho hd Y7 hD cY hg args dB as cO ml hrd gw hlo;obtain rfl:dV=.none:=Dflts.none hD er;obtain rfl:kV=.none:=Dflts.noKw hD;obtain⟨a,vs,ns,rfl,rfl,dD,cy,aw⟩:=Uu hn cO gw;refine enter_call (DY (call w s₀ s₁ mg mb fa o pm cd aH a vs ns G mq ho (fd_plain hd) Y7 cY dD cy aw hg) λr s' hq=>?_);obtain⟨rfl,h2,h3,h4⟩:=hq;exact⟨.inl ⟨.bool Y,.bool Y,[],rfl,λ_=>rfl,.bool Y,Ue l _,λ_=>⟨List.Pairwise.nil,λ_ hm=>(nomatch hm)⟩⟩,h2,h3,h4⟩
end Att
namespace L2
open PySem PySem.Spec PyProof.Rows
theorem Oy:∀{vs:mH} {ns:mB},IntsAre vs ns->YN (ns.map V.int) vs
 |_,_,.nil=>.nil
 |_,_,.cons n t h=>.cons ⟨t,rfl⟩ (Oy h)
section
variable{f:Addr}{H H':Hp}{A:Prop}{st:Stmt}{YO x:Str}
noncomputable def B9(s:Stmt):Arguments:=match s with
 | .FunctionDef _ a _ _ _ _ _ _ _ _=>a
 |_=>{posonlyargs:=[],args:=[],vararg:=U,kwonlyargs:=[],kw_defaults:=[],kwarg:=U,defaults:=[]}
noncomputable def Bm(s:Stmt):List Stmt:=match s with
 | .FunctionDef _ _ b _ _ _ _ _ _ _=>b
 |_=>[]
noncomputable def Zg(s:Stmt):Scope:=match s with
 | .FunctionDef _ _ _ _ _ _ sc _ _ _=>sc
 |_=>{kind:=.function,names:=[],isGenerator:=Ab,isCoroutine:=Ab}
noncomputable abbrev bf:cD:=λ_ _ _ _ _ _=>False
noncomputable abbrev E0:XK:=λ_ _ _=>False
theorem MI{X:Cx}:Y1 bf X E0:=λ_ _ _ _ _ _ _ h=>h.elim
structure ax(K:Ad)(x YO:Str)(st:Stmt)(f:Addr)(fd:FuncData):Prop where
 ex:∃(oc:Value) (od:Option Addr) (kV aH pm:Value) (an:Option Addr) (YQ ct:Value) (bO:Array (Option Value)),
  fd=BE x YO (B9 st) (Bm st) (Zg st) .none kV aH pm an YQ ct/\K.lookup f=Z ⟨oc,od,.func fd,bO⟩/\D3 K YQ YO=Y
 kp:B3 K (.ref f)=Y
section
variable{P:Program}{w:World}{K:Ad}{mg:mF}{base:Heap}
theorem ax.ok{x YO:Str}{st:Stmt}{f:Addr}{fd:FuncData}{N ps:mI}{k:Nat}{sp:Sp}(F:ax K x YO st f fd)(mr:Zp N ps (Zg st))(len:∀vs H Q E,sp vs H Q E->vs.length=ps.length)
  (cz:∀(YQ:Value) (A:Around) (outer:List Env) (s:Shared) (H:Hp) (vs:List V) (Q:VK) (E:XK),Z6 k (A.deeper (envOfC YO (Zg st) s.heap.objs.size f YQ))->sp vs H Q E ->
   ∃t,aA (AG bf P w K mg base N YO (Zg st) f YQ A outer s H E).nox (Bm st) t/\t {nx:=λ_ H'=>Q .non H',rt:=Q} (start N vs) H):AK P w K mg base bf (k+1) f fd ps sp:=by
 obtain⟨oc,od,kV,aH,pm,an,YQ,ct,bO,rfl,lk,Y7⟩:=F.ex;refine MK lk Y7 mr len λA outer s H vs Q E hr cX=>?_;obtain⟨t,h,q⟩:=cz YQ A outer s H vs Q E hr cX;exact⟨t,h.nox,q⟩
theorem ax.binds{fd:FuncData}{ps:mI}(F:ax K x YO st f fd)(h:∀(kV aH pm:Value) (an:Option Addr) (YQ ct:Value) (us:mH),BX us=ps.length->bindArgs (BE x YO (B9 st) (Bm st) (Zg st) .none kV aH pm an YQ ct) ⟨us,[]⟩=pure (ps.zip us)):Binds K fd ps []:=by
 obtain⟨oc,od,kV,aH,pm,an,YQ,ct,bO,rfl,lk,Y7⟩:=F.ex;exact .all (h kV aH pm an YQ ct)
theorem Eg{oc:Value}{od an:Option Addr}{bO:Array (Option Value)}{kV aH pm YQ ct:Value}(l:K.lookup f=Z ⟨oc,od,.func (BE x YO (B9 st) (Bm st) (Zg st) .none kV aH pm an YQ ct),bO⟩)(c:D3 K YQ YO=Y)(k:B3 K (.ref f)=Y):ax K x YO st f (BE x YO (B9 st) (Bm st) (Zg st) .none kV aH pm an YQ ct):=⟨⟨oc,od,kV,aH,pm,an,YQ,ct,bO,rfl,l,c⟩,k⟩
end
theorem JJ{A:Around}{k:Nat}(hr:Z6 k A):A.units+1<cLine:=Nat.lt_of_le_of_lt (Nat.add_le_add_left (by decide:1<=64) _) hr.units
theorem E1{B:Prop}(h:B):if Ab=Y then A else B:=by rw[if_neg Bw];exact h
theorem EY{B:Prop}(h:A):if Y=Y then A else B:=by rw[if_pos rfl];exact h
noncomputable def Zs(H H':Hp):Prop:=∀b o,H b=Z o->H' b=Z o
theorem Zs.refl(H:Hp):Zs H H:=λ_ _ h=>h
theorem Zs.trans{H1 H2:Hp}(a:Zs H H1)(b:Zs H1 H2):Zs H H2:=λc o h=>b c o (a c o h)
theorem Zs.free(e:Zs H H'){l:Addr}(h:H' l=Option.none):H l=Option.none:=by
 cases q:H l with
 |none=>rfl
 |some o=>rw[e l o q]at h;cases h
theorem Zs.seq{K:Ad}{a:Addr}{xs:List V}(e:Zs H H')(h:au K H a xs):au K H' a xs:=by
 rcases h with(h|⟨o,h⟩)|h
 .exact .inl (.inl (e _ _ h))
 .exact .inl (.inr ⟨o,e _ _ h⟩)
 .exact .inr h
end
section
variable{X:Cx}
theorem Um:AI X (.builtin "len") (λxs H Q=>∃a kvs,xs=[V.ref a]/\H a=Z (.dK kvs)/\Q (.int kvs.length) H):=by intro YK s L H xs us Q I r h;obtain⟨a,kvs,rfl,ha,q⟩:=h;obtain⟨u,rfl,ru⟩:=vals1 r;cases ru;exact Pf I (.inl ha) λt s' I'=>⟨.int kvs.length,H,I',⟨t,rfl⟩,q⟩
end
end L2
namespace HM
open PySem
noncomputable abbrev D:=PyData
noncomputable abbrev Ky:=Sum Int Str
inductive B where
 |pl (d:D)
 |ol (ds:mE)
 |ok (kvs:List (Ky×D))
 |ot (kvs:List (List Ky×D))
 |otl (kvs:List (List Ky×mE))
 |hd (es:List (D×D))
noncomputable abbrev Env:=List (Option B)
inductive d5 where
 |nx (r:Env)
 |rt (d:D)
 |bk (r:Env)
 |ct (r:Env)
noncomputable abbrev EF:=Env->Option D
noncomputable abbrev BF:=Env->Option B
noncomputable abbrev TF:=Env->Option Bool
noncomputable abbrev IF:=Env->Option mE
noncomputable abbrev AF:=Env->Option mE
noncomputable abbrev SF:=Env->Option d5
@[simp] noncomputable def big:Nat:=1000000
@[simp] noncomputable def Zd (i:Nat):EF:=λr=>match r[i]? with
 |some (Z (.pl d))=>Z d
 |_=>U
@[simp] noncomputable def ZR (i:Nat):BF:=λr=>match r[i]? with
 |some (Z b)=>Z b
 |_=>U
@[simp] noncomputable def ak (f:EF):BF:=λr=>(f r).map B.pl
noncomputable def IA:Ky->D
 | .inl i=>.int i
 | .inr x=>.str x
noncomputable def N8 (kvs:List (List Ky×D)):List (D×D):=kvs.map λp=>(.tuple (p.1.map IA),p.2)
@[simp] noncomputable def frz:B->Option D
 | .pl d=>Z d
 | .ol ds=>Z (.list ds)
 | .ot kvs=>Z (.dict (N8 kvs))
 | .hd es=>Z (.dict es)
 |_=>U
@[simp] noncomputable def dY(f:BF):EF:=λr=>(f r).bind frz
@[simp] noncomputable def eC (d:D):EF:=λ_=>Z d
@[simp] noncomputable def ah (g:D->D->Option D) (a b:EF):EF:=λr=>match a r with
 |some x=>match b r with
  |some y=>g x y
  |none=>U
 |none=>U
@[simp] noncomputable def Ej (g:Int->Int->Option D):D->D->Option D
 | .int i,.int j=>g i j
 |_,_=>U
@[simp] noncomputable def Qj(x y:D):Option D:=Ej (λi j=>Z (.int (i+j))) x y
@[simp] noncomputable def Dw(x y:D):Option D:=Ej (λi j=>Z (.int (i-j))) x y
@[simp] noncomputable def HB(x y:D):Option D:=Ej (λi j=>if 0<j then Z (.int (i%j))else U) x y
@[simp] noncomputable def lP(x y:D):Option D:=Ej (λi j=>Z (.bool (decide (i<j)))) x y
@[simp] noncomputable def fP(x y:D):Option D:=Ej (λi j=>Z (.bool (decide (i<=j)))) x y
@[simp] noncomputable def gZ(x y:D):Option D:=Ej (λi j=>Z (.bool (decide (j<i)))) x y
noncomputable def OY(d:D):Bool:=d.canLay0&&decide (d.depth<=60)
@[simp] noncomputable def ba(a b:D):Option D:=if OY a&&OY b then Z (.bool (PyData.eqv a b))else U
@[simp] noncomputable def Uw(a b:D):Option D:=match b with
 | .none=>match a with
  | .none=>Z (.bool Ab)
  |_=>Z (.bool Y)
 |_=>U
@[simp] noncomputable def Oq(g g':D->D->Option D)(a b c:EF):EF:=λr=>match a r with
 |some x=>match b r with
  |some y=>match g x y with
   |some (.bool Y)=>match c r with
    |some z=>g' y z
    |none=>U
   |some (.bool Ab)=>Z (.bool Ab)
   |_=>U
  |none=>U
 |none=>U
@[simp] noncomputable def By(a b:EF):EF:=λr=>match a r with
 |some (.bool Y)=>b r
 |some (.bool Ab)=>Z (.bool Ab)
 |_=>U
@[simp] noncomputable def lX(a b:EF):EF:=λr=>match a r with
 |some (.bool Y)=>Z (.bool Y)
 |some (.bool Ab)=>b r
 |_=>U
@[simp] noncomputable def tV (a:EF):TF:=λr=>match a r with
 |some (.bool b)=>Z b
 |_=>U
@[simp] noncomputable def ZY(a:TF):TF:=λr=>(a r).map (!·)
@[simp] noncomputable def b7(a b:TF):TF:=λr=>match a r with
 |some Y=>Z Y
 |some Ab=>b r
 |none=>U
@[simp] noncomputable def Em:B->Option mE
 | .pl (.tuple ds)=>Z ds
 | .pl (.list ds)=>Z ds
 | .ol ds=>Z ds
 |_=>U
noncomputable def cG(n:Nat)(i:Int):Option Nat :=
 if 0<=i then(if i<n then Z i.toNat else U)else(if -(n:Int)<=i then Z (i+n).toNat else U)
noncomputable def jH (ds:mE) (i:Int):Option D:=match cG ds.length i with
 |some j=>ds[j]?
 |none=>U
@[simp] noncomputable def ar(a:BF)(b:EF):EF:=λr=>match a r with
 |some x=>match Em x with
  |some ds=>match b r with
   |some (.int i)=>jH ds i
   |_=>U
  |none=>U
 |none=>U
@[simp] noncomputable def PO:B->Option Nat
 | .pl (.tuple ds)=>Z ds.length
 | .pl (.list ds)=>Z ds.length
 | .ol ds=>Z ds.length
 | .ok kvs=>Z kvs.length
 |_=>U
@[simp] noncomputable def AU(a:BF):EF:=λr=>match a r with
 |some x=>(PO x).map λ(n:Nat)=>PyData.int (n:Int)
 |none=>U
@[simp] noncomputable def KZ(a:BF):EF:=λr=>match a r with
 |some x=>(Em x).map λds=>.tuple ds
 |none=>U
noncomputable def NV:mE->Option (List Bool)
 |[]=>Z []
 | .bool b::r=>(NV r).map (b::·)
 |_::_=>U
@[simp] noncomputable def Qs:B->Option mE
 | .pl (.list ds)=>Z ds
 | .ol ds=>Z ds
 |_=>U
@[simp] noncomputable def Cv(a:BF):EF:=λr=>match a r with
 |some x=>match Qs x with
  |some ds=>(NV ds).map λbs=>.bool (bs.all id)
  |none=>U
 |none=>U
@[simp] noncomputable def Zh:AF:=λ_=>Z []
@[simp] noncomputable def S(a:EF)(b:AF):AF:=λr=>match a r with
 |some x=>(b r).map (x::·)
 |none=>U
@[simp] noncomputable def A1(a:AF):EF:=λr=>(a r).map λds=>.tuple ds
@[simp] noncomputable def JO(a:AF):BF:=λr=>(a r).map λds=>.ol ds
inductive Ty where
 |bool|int|str|tuple|list|dict
@[simp] noncomputable def Xy:Ty->D->Bool
 | .bool,.bool _=>Y
 | .int,.int _=>Y
 | .int,.bool _=>Y
 | .str,.str _=>Y
 | .tuple,.tuple _=>Y
 | .list,.list _=>Y
 | .dict,.dict _=>Y
 |_,_=>Ab
@[simp] noncomputable def En(a:EF)(t:Ty):EF:=λr=>match a r with
 |some (.dict _)=>U
 |some d=>Z (.bool (Xy t d))
 |none=>U
@[simp] noncomputable def Rr(x y:D):Option D:=Ej (λi j=>Z (.int (if j > i then j else i))) x y
noncomputable def ID:mE->Option mB
 |[]=>Z []
 | .int i::r=>(ID r).map (i::·)
 |_::_=>U
noncomputable def Oo:mE->Option mC
 |[]=>Z []
 | .tuple ds::r=>match ID ds with
  |some ns=>(Oo r).map (ns::·)
  |none=>U
 |_::_=>U
noncomputable def lexLt:mB->mB->Bool
 |[],[]=>Ab
 |[],_::_=>Y
 |_::_,[]=>Ab
 |a::r,b::q=>if a=b then lexLt r q else decide (a<b)
noncomputable def sortI (ns:mB):mB:=ns.mergeSort λa b=>decide (a<=b)
noncomputable def UZ(ts:mC):mC:=ts.mergeSort λa b=>!lexLt b a
noncomputable def Y0(ns:mB):mE:=ns.map λi=>PyData.int i
noncomputable def Xx(ts:mC):mE:=ts.map λt=>AO (Y0 t)
noncomputable def Wn(ds:mE):Option mE :=
 if ds.length<64 then match ID ds with
  |some ns=>Z (Y0 (sortI ns))
  |none=>match Oo ds with
   |some ts=>if ds.length<2||ts.all (λt=>!t.isEmpty)then Z (Xx (UZ ts))else U
   |none=>U
 else U
@[simp] noncomputable def Sk:B->Option mE
 | .pl (.tuple ds)=>Z ds
 | .pl (.list ds)=>Z ds
 | .ol ds=>Z ds
 | .ok kvs=>Z (kvs.map λp=>IA p.1)
 | .ot kvs=>Z (kvs.map λp=>.tuple (p.1.map IA))
 | .otl kvs=>Z (kvs.map λp=>.tuple (p.1.map IA))
 |_=>U
@[simp] noncomputable def OJ(a:BF):BF:=λr=>match a r with
 |some x=>match Sk x with
  |some ds=>(Wn ds).map λds=>.ol ds
  |none=>U
 |none=>U
@[simp] noncomputable def Zj(m:mE->Option D)(a:AF):EF:=λr=>match a r with
 |some ds=>m ds
 |none=>U
@[simp] noncomputable def Bq(a:BF):IF:=λr=>match a r with
 |some x=>Em x
 |none=>U
noncomputable def Xq (lo:Int) (n:Nat):mE:=(Cg n).map λ(k:Nat)=>PyData.int (lo+(k:Int))
noncomputable def ke(j:Int):Bool:=Nat.blt j.natAbs 1000000
@[simp] noncomputable def HR(a:EF):IF:=λr=>match a r with
 |some (.int j)=>if ke j then Z (Xq 0 j.toNat)else U
 |_=>U
noncomputable def KG (c:TF) (e:EF) (r:Env):mE->Option mE
 |[]=>Z []
 |x::xs=>match c (Z (.pl x)::r)with
  |some Y=>match e (Z (.pl x)::r)with
   |some y=>(KG c e r xs).map (y::·)
   |none=>U
  |some Ab=>KG c e r xs
  |none=>U
@[simp] noncomputable def Bv:TF:=λ_=>Z Y
@[simp] noncomputable def BP(i:IF)(c:TF)(e:EF):BF:=λr=>match i r with
 |some xs=>if xs.length<big then(KG c e r xs).map λys=>.ol ys else U
 |none=>U
@[simp] noncomputable def ZK(a b:SF):SF:=λr=>match a r with
 |some (.nx r')=>b r'
 |some (.rt d)=>Z (.rt d)
 |some (.bk r')=>Z (.bk r')
 |some (.ct r')=>Z (.ct r')
 |none=>U
@[simp] noncomputable def ZZ:SF:=λr=>Z (.nx r)
@[simp] noncomputable def Z4:SF:=λ_=>U
@[simp] noncomputable def ZO (a:EF):SF:=λr=>(a r).map d5.rt
@[simp] noncomputable def A5(i:Nat)(a:EF):SF:=λr=>(a r).map λd=>.nx (r.set i (Z (.pl d)))
@[simp] noncomputable def Ee(i:Nat)(a:BF):SF:=λr=>(a r).map λb=>.nx (r.set i (Z b))
@[simp] noncomputable def Wo(i:Nat)(r:Env):Env:=match r[i]? with
 |some (Z (.ol ds))=>r.set i (Z (.pl (.list ds)))
 |some (Z (.ot kvs))=>r.set i (Z (.pl (.dict (N8 kvs))))
 |_=>r
@[simp] noncomputable def P4(i:Nat):SF->SF:=λa r=>a (Wo i r)
@[simp] noncomputable def Ca(a:EF):SF:=λr=>(a r).map λ_=>.nx r
@[simp] noncomputable def az(c:TF)(a b:SF):SF:=λr=>match c r with
 |some Y=>a r
 |some Ab=>b r
 |none=>U
noncomputable def J6 (i:Nat) (body:SF):mE->Env->Option d5
 |[],r=>Z (.nx r)
 |x::xs,r=>match body (r.set i (Z (.pl x)))with
  |some (.nx r')=>J6 i body xs r'
  |some (.ct r')=>J6 i body xs r'
  |some (.bk r')=>Z (.nx r')
  |some (.rt d)=>Z (.rt d)
  |none=>U
@[simp] noncomputable def HK(i:Nat)(it:IF)(body:SF):SF:=λr=>match it r with
 |some xs=>if xs.length<big then J6 i body xs r else U
 |none=>U
noncomputable def Lp (c:TF) (body:SF):Nat->Env->Option d5
 |0,_=>U
 |n+1,r=>match c r with
  |some Y=>match body r with
   |some (.nx r')=>Lp c body n r'
   |some (.ct r')=>Lp c body n r'
   |some (.bk r')=>Z (.nx r')
   |some (.rt d)=>Z (.rt d)
   |none=>U
  |some Ab=>Z (.nx r)
  |none=>U
@[simp] noncomputable def WT(i:Nat)(a:EF):SF:=λr=>match r[i]? with
 |some (Z (.ol ds))=>match a r with
  |some d=>if ds.length<big then Z (.nx (r.set i (Z (.ol (ds++[d])))))else U
  |none=>U
 |_=>U
noncomputable def eI {k v:Type} [DecidableEq k] (kvs:List (k×v)) (x:k) (y:v):List (k×v) :=
 if(kvs.any λp=>decide (p.1=x))=Y then kvs.map (λp=>if p.1=x then(p.1,y)else p)else kvs++[(x,y)]
noncomputable def ZL {k v:Type} [DecidableEq k] (kvs:List (k×v)) (x:k):Option v:=(kvs.find? λp=>decide (p.1=x)).map (·.2)
@[simp] noncomputable def HZ:D->Option Ky
 | .int i=>Z (.inl i)
 | .str x=>Z (.inr x)
 |_=>U
noncomputable def WI:mE->Option (List Ky)
 |[]=>Z []
 |d::r=>match HZ d with
  |some k=>(WI r).map (k::·)
  |none=>U
noncomputable def Nk:mE->Option (List Ky)
 |[]=>Z []
 | .int i::r=>(Nk r).map (Cf i::·)
 |_::_=>U
noncomputable def HW:D->Option (List Ky)
 | .tuple ds=>Nk ds
 |_=>U
@[simp] noncomputable def Ng(i:Nat)(k v:EF):SF:=λr=>match v r with
 |some d=>match k r with
  |some x=>match r[i]? with
   |some (Z (.ok kvs))=>match HZ x with
    |some y=>if kvs.length<big then Z (.nx (r.set i (Z (.ok (eI kvs y d)))))else U
    |none=>U
   |some (Z (.ot kvs))=>match HW x with
    |some y=>if kvs.length<big then Z (.nx (r.set i (Z (.ot (eI kvs y d)))))else U
    |none=>U
   |_=>U
  |none=>U
 |none=>U
@[simp] noncomputable def hJ:BF:=λ_=>Z (.ok [])
@[simp] noncomputable def QC:BF:=λ_=>Z (.otl [])
noncomputable def KW{k v:Type}[DecidableEq k](kvs:List (k×List v))(x:k):List (k×List v):=match ZL kvs x with
 |some _=>kvs
 |none=>kvs++[(x,[])]
noncomputable def NY{k v:Type}[DecidableEq k]:List (k×List v)->k->v->List (k×List v)
 |[],_,_=>[]
 |(x,ds)::r,y,d=>if x=y then(x,ds++[d])::r else(x,ds)::NY r y d
@[simp] noncomputable def VM(i:Nat)(k v:EF):SF:=λr=>match k r with
 |some x=>match r[i]? with
  |some (Z (.otl kvs))=>match HW x with
   | some y=>if kvs.length<big then
     match v (r.set i (Z (.otl (KW kvs y))))with
     |some d=>match ZL (KW kvs y) y with
      |some ds=>if ds.length<big then Z (.nx (r.set i (Z (.otl (NY (KW kvs y) y d)))))else U
      |none=>U
     |none=>U
    else U
   |none=>U
  |_=>U
 |none=>U
@[simp] noncomputable def UX(i:Nat)(k:EF):BF:=λr=>match k r with
 |some x=>match r[i]? with
  |some (Z (.ok kvs))=>match HZ x with
   |some y=>(ZL kvs y).map B.pl
   |none=>U
  |some (Z (.ot kvs))=>match HW x with
   |some y=>(ZL kvs y).map B.pl
   |none=>U
  |some (Z (.otl kvs))=>match HW x with
   |some y=>(ZL kvs y).map B.ol
   |none=>U
  |_=>U
 |none=>U
noncomputable abbrev jE(t:Nat)(cs:mE):D:=.dict [(.none,.int (Int.ofNat t)),(.none,.list cs)]
@[simp] noncomputable def Ig (n:Nat) (ds:mE):Env:=ds.map (λd=>Z (B.pl d))++CM (n-ds.length) U
@[simp] noncomputable def fnOf (k n:Nat) (m:SF):mE->Option D:=λds =>
 if ds.length=k then match m (Ig n ds)with
  |some (.nx _)=>Z .none
  |some (.rt d)=>Z d
  |_=>U
 else U
noncomputable def K6(c:TF)(e:EF)(r:Env):mE->Option mE
 |[]=>Z []
 | .tuple [x,y]::xs=>match c (Z (.pl x)::Z (.pl y)::r)with
  |some Y=>match e (Z (.pl x)::Z (.pl y)::r)with
   |some z=>(K6 c e r xs).map (z::·)
   |none=>U
  |some Ab=>K6 c e r xs
  |none=>U
 |_=>U
@[simp] noncomputable def OS(i:IF)(c:TF)(e:EF):BF:=λr=>match i r with
 |some xs=>if xs.length<big then(K6 c e r xs).map λys=>.ol ys else U
 |none=>U
noncomputable def MG(ds:mE)(i:Int):Option Bool:=(ID ds).map λns=>ns.contains i
@[simp] noncomputable def UK(k:EF)(a:BF):EF:=λr=>match k r with
 |some (.int i)=>match a r with
  |some b=>match Em b with
   |some ds=>(MG ds i).map λc=>.bool c
   |none=>U
  |none=>U
 |_=>U
@[simp] noncomputable def LF(k:EF)(a:BF):EF:=λr=>match k r with
 |some (.int i)=>match a r with
  |some b=>match Em b with
   |some ds=>(MG ds i).map λc=>.bool (!c)
   |none=>U
  |none=>U
 |_=>U
@[simp] noncomputable def N3(n:Nat)(c:TF)(body:SF):SF:=λr=>Lp c body n r
@[simp] noncomputable def WR(i:Nat)(f:BF):SF:=λr=>match r[i]? with
 |some (Z (.ol ds))=>match f r with
  |some (.ol es)=>if ds.length+BX es<big then Z (.nx (r.set i (Z (.ol (ds++es)))))else U
  |_=>U
 |_=>U
@[simp] noncomputable def R0(i j:Nat):SF:=λr=>match r[j]? with
 |some (Z (.ol ds))=>match ds[ds.length-1]? with
  |some d=>Z (.nx ((r.set j (Z (.ol ds.dropLast))).set i (Z (.pl d))))
  |none=>U
 |_=>U
noncomputable def Sy:D->Option (Nat×mE)
 | .dict [(.none,.int (Int.ofNat t)),(.none,.list cs)]=>Z (t,cs)
 |_=>U
noncomputable def dO:Nat->D->Bool
 |_,.none=>Y
 |_,.bool _=>Y
 |_,.int _=>Y
 |_,.str _=>Y
 |n+1,.tuple ds=>ds.all (dO n)
 |n+1,.list ds=>ds.all (dO n)
 |n+1,.dict es=>es.all λp=>(match p.1 with | .none=>Ab|_=>Y)&&dO n p.2
 |_,_=>Ab
noncomputable def QG(d:D):Option mE:=match Sy d with
 |some (9,cs)=>Z cs
 |_=>U
noncomputable def NN(i:Nat)(d:D):Option D:=match QG d with
 |some cs=>cs[i]?
 |none=>U
@[simp] noncomputable def DB(i:Nat)(a:EF):EF:=λr=>match a r with
 |some d=>NN i d
 |none=>U
noncomputable def O9:D->Option Int
 | .none=>Z 1
 |d=>match NN 4 d with
  |some (.int n)=>Z (n+1)
  |_=>U
noncomputable def kb(x s p w:D)(n:Int):D:=jE 9 [x,s,p,w,.int n]
@[simp] noncomputable def VB(a:AF):EF:=λr=>match a r with
 |some [x,s,p,w]=>if dO 400 s&&dO 400 p&&dO 400 w then(O9 x).map λn=>kb x s p w n else U
 |_=>U
noncomputable def NW:mE->mE->mE
 |x::xs,y::ys=>.tuple [x,y]::NW xs ys
 |_,_=>[]
@[simp] noncomputable def Nj(a b:EF):IF:=λr=>match a r with
 |some x=>match Em (.pl x)with
  |some xs=>match b r with
   |some y=>match Em (.pl y)with
    |some ys=>if xs.length=ys.length then Z (NW xs ys)else U
    |none=>U
   |none=>U
  |none=>U
 |none=>U
@[simp] noncomputable def Ni(a:EF):BF:=λr=>match a r with
 |some (.list ds)=>Z (.ol ds.reverse)
 |_=>U
@[simp] noncomputable def UU(i:Nat)(k e:EF):EF:=λr=>match r[i]? with
 |some (Z (.ok kvs))=>match k r with
  |some x=>match e r with
   |some z=>match HZ x with
    |some y=>Z ((ZL kvs y).getD z)
    |none=>U
   |none=>U
  |none=>U
 |_=>U
noncomputable def Nh:List (Ky×D)->Option (List (Int×Int))
 |[]=>Z []
 |(.inl i,.int j)::r=>(Nh r).map ((i,j)::·)
 |_::_=>U
noncomputable def ki(ps:List (Int×Int)):D:=jE 10 (ps.map λp=>.tuple [.int p.1,.int p.2])
@[simp] noncomputable def UW(i:Nat):SF:=λr=>match r[i]? with
 |some (Z (.ok kvs))=>(Nh kvs).map λps=>.rt (ki ps)
 |_=>U
noncomputable def Ms:Nat:=14*8 ^ 60
noncomputable abbrev RF:=Env->Option Str
@[simp] noncomputable def aP:RF:=λ_=>U
@[simp] noncomputable def CB(x:Str)(a:AF):RF:=λr=>match a r with
 |some _=>Z x
 |none=>U
@[simp] noncomputable def bh(t:TF)(a b:RF):RF:=λr=>match t r with
 |some Y=>a r
 |some Ab=>b r
 |none=>U
@[simp] noncomputable def AH(g:RF)(m:SF)(rest:RF):RF:=λr=>match g r with
 |some x=>Z x
 |none=>match m r with
  |some (.nx r')=>rest r'
  |_=>U
@[simp] noncomputable def Z1(m:mE->Option Str)(a:AF):RF:=λr=>match a r with
 |some ds=>m ds
 |none=>U
noncomputable def Bk(k n:Nat)(g:RF):mE->Option Str:=λds=>if ds.length=k then g (Ig n ds)else U
@[simp] noncomputable def Ti(g:RF)(h:Str->Option D)(m:SF):SF:=λr=>match g r with
 |some x=>(h x).map .rt
 |none=>m r
noncomputable def lp(h:Str->Option (List Bool)):Str->Option D:=λx=>(h x).map λbs=>.list (bs.map .bool)
noncomputable def Qv(n:Nat)(d:D):Bool:=d.canLay0&&d.showable&&!d.hasDict&&decide (d.depth<=60)&&decide (n+d.shown.length<=sizeLine)
noncomputable def WX(n:Nat)(x:Str)(a:EF):RF:=λr=>match a r with
 |some (.tuple ds)=>if Qv n (.tuple ds)then Z x else U
 |_=>U
@[simp] noncomputable def WU(a:EF):EF:=λr=>match a r with
 |some (.list ds)=>Z (.tuple ds.reverse)
 |_=>U
noncomputable def ll(ys:mI):Str->Option (List Bool):=λx=>if ys.contains x then Z (ys.map (·==x))else U
end HM
namespace HP
open PySem PySem.Spec PyProof.Rows L2
variable{a b l p:Addr}{o u:HO}{F F' H H' H1:Hp}{fp':List Addr}
@[reducible] noncomputable def BM(H':Hp)(b:Addr):HO->Prop
 | .tbl _=>∃ps',H' b=Z (.tbl ps')
 |o=>H' b=Z o
noncomputable def AM(H H':Hp):Prop:=∀b o,H b=Z o->BM H' b o
theorem BM.of(h:H' b=Z o):BM H' b o:=by cases o<;>first|exact h|exact⟨_,h⟩
theorem BM.ex(h:BM H' b o):∃u,H' b=Z u:=by cases o<;>first|exact⟨_,h⟩|(obtain⟨ps,e⟩:=h;exact⟨_,e⟩)
theorem BM.no(h:BM H' b o)(n:∀ps,o≠.tbl ps):H' b=Z o:=by cases o<;>first|exact h|exact absurd rfl (n _)
theorem AM.of{H H':Hp}(s:Zs H H'):AM H H':=λb o h=>.of (s b o h)
theorem AM.refl(H:Hp):AM H H:=.of (.refl H)
theorem AM.trans{H2:Hp}(a:AM H H1)(b:AM H1 H2):AM H H2:=λc o h=>by have h1:=a c o h;cases o<;>first|exact b c _ h1|(obtain⟨ps,e⟩:=h1;exact(show ∃ps',H2 c=Z (.tbl ps') from b c _ e))
theorem AM.free(e:AM H H')(h:H' l=U):H l=U:=by
 cases q:H l with
 |none=>rfl
 |some o=>obtain⟨u,z⟩:=(e l o q).ex;rw[h]at z;cases z
theorem AM.back(e:AM H H')(h:H l=Z o)(h':H' l=Z u)(n:∀ps,u≠.tbl ps):o=u:=by have z:=e l o h;cases o<;>first|(obtain⟨ps,q⟩:=z;rw[h']at q;cases q;exact absurd rfl (n _))|(have z:H' l=Z _:=z;rw[h']at z;cases z;rfl)
noncomputable def B6(H:Hp):Hp:=λb=>match H b with
 |some (.tbl _)=>U
 |x=>x
noncomputable def nt:HO->Bool
 | .tbl _=>Ab
 |_=>Y
noncomputable def bG(F:Hp):Prop:=∀b o,F b=Z o->nt o=Y
theorem DG(h:H b=Z o)(n:nt o=Y):B6 H b=Z o:=by unfold B6;rw[h];cases o<;>first|rfl|cases n
theorem Ow(h:B6 H b=Z o):H b=Z o/\nt o=Y:=by
 unfold B6 at h;split at h
 .cases h
 .rename_i n
  refine⟨h,?_⟩;cases o<;>first|rfl|exact absurd h (n _)
theorem TQ:Zs (B6 H) H:=λb o h=>(Ow h).1
theorem bG.drop{H:Hp}:bG (B6 H):=λb o h=>(Ow h).2
theorem bG.upd{F:Hp}{p:Addr}{o:HO}(n:bG F)(h:nt o=Y):bG (upd F p o):=λb u z=>by
 by_cases hb:b=p
 .subst hb;rw[Zq]at z;cases z;exact h
 .rw[Zo hb]at z;exact n b u z
theorem AM.ntb(s:AM H H')(h:H b=Z o)(n:nt o=Y):H' b=Z o:=(s b o h).no λps z=>by subst z;cases n
noncomputable def Dk(vvs:List (List YS×V))(u:HO):Prop:=u=.dT vvs\/∃o,u=.frz o (.dT vvs)
noncomputable def sw(a:Addr)(ob:HO)(G:Hp):Hp:=λb=>if b=a then(G a).map (λ_=>ob)else G b
class FX where
 tl:List (Addr×Str)
 fv:Nat->mE->Hp->Addr->Prop
 sw:∀{t:Nat} {cs:mE} {F:Hp} {a b:Addr} {ob:HO} {vvs:List (List YS×V)},(∀u,F a=Z u->Dk vvs u)->Dk vvs ob->fv t cs F b->fv t cs (sw a ob F) b
 drop:∀{t:Nat} {cs:mE} {F:Hp} {a:Addr},fv t cs F a->fv t cs (B6 F) a
 mono:∀{t:Nat} {cs:mE} {F F':Hp} {a:Addr},fv t cs F a->Zs F F'->fv t cs F' a
variable[FX]
noncomputable def As(a:Addr)(o:Obj):HO:=.ext λh=>h.get? a=Z o
noncomputable def QW(o:Obj)(q:Str):Prop:=∃vs t,o.data=.fields vs/\vs[1]?=Z (.str q t)
noncomputable def Tb(H:Hp):Prop:=∀P q,(P,q)∈FX.tl->∃ps,H P=Z (.tbl ps)/\TriplesOk ps.toList/\∀pos c,codeAmong pos ps.toList=Z c->∃a o,c=.ref a/\H a=Z (As a o)/\QW o q
noncomputable def EX:HO->Bool
 | .lst _=>Y
 | .dK _=>Y
 | .dT _=>Y
 |_=>Ab
noncomputable def te:HO->Bool
 | .tbl _=>Y
 | .ext _=>Y
 |_=>Ab
theorem MV(h:EX o=Y)(h':te o=Y):False:=by cases o<;>simp_all [EX,te]
theorem Tb.keep(t:Tb H)(k:∀a o,H a=Z o->te o=Y->H' a=Z o):Tb H':=λP q hP=>by obtain⟨ps,h1,h2,h3⟩:=t P q hP;refine⟨ps,k _ _ h1 rfl,h2,λpos c hc=>?_⟩;obtain⟨a,o,e1,e2,e3⟩:=h3 pos c hc;exact⟨a,o,e1,k _ _ e2 rfl,e3⟩
theorem BM.cong(e:H' b=H b)(h:BM H b o):BM H' b o:=by unfold BM at h ⊢;rw[e];exact h
theorem Tb.same(t:Tb H)(s:Zs H H'):Tb H':=t.keep λa o h _=>s a o h
theorem J3(r:Rd F a u)(s:Zs F F'):Rd F' a u:=r.imp (λh=>s _ _ h) λ⟨o,h⟩=>⟨o,s _ _ h⟩
noncomputable def PH(K:Ad)(a:Addr)(vs:List V):Prop:=∃(o:Obj) (YL:Array Value) (n:Nat),K.lookup a=Z o/\o.cls=.type "tuple"/\o.data=.seq YL n/\YL.size<=sizeLine/\YN vs YL.toList
theorem NQ{K:Ad}{vs:List V}(h:aN K F a vs)(s:Zs F F'):aN K F' a vs:=h.imp (λh=>J3 h s) id
inductive Rep(K:Ad)(F:Hp):PyData->V->Prop where
 |non:Rep K F .none .non
 |bl (b:Bool):Rep K F (.bool b) (.bl b)
 |int (i:Int):Rep K F (.int i) (.int i)
 |str (x:Str):Rep K F (.str x) (.str x)
 |tupk {a:Addr} {x:Str} (h:PH K a [.str x]):Rep K F (.tuple [.str x]) (.ref a)
 |tup {a:Addr} {ds:mE} {vs:List V} (h:F a=Z (.tup vs)) (hl:BX ds=vs.length) (hr:∀(i:Nat) (d:PyData) (v:V),ds[i]?=Z d->vs[i]?=Z v->Rep K F d v):Rep K F (.tuple ds) (.ref a)
 |lst {a:Addr} {ds:mE} {vs:List V} (h:au K F a vs) (hl:BX ds=vs.length) (hr:∀(i:Nat) (d:PyData) (v:V),ds[i]?=Z d->vs[i]?=Z v->Rep K F d v):Rep K F (.list ds) (.ref a)
 |dct {a:Addr} {es:List (PyData×PyData)} {kvs:List (List YS×PyData)} {vvs:List (List YS×V)} (h:Rd F a (.dT vvs)) (he:es=HM.N8 kvs) (hk:kvs.map (·.1)=vvs.map (·.1)) (hr:∀(i:Nat) (d:PyData) (v:V),(kvs.map (·.2))[i]?=Z d->(vvs.map (·.2))[i]?=Z v->Rep K F d v):Rep K F (.dict es) (.ref a)
 |fn {a:Addr} {t:Nat} {cs:mE} (h:FX.fv t cs F a):Rep K F (.dict [(.none,.int (Int.ofNat t)),(.none,.list cs)]) (.ref a)
noncomputable def Zu(K:Ad)(F:Hp)(ds:mE)(vs:List V):Prop:=ds.length=vs.length/\∀(i:Nat) (d:PyData) (v:V),ds[i]?=Z d->vs[i]?=Z v->Rep K F d v
section
variable{K:Ad}{F F':Hp}{d:PyData}{v:V}{ds es:mE}{vs us:List V}
theorem Rep.mono(r:Rep K F d v)(s:Zs F F'):Rep K F' d v:=by
 induction r with
 |non=>exact .non
 |bl b=>exact .bl b
 |int i=>exact .int i
 |str x=>exact .str x
 |tup h hl _ ih=>exact .tup (s _ _ h) hl ih
 |tupk h=>exact .tupk h
 |lst h hl _ ih=>exact .lst (s.seq h) hl ih
 |dct h he hk _ ih=>exact .dct (J3 h s) he hk ih
 |fn h=>exact .fn (FX.mono h s)
theorem Rep.drop(r:Rep K F d v):Rep K (B6 F) d v:=by
 induction r with
 |non=>exact .non
 |bl b=>exact .bl b
 |int i=>exact .int i
 |str x=>exact .str x
 |tup h hl _ ih=>exact .tup (DG h rfl) hl ih
 |tupk h=>exact .tupk h
 |lst h hl _ ih =>
  refine .lst ?_ hl ih;rcases h with(h|⟨o,h⟩)|h
  .exact .inl (.inl (DG h rfl))
  .exact .inl (.inr ⟨o,DG h rfl⟩)
  .exact .inr h
 |dct h he hk _ ih =>
  refine .dct ?_ he hk ih;rcases h with h|⟨o,h⟩
  .exact .inl (DG h rfl)
  .exact .inr ⟨o,DG h rfl⟩
 |fn h=>exact .fn (FX.drop h)
theorem Zu.mono(r:Zu K F ds vs)(s:Zs F F'):Zu K F' ds vs:=⟨r.1,λi d v h1 h2=>(r.2 i d v h1 h2).mono s⟩
theorem Zu.nil:Zu K F [] []:=⟨rfl,λi d v h=>by simp at h⟩
theorem Zu.cons(r:Rep K F d v)(q:Zu K F ds vs):Zu K F (d::ds) (v::vs) :=
 ⟨by rw[A8,A8,q.1],λi e u h1 h2=>by
  cases i with
  |zero=>rw[Jp]at h1 h2;cases h1;cases h2;exact r
  |succ i=>rw[B2]at h1 h2;exact q.2 i e u h1 h2⟩
theorem Zu.nil_inv(r:Zu K F [] vs):vs=[]:=List.eq_nil_of_length_eq_zero r.1.symm
theorem Zu.cons_inv(r:Zu K F (d::ds) vs):∃v us,vs=v::us/\Rep K F d v/\Zu K F ds us:=by
 cases vs with
 |nil=>exact absurd r.1 (by simp)
 |cons v us =>
  refine⟨v,us,rfl,r.2 0 d v rfl rfl,?_,λi e u h1 h2=>r.2 (i+1) e u ?_ ?_⟩
  .have:=r.1
   rw[A8,A8]at this;omega
  .rw[B2];exact h1
  .rw[B2];exact h2
theorem Zu.append(r:Zu K F ds vs)(q:Zu K F es us):Zu K F (ds++es) (vs++us):=by
 refine⟨by rw[A3,A3,r.1,q.1],λi e u h1 h2=>?_⟩
 by_cases hi:i<BX ds
 .rw[CS hi]at h1
  rw[CS (by rw[<-r.1];exact hi)]at h2;exact r.2 i e u h1 h2
 .rw[CT (by omega)]at h1
  rw[CT (by have:=r.1;omega),<-r.1]at h2;exact q.2 _ e u h1 h2
theorem Zu.get(r:Zu K F ds vs){i:Nat}(h:ds[i]?=Z d):∃v,vs[i]?=Z v/\Rep K F d v:=by
 have hi:i<BX vs:=by rw[<-r.1];exact(AE.mp h).1
 exact⟨vs[i],BS hi,r.2 i d _ h (BS hi)⟩
theorem Zu.take(r:Zu K F ds vs)(n:Nat):Zu K F (ds.take n) (vs.take n) :=
 ⟨by rw[FP,FP,r.1],λi e u h1 h2=>by
  by_cases hi:i<n
  .rw[LV hi]at h1 h2
   exact r.2 _ e u h1 h2
  .rw[List.getElem?_take_eq_none (by omega)]at h1
   cases h1⟩
theorem Zu.one(r:Rep K F d v):Zu K F [d] [v]:=.cons r .nil
end
noncomputable def d6(H:Hp)(a:Addr)(o:HO):Prop:=H a=U\/∃xs,o=.tup xs/\H a=Z (.tup xs)
theorem d6.back{H H':Hp}{a:Addr}{o:HO}(s:AM H H')(f:d6 H' a o):d6 H a o:=by
 rcases f with f|⟨xs,e,f⟩
 .exact .inl (s.free f)
 .cases q:H a with
  |none=>exact .inl q
  |some u =>
   have:=s.back q f λ_ z=>by cases z
   subst this;exact .inr ⟨xs,e,q⟩
theorem d6.no(f:d6 H a o)(h:H a=Z u)(n:∀xs,u≠.tup xs):False:=by
 rcases f with f|⟨xs,_,f⟩
 .rw[h]at f;cases f
 .rw[h]at f;cases f;exact n xs rfl
structure YR(F H F' H':Hp):Prop where
 ff:Zs F F'
 hh:AM H H'
 sub:Zs F' H'
 new:∀a o,F' a=Z o->F a=Z o\/d6 H a o
 tab:Tb H->Tb H'
 nts:bG F->bG F'
theorem YR.refl{F H:Hp}(s:Zs F H):YR F H F H:=⟨Zs.refl F,AM.refl H,s,λ_ _ h=>.inl h,id,id⟩
theorem YR.trans{F H F1 H1 F2 H2:Hp}(a:YR F H F1 H1)(b:YR F1 H1 F2 H2):YR F H F2 H2 :=
 ⟨a.ff.trans b.ff,a.hh.trans b.hh,b.sub,λx o h=>by
  rcases b.new x o h with q|q
  .exact a.new x o q
  .exact .inr (q.back a.hh),λt=>b.tab (a.tab t),λt=>b.nts (a.nts t)⟩
theorem Gf(h:F p=U):Zs F (upd F p o):=λb q z=>by rw[Zo (BA z h)];exact z
theorem YR.lay(e:YR F H F' H')(h:H' p=U)(no:nt o=Y:=by rfl):YR F H (upd F' p o) (upd H' p o):=by
 have hF:F' p=U:=e.sub.free h;refine⟨λb q z=>?_,e.hh.trans (.of (Gf h)),λb q z=>?_,λb q z=>?_,λt=>(e.tab t).same (Gf h),λt=>(e.nts t).upd no⟩
 .rw[Zo (BA (e.ff b q z) hF)];exact e.ff b q z
 .by_cases hb:b=p
  .subst hb;rw[Zq]at z ⊢;exact z
  .rw[Zo hb]at z ⊢;exact e.sub b q z
 .by_cases hb:b=p
  .subst hb;exact .inr (.inl (e.hh.free h))
  .rw[Zo hb]at z;exact e.new b q z
theorem YR.lay'(e:YR F H F' H')(h:H' p=U):YR F H F' (upd H' p o):=by refine⟨e.ff,e.hh.trans (.of (Gf h)),λb q z=>?_,e.new,λt=>(e.tab t).same (Gf h),e.nts⟩;rw[Zo (BA (e.sub b q z) h)];exact e.sub b q z
theorem Zs.upd'(h:F p=U):Zs F (upd F p o):=λb q z=>by rw[Zo (BA z h)];exact z
noncomputable def AJ(F H:Hp):Hp:=λa=>match H a with
 |some (.tup xs)=>Z (.tup xs)
 |_=>F a
theorem Tx{xs:List V}(h:H a=Z (.tup xs)):AJ F H a=Z (.tup xs):=by unfold AJ;rw[h]
theorem CA(s:Zs F H):Zs F (AJ F H):=λa o h=>by
 have:=s a o h;unfold AJ;split
 .rename_i xs q
  rw[q]at this;exact this
 .exact h
theorem YR.tups(e:YR F H F' H'):YR F H (AJ F' H') H':=by
 have key:YR F' H' (AJ F' H') H':=by
  refine⟨CA e.sub,AM.refl H',λa o h=>?_,λa o h=>?_,id,λn a o h=>?_⟩
  .unfold AJ at h
   split at h
   .rename_i xs q;rw[q];exact h
   .exact e.sub a o h
  .unfold AJ at h
   split at h
   .rename_i xs q
    cases h;exact .inr (.inr ⟨xs,rfl,q⟩)
   .exact .inl h
  .unfold AJ at h
   split at h
   .cases h;rfl
   .exact n a o h
 exact e.trans key
inductive Z5(K:Ad)(F H:Hp):HM.B->V->List Addr->Prop where
 |pl {d:PyData} {v:V} (r:Rep K F d v):Z5 K F H (.pl d) v []
 |ol {a:Addr} {ds:mE} {vs:List V} (h:H a=Z (.lst vs)) (r:Zu K F ds vs):Z5 K F H (.ol ds) (.ref a) [a]
 |ok {a:Addr} {kvs:List (YS×PyData)} {vvs:List (YS×V)} (h:H a=Z (.dK vvs)) (hk:kvs.map (·.1)=vvs.map (·.1)) (r:Zu K F (kvs.map (·.2)) (vvs.map (·.2))):Z5 K F H (.ok kvs) (.ref a) [a]
 |ot {a:Addr} {kvs:List (List YS×PyData)} {vvs:List (List YS×V)} (h:H a=Z (.dT vvs)) (hk:kvs.map (·.1)=vvs.map (·.1)) (r:Zu K F (kvs.map (·.2)) (vvs.map (·.2))):Z5 K F H (.ot kvs) (.ref a) [a]
 | otl {a:Addr} {kvs:List (List YS×mE)} {vvs:List (List YS×V)} {ls:List Addr} (h:H a=Z (.dT vvs)) (hk:kvs.map (·.1)=vvs.map (·.1)) (hv:vvs.map (·.2)=ls.map V.ref)
   (r:∀(i:Nat) (ds:mE) (l:Addr),(kvs.map (·.2))[i]?=Z ds->ls[i]?=Z l->∃vs,H l=Z (.lst vs)/\Zu K F ds vs):Z5 K F H (.otl kvs) (.ref a) (a::ls)
 |hd {a:Addr} {o:Obj} {es:List (PyData×PyData)} {kvs:List (List YS×PyData)} {vvs:List (List YS×V)} (h:F a=Z (.frz o (.dT vvs))) (he:es=HM.N8 kvs) (hk:kvs.map (·.1)=vvs.map (·.1)) (r:Zu K F (kvs.map (·.2)) (vvs.map (·.2))):Z5 K F H (.hd es) (.ref a) []
 |hf {a:Addr} {t:Nat} {cs:mE} (h:FX.fv t cs F a):Z5 K F H (.hd [(.none,.int (Int.ofNat t)),(.none,.list cs)]) (.ref a) []
section
variable{K:Ad}{F F' H H':Hp}{b:HM.B}{v:V}{fp:List Addr}
theorem Z5.mono(r:Z5 K F H b v fp)(s:Zs F F')(k:∀a∈fp,∀o,H a=Z o->BM H' a o):Z5 K F' H' b v fp:=by
 cases r with
 |pl r=>exact .pl (r.mono s)
 |ol h r=>exact .ol (k _ (by simp) _ h) (r.mono s)
 |ok h hk r=>exact .ok (k _ (by simp) _ h) hk (r.mono s)
 |ot h hk r=>exact .ot (k _ (by simp) _ h) hk (r.mono s)
 |hd h he hk r=>exact .hd (s _ _ h) he hk (r.mono s)
 |hf h=>exact .hf (FX.mono h s)
 |otl h hk hv r=>refine .otl (k _ (by simp) _ h) hk hv λi ds l h1 h2=>?_;obtain⟨vs,q1,q2⟩:=r i ds l h1 h2;exact⟨vs,k l (AQ _ (Cp h2)) _ q1,q2.mono s⟩
theorem Z5.there2(r:Z5 K F H b v fp)(h:a∈fp):∃o,H a=Z o/\EX o=Y:=by
 cases r with
 |pl r=>simp at h
 |hd _ _ _ _=>simp at h
 |hf _=>simp at h
 |ol q r=>simp at h;subst h;exact⟨_,q,rfl⟩
 |ok q hk r=>simp at h;subst h;exact⟨_,q,rfl⟩
 |ot q hk r=>simp at h;subst h;exact⟨_,q,rfl⟩
 | @otl a' kvs vvs ls q hk hv r =>
  rcases Ak.mp h with e|e
  .subst e;exact⟨_,q,rfl⟩
  .obtain⟨i,hi⟩:=List.getElem?_of_mem e
   have hl:BX kvs=ls.length:=by have e1:=congrArg BX hk;have e2:=congrArg BX hv;rw[Ap,Ap]at e1 e2;omega
   have hi':i<BX kvs:=by rw[hl];exact(AE.mp hi).1
   obtain⟨vs,q1,_⟩:=r i (kvs[i].2) a (by simp[hi']) hi;exact⟨_,q1,rfl⟩
theorem Z5.there'(r:Z5 K F H b v fp)(h:a∈fp):∃o,H a=Z o/\∀xs,o≠.tup xs:=by
 cases r with
 |pl r=>simp at h
 |hd _ _ _ _=>simp at h
 |hf _=>simp at h
 |ol q r=>simp at h;subst h;exact⟨_,q,λ_ z=>by cases z⟩
 |ok q hk r=>simp at h;subst h;exact⟨_,q,λ_ z=>by cases z⟩
 |ot q hk r=>simp at h;subst h;exact⟨_,q,λ_ z=>by cases z⟩
 | @otl a' kvs vvs ls q hk hv r =>
  rcases Ak.mp h with e|e
  .subst e;exact⟨_,q,λ_ z=>by cases z⟩
  .obtain⟨i,hi⟩:=List.getElem?_of_mem e
   have hl:BX kvs=ls.length:=by have e1:=congrArg BX hk;have e2:=congrArg BX hv;rw[Ap,Ap]at e1 e2;omega
   have hi':i<BX kvs:=by rw[hl];exact(AE.mp hi).1
   obtain⟨vs,q1,_⟩:=r i (kvs[i].2) a (by simp[hi']) hi;exact⟨_,q1,λ_ z=>by cases z⟩
theorem Z5.there(r:Z5 K F H b v fp)(h:a∈fp):∃o,H a=Z o:=let ⟨o,q,_⟩:=r.there' h;⟨o,q⟩
end
structure AA(K:Ad)(F0 H0 F H:Hp)(r:HM.Env)(L:L2.St)(fp:Nat->List Addr):Prop where
 ext:YR F0 H0 F H
 len:BX r=L.length
 at_:∀(i:Nat) (b:HM.B),r[i]?=Z (Z b)->∃v,L[i]?=Z (Z v)/\Z5 K F H b v (fp i)
 emp:∀(i:Nat),(∀b,r[i]?≠Z (Z b))->fp i=[]
 own:∀(i:Nat) (a:Addr),a∈fp i->F a=U/\H0 a=U
 nd:∀i,(fp i).Nodup
 dis:∀(i j:Nat) (a:Addr),i≠j->a∈fp i->¬a∈fp j
 tb:Tb H0
 nt:bG F0
noncomputable def At(K:Ad)(F0 H0 F H:Hp)(r:HM.Env)(L:L2.St):Prop:=∃fp,AA K F0 H0 F H r L fp
section
variable{K:Ad}{F0 H0 F H F' H':Hp}{r:HM.Env}{L:L2.St}{fp:Nat->List Addr}{i:Nat}{b:HM.B}{v:V}{d:PyData}
theorem AA.bound(e:AA K F0 H0 F H r L fp)(h:a∈fp i):∃b,r[i]?=Z (Z b):=by
 cases q:r[i]? with
 |none=>rw[e.emp i (λb z=>by rw[q]at z;cases z)]at h;simp at h
 |some x =>
  cases x with
  |none=>rw[e.emp i (λb z=>by rw[q]at z;cases z)]at h;simp at h
  |some b=>exact⟨b,rfl⟩
theorem AA.there'(e:AA K F0 H0 F H r L fp){a:Addr}(h:a∈fp i):∃o,H a=Z o/\∀xs,o≠.tup xs:=by obtain⟨b,hb⟩:=e.bound h;obtain⟨v,_,q⟩:=e.at_ i b hb;exact q.there' h
theorem AA.there2(e:AA K F0 H0 F H r L fp){a:Addr}(h:a∈fp i):∃o,H a=Z o/\EX o=Y:=by obtain⟨b,hb⟩:=e.bound h;obtain⟨v,_,q⟩:=e.at_ i b hb;exact q.there2 h
theorem AA.there(e:AA K F0 H0 F H r L fp)(h:a∈fp i):∃o,H a=Z o:=let ⟨o,q,_⟩:=e.there' h;⟨o,q⟩
theorem AA.sub(e:AA K F0 H0 F H r L fp):Zs F H:=e.ext.sub
theorem AA.grow(e:AA K F0 H0 F H r L fp)(x:YR F H F' H'):AA K F0 H0 F' H' r L fp:=by
 refine⟨e.ext.trans x,e.len,λi b h=>?_,e.emp,λi a h=>⟨?_,(e.own i a h).2⟩,e.nd,e.dis,e.tb,e.nt⟩
 .obtain⟨v,h1,h2⟩:=e.at_ i b h
  exact⟨v,h1,h2.mono x.ff λa _ o q=>x.hh a o q⟩
 .cases q:F' a with
  |none=>rfl
  |some o =>
   rcases x.new a o q with z|z
   .rw[(e.own i a h).1]at z;cases z
   .obtain⟨o',h',hn⟩:=e.there' h
    exact(z.no h' hn).elim
theorem At.grow(e:At K F0 H0 F H r L)(x:YR F H F' H'):At K F0 H0 F' H' r L:=let ⟨fp,e⟩:=e;⟨fp,e.grow x⟩
theorem At.tb(e:At K F0 H0 F H r L):Tb H:=let ⟨_,e⟩:=e;e.ext.tab e.tb
theorem At.tbx(e:At K F0 H0 F H r L)(x:YR F H F' H'):Tb H':=x.tab e.tb
theorem At.nt(e:At K F0 H0 F H r L):bG F:=let ⟨_,e⟩:=e;e.ext.nts e.nt
theorem At.ntx(e:At K F0 H0 F H r L)(x:YR F H F' H'):bG F':=x.nts e.nt
theorem At.nt0(e:At K F0 H0 F H r L):bG F0:=let ⟨_,e⟩:=e;e.nt
theorem At.sub(e:At K F0 H0 F H r L):Zs F H:=let ⟨_,e⟩:=e;e.ext.sub
theorem At.ext(e:At K F0 H0 F H r L):YR F0 H0 F H:=let ⟨_,e⟩:=e;e.ext
theorem At.refl(e:At K F0 H0 F H r L):YR F H F H:=.refl e.sub
theorem At.plain(e:At K F0 H0 F H r L)(h:r[i]?=Z (Z (.pl d))):∃v,L[i]?=Z (Z v)/\Rep K F d v:=by
 obtain⟨fp,e⟩:=e;obtain⟨v,h1,h2⟩:=e.at_ i _ h;generalize fp i=f at h2;cases h2 with
 |pl q=>exact⟨v,h1,q⟩
theorem At.any(e:At K F0 H0 F H r L)(h:r[i]?=Z (Z b)):∃v fp,L[i]?=Z (Z v)/\Z5 K F H b v fp:=by obtain⟨fp,e⟩:=e;obtain⟨v,h1,h2⟩:=e.at_ i _ h;exact⟨v,_,h1,h2⟩
theorem At.store(e:At K F0 H0 F H r L)(q:Z5 K F H b v fp')(nd:fp'.Nodup)(h1:∀a∈fp',F a=U/\H0 a=U)(h2:∀fp,AA K F0 H0 F H r L fp->∀j a,j≠i->a∈fp j->¬a∈fp'):At K F0 H0 F H (r.set i (Z b)) (L.set i (Z v)):=by
 obtain⟨fp,e⟩:=e;have h2:=h2 fp e
 by_cases hi:i<BX r
 .refine⟨λj=>if j=i then fp' else fp j,e.ext,by rw[CW,CW,e.len],λj c h=>?_,λj h=>?_,λj a h=>?_,λj=>?_,λj k a dQ h=>?_,e.tb,e.nt⟩
  .by_cases hj:j=i
   .subst hj
    rw[Cr hi]at h;cases h;refine⟨v,Cr (by rw[<-e.len];exact hi),?_⟩;rw[if_pos rfl];exact q
   .rw[Ba (AD hj)]at h
    obtain⟨u,q1,q2⟩:=e.at_ j c h;refine⟨u,by rw[Ba (AD hj)];exact q1,?_⟩;rw[if_neg hj];exact q2
  .by_cases hj:j=i
   .subst hj
    exact absurd (Cr hi) (h b)
   .show(if j=i then fp' else fp j)=[]
    rw[if_neg hj];exact e.emp j λc z=>h c (by rw[Ba (AD hj)];exact z)
  .by_cases hj:j=i
   .rw[if_pos hj]at h;exact h1 a h
   .rw[if_neg hj]at h;exact e.own j a h
  .show(if j=i then fp' else fp j).Nodup
   by_cases hj:j=i
   .rw[if_pos hj];exact nd
   .rw[if_neg hj];exact e.nd j
  .show ¬a∈(if k=i then fp' else fp k)
   by_cases hj:j=i
   .rw[if_pos hj]at h
    by_cases hk:k=i
    .exact absurd (hj.trans hk.symm) dQ
    .rw[if_neg hk];exact λz=>h2 k a hk z h
   .rw[if_neg hj]at h
    by_cases hk:k=i
    .rw[if_pos hk];exact h2 j a hj h
    .rw[if_neg hk];exact e.dis j k a dQ h
 .have e1:r.set i (Z b)=r:=LU (by omega)
  have e2:L.set i (Z v)=L:=LU (by have:=e.len;omega);rw[e1,e2];exact⟨fp,e⟩
theorem At.set(e:At K F0 H0 F H r L)(q:Rep K F d v):At K F0 H0 F H (r.set i (Z (.pl d))) (L.set i (Z v)) :=
 e.store (.pl q) EK (λa h=>by simp at h) λ_ _ _ _ _ _ h=>by simp at h
theorem AA.changeW(e:AA K F0 H0 F H r L fp)(hv:L[i]?=Z (Z v))(q:Z5 K F H' b v fp')(nd:fp'.Nodup)(h1:∀a∈fp',a∈fp i\/(F a=U/\H0 a=U/\∀j,a∉fp j))(h2:∀a o,H a=Z o->¬a∈fp i->H' a=Z o):At K F0 H0 F H' (r.set i (Z b)) L:=by
 have sF:Zs F H':=λa o z=>h2 a o (e.sub a o z) λm=>by rw[(e.own i a m).1]at z;cases z
 have sH:AM H0 H':=λa o z=>by
  have nm:¬a∈fp i:=λm=>by rw[(e.own i a m).2]at z;cases z
  have y:=e.ext.hh a o z;cases o<;>first|exact h2 a _ y nm|(obtain⟨ps,q⟩:=y;exact⟨ps,h2 a _ q nm⟩)
 have sT:Tb H0->Tb H':=λt=>(e.ext.tab t).keep λa o z ho=>h2 a o z λm=>by obtain⟨o',q1,q2⟩:=e.there2 m;rw[z]at q1;cases q1;exact MV q2 ho
 have e':AA K F0 H0 F H' (r.set i U) (L.set i U) (λj=>if j=i then[]else fp j):=by
  refine⟨⟨e.ext.ff,sH,sF,e.ext.new,sT,e.ext.nts⟩,by rw[CW,CW,e.len],λj c h=>?_,λj h=>?_,λj a h=>?_,λj=>?_,λj k a dQ h=>?_,e.tb,e.nt⟩
  .by_cases hj:j=i
   .subst hj
    by_cases hi:j<BX r
    .rw[Cr hi]at h;cases h
    .rw[FN (by rw[CW];omega)]at h;cases h
   .rw[Ba (AD hj)]at h
    obtain⟨u,q1,q2⟩:=e.at_ j c h;refine⟨u,by rw[Ba (AD hj)];exact q1,?_⟩;rw[if_neg hj];exact q2.mono (Zs.refl F) λa ha o z=>.of (h2 a o z (e.dis j i a hj ha))
  .show(if j=i then[]else fp j)=[]
   by_cases hj:j=i
   .rw[if_pos hj]
   .rw[if_neg hj]
    exact e.emp j λc z=>h c (by rw[Ba (AD hj)];exact z)
  .by_cases hj:j=i
   .rw[if_pos hj]at h;simp at h
   .rw[if_neg hj]at h;exact e.own j a h
  .show(if j=i then[]else fp j).Nodup
   by_cases hj:j=i
   .rw[if_pos hj];exact EK
   .rw[if_neg hj];exact e.nd j
  .show ¬a∈(if k=i then[]else fp k)
   by_cases hj:j=i
   .rw[if_pos hj]at h;simp at h
   .rw[if_neg hj]at h
    by_cases hk:k=i
    .rw[if_pos hk];simp
    .rw[if_neg hk];exact e.dis j k a dQ h
 have hF:∀a∈fp',F a=U/\H0 a=U:=λa ha=>by
  rcases h1 a ha with z|z
  .exact e.own i a z
  .exact⟨z.1,z.2.1⟩
 have e2:=At.store (i:=i) ⟨_,e'⟩ q nd hF λfq eq j a hj ha z=>by
  obtain⟨c,hc⟩:=eq.bound ha;rw[Ba (AD hj)]at hc;obtain⟨u1,s1,r1⟩:=eq.at_ j c (by rw[Ba (AD hj)];exact hc);obtain⟨u2,s2,r2⟩:=e.at_ j c hc;rw[Ba (AD hj),s2]at s1;cases s1;have hm:a∈fp j:=by
   have r2':=r2.mono (H':=H') (Zs.refl F) λa ha o z=>.of (h2 a o z (e.dis j i a hj ha))
   clear r2
   generalize fq j=f1 at r1 ha;generalize fp j=f2 at r2' ⊢;cases r1 with
   |pl _=>simp at ha
   |hd _ _ _ _=>simp at ha
   |hf _=>simp at ha
   |ol _ _=>cases r2' with|ol _ _=>exact ha
   |ok _ _ _=>cases r2' with|ok _ _ _=>exact ha
   |ot _ _ _=>cases r2' with|ot _ _ _=>exact ha
   |otl a1 _ v1 _ =>
    cases r2' with
    |otl a2 _ v2 _ =>
     rw[a1]at a2;cases a2;rw[v1]at v2;have:∀{l l':List Addr},l.map V.ref=l'.map V.ref->l=l':=by
      intro l
      induction l with
      |nil=>intro l' h;cases l' with|nil=>rfl|cons _ _=>simp at h
      |cons x xs ih =>
       intro l' h;cases l' with
       |nil=>simp at h
       |cons y ys =>
        rw[An,An]at h;injection h with h1 h2
        injection h1 with h1
        rw[h1,ih h2]
     rw[<-this v2];exact ha
  rcases h1 a z with w|w
  .exact e.dis j i a hj hm w
  .exact w.2.2 j hm
 rw[FE,FE]at e2;have es:L.set i (Z v)=L:=by have hi:i<BX L:=(AE.mp hv).1;have hq:L[i]=Z v:=(AE.mp hv).2;rw[<-hq];exact Jm hi
 rwa [es]at e2
theorem AA.change(e:AA K F0 H0 F H r L fp)(hv:L[i]?=Z (Z v))(q:Z5 K F H' b v fp')(nd:fp'.Nodup)(h1:∀a∈fp',a∈fp i\/H a=U)(h2:∀a o,H a=Z o->¬a∈fp i->H' a=Z o):At K F0 H0 F H' (r.set i (Z b)) L :=
 e.changeW hv q nd (λa ha=>(h1 a ha).imp id λz=>⟨e.sub.free z,e.ext.hh.free z,λj hj=>by obtain⟨o,ho⟩:=e.there hj;rw[z]at ho;cases ho⟩) h2
theorem At.storeNew{Hb:Hp}(e:At K F0 H0 F H r L)(hb:At K F0 H0 F' Hb r L)(sb:AM Hb H)(q:Z5 K F H b v fp')(nd:fp'.Nodup)(h1:∀a∈fp',F a=U/\Hb a=U):At K F0 H0 F H (r.set i (Z b)) (L.set i (Z v)):=by
 refine e.store q nd (λa h=>⟨(h1 a h).1,hb.ext.hh.free (h1 a h).2⟩) λfp e1 j a hj ha z=>?_;obtain⟨fq,eb⟩:=hb;obtain⟨c,hc⟩:=e1.bound ha;obtain⟨u1,s1,r1⟩:=e1.at_ j c hc;obtain⟨u2,s2,r2⟩:=eb.at_ j c hc;rw[s2]at s1;cases s1;have hn:=(h1 a z).2;have dN:∀{x:Addr} {o o':HO},Hb x=Z o->H x=Z o'->(∀ps,o'≠.tbl ps)->o=o':=λ{x o o'} h1 h2 n=>sb.back h1 h2 n;generalize fp j=f1 at r1 ha;generalize fq j=f2 at r2;cases r1 with
 |pl _=>simp at ha
 |hd _ _ _ _=>simp at ha
 |hf _=>simp at ha
 |ol k _=>cases r2 with|ol k' _=>simp at ha;subst ha;rw[hn]at k';cases k'
 |ok k _ _=>cases r2 with|ok k' _ _=>simp at ha;subst ha;rw[hn]at k';cases k'
 |ot k _ _=>cases r2 with|ot k' _ _=>simp at ha;subst ha;rw[hn]at k';cases k'
 |otl k _ v1 _ =>
  cases r2 with
  |otl k' hk' v2 r2' =>
   have eo:=dN k' k λ_ z=>by cases z
   injection eo with eo
   subst eo;have v2':=v2;rw[v1]at v2;rcases Ak.mp ha with z2|z2
   .subst z2;rw[hn]at k';cases k'
   .have:V.ref a∈Fx V.ref _:=CK.mpr ⟨a,z2,rfl⟩
    rw[v2]at this;obtain⟨a',m1,m2⟩:=CK.mp this;injection m2 with m2
    subst m2;obtain⟨o,ho⟩:=Z5.there (Z5.otl k' hk' v2' r2') (AQ _ m1);rw[hn]at ho;cases ho
theorem At.rebase(e:At K F0 H0 F H r L):At K F H0 F H r L:=by obtain⟨fp,e⟩:=e;exact⟨fp,⟨Zs.refl F,e.ext.hh,e.ext.sub,λ_ _ z=>.inl z,e.ext.tab,id⟩,e.len,e.at_,e.emp,e.own,e.nd,e.dis,e.tb,e.ext.nts e.nt⟩
theorem YR.unbase{F1:Hp}(x:YR F0 H0 F1 H1)(y:YR F1 H0 F H):YR F0 H0 F H :=
 ⟨x.ff.trans y.ff,y.hh,y.sub,λa o z=>(y.new a o z).elim (λq=>x.new a o q) .inr,y.tab,λt=>y.nts (x.nts t)⟩
theorem At.unbase{F1 H1:Hp}(x:YR F0 H0 F1 H1)(n:bG F0)(e:At K F1 H0 F H r L):At K F0 H0 F H r L:=by obtain⟨fp,e⟩:=e;exact⟨fp,x.unbase e.ext,e.len,e.at_,e.emp,e.own,e.nd,e.dis,e.tb,n⟩
theorem AA.freeze{fp:Nat->List Addr}(e:AA K F0 H0 F H r L fp)(i:Nat){b:HM.B}{ob:HO}{d:PyData}(hb:r[i]?=Z (Z b))(h1:L[i]?=Z (Z (.ref a)))(cJ:fp i=[a])(ha:H a=Z ob)(hr:Zs F (upd F a ob)->Rep K (upd F a ob) d (.ref a))(no:HP.nt ob=Y:=by rfl):∃F',YR F0 H0 F' H/\Zs F F'/\At K F0 H0 F' H (r.set i (Z (.pl d))) L:=by
 have hF:F a=U:=(e.own i a (by rw[cJ];simp)).1;have s:Zs F (upd F a ob):=Zs.upd' hF;have x:YR F0 H0 (upd F a ob) H:=by
  refine⟨e.ext.ff.trans s,e.ext.hh,λc o z=>?_,λc o z=>?_,e.ext.tab,λt=>(e.ext.nts t).upd no⟩
  .by_cases hc:c=a
   .subst hc;rw[Zq]at z;cases z;exact ha
   .rw[Zo hc]at z;exact e.sub c o z
  .by_cases hc:c=a
   .subst hc;exact .inr (.inl (e.own i c (by rw[cJ];simp)).2)
   .rw[Zo hc]at z;exact e.ext.new c o z
 refine⟨_,x,s,?_⟩;have e1:AA K F0 H0 (upd F a ob) H (r.set i U) (L.set i U) (λj=>if j=i then[]else fp j):=by
  refine⟨x,by rw[CW,CW,e.len],λj c h=>?_,λj h=>?_,λj c h=>?_,λj=>?_,λj k c dQ h=>?_,e.tb,e.nt⟩
  .by_cases hj:j=i
   .subst hj
    rw[Cr (AE.mp hb).1]at h;cases h
   .rw[Ba (AD hj)]at h
    obtain⟨u,q1,q2⟩:=e.at_ j c h;refine⟨u,by rw[Ba (AD hj)];exact q1,?_⟩;rw[if_neg hj];exact q2.mono s λ_ _ _ z=>.of z
  .show(if j=i then[]else fp j)=[]
   by_cases hj:j=i
   .rw[if_pos hj]
   .rw[if_neg hj]
    exact e.emp j λc z=>h c (by rw[Ba (AD hj)];exact z)
  .by_cases hj:j=i
   .rw[if_pos hj]at h;simp at h
   .rw[if_neg hj]at h
    have ly:c≠a:=λz=>e.dis j i c hj h (by rw[cJ,z];simp);exact⟨by rw[Zo ly];exact(e.own j c h).1,(e.own j c h).2⟩
  .show(if j=i then[]else fp j).Nodup
   by_cases hj:j=i
   .rw[if_pos hj];exact EK
   .rw[if_neg hj];exact e.nd j
  .show ¬c∈(if k=i then[]else fp k)
   by_cases hj:j=i
   .rw[if_pos hj]at h;simp at h
   .rw[if_neg hj]at h
    by_cases hk:k=i
    .rw[if_pos hk];simp
    .rw[if_neg hk];exact e.dis j k c dQ h
 have rp:=hr s;have e2:=At.set (i:=i) ⟨_,e1⟩ rp;rw[FE,FE]at e2;have es:L.set i (Z (.ref a))=L:=by have hi:i<BX L:=(AE.mp h1).1;have hq:L[i]=Z (.ref a):=(AE.mp h1).2;rw[<-hq];exact Jm hi
 rwa [es]at e2
theorem At.freeze(e:At K F0 H0 F H r L)(i:Nat):∃F',YR F0 H0 F' H/\Zs F F'/\At K F0 H0 F' H (HM.Wo i r) L:=by
 unfold HM.Wo;split
 .rename_i ds hb
  obtain⟨fp,e⟩:=e;obtain⟨v,h1,h2⟩:=e.at_ i _ hb;generalize cJ:fp i=f at h2;cases h2 with
  | @ol a _ vs ha q=>exact e.freeze i hb h1 cJ ha λs=>.lst (.of Zq) q.1 (q.mono s).2
 .rename_i kvs hb
  obtain⟨fp,e⟩:=e;obtain⟨v,h1,h2⟩:=e.at_ i _ hb;generalize cJ:fp i=f at h2;cases h2 with
  | @ot a _ vvs ha hk q=>exact e.freeze i hb h1 cJ ha λs=>.dct (.inl Zq) rfl hk (q.mono s).2
 .exact⟨F,e.ext,Zs.refl F,e⟩
end
inductive aV(K:Ad)(r:HM.Env)(L:L2.St)(H:Hp)(C:Hp->Hp->Hp->Prop):Prop
 |mk (F0 H0 F:Hp) (at_:At K F0 H0 F H r L) (k:C F0 H0 F):aV K r L H C
end HP
namespace HP
open PySem PySem.Spec PyProof.Rows L2
variable[FX]
section
variable{c:Bool}{X:Cx}{f:HM.AF}{r:HM.Env}{F:Hp}{P:Hp->Hp->Hp->V->Prop}{i:Int}{es rest:List Expr}{bU:List Stmt}{j:Nat}{d:PyData}{g:PyData->PyData->Option PyData}{K:Ad}{st:Stmt}{x:Str}{v:V}
noncomputable def cT(K:Ad)(r:HM.Env)(P:Hp->Hp->Hp->V->Prop):TE:=λL H Q=>aV K r L H λF0 H0 F=>∀v F' H',YR F H F' H'->P H F' H' v->Q v H'
noncomputable def XE(X:Cx)(e:Expr)(f:HM.EF):Prop:=∀r d,f r=Z d->PE X e (cT X.K r λ_ F' _ v=>Rep X.K F' d v)
noncomputable def XB(X:Cx)(e:Expr)(f:HM.BF):Prop:=∀r b,f r=Z b->PE X e (cT X.K r λ_ F' H' v=>∃fp,Z5 X.K F' H' b v fp)
noncomputable def XF(X:Cx)(e:Expr)(f:HM.BF):Prop:=∀r b,f r=Z b->PE X e (cT X.K r λH F' H' v=>∃fp,Z5 X.K F' H' b v fp/\fp.Nodup/\∀a∈fp,F' a=U/\H a=U)
noncomputable def XT(X:Cx)(e:Expr)(f:HM.TF):Prop:=∀r c,f r=Z c->PT X e λL H Q=>aV X.K r L H λF0 H0 F=>∀F' H',YR F H F' H'->Q c H'
noncomputable def XW(X:Cx)(e:Expr)(f:HM.TF):Prop:=∀r c,f r=Z c->PW X e λL H Q=>aV X.K r L H λF0 H0 F=>∀F' H',YR F H F' H'->Q c H'
structure XA(X:Cx)(es:List Expr)(f:HM.AF):Prop where
 len:∀r ds,f r=Z ds->ds.length=es.length
 pa:∀r ds,f r=Z ds->PA X es λL H Q=>aV X.K r L H λF0 H0 F=>∀vs F' H',YR F H F' H'->Zu X.K F' ds vs->Q vs H'
noncomputable def cN(K:Ad)(J:It)(ds:mE)(F:Hp):Prop:=∀F' H,Zs F F'->Zs F' H ->
 (∀(i:Nat) (d:PyData),ds[i]?=Z d->J.go i H/\∀x H',J.yld i H x H'->H'=H/\Rep K (AJ F' H) d x)/\J.stop ds.length H
noncomputable def XI(X:Cx)(tg e:Expr)(f:HM.IF):Prop:=∀r ds,f r=Z ds->PI X tg e λL H R=>aV X.K r L H λF0 H0 F=>∀J F' H',YR F H F' H'->cN X.K J ds F'->R J H'
noncomputable def JD(K:Ad)(F0 H0:Hp)(o:HM.d5)(E:bZ):Prop:=match o with
 | .nx r=>∀L F H,At K F0 H0 F H r L->E.nx L H
 | .rt d=>∀v F H,YR F0 H0 F H->Rep K F d v->E.rt v H
 | .bk r=>∀L F H,At K F0 H0 F H r L->E.bk L H
 | .ct r=>∀L F H,At K F0 H0 F H r L->E.ct L H
noncomputable def dJ(K:Ad)(r:HM.Env)(o:HM.d5):TS:=λE L H=>aV K r L H λF0 H0 F=>JD K F0 H0 o E
noncomputable def XS(X:Cx)(st:Stmt)(g:HM.SF):Prop:=∀r o,g r=Z o->PS X st (dJ X.K r o)
noncomputable def cc(X:Cx)(bU:List Stmt)(g:HM.SF):Prop:=∀r o,g r=Z o->aA X bU (dJ X.K r o)
theorem PE.imp{e:Expr}{t u:TE}(h:PE X e t)(hi:∀L H Q,u L H Q->t L H Q):PE X e u:=λYK s L H Q I q=>h YK s L H Q I (hi L H Q q)
theorem PT.imp{e:Expr}{t u:TT}(h:PT X e t)(hi:∀L H Q,u L H Q->t L H Q):PT X e u:=λYK s L H Q I q=>h YK s L H Q I (hi L H Q q)
theorem PW.imp{e:Expr}{t u:TT}(h:PW X e t)(hi:∀L H Q,u L H Q->t L H Q):PW X e u:=λwh YK s L H Q I q=>h wh YK s L H Q I (hi L H Q q)
theorem PA.imp{t u:TA}(h:PA X es t)(hi:∀L H Q,u L H Q->t L H Q):PA X es u:=λp YK s L H Q I q=>h p YK s L H Q I (hi L H Q q)
theorem PS.imp{t u:TS}(h:PS X st t)(hi:∀E L H,u E L H->t E L H):PS X st u:=λYK s L H E I q=>h YK s L H E I (hi E L H q)
theorem aA.imp{t u:TS}(h:aA X bU t)(hi:∀E L H,u E L H->t E L H):aA X bU u:=λYK s L H E I q=>h YK s L H E I (hi E L H q)
theorem PE.impN{e:Expr}{t:TE}(h:PE X e t)(hi:∀L H Q F0 H0 F,At X.K F0 H0 F H r L->(∀v F' H',YR F H F' H'->P H F' H' v->Q v H')->t L H Q):PE X e (cT X.K r P):=PE.imp h λL H Q ⟨F0,H0,F,a,k⟩=>hi L H Q F0 H0 F a k
theorem PT.impN{e:Expr}{t:TT}(h:PT X e t)(hi:∀L H Q F0 H0 F,At X.K F0 H0 F H r L->(∀F' H',YR F H F' H'->Q c H')->t L H Q):PT X e λL H Q=>aV X.K r L H λF0 H0 F=>∀F' H',YR F H F' H'->Q c H':=PT.imp h λL H Q ⟨F0,H0,F,a,k⟩=>hi L H Q F0 H0 F a k
theorem PW.impN{e:Expr}{t:TT}(h:PW X e t)(hi:∀L H Q F0 H0 F,At X.K F0 H0 F H r L->(∀F' H',YR F H F' H'->Q c H')->t L H Q):PW X e λL H Q=>aV X.K r L H λF0 H0 F=>∀F' H',YR F H F' H'->Q c H':=PW.imp h λL H Q ⟨F0,H0,F,a,k⟩=>hi L H Q F0 H0 F a k
theorem PA.impN{t:TA}{ds:mE}(h:PA X es t)(hi:∀L H Q F0 H0 F,At X.K F0 H0 F H r L->(∀vs F' H',YR F H F' H'->Zu X.K F' ds vs->Q vs H')->t L H Q):PA X es λL H Q=>aV X.K r L H λF0 H0 F=>∀vs F' H',YR F H F' H'->Zu X.K F' ds vs->Q vs H':=PA.imp h λL H Q ⟨F0,H0,F,a,k⟩=>hi L H Q F0 H0 F a k
theorem PS.impN{t:TS}{o:HM.d5}(h:PS X st t)(hi:∀E L H F0 H0 F,At X.K F0 H0 F H r L->JD X.K F0 H0 o E->t E L H):PS X st (dJ X.K r o):=PS.imp h λE L H ⟨F0,H0,F,a,k⟩=>hi E L H F0 H0 F a k
theorem aA.impN{t:TS}{o:HM.d5}(h:aA X bU t)(hi:∀E L H F0 H0 F,At X.K F0 H0 F H r L->JD X.K F0 H0 o E->t E L H):aA X bU (dJ X.K r o):=aA.imp h λE L H ⟨F0,H0,F,a,k⟩=>hi E L H F0 H0 F a k
section
variable{X:Cx}{a b c e:Expr}{fa fb fc:HM.EF}{pos p:Pos}
theorem RW{i:Nat}(h:HM.Zd i r=Z d):r[i]?=Z (Z (.pl d)):=by
 unfold HM.Zd at h;split at h
 .rename_i q;cases h;exact q
 .cases h
theorem RO{i:Nat}{d:HM.B}(h:HM.ZR i r=Z d):r[i]?=Z (Z d):=by
 unfold HM.ZR at h;split at h
 .rename_i q;cases h;exact q
 .cases h
theorem Zc(i:Nat){pos:Pos}(hN:X.N[i]?=Z x:=by rfl)(hv:br X.env.scope x:=by first|exact Ah rfl|exact Af (Ah rfl)|exact Af (Af rfl))(hd:(x==("__debug__":Str))=Ab:=by decide)(Y7:(x==("__classdict__":Str))=Ab:=by decide):XE X (.Name x pos) (HM.Zd i):=by
 intro r d h;refine PE.impN (ZS hN hv hd Y7) λL H Q F0 H0 F at_ k=>?_;obtain⟨v,h1,h2⟩:=at_.plain (RW h);exact⟨v,h1,k v F H at_.refl h2⟩
theorem ZC(i:Nat){pos:Pos}(hN:X.N[i]?=Z x:=by rfl)(hv:br X.env.scope x:=by first|exact Ah rfl|exact Af (Ah rfl)|exact Af (Af rfl))(hd:(x==("__debug__":Str))=Ab:=by decide)(Y7:(x==("__classdict__":Str))=Ab:=by decide):XB X (.Name x pos) (HM.ZR i):=by
 intro r d h;refine PE.impN (ZS hN hv hd Y7) λL H Q F0 H0 F at_ k=>?_;obtain⟨v,fp,h1,h2⟩:=at_.any (RO h);exact⟨v,h1,k v F H at_.refl ⟨fp,h2⟩⟩
theorem GC(h:PE X e (tC v))(r:∀F,Rep X.K F d v):XE X e (HM.eC d):=by intro r' d' h';cases h';exact PE.imp h λL H Q ⟨F0,H0,F,at_,k⟩=>k v F H at_.refl (r F)
theorem Zi:XE X (.Constant (.int i) j pos) (HM.eC (.int i)):=GC HG λ_=>.int i
theorem DK{q:Bool}:XE X (.Constant (.bool q) j pos) (HM.eC (.bool q)):=GC Pb λ_=>.bl q
theorem JY:XE X (.Constant .none j pos) (HM.eC .none):=GC M4 λ_=>.non
theorem BO:XE X (.Constant (.str x) j pos) (HM.eC (.str x)):=GC M0 λ_=>.str x
theorem Df(hm:∃t,X.mg x=Z (.int i t))(hg:Gl X x:=by rfl)(hd:(x==("__debug__":Str))=Ab:=by decide):XE X (.Name x pos) (HM.eC (.int i)):=by obtain⟨t,hm⟩:=hm;exact GC (Nw hg hm (v:=.int i) ⟨t,rfl⟩ hd) λ_=>.int i
theorem RA{p':Pos}:XE X (.UnaryOp .USub (.Constant (.int i) j p') pos) (HM.eC (.int (-i))):=by intro r d h;cases h;intro YK s L H Q I q;obtain⟨F0,H0,F,at_,k⟩:=q;refine UnaryOp_ (Y6 (HG YK s L H (λv H'=>v=.int i/\H'=H) I ⟨rfl,rfl⟩) λu s1 ⟨x,H1,I1,r1,e1,e2⟩=>?_);subst e1 e2;obtain⟨t,rfl⟩:=r1;exact neg_int ⟨.int (-i),H1,I1.tok _,⟨_,rfl⟩,k _ F H1 at_.refl (.int _)⟩
theorem A0(h:XE X e fa):XB X e (HM.ak fa):=by intro r b hb;obtain⟨d,h1,h2⟩:=Ao.mp hb;subst h2;exact PE.impN (h r d h1) λL H Q F0 H0 F at_ k=>⟨F0,H0,F,at_,λv F' H' x q=>k v F' H' x ⟨[],.pl q⟩⟩
theorem BN{f:HM.BF}(h:XF X e f):XB X e f:=λr b hb=>PE.impN (h r b hb) λL H Q F0 H0 F at_ k=>⟨F0,H0,F,at_,λv F' H' x ⟨fp,q,_⟩=>k v F' H' x ⟨fp,q⟩⟩
theorem Gh{f:HM.BF}(h:XF X e f):XE X e (HM.dY f):=by
 intro r d hd;unfold HM.dY at hd;obtain⟨b,h1,h2⟩:=Option.bind_eq_some_iff.mp hd;refine PE.impN (h r b h1) λL H Q F0 H0 F at_ k=>⟨F0,H0,F,at_,λv F' H' x ⟨fp,q,_,hn⟩=>?_⟩;cases q with
 |pl q=>cases h2;exact k v F' H' x q
 | @ol l ds vs hl q =>
  cases h2;have hF:F' l=U:=(hn l (by simp)).1;have s:Zs F' (upd F' l (.lst vs)):=Zs.upd' hF;refine k _ (upd F' l (.lst vs)) H' ⟨x.ff.trans s,x.hh,λc o z=>?_,λc o z=>?_,x.tab,λt=>(x.nts t).upd rfl⟩ (.lst (.of Zq) q.1 (q.mono s).2)
  .by_cases hc:c=l
   .subst hc;rw[Zq]at z;cases z;exact hl
   .rw[Zo hc]at z;exact x.sub c o z
  .by_cases hc:c=l
   .subst hc;exact .inr (.inl (hn c (by simp)).2)
   .rw[Zo hc]at z;exact x.new c o z
 | @ot l kvs vvs hl hk q =>
  cases h2;have hF:F' l=U:=(hn l (by simp)).1;have s:Zs F' (upd F' l (.dT vvs)):=Zs.upd' hF;refine k _ (upd F' l (.dT vvs)) H' ⟨x.ff.trans s,x.hh,λc o z=>?_,λc o z=>?_,x.tab,λt=>(x.nts t).upd rfl⟩ (.dct (.inl Zq) rfl hk (q.mono s).2)
  .by_cases hc:c=l
   .subst hc;rw[Zq]at z;cases z;exact hl
   .rw[Zo hc]at z;exact x.sub c o z
  .by_cases hc:c=l
   .subst hc;exact .inr (.inl (hn c (by simp)).2)
   .rw[Zo hc]at z;exact x.new c o z
 |ok _ _ _=>cases h2
 |hd h3 h4 h5 h6=>cases h2;exact k _ F' H' x (.dct (.inr ⟨_,h3⟩) h4 h5 h6.2)
 |hf h3=>cases h2;exact k _ F' H' x (.fn h3)
 |otl _ _ _ _=>cases h2
noncomputable def iq(K:Ad)(r:R2)(g:PyData->PyData->Option PyData):Prop:=∀(F H:Hp) (x y z:PyData) (v w:V) (Q:VK),Zs F H->g x y=Z z->Rep K F x v->Rep K F y w->(∀u,Rep K F z u->Q u H)->r v w H Q
structure HA(X:Cx)(op:Operator)(g:PyData->PyData->Option PyData):Prop where
 ex:∃r,aM X (EA op) r/\iq X.K r g
structure C9(X:Cx)(op:CmpOp)(g:PyData->PyData->Option PyData):Prop where
 ex:∃r,aM X (Bp op) r/\iq X.K r g
 n1:op≠.In
 n2:op≠.NotIn
theorem HU(h:HM.ah g fa fb r=Z d):∃x y,fa r=Z x/\fb r=Z y/\g x y=Z d:=by
 unfold HM.ah at h;split at h
 .split at h
  .exact⟨_,_,by assumption,by assumption,h⟩
  .cases h
 .cases h
theorem iZ{x y:PyData}{L:L2.St}{H:Hp}{Q:VK}{R:V->V->Hp->VK->Prop}(h:cT K r P L H Q)(hk:∀H F2 H2 v w,Zs F2 H2->Rep K F2 x v->Rep K F2 y w->(∀u F3 H3,YR F2 H2 F3 H3->P H F3 H3 u->Q u H3)->AM H H2->R v w H2 Q):dM R (cT K r λ_ F' _ v=>Rep K F' x v) (cT K r λ_ F' _ v=>Rep K F' y v) L H Q:=by
 obtain⟨F0,H0,F,at_,k⟩:=h;refine⟨F0,H0,F,at_,λv F1 H1 x1 r1=>⟨F0,H0,F1,at_.grow x1,λw F2 H2 x2 r2=>?_⟩⟩;exact hk H F2 H2 v w x2.sub (r1.mono x2.ff) r2 (λu F3 H3 x3 q=>k u F3 H3 ((x1.trans x2).trans x3) q) (x1.hh.trans x2.hh)
theorem CF{op:Operator}(o:HA X op g)(ha:XE X a fa)(hb:XE X b fb):XE X (.BinOp a op b pos) (HM.ah g fa fb):=by intro r d h;obtain⟨x,y,h1,h2,h3⟩:=HU h;obtain⟨R,o1,o2⟩:=o.ex;refine PE.imp (ML o1 (ha r x h1) (hb r y h2)) λL H Q q=>?_;exact iZ q λ_ F2 H2 v w s r1 r2 k _=>o2 F2 H2 x y d v w Q s h3 r1 r2 λu ru=>k u F2 H2 (.refl s) ru
theorem Gk{op:CmpOp}(o:C9 X op g)(ha:XE X a fa)(hb:XE X b fb):XE X (.Compare a [op] [b] pos) (HM.ah g fa fb):=by intro r d h;obtain⟨x,y,h1,h2,h3⟩:=HU h;obtain⟨R,o1,o2⟩:=o.ex;refine PE.imp (Nq o1 (ha r x h1) (hb r y h2) (Kb _ o.n1 o.n2)) λL H Q q=>?_;exact iZ q λ_ F2 H2 v w s r1 r2 k _=>o2 F2 H2 x y d v w Q s h3 r1 r2 λu ru=>k u F2 H2 (.refl s) ru
theorem JW{c:Bool}(h:HM.tV fa r=Z c):fa r=Z (.bool c):=by
 unfold HM.tV at h;split at h
 .rename_i q;cases h;exact q
 .cases h
theorem Rep.bool_inv{c:Bool}(h:Rep K F (.bool c) v):v=.bl c:=by cases h;rfl
theorem Rep.int_inv(h:Rep K F (.int i) v):v=.int i:=by cases h;rfl
theorem Rep.none_inv(h:Rep K F .none v):v=.non:=by cases h;rfl
theorem Bg{op:CmpOp}(o:C9 X op g)(ha:XE X a fa)(hb:XE X b fb):XT X (.Compare a [op] [b] pos) (HM.tV (HM.ah g fa fb)):=by intro r d h;obtain⟨x,y,h1,h2,h3⟩:=HU (JW h);obtain⟨R,o1,o2⟩:=o.ex;refine PT.impN (J0 o1 (ha r x h1) (hb r y h2) (Kb _ o.n1 o.n2)) λL H Q F0 H0 F at_ k=>?_;refine⟨F0,H0,F,at_,λv F1 H1 x1 r1=>⟨F0,H0,F1,at_.grow x1,λw F2 H2 x2 r2=>?_⟩⟩;refine o2 F2 H2 x y _ v w _ x2.sub h3 (r1.mono x2.ff) r2 λu ru=>?_;exact⟨d,ru.bool_inv,k F2 H2 (x1.trans x2)⟩
theorem ZD(h:XE X e fa)(he:∀aO,isTrue e X.env aO=(do let v <-aO;standAt e.pos;holding [v] (truthy v)):=by intro _;rfl):XT X e (HM.tV fa):=by intro r c hc;refine PT.impN (Rp (h r _ (JW hc)) he) λL H Q F0 H0 F at_ k=>?_;exact⟨F0,H0,F,at_,λv F1 H1 x1 r1=>⟨c,r1.bool_inv,k F1 H1 x1⟩⟩
theorem ZF{t:HM.TF}(h:XT X a t):XT X (.UnaryOp .Not a pos) (HM.ZY t):=by intro r c hc;obtain⟨d,h1,h2⟩:=Ao.mp hc;subst h2;refine PT.impN (Pt (h r d h1)) λL H Q F0 H0 F at_ k=>?_;exact⟨F0,H0,F,at_,λF1 H1 x1=>k F1 H1 x1⟩
theorem Cu{t:HM.TF}(h:XW X e t):XT X e t:=λr c hc=>(h r c hc).pt
theorem CD{t:HM.TF}(h:XT X a t):XW X (.BoolOp .Or [a] pos) t:=λr c hc=>Qq (h r c hc)
theorem Tp{e:Expr}:PW X e λ_ _ _=>False:=λ_ _ _ _ _ _ _ h=>h.elim
theorem Ke{e:Expr}:PE X e λ_ _ _=>False:=λ_ _ _ _ _ _ h=>h.elim
theorem Cz{t u:HM.TF}(ha:XT X a t)(hb:XW X (.BoolOp .Or (b::rest) pos) u):XW X (.BoolOp .Or (a::b::rest) pos) (HM.b7 t u):=by
 intro r c hc;unfold HM.b7 at hc;split at hc
 .rename_i q
  cases hc;refine PW.impN (MO (ha r Y q) Tp) λL H Q F0 H0 F at_ k=>?_;exact⟨F0,H0,F,at_,λF1 H1 x1=>EY (k F1 H1 x1)⟩
 .rename_i q
  refine PW.impN (MO (ha r Ab q) (hb r c hc)) λL H Q F0 H0 F at_ k=>?_;exact⟨F0,H0,F,at_,λF1 H1 x1=>E1 ⟨F0,H0,F1,at_.grow x1,λF2 H2 x2=>k F2 H2 (x1.trans x2)⟩⟩
 .cases hc
theorem BD{op:BoolOp}(h:XE X a fa):XE X (.BoolOp op [a] pos) fa:=λr d hd=>Qb (h r d hd)
theorem BC(ha:XE X a fa)(hb:XE X (.BoolOp .And (b::rest) pos) fb):XE X (.BoolOp .And (a::b::rest) pos) (HM.By fa fb):=by
 intro r d hd;unfold HM.By at hd;split at hd
 .rename_i q
  refine PE.impN (MY (ha r _ q) (hb r d hd)) λL H Q F0 H0 F at_ k=>?_;exact⟨F0,H0,F,at_,λv F1 H1 x1 r1=>⟨Y,r1.bool_inv,EY ⟨F0,H0,F1,at_.grow x1,λw F2 H2 x2 r2=>k w F2 H2 (x1.trans x2) r2⟩⟩⟩
 .rename_i q
  cases hd;refine PE.impN (MY (ha r _ q) Ke) λL H Q F0 H0 F at_ k=>?_;exact⟨F0,H0,F,at_,λv F1 H1 x1 r1=>⟨Ab,r1.bool_inv,E1 (k _ F1 H1 x1 (.bl Ab))⟩⟩
 .cases hd
theorem Pr(ha:XE X a fa)(hb:XE X (.BoolOp .Or (b::rest) pos) fb):XE X (.BoolOp .Or (a::b::rest) pos) (HM.lX fa fb):=by
 intro r d hd;unfold HM.lX at hd;split at hd
 .rename_i q
  cases hd;refine PE.impN (MN (ha r _ q) Ke) λL H Q F0 H0 F at_ k=>?_;exact⟨F0,H0,F,at_,λv F1 H1 x1 r1=>⟨Y,r1.bool_inv,EY (k _ F1 H1 x1 (.bl Y))⟩⟩
 .rename_i q
  refine PE.impN (MN (ha r _ q) (hb r d hd)) λL H Q F0 H0 F at_ k=>?_;exact⟨F0,H0,F,at_,λv F1 H1 x1 r1=>⟨Ab,r1.bool_inv,E1 ⟨F0,H0,F1,at_.grow x1,λw F2 H2 x2 r2=>k w F2 H2 (x1.trans x2) r2⟩⟩⟩
 .cases hd
theorem Om{op op':CmpOp}{g':PyData->PyData->Option PyData}(o:C9 X op g)(o':C9 X op' g')(ha:XE X a fa)(hb:XE X b fb)(hc:XE X c fc)(hm:lastMarks [op,op'] [b,c]=Ab:=by with_unfolding_all rfl):XE X (.Compare a [op,op'] [b,c] pos) (HM.Oq g g' fa fb fc):=by
 intro r d hd;unfold HM.Oq at hd;obtain⟨R,o1,o2⟩:=o.ex;obtain⟨R',o1',o2'⟩:=o'.ex;split at hd
 .rename_i x hx
  split at hd
  .rename_i y hy
   split at hd
   .rename_i hg
    split at hd
    .rename_i z hz
     refine PE.impN (N7 o1 o1' (ha r x hx) (hb r y hy) (hc r z hz) hm) λL H Q F0 H0 F at_ k=>?_;refine⟨F0,H0,F,at_,λv F1 H1 x1 r1=>⟨F0,H0,F1,at_.grow x1,λw F2 H2 x2 r2=>?_⟩⟩;refine o2 F2 H2 x y _ v w _ x2.sub hg (r1.mono x2.ff) r2 λu ru=>?_;refine⟨Y,ru.bool_inv,EY ⟨F0,H0,F2,(at_.grow x1).grow x2,λw' F3 H3 x3 r3=>?_⟩⟩;exact o2' F3 H3 y z d w w' Q x3.sub hd (r2.mono x3.ff) r3 λu' ru'=>k u' F3 H3 ((x1.trans x2).trans x3) ru'
    .cases hd
   .rename_i hg
    cases hd;refine PE.impN (N7 o1 o1' (ha r x hx) (hb r y hy) Ke hm) λL H Q F0 H0 F at_ k=>?_;refine⟨F0,H0,F,at_,λv F1 H1 x1 r1=>⟨F0,H0,F1,at_.grow x1,λw F2 H2 x2 r2=>?_⟩⟩;refine o2 F2 H2 x y _ v w _ x2.sub hg (r1.mono x2.ff) r2 λu ru=>?_;exact⟨Ab,ru.bool_inv,E1 (k _ F2 H2 (x1.trans x2) (.bl Ab))⟩
   .cases hd
  .cases hd
 .cases hd
theorem Ze:XA X [] HM.Zh:=by refine⟨λr ds h=>by cases h;rfl,λr ds h=>?_⟩;cases h;exact PA.imp BL λL H Q ⟨F0,H0,F,at_,k⟩=>k [] F H at_.refl .nil
theorem Za(ha:XE X e fa)(hr:XA X es f)(hs:Ae (e::es) X.env=(Ab,eval e X.env)::Ae es X.env:=by rfl):XA X (e::es) (HM.S fa f):=by
 refine⟨λr ds h=>?_,λr ds h=>?_⟩
 .unfold HM.S at h
  split at h
  .obtain⟨xs,h1,h2⟩:=Ao.mp h
   subst h2;rw[A8,A8,hr.len r xs h1]
  .cases h
 unfold HM.S at h;split at h
 .rename_i x hx
  obtain⟨xs,h1,h2⟩:=Ao.mp h;subst h2;refine PA.impN (Bf (ha r x hx) (hr.pa r xs h1) hs) λL H Q F0 H0 F at_ k=>?_;exact⟨F0,H0,F,at_,λv F1 H1 x1 r1=>⟨F0,H0,F1,at_.grow x1,λvs F2 H2 x2 r2=>k (v::vs) F2 H2 (x1.trans x2) (.cons (r1.mono x2.ff) r2)⟩⟩
 .cases h
theorem AZ{x1:Nat}(h:XA X es f)(hl:BX es<=100:=by exact Nat.le_of_ble_eq_true rfl):XE X (.Tuple es x1 pos) (HM.A1 f):=by
 intro r d hd;obtain⟨ds,h1,h2⟩:=Ao.mp hd;subst h2;refine PE.impN (QN (h.pa r ds h1)) λL H Q F0 H0 F at_ k=>⟨F0,H0,F,at_,λvs F1 H1 x1 r1=>⟨?_,λp hp=>?_⟩⟩
 .have e1:=h.len r ds h1
  have e2:=r1.1;have e3:(100:Nat)<=sizeLine:=by decide
  omega
 .have hF:F1 p=U:=x1.sub.free hp
  exact k _ (upd F1 p (.tup vs)) _ (x1.lay hp) (.tup Zq r1.1 (r1.mono (Zs.upd' hF)).2)
theorem HY(h:XA X es f)(hl:BX es<=100:=by exact Nat.le_of_ble_eq_true rfl):XF X (.List es pos) (HM.JO f):=by
 intro r d hd;obtain⟨ds,h1,h2⟩:=Ao.mp hd;subst h2;refine PE.impN (M7 (h.pa r ds h1)) λL H Q F0 H0 F at_ k=>⟨F0,H0,F,at_,λvs F1 H1 x1 r1=>⟨?_,λp hp=>?_⟩⟩
 .have e1:=h.len r ds h1
  have e2:=r1.1;have e3:(100:Nat)<=sizeLine:=by decide
  omega
 .have hF:F1 p=U:=x1.sub.free hp
  refine k _ F1 _ (x1.lay' hp) ⟨[p],.ol Zq r1,by simp,λa ha=>?_⟩;have:a=p:=by simpa using ha
  subst this;exact⟨hF,x1.hh.free hp⟩
end
end
section
variable{f:Addr}{fd:FuncData}{g:HM.SF}{base:Heap}{N ps:mI}{p':Pos}{P:Program}{K:Ad}{st:Stmt}{YO x:Str}{mg:mF}{w:World}
section
variable{X:Cx}{a b c e:Expr}{fa fb fc:HM.EF}{pos p:Pos}{st:Stmt}{rest:List Stmt}{g u:HM.SF}
theorem Od(h:X.xe=λ_ _=>False):PassesOwn (model X.prog X.w) X.A X.env X.xe:=by rw[h];exact PassesOwn.never
theorem ZG:cc X [] HM.ZZ:=by intro r o h;cases h;exact aA.imp QT λE L H ⟨F0,H0,F,at_,k⟩=>k L F H at_
theorem Zk(h:XS X st g):cc X [st] g:=λr o ho=>Gw (h r o ho)
theorem Zt(h1:XS X st g)(h2:cc X rest u):cc X (st::rest) (HM.ZK g u):=by
  intro r o h
  unfold HM.ZK at h
  split at h
  · rename_i r' q
    refine aA.impN (B1 (h1 r _ q) (h2 r' o h)) λE L H F0 H0 F at_ k=>?_
    exact⟨F0,H0,F,at_,λσ' F' H' at'=>⟨F0,H0,F',at',k⟩⟩
  all_goals first
    | cases h
      rename_i q
      refine aA.impN (B1 (h1 r _ q) Ep) λE L H F0 H0 F at_ k=>?_
      exact⟨F0,H0,F,at_,k⟩
    |cases h
theorem ZQ:XS X st HM.Z4:=λr o h=>nomatch h
theorem ZA(h:XE X e fa):XS X (.Return (Z e) pos) (HM.ZO fa):=by intro r o ho;obtain⟨d,h1,h2⟩:=Ao.mp ho;subst h2;refine PS.impN (HJ (h r d h1)) λE L H F0 H0 F at_ k=>?_;exact⟨F0,H0,F,at_,λv F' H' x q=>k v F' H' (at_.ext.trans x) q⟩
theorem Ce(h:XE X e fa)(hs:Bj e U pos.line X.env=pure Ab:=by rfl):XS X (.Expr e pos) (HM.Ca fa):=by intro r o ho;obtain⟨d,h1,h2⟩:=Ao.mp ho;subst h2;refine PS.impN (Fd (h r d h1) hs) λE L H F0 H0 F at_ k=>?_;exact⟨F0,H0,F,at_,λv F' H' x q=>k L F' H' (at_.grow x)⟩
theorem Z2{t:HM.TF}{sa sb:List Stmt}(hc:XT X c t)(ha:cc X sa g)(hb:cc X sb u):XS X (.If c sa sb pos) (HM.az t g u):=by
 intro r o ho;unfold HM.az at ho;split at ho
 .rename_i q
  refine PS.impN (HD (hc r _ q) (ha r o ho) Ep) λE L H F0 H0 F at_ k=>?_;exact⟨F0,H0,F,at_,λF' H' x=>EY ⟨F0,H0,F',at_.grow x,k⟩⟩
 .rename_i q
  refine PS.impN (HD (hc r _ q) Ep (hb r o ho)) λE L H F0 H0 F at_ k=>?_;exact⟨F0,H0,F,at_,λF' H' x=>E1 ⟨F0,H0,F',at_.grow x,k⟩⟩
 .cases ho
theorem Rz(i:Nat)(h:XS X st g):XS X st (HM.P4 i g):=by intro r o ho;refine PS.impN (h (HM.Wo i r) o ho) λE L H F0 H0 F at_ k=>?_;obtain⟨F',_,_,a'⟩:=at_.freeze i;exact⟨F0,H0,F',a',k⟩
theorem Bu(i:Nat)(hN:X.N.Nodup)(h:XE X e fa)(hi:X.N[i]?=Z x:=by rfl)(hx:Loc X.env.scope x:=by first|exact Ah rfl|exact Af rfl)(hs:Bj e (Z (.Name x p')) pos.line X.env=pure Ab:=by rfl)(hf:X.fn x=Y\/X.env.scope.names.lookup x=Z .local:=by first|exact .inl rfl|exact .inr rfl):XS X (.Assign [.Name x p'] e pos) (HM.A5 i fa):=by
 intro r o ho;obtain⟨d,h1,h2⟩:=Ao.mp ho;subst h2;refine PS.impN (E8 hN hi hx (h r d h1) hs hf) λE L H F0 H0 F at_ k=>?_;exact⟨F0,H0,F,at_,λv F' H' x q=>k _ F' H' ((at_.grow x).set q)⟩
theorem El(i:Nat){f:HM.BF}(hN:X.N.Nodup)(h:XF X e f)(hi:X.N[i]?=Z x:=by rfl)(hx:Loc X.env.scope x:=by first|exact Ah rfl|exact Af rfl)(hs:Bj e (Z (.Name x p')) pos.line X.env=pure Ab:=by rfl)(hf:X.fn x=Y\/X.env.scope.names.lookup x=Z .local:=by first|exact .inl rfl|exact .inr rfl):XS X (.Assign [.Name x p'] e pos) (HM.Ee i f):=by
 intro r o ho;obtain⟨d,h1,h2⟩:=Ao.mp ho;subst h2;refine PS.impN (E8 hN hi hx (h r d h1) hs hf) λE L H F0 H0 F at_ k=>?_;exact⟨F0,H0,F,at_,λv F' H' x ⟨fp,q,nd,hn⟩=>k _ F' H' ((at_.grow x).storeNew at_ x.hh q nd hn)⟩
theorem HX(i:Nat){iter:Expr}{body:List Stmt}{fi:HM.IF}(hN:X.N.Nodup)(bV:X.xe=λ_ _=>False)(hc:X.calm=Y)(hi:XI X (.Name x p') iter fi)(hb:cc X body g)(kW:X.N[i]?=Z x:=by rfl)(hx:Loc X.env.scope x:=by first|exact Ah rfl|exact Af rfl)(hf:X.fn x=Y\/X.env.scope.names.lookup x=Z .local:=by first|exact .inl rfl|exact .inr rfl)(hs:∀x,FV iter X.env x=pure x:=by intro _;rfl):XS X (.For (.Name x p') iter body [] pos) (HM.HK i fi g):=by
 intro r o ho;unfold HM.HK at ho;split at ho
 .rename_i ds af
  split at ho
  .rename_i dF
   have pb:aA X body (λE L H=>∃r o,g r=Z o/\dJ X.K r o E L H):=λYK s L H E I ⟨r,o,h1,h2⟩=>hb r o h1 YK s L H E I h2;refine PS.impN (Rl (Od bV) hc (hi r ds af) (HQ hN kW hx hf) pb hs) λE L H F0 H0 F at_ k=>?_;refine⟨F0,H0,F,at_,λJ F1 H1 x1 it=>?_⟩;refine⟨λn m L H=>∃F r,At X.K F0 H0 F H r L/\Zs F1 F/\n+m=ds.length/\HM.J6 i g (ds.drop n) r=Z o,⟨ds.length,F1,r,at_.grow x1,Zs.refl _,by omega,ho⟩,?_⟩
   rintro n m L H ⟨F2,r2,bR,s2,hn,go⟩
   obtain⟨ft,fo⟩:=it F2 H s2 bR.sub;cases m with
   |zero =>
    have e:n=ds.length:=by omega
    subst e;rw[List.drop_length]at go;cases go;exact .inl ⟨fo,k L F2 H bR⟩
   |succ m =>
    have aD:n<BX ds:=by omega
    rw[LX aD]at go;obtain⟨j1,j2⟩:=ft n ds[n] (BS aD);refine .inr ⟨j1,λσ' H'=>∃F r,At X.K F0 H0 F H' r σ'/\Zs F1 F/\HM.J6 i g (ds.drop (n+1)) r=Z o,λσ' H' ⟨F,r,a1,a2,a3⟩=>⟨m,by omega,F,r,a1,a2,by omega,a3⟩,λy H' hy=>?_⟩;obtain⟨e1,ry⟩:=j2 y H' hy;subst e1;obtain⟨F3,aT,s3,ry⟩:∃F3,At X.K F0 H0 F3 H' r2 L/\Zs F1 F3/\Rep X.K F3 ds[n] y:=⟨_,bR.grow bR.refl.tups,s2.trans (CA bR.sub),ry⟩;have a3:=aT.set (i:=i) ry;have a4:=a3.rebase;unfold HM.J6 at go;split at go
    .rename_i r' hr
     exact⟨_,_,hr,F3,H0,F3,a4,λσ' F' H' a'=>⟨F',r',a'.unbase aT.ext aT.nt0,s3.trans a'.ext.ff,go⟩⟩
    .rename_i r' hr
     exact⟨_,_,hr,F3,H0,F3,a4,λσ' F' H' a'=>⟨F',r',a'.unbase aT.ext aT.nt0,s3.trans a'.ext.ff,go⟩⟩
    .rename_i r' hr
     cases go;exact⟨_,_,hr,F3,H0,F3,a4,λσ' F' H' a'=>k σ' F' H' (a'.unbase aT.ext aT.nt0)⟩
    .rename_i d hr
     cases go;exact⟨_,_,hr,F3,H0,F3,a4,λv F' H' x q=>k v F' H' (aT.ext.unbase x) q⟩
    .cases go
  .cases ho
 .cases ho
end
noncomputable def spD(K:Ad)(n:Nat)(M:mE->Option PyData):Sp:=λvs H Q _=>∃F ds d,BX vs=n/\Zs F H/\Tb H/\bG F/\Zu K F ds vs/\M ds=Z d/\∀v F' H',YR F H F' H'->Rep K F' d v->Q v H'
structure Callee(P:Program)(w:World)(K:Ad)(mg:mF)(base:Heap)(k:Nat)(x:Str)(M:mE->Option PyData):Prop where
 ex:∃f fd ps,(∀ds d,M ds=Z d->ds.length=ps.length)/\AK P w K mg base bf k f fd ps (spD K ps.length M)/\mg x=Z (.ref f)/\B3 K (.ref f)=Y/\Binds K fd ps []
theorem Callee.mono{P:Program}{w:World}{K:Ad}{mg:mF}{base:Heap}{j k:Nat}{x:Str}{M:mE->Option PyData}(C:Callee P w K mg base j x M)(h:j<=k):Callee P w K mg base k x M:=by obtain⟨f,fd,ps,l,F,r⟩:=C.ex;exact⟨f,fd,ps,l,F.mono h,r⟩
section
variable{X:Cx}{pos p:Pos}{e:Expr}{es:List Expr}{f:HM.AF}
theorem Zf{k:Nat}{M:mE->Option PyData}(C:Callee X.prog X.w X.K X.mg X.base k x M)(hr:Z6 k X.A)(ha:XA X (e::es) f)(hg:Gl X x:=by rfl)(aE:(x==("__debug__":Str))=Ab:=by decide)(he:Ae (e::es) X.env=(Ab,eval e X.env)::Ae es X.env:=by rfl)(hpl:(backTo pos (Ae es X.env)).any (·.1)=Ab:=by rfl):XE X (.Call (.Name x p) (e::es) [] pos) (HM.Zj M f):=by
 intro r d hd;unfold HM.Zj at hd;split at hd
 .rename_i ds af
  obtain⟨fa,fd,ps,hl,F,hm,hk,hb⟩:=C.ex;refine PE.impN (NG (E:=E0) F hr hg hm hk hb .nil MI (ha.pa r ds af) aE he hpl) λL H Q F0 H0 F1 at_ k=>?_;refine⟨F0,H0,F1,at_,λvs F' H' x q=>?_⟩;show spD X.K ps.length M (vs++[]) H' Q E0;rw[F8];exact⟨F',ds,d,by rw[<-q.1];exact hl ds d hd,x.sub,at_.tbx x,at_.ntx x,q,hd,λv F2 H2 x2 q2=>k v F2 H2 (x.trans x2) q2⟩
 .cases hd
end
theorem NS{F H:Hp}{ds:mE}{vs:List V}(s:Zs F H)(tb:Tb H)(nt:bG F)(q:Zu K F ds vs)(hl:BX ds<=BX N):At K F H F H (HM.Ig N.length ds) (L2.start N vs):=by
 have hv:=q.1;refine⟨λ_=>[],.refl s,?_,λi b h=>?_,λ_ _=>rfl,λi a h=>by simp at h,λ_=>EK,λi j a _ h=>by simp at h,tb,nt⟩
 .unfold HM.Ig L2.start
  rw[A3,A3,Ap,Ap,BR,BR,hv]
 .unfold HM.Ig at h
  by_cases hi:i<BX ds
  .rw[CS (by rw[Ap];exact hi),Bh,BS hi]at h
   cases h;obtain⟨v,h1,h2⟩:=q.get (BS hi);refine⟨v,?_,.pl h2⟩;unfold L2.start;rw[CS (by rw[Ap,<-hv];exact hi),Bh,h1];rfl
  .rw[CT (by rw[Ap];omega),FO]at h
   split at h<;>cases h
theorem NH{k:Nat}(Fn:ax K x YO st f fd)(mr:Zp N ps (Zg st))(body:∀(YQ:Value) (A:Around) (outer:List Env) (s:Shared) (H:Hp) (E:XK),Z6 k (A.deeper (envOfC YO (Zg st) s.heap.objs.size f YQ))->cc (AG bf P w K mg base N YO (Zg st) f YQ A outer s H E).nox (Bm st) g):AK P w K mg base bf (k+1) f fd ps (spD K ps.length (HM.fnOf ps.length N.length g)):=by
 have hpl:BX ps<=BX N:=by have:=congrArg BX mr.pre;rw[FP]at this;omega
 refine Fn.ok mr (λvs H Q E h=>?_) (λYQ A outer s H vs Q E hr h=>?_)
 .obtain⟨_,_,_,h,_⟩:=h
  exact h
 .obtain⟨F,ds,d,hl,sub,tb,nt,q,hM,kk⟩:=h
  unfold HM.fnOf at hM;split at hM
  .rename_i af
   have a0:=NS (N:=N) sub tb nt q (by omega);split at hM
   .rename_i r hr'
    cases hM;exact⟨_,body YQ A outer s H E hr _ _ hr',F,H,F,a0,λL F' H' a'=>kk .non F' H' a'.ext .non⟩
   .rename_i d' hr'
    cases hM;exact⟨_,body YQ A outer s H E hr _ _ hr',F,H,F,a0,λv F' H' x q=>kk v F' H' x q⟩
   .cases hM
  .cases hM
theorem Ua{k:Nat}(Fn:ax K x YO st f fd)(mr:Zp N ps (Zg st))(hm:mg x=Z (.ref f))(hb:Binds K fd ps [])(body:∀(YQ:Value) (A:Around) (outer:List Env) (s:Shared) (H:Hp) (E:XK),Z6 k (A.deeper (envOfC YO (Zg st) s.heap.objs.size f YQ))->cc (AG bf P w K mg base N YO (Zg st) f YQ A outer s H E).nox (Bm st) g):Callee P w K mg base (k+1) x (HM.fnOf ps.length N.length g):=by
 refine⟨f,fd,ps,λds d h=>?_,NH Fn mr body,hm,Fn.kp,hb⟩;unfold HM.fnOf at h;split at h
 .assumption
 .cases h
end
section
variable{q:HM.B}{F H:Hp}{ds:mE}{d:PyData}{K:Ad}{v:V}
section
variable{X:Cx}{a b c e:Expr}{fa fb fc:HM.EF}{pos p:Pos}
theorem Kh{h:Int->Int->Option PyData}{x y z:PyData}(e:HM.Ej h x y=Z z):∃i j,x=.int i/\y=.int j/\h i j=Z z:=by
 unfold HM.Ej at e;split at e
 .exact⟨_,_,rfl,rfl,e⟩
 .cases e
theorem Ge{g:Int->Int->V}{h:Int->Int->PyData}(hr:∀F i j,Rep K F (h i j) (g i j)):iq K (cV g) (HM.Ej λi j=>Z (h i j)):=by intro F H x y z v w Q s e r1 r2 k;obtain⟨i,j,rfl,rfl,e⟩:=Kh e;cases e;exact⟨i,j,r1.int_inv,r2.int_inv,k _ (hr F i j)⟩
theorem PD:HA X .Add HM.Qj:=⟨_,Ro,Ge λ_ _ _=>.int _⟩
theorem DA:HA X .Sub HM.Dw:=⟨_,Qg,Ge λ_ _ _=>.int _⟩
theorem iw:HA X .Mod HM.HB:=by
 refine⟨_,QA,λF H x y z v w Q s e r1 r2 k=>?_⟩;obtain⟨i,j,rfl,rfl,e'⟩:=Kh e;split at e'
 .rename_i hs
  cases e';exact⟨i,j,r1.int_inv,r2.int_inv,hs,k _ (.int _)⟩
 .cases e'
theorem l7:C9 X .Lt HM.lP:=⟨⟨_,Pg,Ge λ_ _ _=>.bl _⟩,by decide,by decide⟩
theorem fQ:C9 X .LtE HM.fP:=⟨⟨_,Po,Ge λ_ _ _=>.bl _⟩,by decide,by decide⟩
theorem ie:C9 X .Gt HM.gZ:=⟨⟨_,O5,Ge λ_ _ _=>.bl _⟩,by decide,by decide⟩
theorem Rep.non_iff(h:Rep K F d v):decide (v=.non)=match d with | .none=>Y|_=>Ab:=by cases h<;>first|rfl|exact decide_eq_false (λz=>nomatch z)
theorem Pa:C9 X .IsNot HM.Uw:=by
 refine⟨⟨_,Q9,λF H x y z v w Q s e r1 r2 k=>?_⟩,by decide,by decide⟩;unfold HM.Uw at e;split at e
 .refine⟨r2.none_inv,k _ ?_⟩
  rw[r1.non_iff];split at e
  .cases e;exact .bl _
  .rename_i hx
   cases e;cases x<;>first|exact .bl _|exact absurd rfl hx
 .cases e
theorem K7{h:Heap}:∀{ds:mE} {us:mH},BX ds=us.length->(∀(i:Nat) d u,ds[i]?=Z d->us[i]?=Z u->∃as,Reads h u d as)->∃as,ReadsAll h us ds as
 |[],[],_,_=>⟨[],.nil⟩
 |[],_::_,hl,_=>by simp at hl
 |_::_,[],hl,_=>by simp at hl
 |d::ds,u::us,hl,k=>by obtain⟨as,h1⟩:=k 0 d u rfl rfl;obtain⟨bs,h2⟩:=K7 (ds:=ds) (us:=us) (by simpa using hl) λi d u e1 e2=>k (i+1) d u (by simpa using e1) (by simpa using e2);exact⟨_,.cons h1 h2⟩
theorem NJ:∀{ds:mE},IY ds=Y->∀{i:Nat} {d:PyData},ds[i]?=Z d->d.canLay0=Y
 |[],_,i,d,e=>by simp at e
 |x::ds,h,i,d,e=>by
  have h':(x.canLay0&&IY ds)=Y:=h;rw[Av]at h';cases i with
  |zero=>rw[Jp]at e;cases e;exact h'.1
  |succ i=>rw[B2]at e;exact NJ h'.2 e
theorem NZ(h:IY ds=Y){i:Nat}(e:ds[i]?=Z d):d.canLay0=Y:=NJ h e
theorem Rep.reads{YK:mG}{s:Shared}{L:L2.St}(I:Inv X YK L H s)(sub:Zs F H)(r:Rep X.K F d v):d.canLay0=Y->∀u,RelV v u->∃as,Reads s.heap u d as:=by
 induction r with
 |non=>intro _ u ru;cases ru;exact⟨[],.none⟩
 |bl b=>intro _ u ru;cases ru;exact⟨[],.bool b⟩
 |int i=>intro _ u ru;obtain⟨t,rfl⟩:=ru;exact⟨[],.int i t⟩
 |str x=>intro _ u ru;obtain⟨t,rfl⟩:=ru;exact⟨[],.str x t⟩
 |dct _ _ _ _ _=>intro z;cases z
 |fn _=>intro z;cases z
 | @tupk a x h=>intro z u ru;cases ru;obtain⟨YL,rv,⟨o,ho,hc,n,hd⟩,_⟩:=I.tuple (.inr h);obtain⟨u,rfl,t,rfl⟩:=rv.one;exact⟨_,.tuple ho hc hd (by simpa using ReadsAll.cons (.str x t) .nil)⟩
 | @tup a ds vs h hl _ ih =>
  intro z u ru;cases ru;obtain⟨YL,rv,⟨o,ho,hc,n,hd⟩,_⟩:=I.tuple (.of (sub _ _ h));obtain⟨as,hr⟩:=K7 (h:=s.heap) (ds:=ds) (us:=YL) (hl.trans rv.length) λi d u e1 e2=>by
   have hi:i<BX vs:=by rw[<-hl];exact(AE.mp e1).1
   obtain⟨u',q1,q2⟩:=rv.get (BS hi);rw[e2]at q1;cases q1;exact ih i d _ e1 (BS hi) (NZ z e1) u q2
  exact⟨_,.tuple ho hc hd (by simpa using hr)⟩
 | @lst a ds vs h hl _ ih =>
  intro z u ru;cases ru;obtain⟨YL,rv,⟨o,n,ho,hc,_,hd⟩,_⟩:=I.list (sub.seq h);obtain⟨as,hr⟩:=K7 (h:=s.heap) (ds:=ds) (us:=YL) (hl.trans rv.length) λi d u e1 e2=>by
   have hi:i<BX vs:=by rw[<-hl];exact(AE.mp e1).1
   obtain⟨u',q1,q2⟩:=rv.get (BS hi);rw[e2]at q1;cases q1;exact ih i d _ e1 (BS hi) (NZ z e1) u q2
  exact⟨_,.list ho hc hd (by simpa using hr)⟩
noncomputable def PQ(K:Ad)(cW:Bool):R2:=λv w H Q=>∃F x y,Zs F H/\Rep K F x v/\Rep K F y w/\HM.OY x=Y/\HM.OY y=Y/\Q (.bl (if cW then !PyData.eqv x y else PyData.eqv x y)) H
theorem Ou(h:HM.OY d=Y):d.canLay0=Y/\d.depth<=60:=by unfold HM.OY at h;simpa using h
theorem Pc{k:Nat}(hr:Z6 k X.A):aM X (Bp .Eq) (PQ X.K Ab):=by intro YK s L H v w u u' Q I r1 r2 ⟨F,x,y,sub,q1,q2,p1,p2,q⟩;obtain⟨a1,a2⟩:=Ou p1;obtain⟨b1,b2⟩:=Ou p2;obtain⟨as,h1⟩:=q1.reads I sub a1 u r1;obtain⟨bs,h2⟩:=q2.reads I sub b1 u' r2;refine PySem.SeqAt.eqOverData X.prog X.w X.A X.xe s u u' x y as bs _ h1 h2 a1 b1 ?_ ⟨.bl _,H,I,rfl,q⟩;have:=hr.un;have:min x.depth y.depth<=60:=Bi (Nat.min_le_left _ _) a2;omega
theorem bx{k:Nat}(hr:Z6 k X.A):C9 X .Eq HM.ba:=by
 refine⟨⟨_,Pc hr,λF H x y z v w Q s e r1 r2 k=>?_⟩,by decide,by decide⟩;unfold HM.ba at e;split at e
 .rename_i hp
  cases e;rw[Av]at hp;exact⟨F,x,y,s,r1,r2,hp.1,hp.2,k _ (.bl _)⟩
 .cases e
theorem Kf{fp:List Addr}(sub:Zs F H)(r:Z5 K F H q v fp)(h:HM.Em q=Z ds):∃a vs,v=.ref a/\(au K H a vs\/aN K H a vs)/\Zu K F ds vs:=by
 cases r with
 |pl r =>
  cases r with
  |tup h1 h2 h3=>cases h;exact⟨_,_,rfl,.inr (.of (sub _ _ h1)),h2,h3⟩
  | @tupk a x h1=>cases h;exact⟨_,_,rfl,.inr (.inr h1),.one (.str x)⟩
  |lst h1 h2 h3=>cases h;exact⟨_,_,rfl,.inl (sub.seq h1),h2,h3⟩
  |dct _ _ _ _=>cases h
  |fn _=>cases h
  |non=>cases h
  |bl _=>cases h
  |int _=>cases h
  |str _=>cases h
 |ol h1 r=>cases h;exact⟨_,_,rfl,.inl (.of h1),r⟩
 |ok _ _ _=>cases h
 |hd _ _ _ _=>cases h
 |hf _=>cases h
 |ot _ _ _=>cases h
 |otl _ _ _ _=>cases h
theorem Sm{vs:List V}{i:Int}(r:Zu K F ds vs)(h:HM.jH ds i=Z d):∃v,dz vs i=Z v/\Rep K F d v:=by
 unfold HM.jH at h;split at h
 .rename_i j hj
  obtain⟨v,h1,h2⟩:=r.get h;refine⟨v,?_,h2⟩;unfold dz;rw[<-r.1,show cG ds.length i=Z j from hj];exact h1
 .cases h
theorem ZV{fb':HM.BF}(ha:XB X a fb')(hb:XE X b fb)(hs:Ny b:=by intro _ _;rfl):XE X (.Subscript a b pos) (HM.ar fb' fb):=by
 intro r d h;unfold HM.ar at h;split at h
 .rename_i x hx
  split at h
  .rename_i ds af
   split at h
   .rename_i i hi
    refine PE.impN (O3 RE (ha r x hx) (hb r _ hi) hs) λL H Q F0 H0 F at_ k=>?_;refine⟨F0,H0,F,at_,λv F1 H1 x1 ⟨fp,r1⟩=>⟨F0,H0,F1,at_.grow x1,λw F2 H2 x2 r2=>?_⟩⟩;obtain⟨l,vs,e1,hq,rs⟩:=Kf x2.sub (r1.mono x2.ff λ_ _ _ z=>x2.hh _ _ z) af;obtain⟨u,hu,ru⟩:=Sm rs h;have YZ:=k u F2 H2 (x1.trans x2) ru;rcases hq with hq|hq
    .exact .inl ⟨l,vs,i,u,e1,r2.int_inv,hq,hu,YZ⟩
    .exact .inr (.inl ⟨l,vs,i,u,e1,r2.int_inv,hq,hu,YZ⟩)
   .cases h
  .cases h
 .cases h
noncomputable def mh(X:Cx)(e:Expr)(r:HM.Env)(q:HM.B):Prop:=PA X [e] λL H Q=>aV X.K r L H λF0 H0 F=>∀v fp F' H',YR F H F' H'->Z5 X.K F' H' q v fp->Q [v] H'
theorem HH{f:HM.BF}{r:HM.Env}(ha:XB X e f)(h:f r=Z q)(hs:Ae [e] X.env=[(Ab,eval e X.env)]:=by rfl):mh X e r q:=by refine PA.imp (Bf (ha r q h) BL hs) λL H Q ⟨F0,H0,F,at_,k⟩=>?_;exact⟨F0,H0,F,at_,λv F1 H1 x1 ⟨fp,r1⟩=>k v fp F1 H1 x1 r1⟩
end
end
theorem Qt:A4 "all"=Z (.builtin "all"):=by decide +kernel
theorem Rn:A4 "len"=Z (.builtin "len"):=by decide +kernel
theorem QF:A4 "max"=Z (.builtin "max"):=by decide +kernel
theorem TL:A4 "sorted"=Z (.builtin "sorted"):=by decide +kernel
theorem OO:A4 "isinstance"=Z (.builtin "isinstance"):=by decide +kernel
theorem P6:A4 "int"=Z (.type "int"):=by decide +kernel
theorem Rf:A4 "bool"=Z (.type "bool"):=by decide +kernel
theorem Qn:A4 "str"=Z (.type "str"):=by decide +kernel
theorem J4:A4 "list"=Z (.type "list"):=by decide +kernel
theorem Kd:A4 "tuple"=Z (.type "tuple"):=by decide +kernel
section
variable{X:Cx}{a b c e:Expr}{fa fb fc:HM.EF}{pos p:Pos}{f:HM.BF}
theorem AS(hm:X.mg "len"=U)(ha:XB X a f)(hg:Gl X "len":=by rfl)(hs:Ae [a] X.env=[(Ab,eval a X.env)]:=by rfl):XE X (.Call (.Name "len" p) [a] [] pos) (HM.AU f):=by
 intro r d h;unfold HM.AU at h;split at h
 .rename_i x hx
  obtain⟨n,h1,h2⟩:=Ao.mp h;subst h2;refine PE.impN (E9 (VN.or Um) hg hm Rn (HH ha hx hs) (he:=hs)) λL H Q F0 H0 F at_ k=>?_;refine⟨F0,H0,F,at_,λv fp F1 H1 x1 r1=>?_⟩;have YZ:=λ(m:Nat) (e:m=n)=>k (.int m) F1 H1 x1 (by rw[e];exact .int _);cases r1 with
  |pl q =>
   cases q with
   |tup q1 q2 q3=>cases h1;exact .inl ⟨_,_,rfl,.inr (.of (x1.sub _ _ q1)),YZ _ q2.symm⟩
   |tupk q1=>cases h1;exact .inl ⟨_,_,rfl,.inr (.inr q1),YZ _ rfl⟩
   |lst q1 q2 q3=>cases h1;exact .inl ⟨_,_,rfl,.inl (x1.sub.seq q1),YZ _ q2.symm⟩
   |dct _ _ _ _=>cases h1
   |fn _=>cases h1
   |non=>cases h1
   |bl _=>cases h1
   |int _=>cases h1
   |str _=>cases h1
  |ol q1 q2=>cases h1;exact .inl ⟨_,_,rfl,.inl (.of q1),YZ _ q2.1.symm⟩
  |ok q1 q2 q3=>cases h1;refine .inr ⟨_,_,rfl,q1,YZ _ ?_⟩;have:=congrArg BX q2;rw[Ap,Ap]at this;exact this.symm
  |ot _ _ _=>cases h1
  |otl _ _ _ _=>cases h1
  |hd _ _ _ _=>cases h1
  |hf _=>cases h1
 .cases h
theorem Lo(hm:X.mg "tuple"=U)(ha:XB X a f)(hg:Gl X "tuple":=by rfl)(hs:Ae [a] X.env=[(Ab,eval a X.env)]:=by rfl):XE X (.Call (.Name "tuple" p) [a] [] pos) (HM.KZ f):=by
 intro r d h;unfold HM.KZ at h;split at h
 .rename_i x hx
  obtain⟨ds,h1,h2⟩:=Ao.mp h;subst h2;refine PE.impN (OA Wt hg hm Kd (HH ha hx hs) (he:=hs)) λL H Q F0 H0 F at_ k=>?_;refine⟨F0,H0,F,at_,λv fp F1 H1 x1 r1=>?_⟩;have new:∀(vs:List V),Zu X.K F1 ds vs->∀l,H1 l=U->Q (.ref l) (upd H1 l (.tup vs)):=λvs q l hl=>k _ (upd F1 l (.tup vs)) _ (x1.lay hl) (.tup Zq q.1 (q.mono (Zs.upd' (x1.sub.free hl))).2);cases r1 with
  |pl q =>
   cases q with
   |tup q1 q2 q3=>cases h1;exact⟨_,_,rfl,.inr ⟨.of (x1.sub _ _ q1),k _ F1 H1 x1 (.tup q1 q2 q3)⟩⟩
   |tupk q1=>cases h1;exact⟨_,_,rfl,.inr ⟨.inr q1,k _ F1 H1 x1 (.tupk q1)⟩⟩
   |lst q1 q2 q3=>cases h1;exact⟨_,_,rfl,.inl ⟨x1.sub.seq q1,new _ ⟨q2,q3⟩⟩⟩
   |dct _ _ _ _=>cases h1
   |fn _=>cases h1
   |non=>cases h1
   |bl _=>cases h1
   |int _=>cases h1
   |str _=>cases h1
  |ol q1 q2=>cases h1;exact⟨_,_,rfl,.inl ⟨.of q1,new _ q2⟩⟩
  |ok _ _ _=>cases h1
  |ot _ _ _=>cases h1
  |otl _ _ _ _=>cases h1
  |hd _ _ _ _=>cases h1
  |hf _=>cases h1
 .cases h
theorem N4{K:Ad}{F H F1 H1:Hp}{ds:mE}{vs:List V}{l:Addr}{P:V->Hp->Hp->Prop}(x1:YR F H F1 H1)(q:Zu K F1 ds vs)(hl:H1 l=U)(k:∀v F' H',YR F H F' H'->(∃fp,Z5 K F' H' (.ol ds) v fp/\fp.Nodup/\∀a∈fp,F' a=U/\H a=U)->P v F' H'):P (.ref l) F1 (upd H1 l (.lst vs)):=by
 refine k _ F1 _ (x1.lay' hl) ⟨[l],.ol Zq q,by simp,λa ha=>?_⟩;have:a=l:=by simpa using ha
 subst this;exact⟨x1.sub.free hl,x1.hh.free hl⟩
theorem Ot{K:Ad}{F:Hp}:∀{ds:mE} {vs:List V} {bs:List Bool},HM.NV ds=Z bs->Zu K F ds vs->vs=bs.map V.bl
 |[],vs,bs,h,r=>by cases h;exact r.nil_inv
 |d::ds,vs,bs,h,r=>by
  obtain⟨v,us,rfl,r1,r2⟩:=r.cons_inv;cases d with
  |bool b=>obtain⟨bs',h1,h2⟩:=Ao.mp h;subst h2;rw[r1.bool_inv,Ot h1 r2];rfl
  |none=>cases h
  |int _=>cases h
  |str _=>cases h
  |list _=>cases h
  |tuple _=>cases h
  |dict _=>cases h
end
section
variable{p2:Pos}
section
variable{X:Cx}{a b c e:Expr}{fa fb fc:HM.EF}{pos p:Pos}{f:HM.BF}
theorem Vb:∀{bs:List Bool} {us:mH},YN (bs.map V.bl) us->LSm.BoolsAre us bs:=by
 intro bs
 induction bs with
 |nil=>intro us r;rw[FF]at r;cases r;exact .nil
 |cons b bs ih =>
  intro us r;rw[An]at r;cases r with
  |cons r1 r2=>cases r1;exact .cons b (ih r2)
theorem Qh{A:Around}{s:Shared}{l:Addr}{vs:mH}{bs:List Bool}{dflt:Bool}(hh:A.handled=U)(hl:s.heap.IsList l vs.toArray)(hb:LSm.BoolsAre vs bs){E:mD}{Q:mD}{prog:Program}{w:World}(h:∀it fp wr (P:Nat->Value->Prop) St,Walks prog w A it fp wr vs.length P St->St 0 (s.heap.push {cls:=.type "list_iterator",data:=.fields #[.ref l,rawInt 0]})->TruthOf prog w A P (λi=>(bs[i]?).getD dflt)->wr=[s.heap.objs.size]->it=s.heap.objs.size->Q (.ref it) {s with heap:=s.heap.push {cls:=.type "list_iterator",data:=.fields #[.ref l,rawInt 0]}}):wpAny (model prog w) A (pyIter (.ref l)) Q E s:=by
 have aD:l<s.heap.objs.size:=let ⟨_,e,_⟩:=hl;Ai e
 refine IX hl ?_;have W:=Walks.list (prog:=prog) (w:=w) hh s.heap.objs.size l (Am aD) vs.toArray;rw[Ay]at W;refine h _ _ _ _ _ W ⟨⟨_,Az _ rfl,rfl,rfl⟩,hl.push _⟩ (λi v s' Q' E' hP hQ=>?_) rfl rfl;obtain⟨b,e,rfl⟩:=hb.get i v (by simpa using hP);simp only[e,Option.getD_some]at hQ;exact EG hQ
theorem Ud(hc:X.calm=Y):AI X (.builtin "all") (λxs H Q=>∃(p:Addr) (bs:List Bool),xs=[.ref p]/\au X.K H p (bs.map V.bl)/\Q (.bl (bs.all id)) H):=by intro YK s L H xs us Q I r h;obtain⟨p,bs,rfl,hq,q⟩:=h;obtain⟨u,rfl,rx⟩:=vals1 r;cases rx;obtain⟨YL,rv,pl,hz⟩:=I.list hq;have hb:=Vb rv;refine call_all_walk (Qh (dflt:=Y) (A:=X.A.in1) (I.ok.hd hc) pl.isList hb λit fp wr P St W st tr e1 e2=>?_);subst e1 e2;refine⟨_,_,_,_,P,St,_,rfl,W,st,tr,λh' tk hk=>?_⟩;rw[hb.length,LSm.range_all bs];exact⟨.bl _,H,I.kept (LSm.kept_iter hk),rfl,q⟩
theorem Tq{K:Ad}{F H:Hp}{q:HM.B}{v:V}{fp:List Addr}{ds:mE}(sub:Zs F H)(r:Z5 K F H q v fp)(h:HM.Qs q=Z ds):∃a vs,v=.ref a/\au K H a vs/\Zu K F ds vs:=by
 cases r with
 |pl r =>
  cases r with
  |lst h1 h2 h3=>cases h;exact⟨_,_,rfl,sub.seq h1,h2,h3⟩
  |dct _ _ _ _=>cases h
  |fn _=>cases h
  |tupk _=>cases h
  |tup _ _ _=>cases h
  |non=>cases h
  |bl _=>cases h
  |int _=>cases h
  |str _=>cases h
 |ol h1 r=>cases h;exact⟨_,_,rfl,.of h1,r⟩
 |ok _ _ _=>cases h
 |hd _ _ _ _=>cases h
 |hf _=>cases h
 |ot _ _ _=>cases h
 |otl _ _ _ _=>cases h
theorem CC(hm:X.mg "all"=U)(hc:X.calm=Y)(ha:XB X a f)(hg:Gl X "all":=by rfl)(hs:Ae [a] X.env=[(Ab,eval a X.env)]:=by rfl):XE X (.Call (.Name "all" p) [a] [] pos) (HM.Cv f):=by
 intro r d h;unfold HM.Cv at h;split at h
 .rename_i x hx
  split at h
  .rename_i ds af
   obtain⟨bs,h1,h2⟩:=Ao.mp h;subst h2;refine PE.impN (E9 (Ud hc) hg hm Qt (HH ha hx hs) (he:=hs)) λL H Q F0 H0 F at_ k=>?_;refine⟨F0,H0,F,at_,λv fp F1 H1 x1 r1=>?_⟩;obtain⟨l,vs,e1,hq,rs⟩:=Tq x1.sub r1 af;rw[Ot h1 rs]at hq;exact⟨l,bs,by rw[e1],hq,k _ F1 H1 x1 (.bl _)⟩
  .cases h
 .cases h
theorem Gn{bN:String}{t:HM.Ty}(hr:∀(s:Shared) (d:PyData) (v:V) (u:Value) (Q:mD),RelV v u->(∃(K:Ad) (F:Hp),Rep K F d v)->(∀es,d≠.dict es)->(∀x,v=.ref x->∃o,s.heap.get? x=Z o/\((∃ds,d=.tuple ds/\o.cls=.type "tuple")\/(∃ds,d=.list ds/\o.cls=.type "list")\/∃ds,d=.dict ds/\o.cls=.type "dict")) ->
   (∀tk,Q (.bool (HM.Xy t d)) {s with toks:=tk})->wpAny (model X.prog X.w) X.A (call (.builtin "isinstance") [u,.type bN]) Q X.xe s):
  AI X (.builtin "isinstance") (λxs H Q=>∃F d v,xs=[v,.ty bN]/\Zs F H/\Rep X.K F d v/\(∀es,d≠.dict es)/\Q (.bl (HM.Xy t d)) H):=by
 intro YK s L H xs us Q I r h;obtain⟨F,d,v,rfl,sub,rp,nd,q⟩:=h;obtain⟨u,u',rfl,ru,ru'⟩:=vals2 r;cases(show u'=Ci bN from ru');refine hr s d v u _ ru ⟨_,_,rp⟩ nd (λx e=>?_) λtk=>⟨.bl _,H,I.tok tk,rfl,q⟩;subst e;cases rp with
 |tup h1 h2 h3=>obtain⟨YL,rv,⟨o,ho,hc,n,hd⟩,_⟩:=I.tuple (.of (sub _ _ h1));exact⟨o,ho,.inl ⟨_,rfl,hc⟩⟩
 |tupk h1=>obtain⟨YL,rv,⟨o,ho,hc,n,hd⟩,_⟩:=I.tuple (.inr h1);exact⟨o,ho,.inl ⟨_,rfl,hc⟩⟩
 |lst h1 h2 h3=>obtain⟨YL,rv,⟨o,n,ho,hc,_,hd⟩,_⟩:=I.list (sub.seq h1);exact⟨o,ho,.inr (.inl ⟨_,rfl,hc⟩)⟩
 | @dct a es kvs vvs h1 _ _ _=>obtain⟨_,_,xs,_,o,es,ep,q1,q2,_⟩:=(show Z0 X.prog X.w H s.heap x (.dT vvs) from JQ I.hok (J3 h1 sub));exact⟨o,q1,.inr (.inr ⟨_,rfl,q2.1⟩)⟩
 |fn _=>exact absurd rfl (nd _)
theorem RT:AI X (.builtin "isinstance") (λxs H Q=>∃F d v,xs=[v,.ty "bool"]/\Zs F H/\Rep X.K F d v/\(∀es,d≠.dict es)/\Q (.bl (HM.Xy .bool d)) H):=by
 refine Gn λs d v u Q ru ⟨K,F,rp⟩ nd ho k=>?_;cases rp with
 |non=>cases ru;exact IsiPair.NoneType_bool (k _)
 |bl _=>cases ru;exact IsiPair.bool_bool (k _)
 |int _=>obtain⟨t,rfl⟩:=ru;exact IsiPair.int_bool (k _)
 |str _=>obtain⟨t,rfl⟩:=ru;exact IsiPair.str_bool (k _)
 |tup _ _ _|tupk _ =>
  cases ru;obtain⟨o,h1,⟨_,_,h2⟩|⟨_,e,_⟩|⟨_,e,_⟩⟩:=ho _ rfl
  .exact IsiPair.tuple_bool h1 h2 (k _)
  .cases e
  .cases e
 |lst _ _ _ =>
  cases ru;obtain⟨o,h1,⟨_,e,_⟩|⟨_,_,h2⟩|⟨_,e,_⟩⟩:=ho _ rfl
  .cases e
  .exact IsiPair.list_bool h1 h2 (k _)
  .cases e
 |dct _ _ _ _ =>
  cases ru;obtain⟨o,h1,⟨_,e,_⟩|⟨_,e,_⟩|⟨_,_,h2⟩⟩:=ho _ rfl
  .cases e
  .cases e
  .exact IsiPair.dict_bool h1 h2 (k _)
 |fn _=>exact absurd rfl (nd _)
theorem Ss:AI X (.builtin "isinstance") (λxs H Q=>∃F d v,xs=[v,.ty "int"]/\Zs F H/\Rep X.K F d v/\(∀es,d≠.dict es)/\Q (.bl (HM.Xy .int d)) H):=by
 refine Gn λs d v u Q ru ⟨K,F,rp⟩ nd ho k=>?_;cases rp with
 |non=>cases ru;exact IsiPair.NoneType_int (k _)
 |bl _=>cases ru;exact IsiPair.bool_int (k _)
 |int _=>obtain⟨t,rfl⟩:=ru;exact IsiPair.int_int (k _)
 |str _=>obtain⟨t,rfl⟩:=ru;exact IsiPair.str_int (k _)
 |tup _ _ _|tupk _ =>
  cases ru;obtain⟨o,h1,⟨_,_,h2⟩|⟨_,e,_⟩|⟨_,e,_⟩⟩:=ho _ rfl
  .exact IsiPair.tuple_int h1 h2 (k _)
  .cases e
  .cases e
 |lst _ _ _ =>
  cases ru;obtain⟨o,h1,⟨_,e,_⟩|⟨_,_,h2⟩|⟨_,e,_⟩⟩:=ho _ rfl
  .cases e
  .exact IsiPair.list_int h1 h2 (k _)
  .cases e
 |dct _ _ _ _ =>
  cases ru;obtain⟨o,h1,⟨_,e,_⟩|⟨_,e,_⟩|⟨_,_,h2⟩⟩:=ho _ rfl
  .cases e
  .cases e
  .exact IsiPair.dict_int h1 h2 (k _)
 |fn _=>exact absurd rfl (nd _)
theorem TM:AI X (.builtin "isinstance") (λxs H Q=>∃F d v,xs=[v,.ty "tuple"]/\Zs F H/\Rep X.K F d v/\(∀es,d≠.dict es)/\Q (.bl (HM.Xy .tuple d)) H):=by
 refine Gn λs d v u Q ru ⟨K,F,rp⟩ nd ho k=>?_;cases rp with
 |non=>cases ru;exact IsiPair.NoneType_tuple (k _)
 |bl _=>cases ru;exact IsiPair.bool_tuple (k _)
 |int _=>obtain⟨t,rfl⟩:=ru;exact IsiPair.int_tuple (k _)
 |str _=>obtain⟨t,rfl⟩:=ru;exact IsiPair.str_tuple (k _)
 |tup _ _ _|tupk _ =>
  cases ru;obtain⟨o,h1,⟨_,_,h2⟩|⟨_,e,_⟩|⟨_,e,_⟩⟩:=ho _ rfl
  .exact IsiPair.tuple_tuple h1 h2 (k _)
  .cases e
  .cases e
 |lst _ _ _ =>
  cases ru;obtain⟨o,h1,⟨_,e,_⟩|⟨_,_,h2⟩|⟨_,e,_⟩⟩:=ho _ rfl
  .cases e
  .exact IsiPair.list_tuple h1 h2 (k _)
  .cases e
 |dct _ _ _ _ =>
  cases ru;obtain⟨o,h1,⟨_,e,_⟩|⟨_,e,_⟩|⟨_,_,h2⟩⟩:=ho _ rfl
  .cases e
  .cases e
  .exact IsiPair.dict_tuple h1 h2 (k _)
 |fn _=>exact absurd rfl (nd _)
theorem SI:AI X (.builtin "isinstance") (λxs H Q=>∃F d v,xs=[v,.ty "list"]/\Zs F H/\Rep X.K F d v/\(∀es,d≠.dict es)/\Q (.bl (HM.Xy .list d)) H):=by
 refine Gn λs d v u Q ru ⟨K,F,rp⟩ nd ho k=>?_;cases rp with
 |non=>cases ru;exact IsiPair.NoneType_list (k _)
 |bl _=>cases ru;exact IsiPair.bool_list (k _)
 |int _=>obtain⟨t,rfl⟩:=ru;exact IsiPair.int_list (k _)
 |str _=>obtain⟨t,rfl⟩:=ru;exact IsiPair.str_list (k _)
 |tup _ _ _|tupk _ =>
  cases ru;obtain⟨o,h1,⟨_,_,h2⟩|⟨_,e,_⟩|⟨_,e,_⟩⟩:=ho _ rfl
  .exact IsiPair.tuple_list h1 h2 (k _)
  .cases e
  .cases e
 |lst _ _ _ =>
  cases ru;obtain⟨o,h1,⟨_,e,_⟩|⟨_,_,h2⟩|⟨_,e,_⟩⟩:=ho _ rfl
  .cases e
  .exact IsiPair.list_list h1 h2 (k _)
  .cases e
 |dct _ _ _ _ =>
  cases ru;obtain⟨o,h1,⟨_,e,_⟩|⟨_,e,_⟩|⟨_,_,h2⟩⟩:=ho _ rfl
  .cases e
  .cases e
  .exact IsiPair.dict_list h1 h2 (k _)
 |fn _=>exact absurd rfl (nd _)
theorem Gj{bN:Str}{fY:String}{t:HM.Ty}(hR:AI X (.builtin "isinstance") (λxs H Q=>∃F d v,xs=[v,.ty fY]/\Zs F H/\Rep X.K F d v/\(∀es,d≠.dict es)/\Q (.bl (HM.Xy t d)) H))(bt:A4 bN=Z (.type fY))(hm:X.mg "isinstance"=U)(cf:X.mg bN=U)(ha:XE X a fa)(hg:Gl X "isinstance")(cg:Gl X bN)(hn:bN ≠ "__name__")(hd:(bN==("__debug__":Str))=Ab)(bo:Ae [a,.Name bN p2] X.env=(Ab,eval a X.env)::Ae [.Name bN p2] X.env)(aQ:Ae [.Name bN p2] X.env=[(Ab,eval (.Name bN p2) X.env)]):XE X (.Call (.Name "isinstance" p) [a,.Name bN p2] [] pos) (HM.En fa t):=by
 intro r d h;have key:∃x,fa r=Z x/\(∀es,x≠.dict es)/\d=.bool (HM.Xy t x):=by
  unfold HM.En at h;split at h
  .cases h
  .rename_i x hn hx
   cases h;exact⟨x,hx,λes z=>hn es (by rw[z]),rfl⟩
  .cases h
 obtain⟨x,h1,nd,h2⟩:=key;subst h2;refine PE.impN (E9 hR hg hm OO (Bf (ha r x h1) (Bf (QX (v:=.ty fY) cg cf bt rfl hn hd) BL (by rw[aQ];rfl)) bo) (he:=bo) (hpl:=by rw[aQ];rfl)) λL H Q F0 H0 F at_ k=>?_;exact⟨F0,H0,F,at_,λv F1 H1 x1 r1=>⟨F1,x,v,rfl,x1.sub,r1,nd,k _ F1 H1 x1 (.bl _)⟩⟩
theorem VI(hm:X.mg "isinstance"=U)(cf:X.mg "bool"=U)(ha:XE X a fa)(hg:Gl X "isinstance":=by rfl)(cg:Gl X "bool":=by rfl)(bo:Ae [a,.Name "bool" p2] X.env=(Ab,eval a X.env)::Ae [.Name "bool" p2] X.env:=by rfl):XE X (.Call (.Name "isinstance" p) [a,.Name "bool" p2] [] pos) (HM.En fa .bool):=Gj RT Rf hm cf ha hg cg (by decide) (by decide) bo rfl
theorem Vm(hm:X.mg "isinstance"=U)(cf:X.mg "int"=U)(ha:XE X a fa)(hg:Gl X "isinstance":=by rfl)(cg:Gl X "int":=by rfl)(bo:Ae [a,.Name "int" p2] X.env=(Ab,eval a X.env)::Ae [.Name "int" p2] X.env:=by rfl):XE X (.Call (.Name "isinstance" p) [a,.Name "int" p2] [] pos) (HM.En fa .int):=Gj Ss P6 hm cf ha hg cg (by decide) (by decide) bo rfl
theorem OR(hm:X.mg "isinstance"=U)(cf:X.mg "tuple"=U)(ha:XE X a fa)(hg:Gl X "isinstance":=by rfl)(cg:Gl X "tuple":=by rfl)(bo:Ae [a,.Name "tuple" p2] X.env=(Ab,eval a X.env)::Ae [.Name "tuple" p2] X.env:=by rfl):XE X (.Call (.Name "isinstance" p) [a,.Name "tuple" p2] [] pos) (HM.En fa .tuple):=Gj TM Kd hm cf ha hg cg (by decide) (by decide) bo rfl
theorem OI(hm:X.mg "isinstance"=U)(cf:X.mg "list"=U)(ha:XE X a fa)(hg:Gl X "isinstance":=by rfl)(cg:Gl X "list":=by rfl)(bo:Ae [a,.Name "list" p2] X.env=(Ab,eval a X.env)::Ae [.Name "list" p2] X.env:=by rfl):XE X (.Call (.Name "isinstance" p) [a,.Name "list" p2] [] pos) (HM.En fa .list):=Gj SI J4 hm cf ha hg cg (by decide) (by decide) bo rfl
theorem Ry(hm:X.mg "max"=U)(hc:X.calm=Y)(ha:XE X a fa)(hb:XE X b fb)(hg:Gl X "max":=by rfl)(bo:Ae [a,b] X.env=(Ab,eval a X.env)::Ae [b] X.env:=by rfl)(aQ:Ae [b] X.env=[(Ab,eval b X.env)]:=by rfl):XE X (.Call (.Name "max" p) [a,b] [] pos) (HM.ah HM.Rr fa fb):=by
 intro r d h;obtain⟨x,y,h1,h2,h3⟩:=HU h;obtain⟨i,j,rfl,rfl,e⟩:=Kh h3;cases e;refine PE.impN (E9 (TC hc) hg hm QF (Bf (ha r _ h1) (Bf (hb r _ h2) BL aQ) bo) (he:=bo) (hpl:=by rw[aQ];rfl)) λL H Q F0 H0 F at_ k=>?_;exact⟨F0,H0,F,at_,λv F1 H1 x1 r1=>⟨F0,H0,F1,at_.grow x1,λw F2 H2 x2 r2=>⟨i,j,by rw[r1.int_inv,r2.int_inv],k _ F2 H2 (x1.trans x2) (.int _)⟩⟩⟩
end
end
section
variable{r:HM.Env}{F F0 H H0:Hp}{L:L2.St}{ds:mE}{vs:List V}{i:Nat}{K:Ad}
section
variable{X:Cx}{a b c e:Expr}{fa fb fc:HM.EF}{pos p:Pos}{f:HM.BF}{tg:Expr}
theorem PI.imp{X:Cx}{tg e:Expr}{t u:TI}(h:PI X tg e t)(hi:∀L H R,u L H R->t L H R):PI X tg e u:=λYK s L H R I q=>h YK s L H R I (hi L H R q)
theorem PI.impN{X:Cx}{tg e:Expr}{t:TI}(h:PI X tg e t)(hi:∀L H R F0 H0 F,At X.K F0 H0 F H r L->(∀J F' H',YR F H F' H'->cN X.K J ds F'->R J H')->t L H R):PI X tg e λL H R=>aV X.K r L H λF0 H0 F=>∀J F' H',YR F H F' H'->cN X.K J ds F'->R J H':=PI.imp h λL H R ⟨F0,H0,F,a,k⟩=>hi L H R F0 H0 F a k
theorem Ql{l:Expr}{tl:TE}(hl:PE X l tl):PI X tg l (λL H R=>tl L H λx H1=>∃a,x=.ref a/\((∃xs,au X.K H1 a xs)/\R (il X.K a) H1\/(∃xs,aN X.K H1 a xs)/\R (fV X.K a) H1)):=by
 intro YK s L H R I h;refine Y6 (hl YK s L H _ I h) λv s1 ⟨x,H1,I1,r1,q1⟩=>?_;obtain⟨a,e,q1⟩:=q1;subst e;cases r1;rcases q1 with⟨⟨xs,hq⟩,q⟩|⟨⟨xs,hq⟩,q⟩
 .obtain⟨YL,rv,p,hz⟩:=I1.list hq
  refine IX p.isList ⟨s1.heap.objs.size,[s1.heap.objs.size],_,_,H1,rfl,I1.kept (t':=s1.toks) λb o e=>Aj _ e,TH a _,⟨_,Az _ rfl,rfl,rfl⟩,λb hb=>?_,q⟩;obtain rfl:b=s1.heap.objs.size:=by simpa using hb
  exact I1.fpOk (Al _) (I1.hok.fresh (Al _))
 .obtain⟨YL,rv,p,hz⟩:=I1.tuple hq
  refine wpAny_pyIter_tuple (show s1.heap.IsTuple a YL.toArray from p) ⟨s1.heap.objs.size,[s1.heap.objs.size],_,_,H1,rfl,I1.kept (t':=s1.toks) λb o e=>Aj _ e,U0 a _,⟨_,Az _ rfl,rfl,rfl⟩,λb hb=>?_,q⟩;obtain rfl:b=s1.heap.objs.size:=by simpa using hb
  exact I1.fpOk (Al _) (I1.hok.fresh (Al _))
theorem RR{a:Addr}(h:au K F a vs)(r:Zu K F ds vs):cN K (il K a) ds F:=by intro F' H s1 s2;have hq:au K H a vs:=(s1.trans s2).seq h;refine⟨λi d hd=>?_,⟨vs,hq,by rw[r.1];exact Al _⟩⟩;obtain⟨v,h1,h2⟩:=r.get hd;refine⟨⟨vs,v,hq,h1⟩,λx H' hy=>?_⟩;obtain⟨e,y⟩:=hy;refine⟨e,?_⟩;have:=y vs hq;rw[h1]at this;cases this;exact h2.mono (s1.trans (CA s2))
theorem Tw{a:Addr}(h:aN K F a vs)(r:Zu K F ds vs):cN K (fV K a) ds F:=by intro F' H s1 s2;have hq:aN K H a vs:=NQ h (s1.trans s2);refine⟨λi d hd=>?_,⟨vs,hq,by rw[r.1];exact Al _⟩⟩;obtain⟨v,h1,h2⟩:=r.get hd;refine⟨⟨vs,v,hq,h1⟩,λx H' hy=>?_⟩;obtain⟨e,y⟩:=hy;refine⟨e,?_⟩;have:=y vs hq;rw[h1]at this;cases this;exact h2.mono (s1.trans (CA s2))
theorem Sf{a:Addr}(h:F a=Z (.tup vs))(r:Zu K F ds vs):cN K (fV K a) ds F:=by intro F' H s1 s2;have hq:aN K H a vs:=.of (s2 _ _ (s1 _ _ h));refine⟨λi d hd=>?_,⟨vs,hq,by rw[r.1];exact Al _⟩⟩;obtain⟨v,h1,h2⟩:=r.get hd;refine⟨⟨vs,v,hq,h1⟩,λx H' hy=>?_⟩;obtain⟨e,y⟩:=hy;refine⟨e,?_⟩;have:=y vs hq;rw[h1]at this;cases this;exact h2.mono (s1.trans (CA s2))
theorem Bt(h:XE X e fa):XI X tg e (HM.Bq (HM.ak fa)):=by
 intro r ds hd;unfold HM.Bq HM.ak at hd;cases hx:fa r with
 |none=>rw[hx]at hd;cases hd
 |some d =>
  rw[hx]at hd;have hd:HM.Em (.pl d)=Z ds:=hd;refine PI.impN (Ql (h r d hx)) λL H R F0 H0 F at_ k=>?_;refine⟨F0,H0,F,at_,λv F1 H1 x1 r1=>?_⟩;cases r1 with
  | @tupk a x h1=>cases hd;exact⟨a,rfl,.inr ⟨⟨_,.inr h1⟩,k _ F1 H1 x1 (Tw (.inr h1) (.one (.str x)))⟩⟩
  | @tup a ds' vs h1 h2 h3=>cases hd;exact⟨a,rfl,.inr ⟨⟨vs,.of (x1.sub _ _ h1)⟩,k _ F1 H1 x1 (Sf h1 ⟨h2,h3⟩)⟩⟩
  | @lst a ds' vs h1 h2 h3=>cases hd;exact⟨a,rfl,.inl ⟨⟨vs,x1.sub.seq h1⟩,k _ F1 H1 x1 (RR h1 ⟨h2,h3⟩)⟩⟩
  |dct _ _ _ _=>cases hd
  |fn _=>cases hd
  |non=>cases hd
  |bl _=>cases hd
  |int _=>cases hd
  |str _=>cases hd
theorem R5(lo:Int)(n:Nat):cN K (fW lo n) (HM.Xq lo n) F:=by
 intro F' H s1 s2;have hl:(HM.Xq lo n).length=n:=by unfold HM.Xq;rw[Ap,IW]
 refine⟨λi d hd=>?_,?_⟩
 .have hi:i<n:=by rw[<-hl];exact(AE.mp hd).1
  unfold HM.Xq at hd;rw[Bh,List.getElem?_range hi]at hd;cases hd;exact⟨hi,λx H' ⟨e1,e2⟩=>⟨e1,by rw[e2];exact .int _⟩⟩
 .rw[hl];exact Al _
theorem R6{j:Int}(h:HM.ke j=Y):-1000000<j/\j<1000000:=by unfold HM.ke at h;rw[Nat.blt_eq]at h;omega
theorem U3(hm:X.mg "range"=U)(ha:XE X a fa)(hg:Gl X "range":=by rfl)(hs:Ae [a] X.env=[(Ab,eval a X.env)]:=by rfl):XI X tg (.Call (.Name "range" p) [a] [] pos) (HM.HR fa):=by
 intro r ds hd;unfold HM.HR at hd;split at hd
 .rename_i j hj
  split at hd
  .rename_i hok
   cases hd;obtain⟨k1,k2⟩:=R6 hok;refine PI.impN (Ut hg hm (Bf (ha r _ hj) BL hs) hs) λL H R F0 H0 F at_ k=>?_;exact⟨F0,H0,F,at_,λv F1 H1 x1 r1=>⟨j,by rw[r1.int_inv],by omega,by omega,k _ F1 H1 x1 (R5 0 j.toNat)⟩⟩
  .cases hd
 .cases hd
theorem AA.val{fp:Nat->List Addr}(e:AA K F0 H0 F H r L fp)(h:r[i]?=Z (Z (.ol ds))):∃l vs,L[i]?=Z (Z (.ref l))/\H l=Z (.lst vs)/\Zu K F ds vs/\fp i=[l]:=by
 obtain⟨v,h1,h2⟩:=e.at_ i _ h;generalize hf:fp i=q at h2;cases h2 with
 |ol k1 k2=>exact⟨_,_,h1,k1,k2,rfl⟩
theorem At.chgList{es:mE}(e:At K F0 H0 F H r L)(h:r[i]?=Z (Z (.ol ds))):∃l vs,L[i]?=Z (Z (.ref l))/\H l=Z (.lst vs)/\Zu K F ds vs/\∀us,Zu K F es us->At K F0 H0 F (upd H l (.lst us)) (r.set i (Z (.ol es))) L:=by
 obtain⟨fp,e⟩:=e;obtain⟨l,vs,h1,h2,h3,h4⟩:=e.val h;refine⟨l,vs,h1,h2,h3,λus q=>e.change (fp':=[l]) h1 (.ol Zq q) (by simp) (λa ha=>.inl (by rw[h4];exact ha)) λa o z hn=>?_⟩;rw[Zo (λz=>hn (by rw[h4,z];simp))];exact z
theorem U2(i:Nat){x:Str}{p1 p2 p3:Pos}(ha:XE X a fa)(hN:X.N[i]?=Z x:=by rfl)(hv:br X.env.scope x:=by first|exact Ah rfl|exact Af (Ah rfl)|exact Af (Af rfl))(hd:(x==("__debug__":Str))=Ab:=by decide)(Y7:(x==("__classdict__":Str))=Ab:=by decide)(Y3:Ck (.Name x p1) "append" X.env (eval (.Name x p1) X.env)=eval (.Name x p1) X.env:=by rfl)(bL:((backTo p3 (Ae [a] X.env)).all (λx=>!x.1)&&(Ez p3 (EB [] X.env)).all (λx=>x.1.isSome)&&decide (([a]:List Expr).length+([]:List Keyword).length+(if([]:List Keyword).isEmpty then 0 else 1)<30))=Y:=by rfl)(aq:(p2.endLine==p3.line)=Y:=by rfl)(hs:Ae [a] X.env=[(Ab,eval a X.env)]:=by rfl):XS X (.Expr (.Call (.Attribute (.Name x p1) "append" p2) [a] [] p3) pos) (HM.WT i fa):=by
 intro r o h;unfold HM.WT at h;split at h
 .rename_i ds af
  split at h
  .rename_i d hd'
   split at h
   .rename_i hz
    cases h;refine PS.impN (Fd (JH Hr LS LR KD (ZS hN hv hd Y7) (Bf (ha r d hd') BL hs) Y3 bL aq hs rfl)) λE L H F0 H0 F at_ k=>?_;obtain⟨l,vs,e1,e2,e3,_⟩:=at_.chgList (es:=ds) af;refine⟨.ref l,e1,.inl ⟨rfl,_,au.of e2⟩,F0,H0,F,at_,λv F1 H1 x1 r1=>?_⟩;have ck:=at_.grow x1;obtain⟨l',vs',f1,f2,f3,f4⟩:=ck.chgList (es:=ds++[d]) af;rw[e1]at f1;cases f1;refine⟨_,vs',v,rfl,rfl,f2,?_,k _ F1 _ (f4 _ (f3.append (.one r1)))⟩;have e4:=f3.1;have e5:(1000000:Nat)<=sizeLine:=by decide
    unfold HM.big at hz;omega
   .cases h
  .cases h
 .cases h
end
end
section
variable{d:PyData}{v:V}
section
variable{K:Ad}{F:Hp}{κ:Type}[DecidableEq κ]
noncomputable def AB(K:Ad)(F:Hp)(kvs:List (κ×PyData))(vvs:List (κ×V)):Prop:=kvs.map (·.1)=vvs.map (·.1)/\Zu K F (kvs.map (·.2)) (vvs.map (·.2))
theorem AB.nil:AB K F ([]:List (κ×PyData)) []:=⟨rfl,.nil⟩
theorem AB.cons{k:κ}{d:PyData}{v:V}{kvs:List (κ×PyData)}{vvs:List (κ×V)}(r:Rep K F d v)(q:AB K F kvs vvs):AB K F ((k,d)::kvs) ((k,v)::vvs) :=
 ⟨by rw[An,An,q.1],by rw[An,An];exact .cons r q.2⟩
theorem AB.inv{kvs:List (κ×PyData)}{vvs:List (κ×V)}(q:AB K F kvs vvs):(kvs=[]/\vvs=[])\/∃k d v kvs' vvs',kvs=(k,d)::kvs'/\vvs=(k,v)::vvs'/\Rep K F d v/\AB K F kvs' vvs':=by
 cases kvs with
 |nil =>
  cases vvs with
  |nil=>exact .inl ⟨rfl,rfl⟩
  |cons p r=>exact absurd q.1 (by simp)
 |cons p kvs' =>
  cases vvs with
  |nil=>exact absurd q.1 (by simp)
  |cons p' vvs' =>
   obtain⟨k,d⟩:=p;obtain⟨k',v⟩:=p';obtain⟨q1,q2⟩:=q;rw[An,An]at q1 q2;injection q1 with e1 e2
   have e1:k=k':=e1;subst e1;obtain⟨v',us,e3,r1,r2⟩:=q2.cons_inv;injection e3 with e3 e4
   refine .inr ⟨k,d,v,kvs',vvs',rfl,rfl,?_,e2,?_⟩
   .rw[show v=v' from e3];exact r1
   .rw[e4];exact r2
theorem AB.len{kvs:List (κ×PyData)}{vvs:List (κ×V)}(q:AB K F kvs vvs):BX kvs=vvs.length:=by
 have:=congrArg BX q.1
 rwa [Ap,Ap]at this
theorem AB.any{kvs:List (κ×PyData)}{vvs:List (κ×V)}(k:κ)(q:AB K F kvs vvs):(kvs.any λp=>decide (p.1=k))=vvs.any λp=>decide (p.1=k):=by
 have e:∀{β:Type} (l:List (κ×β)),(l.any λp=>decide (p.1=k))=(l.map (·.1)).any λx=>decide (x=k):=λl=>by rw[List.any_map];rfl
 rw[e,e,q.1]
theorem AB.repl{d:PyData}{v:V}(k:κ)(r:Rep K F d v):∀{kvs:List (κ×PyData)} {vvs:List (κ×V)},AB K F kvs vvs->AB K F (kvs.map λp=>if p.1=k then(p.1,d)else p) (vvs.map λp=>if p.1=k then(p.1,v)else p)
 |[],vvs,q=>by
  rcases q.inv with⟨_,e⟩|⟨_,_,_,_,_,e,_⟩
  .subst e;exact .nil
  .cases e
 |p::kvs,vvs,q=>by
  rcases q.inv with⟨e,_⟩|⟨k',d',v',kvs',vvs',e1,e2,r1,r2⟩
  .cases e
  .cases e1
   subst e2;have ih:=AB.repl k r r2;rw[An,An]
   by_cases h:k'=k
   .rw[if_pos h,if_pos h];exact .cons r ih
   .rw[if_neg h,if_neg h];exact .cons r1 ih
theorem AB.snoc{kvs:List (κ×PyData)}{vvs:List (κ×V)}{k:κ}(q:AB K F kvs vvs)(r:Rep K F d v):AB K F (kvs++[(k,d)]) (vvs++[(k,v)]) :=
 ⟨by rw[BU,BU,q.1];rfl,by rw[BU,BU];exact q.2.append (.one r)⟩
theorem AB.put{kvs:List (κ×PyData)}{vvs:List (κ×V)}(q:AB K F kvs vvs)(k:κ)(r:Rep K F d v):AB K F (HM.eI kvs k d) (av vvs k v):=by
 unfold HM.eI av;rw[q.any k]
 by_cases h:(vvs.any λp=>decide (p.1=k))=Y
 .rw[if_pos h,if_pos h];exact q.repl k r
 .rw[if_neg h,if_neg h];exact q.snoc r
theorem AB.look{k:κ}:∀{kvs:List (κ×PyData)} {vvs:List (κ×V)},AB K F kvs vvs->(∀d,HM.ZL kvs k=Z d->∃v,Aq vvs k=Z v/\Rep K F d v)/\(HM.ZL kvs k=U->Aq vvs k=U)
 |[],vvs,q=>by
  rcases q.inv with⟨_,e⟩|⟨_,_,_,_,_,e,_⟩
  .subst e;exact⟨λd h=>(by cases h),λ_=>rfl⟩
  .cases e
 |p::kvs,vvs,q=>by
  rcases q.inv with⟨e,_⟩|⟨k',d',v',kvs',vvs',e1,e2,r1,r2⟩
  .cases e
  .cases e1
   subst e2;obtain⟨i1,i2⟩:=AB.look (k:=k) r2
   by_cases h:k'=k
   .have e3:HM.ZL ((k',d')::kvs) k=Z d':=by simp[HM.ZL,BV,h]
    rw[e3,Es (p:=(k',v')) h];exact⟨λd hd=>(by cases hd;exact⟨v',rfl,r1⟩),λhd=>by cases hd⟩
   .have e3:HM.ZL ((k',d')::kvs) k=HM.ZL kvs k:=by simp[HM.ZL,BV,h]
    rw[e3,Er (p:=(k',v')) h];exact⟨i1,i2⟩
end
section
variable{K:Ad}{F:Hp}
theorem J9{k:YS}(h:HM.HZ d=Z k)(r:Rep K F d v):v=kV k:=by cases r<;>first|(cases h;rfl)|cases h
theorem Oe:∀{ds:mE} {ks:List YS} {vs:List V},HM.WI ds=Z ks->Zu K F ds vs->vs=ks.map kV
 |[],ks,vs,h,r=>by cases h;exact r.nil_inv
 |d::ds,ks,vs,h,r=>by
  obtain⟨v,us,rfl,r1,r2⟩:=r.cons_inv;unfold HM.WI at h;split at h
  .rename_i k hk
   obtain⟨ks',h1,h2⟩:=Ao.mp h;subst h2;rw[J9 hk r1,Oe h1 r2];rfl
  .cases h
theorem NB:∀{ds:mE} {ks:List YS},HM.Nk ds=Z ks->HM.WI ds=Z ks
 |[],ks,h=>h
 |d::ds,ks,h=>by
  unfold HM.Nk at h;split at h
  .cases ‹_=[]›
  .rename_i i r e
   injection e with e1 e2
   subst e1 e2;obtain⟨ks',h1,h2⟩:=Ao.mp h;subst h2;show(match HM.HZ (.int i)with|some k=>(HM.WI ds).map (k::·)|none=>U)=_;rw[NB h1];rfl
  .cases h
theorem Ia{ks:List YS}(h:HM.HW d=Z ks)(r:Rep K F d v):∃b,v=.ref b/\F b=Z (.tup (ks.map kV)):=by
 cases r with
 |tup h1 h2 h3=>refine⟨_,rfl,?_⟩;rw[<-Oe (NB h) ⟨h2,h3⟩];exact h1
 |tupk _=>cases h
 |lst _ _ _=>cases h
 |dct _ _ _ _=>cases h
 |fn _=>cases h
 |non=>cases h
 |bl _=>cases h
 |int _=>cases h
 |str _=>cases h
end
section
variable{X:Cx}{a b c e:Expr}{fa fb fc:HM.EF}{pos p:Pos}{f:HM.BF}
theorem fresh_one{K:Ad}{F H F1 H1:Hp}{o:HO}{q:HM.B}{l:Addr}{P:V->Hp->Hp->Prop}(x1:YR F H F1 H1)(hl:H1 l=U)(hq:Z5 K F1 (upd H1 l o) q (.ref l) [l])(k:∀v F' H',YR F H F' H'->(∃fp,Z5 K F' H' q v fp/\fp.Nodup/\∀a∈fp,F' a=U/\H a=U)->P v F' H'):P (.ref l) F1 (upd H1 l o):=by
 refine k _ F1 _ (x1.lay' hl) ⟨[l],hq,by simp,λa ha=>?_⟩;obtain rfl:a=l:=by simpa using ha
 exact⟨x1.sub.free hl,x1.hh.free hl⟩
theorem JR:XF X (.Dict [] [] pos) HM.hJ:=by intro r d h;cases h;exact PE.imp Te λL H Q ⟨F0,H0,F,at_,k⟩ l hl=>fresh_one (P:=λv _ H'=>Q v H') at_.refl hl (.ok Zq rfl .nil) k
theorem Rx:XF X (.Dict [] [] pos) HM.QC:=by intro r d h;cases h;exact PE.imp SV λL H Q ⟨F0,H0,F,at_,k⟩ l hl=>fresh_one (P:=λv _ H'=>Q v H') at_.refl hl (.otl Zq rfl rfl λi ds l' h=>by simp at h) k
end
end
section
variable{q:HM.B}{r:HM.Env}{F H:Hp}{i:Nat}{p1:Pos}{K:Ad}{x:Str}
theorem At.chgOne{F0 H0:Hp}{L:L2.St}{l:Addr}(e:At K F0 H0 F H r L)(h:r[i]?=Z (Z q))(hv:L[i]?=Z (Z (.ref l)))(iD:∀v fp,Z5 K F H q v fp->∃a,v=.ref a/\fp=[a]):∀o q',Z5 K F (upd H l o) q' (.ref l) [l]->At K F0 H0 F (upd H l o) (r.set i (Z q')) L:=by
 intro o q' hq;obtain⟨fp,e⟩:=e;obtain⟨v,h1,h2⟩:=e.at_ i _ h;obtain⟨a,e1,e2⟩:=iD v _ h2;subst e1;rw[hv]at h1;cases h1;refine e.change (fp':=[l]) hv hq (by simp) (λc hc=>.inl (by rw[e2];exact hc)) λc o' z hn=>?_;rw[Zo (λz=>hn (by rw[e2,z];simp))];exact z
section
variable{X:Cx}{a b c e:Expr}{fa fb fc:HM.EF}{pos p:Pos}{f:HM.BF}
theorem Gu{n:Nat}(h:n<HM.big):n<sizeLine:=by
 have e5:(1000000:Nat)<=sizeLine:=by decide
 unfold HM.big at h;omega
theorem Np(hu:X.A.units+1<cLine)(i:Nat){p2:Pos}(hk:XE X b fb)(ha:XE X a fa)(hN:X.N[i]?=Z x:=by rfl)(hv:br X.env.scope x:=by first|exact Ah rfl|exact Af (Ah rfl)|exact Af (Af rfl))(hd:(x==("__debug__":Str))=Ab:=by decide)(Y7:(x==("__classdict__":Str))=Ab:=by decide)(hs:Bj a (Z (.Subscript (.Name x p1) b p2)) pos.line X.env=pure Ab:=by rfl):XS X (.Assign [.Subscript (.Name x p1) b p2] a pos) (HM.Ng i fb fa):=by
 intro r o h;unfold HM.Ng at h;split at h
 .rename_i d hd'
  split at h
  .rename_i y hy
   split at h
   .rename_i kvs hb
    split at h
    .rename_i k hk'
     split at h
     .rename_i hz
      cases h;refine PS.impN (Nr hu (ZS hN hv hd Y7) (hk r y hy) (ha r d hd') hs) λE L H F0 H0 F at_ kk=>?_;refine⟨F0,H0,F,at_,λv F1 H1 x1 r1=>?_⟩;have ck:=at_.grow x1;obtain⟨u,fp,e1,e2⟩:=ck.any hb;refine⟨u,e1,F0,H0,F1,ck,λw F2 H2 x2 r2=>?_⟩;have bR:=ck.grow x2;cases e2 with
      | @ok l _ vvs e2 e3 e4=>have T:AB X.K F2 kvs vvs:=⟨e3,e4.mono x2.ff⟩;have T':=T.put k (r1.mono x2.ff);rw[J9 hk' r2];have hH:H2 l=Z (.dK vvs):=x2.hh _ _ e2;refine⟨l,_,rfl,Dv.k hH (by rw[<-T.len];exact Gu hz),kk _ F2 _ (bR.chgOne hb e1 (λv fp q=>by cases q;exact⟨_,rfl,rfl⟩) _ _ (.ok Zq T'.1 T'.2))⟩
     .cases h
    .cases h
   .rename_i kvs hb
    split at h
    .rename_i k hk'
     split at h
     .rename_i hz
      cases h;refine PS.impN (Nr hu (ZS hN hv hd Y7) (hk r y hy) (ha r d hd') hs) λE L H F0 H0 F at_ kk=>?_;refine⟨F0,H0,F,at_,λv F1 H1 x1 r1=>?_⟩;have ck:=at_.grow x1;obtain⟨u,fp,e1,e2⟩:=ck.any hb;refine⟨u,e1,F0,H0,F1,ck,λw F2 H2 x2 r2=>?_⟩;have bR:=ck.grow x2;cases e2 with
      | @ot l _ vvs e2 e3 e4=>have T:AB X.K F2 kvs vvs:=⟨e3,e4.mono x2.ff⟩;have T':=T.put k (r1.mono x2.ff);obtain⟨bb,rfl,cL⟩:=Ia hk' r2;have hH:H2 l=Z (.dT vvs):=x2.hh _ _ e2;refine⟨l,_,rfl,Dv.t hH (x2.sub _ _ cL) (by rw[<-T.len];exact Gu hz),kk _ F2 _ (bR.chgOne hb e1 (λv fp q=>by cases q;exact⟨_,rfl,rfl⟩) _ _ (.ot Zq T'.1 T'.2))⟩
     .cases h
    .cases h
   .cases h
  .cases h
 .cases h
theorem Kn{K:Ad}{F H:Hp}(k:List YS):∀(kvs:List (List YS×mE)) (vvs:List (List YS×V)) (ls:List Addr),kvs.map (·.1)=vvs.map (·.1)->vvs.map (·.2)=ls.map V.ref ->(∀(i:Nat) (ds:mE) (l:Addr),(kvs.map (·.2))[i]?=Z ds->ls[i]?=Z l->∃vs,H l=Z (.lst vs)/\Zu K F ds vs) ->(∀ds,HM.ZL kvs k=Z ds->∃l' vs,Aq vvs k=Z (.ref l')/\l'∈ls/\H l'=Z (.lst vs)/\Zu K F ds vs)/\(HM.ZL kvs k=U->Aq vvs k=U)
 |[],[],_,_,_,_=>⟨(λds h=>by cases h),λ_=>rfl⟩
 |[],_::_,_,hk,_,_=>by simp at hk
 |_::_,[],_,hk,_,_=>by simp at hk
 |_::_,_::_,[],_,hv,_=>by simp at hv
 |(k1,ds1)::kvs,(k2,v2)::vvs,l1::ls,hk,hv,r=>by
  rw[An,An]at hk hv;injection hk with e1 e2
  injection hv with e3 e4
  have e1:k1=k2:=e1;have e3:v2=.ref l1:=e3;subst e1 e3;obtain⟨i1,i2⟩:=Kn k kvs vvs ls e2 e4 λi ds l h1 h2=>r (i+1) ds l (by simpa using h1) (by simpa using h2)
  by_cases hkk:k1=k
  .have e5:HM.ZL ((k1,ds1)::kvs) k=Z ds1:=by simp[HM.ZL,BV,hkk]
   rw[e5,Es (p:=(k1,V.ref l1)) hkk];obtain⟨vs,q1,q2⟩:=r 0 ds1 l1 rfl rfl;exact⟨(λds h=>by cases h;exact⟨l1,vs,rfl,by simp,q1,q2⟩),(λh=>by cases h)⟩
  .have e5:HM.ZL ((k1,ds1)::kvs) k=HM.ZL kvs k:=by simp[HM.ZL,BV,hkk]
   rw[e5,Er (p:=(k1,V.ref l1)) hkk];exact⟨λds h=>let ⟨l',vs,a1,a2,a3⟩:=i1 ds h;⟨l',vs,a1,AQ _ a2,a3⟩,i2⟩
theorem S0{kvs:List (List YS×mE)}{v:V}{fp:List Addr}(q:Z5 K F H (.otl kvs) v fp):∃l vvs ls,v=.ref l/\fp=l::ls/\H l=Z (.dT vvs)/\kvs.map (·.1)=vvs.map (·.1)/\vvs.map (·.2)=ls.map V.ref /\ ∀k,(∀ds,HM.ZL kvs k=Z ds->∃l' vs,Aq vvs k=Z (.ref l')/\l'∈ls/\H l'=Z (.lst vs)/\Zu K F ds vs)/\(HM.ZL kvs k=U->Aq vvs k=U):=by
 cases q with
 | @otl l _ vvs ls h hk hv r=>exact⟨l,vvs,ls,rfl,rfl,h,hk,hv,λk=>Kn k kvs vvs ls hk hv r⟩
theorem SG(h:HM.UX i fa r=Z q):∃x bb,fa r=Z x/\r[i]?=Z (Z bb) /\ ((∃kvs k d,bb=.ok kvs/\HM.HZ x=Z k/\HM.ZL kvs k=Z d/\q=.pl d)\/(∃kvs k d,bb=.ot kvs/\HM.HW x=Z k/\HM.ZL kvs k=Z d/\q=.pl d)\/∃kvs k ds,bb=.otl kvs/\HM.HW x=Z k/\HM.ZL kvs k=Z ds/\q=.ol ds):=by
 unfold HM.UX at h;split at h
 .rename_i x hx
  split at h
  .rename_i kvs hb
   split at h
   .rename_i k hk
    obtain⟨d,h1,h2⟩:=Ao.mp h;exact⟨x,_,hx,hb,.inl ⟨kvs,k,d,rfl,hk,h1,h2.symm⟩⟩
   .cases h
  .rename_i kvs hb
   split at h
   .rename_i k hk
    obtain⟨d,h1,h2⟩:=Ao.mp h;exact⟨x,_,hx,hb,.inr (.inl ⟨kvs,k,d,rfl,hk,h1,h2.symm⟩)⟩
   .cases h
  .rename_i kvs hb
   split at h
   .rename_i k hk
    obtain⟨d,h1,h2⟩:=Ao.mp h;exact⟨x,_,hx,hb,.inr (.inr ⟨kvs,k,d,rfl,hk,h1,h2.symm⟩)⟩
   .cases h
  .cases h
 .cases h
theorem Rw(hu:X.A.units+1<cLine)(i:Nat)(hk:XE X b fb)(hN:X.N[i]?=Z x:=by rfl)(hv:br X.env.scope x:=by first|exact Ah rfl|exact Af (Ah rfl)|exact Af (Af rfl))(hd:(x==("__debug__":Str))=Ab:=by decide)(Y7:(x==("__classdict__":Str))=Ab:=by decide)(hs:JE b:=by intro _ _;rfl):XB X (.Subscript (.Name x p1) b pos) (HM.UX i fb):=by
 intro r q h;obtain⟨y,bb,h1,h2,h3⟩:=SG h;refine PE.impN (Sd hu (ZS hN hv hd Y7) (hk r y h1) hs) λL H Q F0 H0 F at_ kk=>?_;obtain⟨u,fp,e1,e2⟩:=at_.any h2;refine⟨u,e1,F0,H0,F,at_,λw F2 H2 x2 r2=>?_⟩;have e2':=e2.mono x2.ff λ_ _ _ z=>x2.hh _ _ z;rcases h3 with⟨kvs,k,d,rfl,hk',hl,rfl⟩|⟨kvs,k,d,rfl,hk',hl,rfl⟩|⟨kvs,k,ds,rfl,hk',hl,rfl⟩
 .cases e2' with
  | @ok l _ vvs g1 g2 g3=>obtain⟨v,q1,q2⟩:=(AB.look (k:=k) (K:=X.K) (F:=F2) ⟨g2,g3⟩).1 d hl;rw[J9 hk' r2];exact⟨l,v,rfl,by rw[<-q1];exact BJ.k g1,kk v F2 H2 x2 ⟨[],.pl q2⟩⟩
 .cases e2' with
  | @ot l _ vvs g1 g2 g3=>obtain⟨v,q1,q2⟩:=(AB.look (k:=k) (K:=X.K) (F:=F2) ⟨g2,g3⟩).1 d hl;obtain⟨bb',rfl,cL⟩:=Ia hk' r2;exact⟨l,v,rfl,by rw[<-q1];exact BJ.t g1 (x2.sub _ _ cL),kk v F2 H2 x2 ⟨[],.pl q2⟩⟩
 .obtain⟨l,vvs,ls,rfl,_,g1,_,_,kP⟩:=S0 e2'
  obtain⟨l',vs,q1,_,q2,q3⟩:=(kP k).1 ds hl;obtain⟨bb',rfl,cL⟩:=Ia hk' r2;exact⟨l,_,rfl,by rw[<-q1];exact BJ.t g1 (x2.sub _ _ cL),kk _ F2 H2 x2 ⟨[l'],.ol q2 q3⟩⟩
end
end
section
variable{p:Addr}{env:Env}{r:HM.Env}{F F0 H H0:Hp}{L:L2.St}{K:Ad}{scope:Scope}
noncomputable abbrev No:Value->Shared->Prop:=λ_ _=>False
noncomputable abbrev Nt(aU:List Expr)(env:Env):Sem Bool :=
 forIn aU Y λc r=>if r=Y then do let ok <-isTrue c env (eval c env);pure (He ok)else pure (He r)
theorem Ug{prog:Program}{w:World}{A:Around}{R:Result->Shared->Prop}{s:Shared}{bC aJ iter:Expr}{aU:List Expr}{pos:Pos}{it acc:Value}(J:Nat->Shared->Prop)
  (cp:∀n s,J n s->wpAny (model prog w) A (pyNext it) (λr s1=>match r with
   |none=>R (.ok .next) s1
   |some v=>wpAny (model prog w) A (Hf aJ it v) (λ_ s2=>wpAny (model prog w) A (assign aJ env v) (λ_ s3=>wpAny (model prog w) A (Nt aU env) (λok s4=>if ok=Y then wpAny (model prog w) A (eval bC env) (λx s5=>wpAny (model prog w) A (call (.builtin "list.append") [acc,x]) (λ_ s6=>∃m,m<n/\J m s6) No s5) No s4 else ∃m,m<n/\J m s4) No s3) No s2) No s1) No s)
  (n:Nat)(h:J n s):codeAny (model prog w) A (.compLoop (.ListComp bC [⟨aJ,iter,aU,0⟩] scope pos) 0 it acc env) R s:=by
 refine codeAny_loop rfl J (λn s hI=>?_) n h;show wpAny _ A ((compTurn (.ListComp bC [⟨aJ,iter,aU,0⟩] scope pos) 0 it acc env).onRaise (λx=>do noteFrame x env;theTreesLotGoes x)) _ _ s;refine wpAny_noted ?_;rw[compTurn_list];refine Ac (Hm (Ac (Ax (cp n s hI) (λr s1 h1=>?_) λ_ _ z=>z.elim)));cases r with
 |none=>exact Ag h1
 |some v =>
  refine Ac (Ax h1 (λ_ s2 h2=>Ac (Ax h2 (λ_ s3 h3=>Ac (Ax h3 (λok s4 h4=>?_) λ_ _ z=>z.elim)) λ_ _ z=>z.elim)) λ_ _ z=>z.elim);cases ok with
  |false=>exact Ag ⟨rfl,h4⟩
  |true=>refine Ac (Ac (Ax h4 (λx s5 h5=>?_) λ_ _ z=>z.elim));exact Ac (Ax h5 (λ_ s6 h6=>Ag (Ag ⟨rfl,h6⟩)) λ_ _ z=>z.elim)
noncomputable def ZT(X:Cx)(N:mI)(scope:Scope)(cl:List (Str×Addr))(C:Addr)(s₀:Shared)(H₀:Hp)(ex:List Addr):Cx where
 prog:=X.prog
 w:=X.w
 K:=X.K
 mg:=X.mg
 base:=X.base
 A:=X.A
 N:=N
 s₀:=s₀
 H₀:=H₀
 env:=compEnvC scope cl C X.env
 outer:=X.stack
 stack:=X.stack
 ex:=ex
 fn:=λ_=>Ab
 calm:=Y
 pn:=[]
 xe:=λ_ _=>False
theorem Kp{env:Env}:∀(names:List (Str×NameKind)) (cs:List (Str×Addr)),(∀y∈names,y.2=.free->∃c,env.cells.lookup y.1=Z c)->(∀x c,cs.lookup x=Z c->env.cells.lookup x=Z c) ->∃cl,(forIn names cs λ(x:Str×NameKind) r=>(match x with|(name,kind)=>if kind==.free then do let c <-cellOf env name;pure (He ((name,c)::r))else pure (He r):Sem (ForInStep (List (Str×Addr)))))=pure cl /\ (∀x c,cl.lookup x=Z c->env.cells.lookup x=Z c)/\(∀x,(cs.lookup x).isSome=Y->(cl.lookup x).isSome=Y)/\∀y∈names,y.2=.free->(cl.lookup y.1).isSome=Y
 |[],cs,_,h2=>⟨cs,rfl,h2,λ_ h=>h,λy hy=>by simp at hy⟩
 |(n,k)::r,cs,h1,h2=>by
  rw[Je]
  by_cases hk:(k==ER)=Y
  .obtain⟨c,hc⟩:=h1 (n,k) (A9 ..) (by simpa using hk)
   have ec:cellOf env n=pure c:=by unfold cellOf;rw[hc]
   obtain⟨cl,e1,e2,e3,e4⟩:=Kp r ((n,c)::cs) (λy hy=>h1 y (AQ _ hy)) (λx d hx=>by
    rw[Dq]at hx;split at hx
    .rename_i hb
     have:x=n:=by simpa using hb
     cases hx;rw[this];exact hc
    .exact h2 x d hx)
   refine⟨cl,?_,e2,λx hx=>e3 x ?_,λy hy hf=>?_⟩
   .simp only[hk,if_true,ec,pure_bind]
    exact e1
   .rw[Dq]
    split
    .rfl
    .exact hx
   .rcases Ak.mp hy with e|hy
    .subst e
     exact e3 n (by rw[Dq];simp)
    .exact e4 y hy hf
  .obtain⟨cl,e1,e2,e3,e4⟩:=Kp r cs (λy hy=>h1 y (AQ _ hy)) h2
   refine⟨cl,?_,e2,e3,λy hy hf=>?_⟩
   .simp only[hk,if_false,pure_bind,FY]
    exact e1
   .rcases Ak.mp hy with e|hy
    .subst e
     exact absurd (by simpa using hf) hk
    .exact e4 y hy hf
theorem Ws(h:∀y∈scope.names,y.2=.free->∃c,env.cells.lookup y.1=Z c):∃cl,closureFor scope env=pure cl/\(∀x c,cl.lookup x=Z c->env.cells.lookup x=Z c)/\∀y∈scope.names,y.2=.free->(cl.lookup y.1).isSome=Y:=by
 obtain⟨cl,e1,e2,_,e4⟩:=Kp (env:=env) scope.names [] h (λx c hx=>by simp at hx);refine⟨cl,?_,e2,e4⟩;unfold closureFor;exact(congrArg (λm:Sem (List (Str×Addr))=>m >>= λcs=>pure cs) e1).trans (pure_bind cl λcs=>pure cs)
theorem YR.chg{F' H':Hp}(x:YR F H F' H')(o:HO)(h1:H p=U)(h2:F' p=U)(h3:∀u,H' p=Z u->EX u=Y):YR F H F' (upd H' p o) :=
 ⟨x.ff,λb q z=>by
  have hb:b≠p:=BA z h1;have y:=x.hh b q z;unfold BM at y ⊢;rw[Zo hb];exact y,λb q z=>by rw[Zo (BA z h2)];exact x.sub b q z,x.new,λt=>(x.tab t).keep λa u z hu=>by
   have ha:a≠p:=λe=>by subst e;exact MV (h3 u z) hu
   rw[Zo ha];exact z,x.nts⟩
theorem At.push{d:PyData}{v:V}(e:At K F0 H0 F H r L)(q:Rep K F d v):At K F0 H0 F H (Z (.pl d)::r) (Z v::L):=by
 obtain⟨fp,e⟩:=e;refine⟨λi=>match i with|0=>[]|i+1=>fp i,e.ext,by rw[A8,A8,e.len],λi b h=>?_,λi h=>?_,λi a h=>?_,λi=>?_,λi j a bB h=>?_,e.tb,e.nt⟩
 .cases i with
  |zero=>rw[Jp]at h;cases h;exact⟨v,rfl,.pl q⟩
  |succ i=>rw[B2]at h;obtain⟨u,h1,h2⟩:=e.at_ i b h;exact⟨u,by rw[B2];exact h1,h2⟩
 .cases i with
  |zero=>rfl
  |succ i=>exact e.emp i λb z=>h b (by rw[B2];exact z)
 .cases i with
  |zero=>simp at h
  |succ i=>exact e.own i a h
 .cases i with
  |zero=>exact EK
  |succ i=>exact e.nd i
 .cases i with
  |zero=>simp at h
  |succ i =>
   cases j with
   |zero=>simp
   |succ j=>exact e.dis i j a (by omega) h
theorem At.chgNew(o:HO){Hs Fs:Hp}(e:At K F0 H0 F H r L)(es:At K F0 H0 Fs Hs r L)(hs:AM Hs H)(h1:Hs p=U)(h2:F p=U)(h3:∀u,H p=Z u->EX u=Y):At K F0 H0 F (upd H p o) r L:=by
 obtain⟨fp,e⟩:=e;obtain⟨fq,es⟩:=es;have hp:∀i,¬p∈fp i:=λi hm=>by
  obtain⟨b,hb⟩:=e.bound hm;obtain⟨v,q1,q2⟩:=e.at_ i b hb;obtain⟨v',q3,q4⟩:=es.at_ i b hb;rw[q1]at q3;cases q3;generalize fp i=f1 at q2 hm;generalize fq i=f2 at q4;cases q2 with
  |pl _=>simp at hm
  |hd _ _ _ _=>simp at hm
  |hf _=>simp at hm
  |ol k _=>cases q4 with|ol k' _=>simp at hm;subst hm;rw[h1]at k';cases k'
  |ok k _ _=>cases q4 with|ok k' _ _=>simp at hm;subst hm;rw[h1]at k';cases k'
  |ot k _ _=>cases q4 with|ot k' _ _=>simp at hm;subst hm;rw[h1]at k';cases k'
  |otl k _ v1 _ =>
   cases q4 with
   |otl k' hk' v2 r2' =>
    have eo:=hs.back k' k λ_ z=>by cases z
    cases eo;have v2':=v2;rw[v1]at v2;rcases Ak.mp hm with z2|z2
    .subst z2;rw[h1]at k';cases k'
    .have:V.ref p∈Fx V.ref _:=CK.mpr ⟨p,z2,rfl⟩
     rw[v2]at this;obtain⟨a',m1,m2⟩:=CK.mp this;injection m2 with m2
     subst m2;obtain⟨o,ho⟩:=Z5.there (Z5.otl k' hk' v2' r2') (AQ _ m1);rw[h1]at ho;cases ho
 have lM:H0 p=U:=es.ext.hh.free h1;refine⟨fp,e.ext.chg o lM h2 h3,e.len,λi b h=>?_,e.emp,e.own,e.nd,e.dis,e.tb,e.nt⟩;obtain⟨v,q1,q2⟩:=e.at_ i b h;refine⟨v,q1,q2.mono (Zs.refl F) λa ha o' z=>?_⟩;have ag:a≠p:=λe=>hp i (by rw[<-e];exact ha);exact .of (by rw[Zo ag];exact z)
end
section
variable{H H1:Hp}{L:L2.St}{YK:mG}{fp:List Addr}{s s2:Shared}
structure Cw(X:Cx)(N:mI)(scope:Scope)(fr:mI):Prop where
 kind:scope.kind=.function
 cell:∀y∈scope.names,y.2≠.cell
 names:∀y∈scope.names,y.2=.local->scope.names.lookup y.1=Z .local
 loc:∀x∈fr,scope.names.lookup x=Z .local
 first:∀(i:Nat) (x:Str),fr[i]?=Z x->N[i]?=Z x
 nd:N.Nodup
 len:BX N=X.N.length+BX fr
 cap:∀y∈scope.names,y.2=.free->X.env.kindOf y.1=Z .cell\/X.env.kindOf y.1=Z .free
 same:∀(i:Nat) (y:Str),N[i+BX fr]?=Z y->scope.names.lookup y=Z .free->X.N[i]?=Z y
 vis:∀(i:Nat) (y:Str),N[i+BX fr]?=Z y->br scope y->scope.names.lookup y=Z .free
noncomputable def b9(bD:PyData->Option mE)(c:HM.TF)(e:HM.EF)(r:HM.Env):mE->Option mE
 |[]=>Z []
 |x::xs=>match bD x with
  |some ys=>match c (ys.map (λd=>Z (HM.B.pl d))++r)with
   |some Y=>match e (ys.map (λd=>Z (HM.B.pl d))++r)with
    |some y=>(b9 bD c e r xs).map (y::·)
    |none=>U
   |some Ab=>b9 bD c e r xs
   |none=>U
  |none=>U
noncomputable def E6(bD:PyData->Option mE)(i:HM.IF)(c:HM.TF)(e:HM.EF):HM.BF:=λr=>match i r with
 |some xs=>if xs.length<HM.big then(b9 bD c e r xs).map λys=>HM.B.ol ys else U
 |none=>U
noncomputable def HI(mq:Cx)(m:Nat)(tg:Expr)(bD:PyData->Option mE):Prop:=∀(YK:mG) (s:Shared) (L:L2.St) (sv:List (Option V)) (H F:Hp) (d:PyData) (ys:mE) (xv:V) (u:Value),BX sv=m->Inv mq YK (sv++L) H s->RelV xv u->Zs F H->Rep mq.K F d xv->bD d=Z ys ->
 wpAny (model mq.prog mq.w) mq.A (assign tg mq.env u) (λ_ s'=>∃vs:List V,BX vs=m/\Inv mq YK (vs.map Z++L) H s'/\Zu mq.K F ys vs) mq.xe s
theorem At.pushes{K:Ad}{F0 H0 F H:Hp}{r:HM.Env}{L:L2.St}:∀{ds:mE} {vs:List V},At K F0 H0 F H r L->Zu K F ds vs->At K F0 H0 F H (ds.map (λd=>Z (HM.B.pl d))++r) (vs.map Z++L)
 |[],vs,e,q=>by rw[q.nil_inv];exact e
 |d::ds,vs,e,q=>by obtain⟨v,us,rfl,r1,r2⟩:=q.cons_inv;exact(At.pushes e r2).push r1
section
variable{X:Cx}{N:mI}{scope:Scope}{fr:mI}{cl:List (Str×Addr)}{C:Addr}
theorem Fj{env:Env}{y:Str}{k:NameKind}:∀{names:List (Str×NameKind)},(names.map λ(n,k)=>if(k==ER&&env.scope.kind==.function&&env.kindOf n==Z .cell)then(n,NameKind.cell)else(n,k)).lookup y=Z k ->names.lookup y=Z k\/(k=.cell/\names.lookup y=Z .free)
 |[],h=>by simp at h
 |(n,k')::r,h=>by
  have ih:=@Fj env y k r;rw[An]at h;dsimp only at h
  by_cases hc:(k'==ER&&env.scope.kind==.function&&env.kindOf n==Z .cell)=Y
  .rw[if_pos hc,Dq]at h
   rw[Dq];split at h
   .cases h
    refine .inr ⟨rfl,?_⟩;have:(k'==ER)=Y:=by rw[Av,Av]at hc;exact hc.1.1
    rw[show k'=ER by simpa using this]
   .exact ih h
  .rw[if_neg hc,Dq]at h
   rw[Dq];split at h
   .cases h
    exact .inl rfl
   .exact ih h
theorem Y4{y:Str}{k:NameKind}:∀{names:List (Str×NameKind)},names.lookup y=Z k->(y,k)∈names
 |[],h=>by simp at h
 |(n,k')::r,h=>by
  rw[Dq]at h;split at h
  .cases h
   rename_i hb;rw[show y=n by simpa using hb];exact A9 ..
  .exact AQ _ (Y4 h)
theorem Rb(T:Cw X N scope fr)(aF:∀y c,cl.lookup y=Z c->X.env.cells.lookup y=Z c)(aZ:∀y∈scope.names,y.2=.free->(cl.lookup y.1).isSome=Y)(I:Inv X YK L H s)(hc:X.calm=Y)(hf:∀b∈fp,BZ X YK H b)(c7:∀b∈fp,b<s.heap.objs.size)(hC:s.heap.objs.size<=C):(ZT X N scope cl C s H fp).Ok:=by
 refine⟨I.ok.mod,T.kind,I.ok.glob,I.ok.blt,hC,λy z c h1 h2=>I.ok.inj y z c (aF y c h1) (aF z c h2),λy h=>?_,λy c h=>?_,λ_=>I.ok.hd hc,I.ok.frames,.inl rfl,λb hb=>⟨?_,λy c h=>?_⟩,λb o h=>I.bs b o h,
  Bi I.ok.bsz I.sz,λb o h hb=>?_,λb hb hs=>?_,I.stack,I.stkFree⟩
 .have h':(relabel scope X.env).names.lookup y=Z .cell\/(relabel scope X.env).names.lookup y=Z .free:=h
  have hm:(y,ER)∈scope.names:=by
   rcases h' with h'|h'
   .rcases Fj h' with q|⟨_,q⟩
    .exact absurd rfl (T.cell _ (Y4 q))
    .exact Y4 q
   .rcases Fj h' with q|⟨e,_⟩
    .exact Y4 q
    .cases e
  exact Jr.mp (aZ _ hm rfl)
 .exact absurd h (by show ¬Ab=Y;simp)
 .exact Am (AW (c7 b hb) hC)
 .obtain⟨_,_,_,_,q,_⟩:=hf b hb
  exact q y c (aF y c h)
 .obtain⟨_,_,_,q,_⟩:=hf b hb
  rcases q with q|q
  .exact I.ok.noex b o h q
  .exact absurd (AW (Ai h) (Bi I.ok.bsz q)) (DZ _)
 .obtain⟨_,q1,q2,_⟩:=hf b hb
  rcases Ak.mp (I.stkSub b hs)with z|z
  .exact q1 z
  .exact q2 z
theorem Tz{D:Addr}{h1:Heap}{tk:Nat}(T:Cw X N scope fr)(aF:∀y c,cl.lookup y=Z c->X.env.cells.lookup y=Z c)(aZ:∀y∈scope.names,y.2=.free->(cl.lookup y.1).isSome=Y)(I:Inv X YK L H s)(hc:X.calm=Y)(hf:∀b∈fp,BZ X YK H b)(c7:∀b∈fp,b<s.heap.objs.size)(hD:s.heap.objs.size=D)(hC:D<C)(ns:h1.Ns C (λ_=>U))(hl:h1.get? D=Z {cls:=.type "list",data:=.seq #[] 0})(k:∀b o,s.heap.get? b=Z o->h1.get? b=Z o):Inv (ZT X N scope cl C s H fp) [] (CM fr.length U++L) (upd H D (.lst [])) {s with heap:=h1,toks:=tk}:=by
 have hn:H D=U:=I.hok.fresh (EC hD);have dy:s.heap.objs.size<=C:=Bi (EC hD) (EO hC);have fM:H C=U:=I.hok.fresh dy;refine⟨Rb T aF aZ I hc hf c7 dy,rfl,I.bare,Un.laid k (EC hD) hn,⟨_,ns,λi y v e1 e2 e3=>?_⟩,λy c h=>?_,?_,λy c h=>?_,λp hp=>absurd (show p∈([]:mG) from hp) (by simp),I.hok.laid k (EC hD) ⟨CP _,[],0,.nil,hl⟩,?_⟩
 .have k7:BX fr<=i:=by
   apply Nat.le_of_not_lt;intro aD;rw[CS (by rw[BR];exact aD),FO,if_pos aD]at e2;cases e2
  rw[CT (by rw[BR];exact k7),BR]at e2;obtain⟨j,rfl⟩:∃j,i=j+BX fr:=⟨i-fr.length,by omega⟩;rw[Nat.add_sub_cancel]at e2
  .have e3':br scope y:=by
    have e3:br (relabel scope X.env) y:=e3;rcases e3 with q|q|q
    .rcases Fj q with q|⟨z,_⟩
     .exact .inl q
     .cases z
    .rcases Fj q with q|⟨_,q⟩
     .exact .inr (.inl q)
     .exact .inr (.inr q)
    .rcases Fj q with q|⟨z,_⟩
     .exact .inr (.inr q)
     .cases z
   have aX:=T.vis j y e1 e3';have hm:=Y4 aX;have hN:=T.same j y e1 aX;have eP:=T.cap _ hm rfl;obtain⟨m,_,hl⟩:=I.loc;obtain⟨u,ru,lu⟩:=hl j y v hN e2 (by
    rcases eP with q|q
    .exact .inr (.inl q)
    .exact .inr (.inr q))
   refine⟨u,ru,?_⟩;obtain⟨c,et⟩:=Jr.mp (aZ _ hm rfl);rcases lu with⟨q,_⟩|⟨_,c',e,z⟩
   .rcases eP with q'|q'<;>(rw[q']at q;cases q)
   .refine .inr ⟨?_,c,et,?_⟩
    .rcases e3 with q|q|q
     .have q:(relabel scope X.env).names.lookup y=Z .local:=q
      rcases Fj q with q|⟨z,_⟩
      .rw[aX]at q;cases q
      .cases z
     .exact .inl q
     .exact .inr q
    .rw[aF y c et]at e
     cases e;obtain⟨o,ho,hd⟩:=z;exact⟨o,k _ _ ho,hd⟩
 .obtain⟨v,o,ho,hd⟩:=I.cell y c (aF y c h)
  exact⟨v,o,k _ _ ho,hd⟩
 .show upd H D (.lst []) C=U
  rw[Zo (Cj hC)];exact fM
 .have hq:=I.freeC y c (aF y c h)
  obtain⟨v,o,ho,_⟩:=I.cell y c (aF y c h);have:c≠D:=Am (by rw[<-hD];exact Ai ho);rw[Zo this];exact hq
 .show(CM fr.length U++L).length=N.length
  rw[A3,BR,I.len,T.len,Nat.add_comm]
noncomputable def eE(mq:Cx)(aU:List Expr)(f:HM.TF):Prop:=∀r c,f r=Z c->∀(YK:mG) (s:Shared) (L:L2.St) (H:Hp) (Q:Bool->Hp->Prop),Inv mq YK L H s->(aV mq.K r L H λF0 H0 F=>∀F' H',YR F H F' H'->Q c H') ->
 wpAny (model mq.prog mq.w) mq.A (Nt aU mq.env) (TP mq YK L Q) mq.xe s
theorem BB{mq:Cx}:eE mq [] HM.Bv:=by intro r c h YK s L H Q I ⟨F0,H0,F,at_,k⟩;cases h;exact wpAny_tests_nil ⟨H,I,k F H at_.refl⟩
noncomputable def eG(K:Ad)(J:It)(ds:mE)(F:Hp):Prop:=∀F' H,Zs F F'->Zs F' H ->
 (∀(i:Nat) (d:PyData),ds[i]?=Z d->J.go i H/\∀x H',J.yld i H x H'->∃F2,YR (AJ F' H) H F2 H'/\Rep K F2 d x)/\J.stop ds.length H
theorem cN.e{K:Ad}{J:It}{ds:mE}{F:Hp}(h:cN K J ds F):eG K J ds F:=λF' H s1 s2=>by obtain⟨a,b⟩:=h F' H s1 s2;refine⟨λi d hd=>⟨(a i d hd).1,λx H' hy=>?_⟩,b⟩;obtain⟨e,r⟩:=(a i d hd).2 x H' hy;subst e;exact⟨_,.refl (YR.refl s2).tups.sub,r⟩
noncomputable def fS(X:Cx)(tg e:Expr)(f:HM.IF):Prop:=∀r ds,f r=Z ds->PI X tg e λL H R=>aV X.K r L H λF0 H0 F=>∀J F' H',YR F H F' H'->eG X.K J ds F'->R J H'
theorem XI.e{X:Cx}{tg e:Expr}{f:HM.IF}(h:XI X tg e f):fS X tg e f:=λr ds hr YK s L H R I ⟨F0,H0,F,at_,k⟩=>h r ds hr YK s L H R I ⟨F0,H0,F,at_,λJ F' H' x q=>k J F' H' x q.e⟩
theorem R3{it D:Addr}{tn:Nat->Heap->Prop}{J:It}{bC iter:Expr}{aU:List Expr}{tg:Expr}{pos:Pos}{bD:PyData->Option mE}{fc:HM.TF}{fe:HM.EF}{s4:Shared}{r:HM.Env}{ds out:mE}{Fs Hs F0 H0 F1:Hp}{R:Result->Shared->Prop}(T:Cw X N scope fr)(I2:Inv X YK L H1 s2)(W:bY X.prog X.w X.K tg J fp it tn)(hf:∀b∈fp,BZ X YK H1 b)(I4:Inv (ZT X N scope cl C s2 H1 fp) [] (CM fr.length U++L) (upd H1 D (.lst [])) s4)(jR:tn 0 s4.heap)(hD:s2.heap.objs.size<=D)(c7:∀b∈fp,b<s2.heap.objs.size)(hbl:X.calm=Y)(hc:eE (ZT X N scope cl C s2 H1 fp) aU fc)(he:XE (ZT X N scope cl C s2 H1 fp) bC fe)(at_:At X.K F0 H0 Fs Hs r L)(x1:YR Fs Hs F1 H1)(gr:eG X.K J ds F1)(bA:HI (ZT X N scope cl C s2 H1 fp) fr.length tg bD)(dF:BX ds<HM.big)(go:b9 bD fc fe r ds=Z out)(hR:∀s',(∃F H vs,Inv (ZT X N scope cl C s2 H1 fp) [] (CM fr.length U++L) H s'/\YR Fs Hs F H/\H D=Z (.lst vs)/\F D=U/\Zu X.K F out vs)->R (.ok .next) s'):codeAny (model X.prog X.w) X.A (.compLoop (.ListComp bC [⟨tg,iter,aU,0⟩] scope pos) 0 (.ref it) (.ref D) (compEnvC scope cl C X.env)) R s4:=by
 have cQ:H1 D=U:=I2.hok.fresh hD;have cP:Hs D=U:=x1.hh.free cQ;have iU:F1 D=U:=x1.sub.free cQ;have iR:∀b∈fp,b≠D:=λb hb=>Am (AW (c7 b hb) hD);have gk:=I4.ok;have bI:∀{H:Hp},(∀b∈fp,H b=U)->∀b∈fp,BZ (ZT X N scope cl C s2 H1 fp) [] H b:=λhn b hb=>⟨hn b hb,(gk.exf b hb).1,gk.exfs b hb,.inl hb,(gk.exf b hb).2,λp hp=>absurd (show p∈([]:mG) from hp) (by simp)⟩;refine Ug (λn s'=>∃(j:Nat) (sv:List (Option V)) (F H:Hp) (ys:mE) (vs:List V) (rest:mE),BX sv=fr.length/\Inv (ZT X N scope cl C s2 H1 fp) [] (sv++L) H s'/\tn j s'.heap/\(∀b∈fp,H b=U)/\YR Fs Hs F H/\Zs F1 F/\At X.K F0 H0 F H r L /\
  H D=Z (.lst vs)/\F D=U/\Zu X.K F ys vs/\j+n=ds.length/\ys.length<=j/\b9 bD fc fe r (ds.drop j)=Z rest/\out=ys++rest) ?_ ds.length
  ⟨0,CM fr.length U,F1,_,[],[],out,BR,I4,jR,λb hb=>by rw[Zo (iR b hb)];exact(hf b hb).1,x1.lay' cQ,Zs.refl _,(at_.grow x1).grow ((at_.grow x1).refl.lay' cQ),Zq,iU,.nil,by omega,Al _,go,rfl⟩
 rintro n s5 ⟨j,sv,F,H,ys,vs,rest,cB,I5,tn5,hfp5,x5,sF,cb,c8,dX,cU,hjn,hyl,bP,hout⟩
 obtain⟨ft,fo⟩:=gr F H sF cb.sub;cases n with
 |zero =>
  have ej:j=ds.length:=by omega
  subst ej;rw[List.drop_length]at bP;cases bP;rw[F8]at hout;subst hout;refine Y6 (W.done (ZT X N scope cl C s2 H1 fp) rfl rfl rfl rfl _ [] s5 _ H No I5 (bI hfp5) tn5 fo) λrv s6 ⟨e,I6⟩=>?_;subst e;refine hR s6 ⟨F,H,vs,I6.weak (by rw[A3,A3,BR,cB]) λi v hv=>?_,x5,c8,dX,cU⟩
  by_cases hi:i<BX fr
  .rw[CS (by rw[BR];exact hi),FO,if_pos hi]at hv
   cases hv
  .rw[CT (by rw[BR];omega),BR]at hv
   rw[CT (by omega),cB];exact hv
 |succ n =>
  have aD:j<BX ds:=by omega
  obtain⟨jg,jy⟩:=ft j ds[j] (BS aD);obtain⟨F2,x5,sF,cb,dX,cU,jy⟩:∃F2,YR Fs Hs F2 H/\Zs F1 F2/\At X.K F0 H0 F2 H r L/\F2 D=U/\Zu X.K F2 ys vs/\∀x H',J.yld j H x H'->∃F3,YR F2 H F3 H'/\Rep X.K F3 ds[j] x :=
   ⟨AJ F H,x5.tups,sF.trans (CA cb.sub),cb.grow cb.refl.tups,by unfold AJ;rw[c8];exact dX,cU.mono (CA cb.sub),jy⟩
  clear ft fo
  rw[LX aD]at bP;refine Y6 (W.item (ZT X N scope cl C s2 H1 fp) rfl rfl rfl rfl j [] s5 _ H No I5 (bI hfp5) tn5 jg) λrv s6 ⟨u,e,h6⟩=>?_;subst e;refine Y6 h6 λ_ s7 ⟨xv,H7,I7,r7,y7,tn7,fr7⟩=>?_;obtain⟨F7,x7,rx⟩:=jy xv H7 y7;obtain⟨F2,x5,sF,cb,c8,dX,cU,rx⟩:∃F2,YR Fs Hs F2 H7/\Zs F1 F2/\At X.K F0 H0 F2 H7 r L/\H7 D=Z (.lst vs)/\F2 D=U/\Zu X.K F2 ys vs/\Rep X.K F2 ds[j] xv:=by
   refine⟨F7,x5.trans x7,sF.trans x7.ff,cb.grow x7,x7.hh _ _ c8,?_,cU.mono x7.ff,rx⟩;cases q:F7 D with
   |none=>rfl
   |some o =>
    rcases x7.new D o q with z|z
    .rw[dX]at z;cases z
    .exact(z.no c8 λ_ q=>by cases q).elim
  have I7':=I7.pinned (bI fr7) (W.obj _ _ tn7);unfold b9 at bP;split at bP
  case h_2=>cases bP
  rename_i zs gu;have lY:=bA _ s7 L sv H7 F2 ds[j] zs xv u cB I7' r7 cb.sub rx gu;refine Y6 lY λ_ s8 ⟨ws,hws,I8,rws⟩=>?_;have ig:=cb.pushes rws;have again:∀{s9:Shared} {F9 H9:Hp} {zs9:mE} {eX:List V} {rest':mE},Inv (ZT X N scope cl C s2 H1 fp) ([]++Gi fp s7.heap) (ws.map Z++L) H9 s9->YR Fs Hs F9 H9->Zs F2 F9->At X.K F0 H0 F9 H9 r L->H9 D=Z (.lst eX)->F9 D=U->Zu X.K F9 zs9 eX->zs9.length<=j+1->b9 bD fc fe r (ds.drop (j+1))=Z rest'->out=zs9++rest' ->
    ∃m,m<n+1/\∃(j:Nat) (sv:List (Option V)) (F2 H:Hp) (ys:mE) (vs:List V) (rest:mE),BX sv=fr.length/\Inv (ZT X N scope cl C s2 H1 fp) [] (sv++L) H s9/\tn j s9.heap/\(∀b∈fp,H b=U)/\YR Fs Hs F2 H/\Zs F1 F2/\At X.K F0 H0 F2 H r L /\
     H D=Z (.lst vs)/\F2 D=U/\Zu X.K F2 ys vs/\j+m=ds.length/\ys.length<=j/\b9 bD fc fe r (ds.drop j)=Z rest/\out=ys++rest:=by
   intro s9 F9 H9 zs9 eX rest' I9 x9 jW a9 h9 f9 r9 l9 g9 o9;refine⟨n,FQ n,j+1,ws.map Z,F9,H9,zs9,eX,rest',by rw[Ap];exact hws,I9.unpinned,W.keep _ _ _ tn7 λb hb o e=>(I9.pin (b,o) (Cq _ (Cq _ (Ir hb e)))).1,λb hb=>?_,x9,sF.trans jW,a9,h9,f9,r9,by omega,l9,g9,o9⟩;obtain⟨o,e,d⟩:=W.obj _ _ tn7 b hb;exact(I9.pin (b,o) (Cq _ (Cq _ (Ir hb e)))).2.1
  have jk:∀{F' H':Hp},YR F2 H7 F' H'->F' D=U:=λ{F' H'} y=>by
   cases q:F' D with
   |none=>rfl
   |some o =>
    rcases y.new D o q with z|z
    .rw[dX]at z;cases z
    .exact(z.no c8 λ_ q=>by cases q).elim
  split at bP
  .rename_i gR
   split at bP
   .rename_i y hy
    obtain⟨rest',g1,g2⟩:=Ao.mp bP;subst g2;refine Y6 (hc _ _ gR _ s8 _ H7 (λc' H'=>c'=Y/\∃F',YR F2 H7 F' H') I8 ⟨F0,H0,F2,ig,λF' H' y=>⟨rfl,F',y⟩⟩) λok s9 ⟨H9,I9,eok,F9,x9⟩=>?_;subst eok;rw[if_pos rfl];refine Y6 (he _ _ hy _ s9 _ H9 (λv' H'=>∃F',YR F9 H9 F' H'/\Rep X.K F' y v') I9 ⟨F0,H0,F9,ig.grow x9,λv' F' H' x q=>⟨F',x,q⟩⟩) λu' s10 ⟨v',H10,I10,r10,F10,x10,q10⟩=>?_;have bH:=x9.trans x10;have hHD':H10 D=Z (.lst vs):=bH.hh _ _ c8;have hFD':=jk bH;refine Y6 (KD (X:=ZT X N scope cl C s2 H1 fp) _ s10 _ H10 (.ref D) [v'] (.ref D) [u'] (λ_ H'=>H'=upd H10 D (.lst (vs++[v']))) I10 rfl (.cons r10 .nil) ⟨D,vs,v',rfl,rfl,hHD',?_,rfl⟩) λ_ s11 ⟨_,H11,I11,_,e11⟩=>?_
    .have:=cU.1
     exact Gu (by omega)
    subst e11;refine again (zs9:=ys++[y]) I11 ((x5.trans bH).chg _ cP hFD' λu z=>by rw[hHD']at z;cases z;rfl) bH.ff ((cb.grow bH).chgNew _ at_ (x5.trans bH).hh cP hFD' λu z=>by rw[hHD']at z;cases z;rfl) Zq hFD' ((cU.mono bH.ff).append (.one q10)) (by rw[A3];show ys.length+1<=j+1;omega) g1 (by rw[hout,List.append_assoc];rfl)
   .cases bP
  .rename_i gR
   refine Y6 (hc _ _ gR _ s8 _ H7 (λc' H'=>c'=Ab/\∃F',YR F2 H7 F' H') I8 ⟨F0,H0,F2,ig,λF' H' y=>⟨rfl,F',y⟩⟩) λok s9 ⟨H9,I9,eok,F9,x9⟩=>?_;subst eok;rw[if_neg (by simp)];exact again (zs9:=ys) I9 (x5.trans x9) x9.ff (cb.grow x9) (x9.hh _ _ c8) (jk x9) (cU.mono x9.ff) (by omega) bP hout
  .cases bP
theorem Th{s':Shared}{sv:List (Option V)}{h':Heap}(I2:Inv X YK L H1 s2)(hf:∀b∈fp,BZ X YK H1 b)(hC:s2.heap.objs.size<=C)(I:Inv (ZT X N scope cl C s2 H1 fp) [] (sv++L) H s')(hs:Bo C s'.heap h'):Inv X YK L H {s' with heap:=h'}:=by
 have u:Un (Y8 X.stack) fp H1 H s2.heap s'.heap:=I.base;have fM:H C=U:=I.free;have ne:∀b o,s2.heap.get? b=Z o->b≠C:=λb o e=>Am (AW (Ai e) hC);refine I2.call' (s':={s' with heap:=h'}) (ch:=fp) I.os ⟨λb o e n hb hx=>(hs.2 b (ne b o e)).trans (u.keep b o e n hb hx),λb o e n hb hx=>?_,u.free,λb o e hx=>?_,u.tups,u.frzs,u.tbls⟩ (λb o e=>?_) I.bare λb hb=>?_
 .obtain⟨sl,q⟩:=u.slot b o e n hb hx
  exact⟨sl,(hs.2 b (ne b o e)).trans q⟩
 .obtain⟨o',q⟩:=u.there b o e hx
  exact⟨o',(hs.2 b (ne b o e)).trans q⟩
 .refine(I.hok b o e).stay (λc w' hc q=>(hs.2 c ?_).trans q) (λ_ q=>q) λ_ _ q=>q
  rintro rfl
  rcases hc with rfl|hc
  .rw[fM]at e;cases e
  .rw[fM]at hc;cases hc
 .obtain⟨q0,q1,q2,q3,q4,q5⟩:=hf b hb
  exact⟨q3,q1,q4,q5⟩
variable{bC iter:Expr}{aU:List Expr}{tg:Expr}{pos:Pos}{fi:HM.IF}{bD:PyData->Option mE}{fc:HM.TF}{fe:HM.EF}
theorem TB(T:Cw X N scope fr)(I:Inv X YK L H s):∀y∈scope.names,y.2=.free->∃c,X.env.cells.lookup y.1=Z c:=λy hy e=>I.ok.has y.1 (T.cap y hy e)
theorem Ol(bV:X.xe=λ_ _=>False)(aY:X.calm=Y)(T:Cw X N scope fr)(bA:∀cl C s H ex,HI (ZT X N scope cl C s H ex) fr.length tg bD)(hi:fS X tg iter fi)(hc:∀cl C s H ex,eE (ZT X N scope cl C s H ex) aU fc)(he:∀cl C s H ex,XE (ZT X N scope cl C s H ex) bC fe)(hs:∀x,FV iter X.env x=pure x:=by intro _;rfl):XF X (.ListComp bC [⟨tg,iter,aU,0⟩] scope pos) (E6 bD fi fc fe):=by
 intro r b h;unfold E6 at h;split at h
 .rename_i ds af
  split at h
  .rename_i dF
   obtain⟨out,bP,e⟩:=Ao.mp h;subst e;intro YK s L H Q I ⟨F0,H0,F,at_,k⟩;obtain⟨cl,eW,aF,aZ⟩:=Ws (TB T I);rw[eval_ListComp];refine wpAny_comprehension_free (use:=U) rfl hs eW T.kind T.names (Y6 (hi r ds af YK s L H (λJ H'=>∃F',YR F H F' H'/\eG X.K J ds F') I ⟨F0,H0,F,at_,λJ F' H' x q=>⟨F',x,q⟩⟩) λv s1 h1=>Y6 h1 λgq s2 h2=>?_);obtain⟨it,fp,tn,J,H1,rfl,I2,W,e8,f2,F1,x1,gr⟩:=h2;have c7:∀b∈fp,b<s2.heap.objs.size:=λb hb=>let ⟨o,ho,_⟩:=W.obj 0 _ e8 b hb;Ai ho
   refine CU (wpAny_newFunctionEnv T.cell (by intro y hy;simp at hy) (λh1 b8 fA=>?_) T.kind);dsimp only at b8 fA ⊢;generalize hP:s2.heap.push {cls:=.type "list",dict:=U,data:=.seq ([]:mH).toArray}=h0 at b8 fA ⊢;have hsz:h0.objs.size=s2.heap.objs.size+1:=by rw[<-hP,Dl]
   have dy:s2.heap.objs.size<h0.objs.size:=by rw[hsz];exact FQ _
   have dN:∀b o,s2.heap.get? b=Z o->h1.get? b=Z o:=λb o e=>fA.extBut b o (Am (Nat.lt_trans (Ai e) dy)) (Aj _ (by rw[<-hP];exact Aj _ e));have hl:h1.get? s2.heap.objs.size=Z {cls:=.type "list",data:=.seq #[] 0}:=fA.extBut _ _ (Am dy) (Aj _ (by rw[<-hP];exact Az _ rfl));have I4:Inv (ZT X N scope cl h0.objs.size s2 H1 fp) [] (CM fr.length U++L) (upd H1 s2.heap.objs.size (.lst [])) {s2 with heap:=h1,toks:=s2.toks+([]:List (Str×Value)).length}:=Tz T aF aZ I2 aY f2 c7 rfl dy b8 hl dN;have i0:tn 0 h1:=W.keep _ _ _ e8 λb _ o e=>dN b o e;have cP:H s2.heap.objs.size=U:=x1.hh.free (I2.hok.fresh (Al _));have eK:codeAny (model X.prog X.w) X.A (.compLoop (.ListComp bC [⟨tg,iter,aU,0⟩] scope pos) 0 (.ref it) (.ref s2.heap.objs.size) (compEnvC scope cl h0.objs.size X.env)) (compPost (model X.prog X.w) X.A X.xe U (EP X YK L Q) (.ref s2.heap.objs.size) h0.objs.size)
     {s2 with heap:=h1,toks:=s2.toks+([]:List (Str×Value)).length}:=by
    refine R3 T I2 W f2 I4 i0 (Al _) c7 aY (hc _ _ _ _ _) (he _ _ _ _ _) at_ x1 gr (bA _ _ _ _ _) dF bP λs' ⟨F',H',vs,I',x',hD',hFD',rs⟩=>?_;obtain⟨m,hn,_⟩:=id I'.loc;refine⟨m,hn,λh2 aQ=>⟨.ref s2.heap.objs.size,H',Th I2 f2 (EO dy) I' aQ,rfl,k _ F' H' x' ⟨[s2.heap.objs.size],.ol hD' rs,by simp,λa ha=>?_⟩⟩⟩;obtain rfl:a=s2.heap.objs.size:=by simpa using ha
    exact⟨hFD',cP⟩
   exact codeAny_compStart_list eK (W.self _ 0 _ _ _ i0 eK)
  .cases h
 .cases h
end
end
noncomputable def JF(d:PyData):Option mE:=Z [d]
noncomputable def EZ:PyData->Option mE
 | .tuple [x,y]=>Z [x,y]
 |_=>U
theorem MC(c:HM.TF)(e:HM.EF)(r:HM.Env):∀xs,HM.KG c e r xs=b9 JF c e r xs
 |[]=>rfl
 |x::xs=>by unfold HM.KG b9;rw[MC c e r xs];rfl
theorem MA(c:HM.TF)(e:HM.EF)(r:HM.Env):∀xs,HM.K6 c e r xs=b9 EZ c e r xs
 |[]=>rfl
 |x::xs=>by
  have ih:=MA c e r xs;unfold HM.K6 b9;split
  .rename_i h;cases h
  .rename_i a b q h
   cases h;rw[ih];rfl
  .rename_i h1
   have hn:EZ x=U:=by
    unfold EZ;split
    .exact(h1 _ _ _ rfl).elim
    .rfl
   rw[hn]
theorem Rc(i:HM.IF)(c:HM.TF)(e:HM.EF):HM.BP i c e=E6 JF i c e:=by
 funext r
 unfold HM.BP E6;cases i r with
 |none=>rfl
 |some xs=>dsimp only;rw[MC]
theorem Q5(i:HM.IF)(c:HM.TF)(e:HM.EF):HM.OS i c e=E6 EZ i c e:=by
 funext r
 unfold HM.OS E6;cases i r with
 |none=>rfl
 |some xs=>dsimp only;rw[MA]
theorem RQ{K:Ad}{F:Hp}{d1 d2:PyData}{v:V}(h:Rep K F (.tuple [d1,d2]) v):∃a v1 v2,v=.ref a/\F a=Z (.tup [v1,v2])/\Rep K F d1 v1/\Rep K F d2 v2:=by
 cases h with
 | @tup a ds vs h1 h2 h3 =>
  cases vs with
  |nil=>simp at h2
  |cons v1 vs=>cases vs with
   |nil=>simp at h2
   |cons v2 vs=>cases vs with
    |nil=>exact⟨a,v1,v2,rfl,h1,h3 0 _ _ rfl rfl,h3 1 _ _ rfl rfl⟩
    |cons _ _=>simp at h2
section
variable{X:Cx}{N:mI}{scope:Scope}{x x2:Str}{px fj pt:Pos}{kt:Nat}
theorem P9(T:Cw X N scope [x])(cl:List (Str×Addr))(C:Addr)(s₀:Shared)(H₀:Hp)(ex:List Addr):HI (ZT X N scope cl C s₀ H₀ ex) 1 (.Name x px) JF:=by
 intro YK s L sv H F d ys xv u cB I r sub q hd;cases hd;have hx:=T.loc x (BW.mpr rfl);refine Y6 (HQ (X:=ZT X N scope cl C s₀ H₀ ex) (i:=0) T.nd (T.first 0 x rfl) (.inl (EH hx)) (.inr (EH hx)) _ s _ H xv u (λσ' H'=>σ'=(sv++L).set 0 (Z xv)/\H'=H) I r ⟨rfl,rfl⟩) λ_ s' ⟨σ',H',I',e1,e2⟩=>?_
 subst e1 e2;refine⟨[xv],rfl,?_,.one q⟩;cases sv with
 |nil=>simp at cB
 |cons a sv=>cases sv with
  |nil=>exact I'
  |cons _ _=>simp at cB
theorem Rh(T:Cw X N scope [x,x2])(cl:List (Str×Addr))(C:Addr)(s₀:Shared)(H₀:Hp)(ex:List Addr):HI (ZT X N scope cl C s₀ H₀ ex) 2 (.Tuple [.Name x px,.Name x2 fj] kt pt) EZ:=by
 intro YK s L sv H F d ys xv u cB I r sub q hd;have hx:=T.loc x (A9 ..);have fz:=T.loc x2 (AQ _ (A9 ..));unfold EZ at hd;split at hd
 .rename_i d1 d2
  cases hd;obtain⟨pa,v1,v2,e7,fD,jY,jX⟩:=RQ q;subst e7;refine Y6 (QO (X:=ZT X N scope cl C s₀ H₀ ex) (n:=2) rfl (N1 (HQ (X:=ZT X N scope cl C s₀ H₀ ex) (i:=0) T.nd (T.first 0 x rfl) (.inl (EH hx)) (.inr (EH hx))) (N1 (HQ (X:=ZT X N scope cl C s₀ H₀ ex) (i:=1) T.nd (T.first 1 x2 rfl) (.inl (EH fz)) (.inr (EH fz))) QS)) rfl rfl _ s _ H (.ref pa) u (λσ' H'=>σ'=((sv++L).set 0 (Z v1)).set 1 (Z v2)/\H'=H) I r ⟨pa,[v1,v2],rfl,.of (sub _ _ fD),rfl,v1,[v2],rfl,v2,[],rfl,rfl,rfl,rfl⟩) λ_ s' ⟨σ',H',I',e1,e2⟩=>?_
  subst e1 e2;refine⟨[v1,v2],rfl,?_,.cons jY (.one jX)⟩;cases sv with
  |nil=>simp at cB
  |cons a sv=>cases sv with
   |nil=>simp at cB
   |cons b sv=>cases sv with
    |nil=>exact I'
    |cons _ _=>simp at cB
 .cases hd
noncomputable def Nd(df:Str->Option NameKind)(XN N:mI)(names:List (Str×NameKind))(fr:mI):Bool :=
 names.all (λy=>y.2 != .cell)&&names.all (λy=>y.2 != .local||names.lookup y.1==Z .local)&&fr.all (λx=>names.lookup x==Z .local)&&(Cg fr.length).all (λi=>N[i]?==fr[i]?)&&decide N.Nodup&&N.length==XN.length+BX fr &&
 names.all (λy=>y.2 != .free||df y.1==Z .cell||df y.1==Z .free) &&
 (Cg (N.length-fr.length)).all (λi=>match N[i+BX fr]? with
  |some y=>(names.lookup y != Z .free||XN[i]?==Z y)&&(names.lookup y==Z .free||(names.lookup y != Z .local&&names.lookup y != Z .cell))
  |none=>Y)
theorem Bz{X:Cx}{N XN:mI}{scope sc:Scope}{fr:mI}(hs:X.env.scope=sc:=by rfl)(hN:X.N=XN:=by rfl)(hk:scope.kind=.function:=by rfl)(h:Nd (λy=>sc.names.lookup y) XN N scope.names fr=Y:=by decide +kernel):Cw X N scope fr:=by
 subst hN;unfold Nd at h;simp only[Av,Dp,Jd,bne_iff_ne,beq_iff_eq,decide_eq_true_eq]at h;obtain⟨⟨⟨⟨⟨⟨⟨h1,h2⟩,h3⟩,h4⟩,h5⟩,h6⟩,h7⟩,h8⟩:=h;have at_:∀(i:Nat) (y:Str),N[i+BX fr]?=Z y->(scope.names.lookup y≠Z .free\/X.N[i]?=Z y)/\(scope.names.lookup y=Z .free\/(scope.names.lookup y≠Z .local/\scope.names.lookup y≠Z .cell)):=λi y e=>by have hi:i+BX fr<BX N:=(AE.mp e).1;have:=h8 i (G9.mpr (by omega));rw[e]at this;simpa only[Av,Jd,bne_iff_ne,beq_iff_eq]using this
 refine⟨hk,h1,λy hy e=>(h2 y hy).resolve_left (λz=>z e),h3,λi x e=>?_,h5,h6,λy hy e=>?_,λi y e q=>(at_ i y e).1.resolve_left (λz=>z q),λi y e v=>?_⟩
 .rw[h4 i (G9.mpr (AE.mp e).1)]
  exact e
 .have:=h7 y hy
  rw[show X.env.kindOf y.1=sc.names.lookup y.1 by rw[<-hs];rfl];rcases this with(z|z)|z
  .exact absurd e z
  .exact .inl z
  .exact .inr z
 .rcases(at_ i y e).2 with z|⟨z1,z2⟩
  .exact z
  .rcases v with v|v|v
   .exact absurd v z1
   .exact absurd v z2
   .exact v
variable{bC iter:Expr}{aU:List Expr}{pos:Pos}{fi:HM.IF}{fc:HM.TF}{fe:HM.EF}
theorem B0(bV:X.xe=λ_ _=>False)(aY:X.calm=Y)(T:Cw X N scope [x])(hi:XI X (.Name x px) iter fi)(hc:∀cl C s H ex,eE (ZT X N scope cl C s H ex) aU fc)(he:∀cl C s H ex,XE (ZT X N scope cl C s H ex) bC fe)(hs:∀x,FV iter X.env x=pure x:=by intro _;rfl):XF X (.ListComp bC [⟨.Name x px,iter,aU,0⟩] scope pos) (HM.BP fi fc fe):=by
 rw[Rc];exact Ol bV aY T (P9 T) hi.e hc he hs
end
section
variable{p:Addr}{r:HM.Env}{F F0 H H0:Hp}{L:L2.St}{kvs:List (List YS×mE)}{ds:mE}{i:Nat}{K:Ad}{Q:mD}
section
variable{prog:Program}{w:World}{K:Type}[DecidableEq K]{knd:HeapKind prog w K}{A:Around}{E:mD}{s:Shared}
theorem W2{d a:Addr}{xs:List (K×Addr×Value)}{k:K}{v:Value}(hu:knd.room A)(bK:knd.is s.heap k a)(hm:s.heap.DictOfH knd d xs)(hsz:BX xs<=sizeLine)(h1:∀p,atKey xs k=Z p->Q p.2 {s with toks:=s.toks+knd.draws k})(h2:atKey xs k=U->∀h',h'.DictOfH knd d (storedH xs k a v)->Bo d s.heap h'->Q v {s with heap:=h',toks:=s.toks+knd.draws k}):wpAny (model prog w) A (dictSetDefault d (.ref a) v) Q E s:=by
 obtain⟨o,es,ep,ho,hc,hd,he,jz,hn⟩:=hm;unfold dictSetDefault
 try with_reducible refine CL ?_
 refine Ac (knd.pyHash hu bK ?_);refine Ac (wpAny_dictFind_heap (s:={s with toks:=s.toks+knd.draws k}) hu bK ho hd he jz hn ?_ ?_)
 .intro cI
  have iN:k∉xs.map (·.1):=not_mem_keys_of_get cI;have fE:=atKey_none_of_get cI;refine Ac (Fp (Ac (wpAny_updateDictKeys (hz:=by have e:=size_of_entries he;omega) (s:={s with toks:=s.toks+knd.draws k}) ho hd (Ag (h2 fE _ ⟨_,_,ep+1,EJ _ ho (Obj.isFreed_of_dict (Obj.data_mapDictKeys hd _)),
   hc.mapDictKeys _,Obj.data_mapDictKeys hd _,?_,?_,?_⟩ (D8 ..))))))
  .rw[storedH_new fE]
   simp[he,entryOfKey]
  .rw[storedH_new fE]
   intro x hx;rcases EN.mp hx with hx|hx
   .exact knd.keeps (jz x hx) ho hd (D8 ..)
   .simp only[BW]at hx
    subst hx;exact knd.keeps bK ho hd (D8 ..)
  .rw[storedH_new fE]
   rw[BU,List.nodup_append];refine⟨hn,by simp,?_⟩;intro x hx y hy;simp only[An,FF,BW]at hy;subst hy;exact λe=>iN (e▸hx)
 .intro j p hj
  refine Ac (G1 (s:={s with toks:=s.toks+knd.draws k}) ho hd ?_);rw[entry_at he j,hj];exact Ac (Fp (Ag (h1 p (atKey_of_get hn hj))))
theorem W4(d a:Addr)(hd:(d==Bn)=Ab)(dflt:Value):
  MeetsIn prog w (Builtin.«dict.setdefault» ⟨[.ref d,.ref a,dflt],[]⟩) (λA R s=>knd.room A.in1/\∃k xs,knd.is s.heap k a/\s.heap.DictOfH knd d xs/\xs.length<=sizeLine /\
   (∀p,atKey xs k=Z p->R (.ok (.ret p.2)) {s with toks:=s.toks+knd.draws k}) /\
   (atKey xs k=U->∀h',h'.DictOfH knd d (storedH xs k a dflt)->Bo d s.heap h'->R (.ok (.ret dflt)) {s with heap:=h',toks:=s.toks+knd.draws k})) :=
 .of_wp λA R s ⟨hu,k,xs,bK,hm,hz,h1,h2⟩=>by unfold Builtin.«dict.setdefault»;refine Ac ?_;unfold Builtin.Dict.keyAndDefault;refine Ac (wpAny_notOrdered_dict hm.typeIs ?_);show wpAny _ _ (pure (d,Au a,Z dflt)) _ _ s;refine Ag ?_;show wpAny _ _ (if(d==Bn)=Y then _ else(dictSetDefault d (.ref a) dflt >>= _)) _ _ s;rw[if_neg (by rw[hd];exact Bw)];exact Ac (W2 hu bK hm hz (λp hp=>Ag ⟨p.2,rfl,h1 p hp⟩) λhn h' hm' hs'=>Ag ⟨dflt,rfl,h2 hn h' hm' hs'⟩)
end
section
variable{X:Cx}{YK:mG}{L:L2.St}{H:Hp}{s:Shared}{a b:Addr}{z:V}{r:Value}{A:Around}{E:mD}{kvs:List (List YS×V)}{k:List YS}
theorem QB(hu:A.units+1<cLine)(I:Inv X YK L H s)(e:H a=Z (.dT kvs))(eb:H b=Z (.tup (k.map kV)))(hl:BX kvs<sizeLine)(rz:RelV z r)(h1:∀v,Aq kvs k=Z v->∀w' s',Inv X YK L H s'->RelV v w'->Q w' s')(h2:Aq kvs k=U->∀s',Inv X YK L (upd H a (.dT (kvs++[(k,z)]))) s'->Q r s'):wpAny (model X.prog X.w) A (call (.builtin "dict.setdefault") [.ref a,.ref b,r]) Q E s:=by
 obtain⟨zz,hd,xs,aG,dd⟩:=MQ I.hok e;have hz:BX xs<=sizeLine:=by rw[<-ET aG];exact zz
 have hv:=aG.val k;refine call_meetsIn Mm dd.typeIs PySem.F.entry_dict_setdefault (PySem.F.args_dict_setdefault_3 _ _ _) (W4 (knd:=DU (A2 X.prog X.w)) a b hd r) ⟨G4 hu,k,xs,Gm I.hok eb,dd,hz,λp hp=>?_,λhn h' dd' hs=>?_⟩
 .rw[hp]at hv
  cases cA:Aq kvs k with
  |none=>rw[cA]at hv;exact hv.elim
  |some v=>rw[cA]at hv;exact h1 v cA _ _ (I.tok _) hv
 .rw[hn]at hv
  have cA:Aq kvs k=U:=by
   cases cA:Aq kvs k with
   |none=>rfl
   |some v=>rw[cA]at hv;exact hv.elim
  refine h2 cA _ ?_;have hp:=aG.put k eb rz;have lV:av kvs k z=kvs++[(k,z)]:=by unfold av;rw[if_neg];rw[Ki,cA];simp
  rw[lV]at hp;obtain⟨q,es,ep,hq,g2,g3,g4,_,g5⟩:=dd';refine J2 I (by rw[e];exact CN) hs ⟨q,hq⟩ ⟨by rw[A3];exact hl,hd,_,hp.keeps λc ys ec=>?_,q,es,ep,hq,g2,g3,g4,g5⟩;rw[Zo (MT ec e (λz=>nomatch z))];exact ec
end
noncomputable def PZ(td ty tx:TE):TE:=λL H Q=>td L H λx H1=>∃a,x=.ref a/\ip H1 a/\ty L H1 λy H2=>tx L H2 λz H3=>∃kvs k b,H3 a=Z (.dT kvs)/\y=.ref b/\H3 b=Z (.tup (k.map kV))/\kvs.length<sizeLine /\
 (∀v,Aq kvs k=Z v->Q v H3)/\(Aq kvs k=U->Q z (upd H3 a (.dT (kvs++[(k,z)]))))
section
variable{X:Cx}{o e f:Expr}{ao YW:Pos}{td ty tx:TE}
theorem Qk(hu:X.A.units+1<cLine)(ho:PE X o td)(he:PE X e ty)(hf:PE X f tx)(m:M2 X o "setdefault" ao e f YW):PE X (.Call (.Attribute o "setdefault" ao) [e,f] [] YW) (PZ td ty tx):=by intro YK s L H Q I h;refine wpAny_Call_method m.base m.few m.line Mb Mm PySem.F.type_dict_setdefault (Y6 (ho YK s L H _ I h) λu s1 ⟨x,H1,I1,rx,a,ex,d,q1⟩=>?_);subst ex;obtain rfl:u=Au a:=rx;obtain⟨t1,t2,_⟩:=M9 I1 d;refine⟨t1,t2,?_⟩;rw[m.trees];refine Hq rfl (FJ (DX (Y6 (he YK s1 L H1 _ I1 q1) λiv s2 ⟨y,H2,I2,ry,q2⟩=>DX (Y6 (hf YK s2 L H2 _ I2 q2) λfv s3 ⟨z,H3,I3,rz,kvs,k,b,ea,ey,eb,hl,q3,q4⟩=>FU ?_))));subst ey;obtain rfl:iv=Au b:=ry;exact QB hu I3 ea eb hl rz (λv hv w' s4 I4 rw'=>⟨v,H3,I4,rw',q3 v hv⟩) λhn s4 I4=>⟨z,_,I4,rz,q4 hn⟩
end
noncomputable def OT(K:Ad)(F H:Hp)(kvs:List (List YS×mE))(vvs:List (List YS×V))(ls:List Addr):Prop:=kvs.map (·.1)=vvs.map (·.1)/\vvs.map (·.2)=ls.map V.ref /\
 ∀(i:Nat) (ds:mE) (l:Addr),(kvs.map (·.2))[i]?=Z ds->ls[i]?=Z l->∃vs,H l=Z (.lst vs)/\Zu K F ds vs
section
variable{K:Ad}{F F' H H':Hp}{kvs:List (List YS×mE)}{vvs:List (List YS×V)}{ls:List Addr}
theorem OT.len(q:OT K F H kvs vvs ls):BX kvs=ls.length/\kvs.length=vvs.length:=by have e1:=congrArg BX q.1;have e2:=congrArg BX q.2.1;rw[Ap,Ap]at e1 e2;omega
theorem OT.mono(q:OT K F H kvs vvs ls)(s:Zs F F')(k:∀a∈ls,∀o,H a=Z o->H' a=Z o):OT K F' H' kvs vvs ls :=
 ⟨q.1,q.2.1,λi ds l h1 h2=>let ⟨vs,q1,q2⟩:=q.2.2 i ds l h1 h2;⟨vs,k l (Cp h2) _ q1,q2.mono s⟩⟩
theorem OT.snoc(q:OT K F H kvs vvs ls)(k:List YS)(hp:H p=Z (.lst [])):OT K F H (kvs++[(k,[])]) (vvs++[(k,.ref p)]) (ls++[p]):=by
 refine⟨by rw[BU,BU,q.1];rfl,by rw[BU,BU,q.2.1];rfl,λi ds l h1 h2=>?_⟩;have hl:=q.len;rw[BU]at h1
 by_cases hi:i<BX kvs
 .rw[CS (by rw[Ap];exact hi)]at h1
  rw[CS (by omega)]at h2;exact q.2.2 i ds l h1 h2
 .rw[CT (by rw[Ap];omega),Ap]at h1
  rw[CT (by omega),<-hl.1]at h2;cases hj:i-kvs.length with
  |zero=>rw[hj]at h1 h2;cases h1;cases h2;exact⟨[],hp,.nil⟩
  |succ j=>rw[hj]at h1;cases h1
theorem OT.look(q:OT K F H kvs vvs ls)(k:List YS):(∀ds,HM.ZL kvs k=Z ds->∃l' vs,Aq vvs k=Z (.ref l')/\l'∈ls/\H l'=Z (.lst vs)/\Zu K F ds vs)/\(HM.ZL kvs k=U->Aq vvs k=U):=Kn k kvs vvs ls q.1 q.2.1 q.2.2
theorem OT.app(k:List YS){d:PyData}{v:V}:∀{kvs:List (List YS×mE)} {vvs:List (List YS×V)} {ls:List Addr},OT K F H kvs vvs ls->ls.Nodup->Rep K F d v->∀{l':Addr} {vs:List V},Aq vvs k=Z (.ref l')->H l'=Z (.lst vs) ->OT K F (upd H l' (.lst (vs++[v]))) (HM.NY kvs k d) vvs ls
 |[],[],_,q,_,_,l',vs,hv,_=>by cases hv
 |[],_::_,_,q,_,_,_,_,_,_=>by have:=q.len;simp at this
 |_::_,[],_,q,_,_,_,_,_,_=>by have:=q.len;simp at this
 |_::_,_::_,[],q,_,_,_,_,_,_=>by have:=q.len;simp at this
 |(k1,ds1)::kvs,(k2,v2)::vvs,l1::ls,q,nd,rd,l',vs,hv,hl=>by
  obtain⟨q1,q2,q3⟩:=q;rw[An,An]at q1 q2;injection q1 with e1 e2
  injection q2 with e3 e4
  have e1:k1=k2:=e1;have e3:v2=.ref l1:=e3;subst e1 e3;have rest:OT K F H kvs vvs ls:=⟨e2,e4,λi ds l h1 h2=>q3 (i+1) ds l (by simpa using h1) (by simpa using h2)⟩;obtain⟨n1,n2⟩:=Cm.mp nd;obtain⟨us,f1,f2⟩:=q3 0 ds1 l1 rfl rfl;unfold HM.NY
  by_cases hk:k1=k
  .rw[if_pos hk]
   rw[Es (p:=(k1,V.ref l1)) hk]at hv;cases hv;rw[hl]at f1;cases f1;refine⟨by rw[An,An,e2],by rw[An,An,e4],λi ds l h1 h2=>?_⟩;cases i with
   |zero=>cases h1;cases h2;exact⟨_,Zq,f2.append (.one rd)⟩
   |succ i=>rw[An,B2]at h1;rw[B2]at h2;obtain⟨us,g1,g2⟩:=rest.2.2 i ds l h1 h2;exact⟨us,by rw[Zo (λz=>n1 (by rw[<-z];exact Cp h2))];exact g1,g2⟩
  .rw[if_neg hk]
   rw[Er (p:=(k1,V.ref l1)) hk]at hv;have ih:=OT.app k rest n2 rd hv hl;have ag:l1≠l':=by
    rintro rfl
    have:∀(vvs:List (List YS×V)) (ls:List Addr),vvs.map (·.2)=ls.map V.ref->∀l',Aq vvs k=Z (.ref l')->l'∈ls:=by
     intro vvs
     induction vvs with
     |nil=>intro ls _ l' h;cases h
     |cons p vvs ih =>
      intro ls he l' h;cases ls with
      |nil=>simp at he
      |cons l ls =>
       rw[An,An]at he;injection he with he1 he2
       by_cases hp:p.1=k
       .rw[Es hp]at h
        rw[he1]at h;cases h;exact A9
       .rw[Er hp]at h
        exact AQ _ (ih ls he2 l' h)
    exact n1 (this vvs ls e4 _ hv)
   refine⟨by rw[An,An,ih.1],by rw[An,An,e4],λi ds l h1 h2=>?_⟩;cases i with
   |zero=>cases h1;cases h2;exact⟨us,by rw[Zo ag];exact f1,f2⟩
   |succ i=>rw[An,B2]at h1;rw[B2]at h2;exact ih.2.2 i ds l h1 h2
end
theorem AA.otl{K:Ad}{F0 H0 F H:Hp}{r:HM.Env}{L:L2.St}{fp:Nat->List Addr}{i:Nat}{kvs:List (List YS×mE)}(e:AA K F0 H0 F H r L fp)(h:r[i]?=Z (Z (.otl kvs))):∃a vvs ls,L[i]?=Z (Z (.ref a))/\H a=Z (.dT vvs)/\OT K F H kvs vvs ls/\fp i=a::ls:=by
 obtain⟨v,h1,h2⟩:=e.at_ i _ h;generalize hf:fp i=q at h2;cases h2 with
 |otl k1 k2 k3 k4=>exact⟨_,_,_,h1,k1,⟨k2,k3,k4⟩,rfl⟩
theorem AA.otlNew{Fb Hb:Hp}{fp:Nat->List Addr}(k:List YS)(eb:AA K F0 H0 Fb Hb r L fp)(x:YR Fb Hb F H)(h:r[i]?=Z (Z (.otl kvs)))(hp:H p=Z (.lst []))(hF:F p=U)(hb:Hb p=U):∃a vvs,L[i]?=Z (Z (.ref a))/\H a=Z (.dT vvs)/\vvs.length=kvs.length/\(HM.ZL kvs k=U->Aq vvs k=U)/\At K F0 H0 F (upd H a (.dT (vvs++[(k,.ref p)]))) (r.set i (Z (.otl (kvs++[(k,[])])))) L:=by
 have e:=eb.grow x;obtain⟨a,vvs,ls,h1,h2,h3,h4⟩:=e.otl h;have gy:∀j,p∉fp j:=λj hj=>by obtain⟨o,ho⟩:=eb.there hj;rw[hb]at ho;cases ho
 have fD:p≠a:=λz=>gy i (by rw[h4,z];exact A9);have fK:a∉ls:=(Cm.mp (h4▸e.nd i)).1;have nl:ls.Nodup:=(Cm.mp (h4▸e.nd i)).2;have hpl:p∉ls:=λz=>gy i (by rw[h4];exact AQ _ z);refine⟨a,vvs,h1,h2,h3.len.2.symm,(h3.look k).2,?_⟩;have q:=h3.snoc k hp;have q':OT K F (upd H a (.dT (vvs++[(k,.ref p)]))) (kvs++[(k,[])]) (vvs++[(k,.ref p)]) (ls++[p]):=q.mono (Zs.refl F) λc hc o z=>by
  rw[Zo]
  .exact z
  .rintro rfl
   rcases EN.mp hc with hc|hc
   .exact fK hc
   .exact fD (BW.mp hc).symm
 have nd':(a::(ls++[p])).Nodup:=by
  refine Cm.mpr ⟨?_,?_⟩
  .intro z
   rcases EN.mp z with z|z
   .exact fK z
   .exact fD (BW.mp z).symm
  .rw[List.nodup_append]
   refine⟨nl,by simp,λx hx y hy=>?_⟩;obtain rfl:y=p:=by simpa using hy
   rintro rfl
   exact hpl hx
 refine e.changeW h1 (fp':=a::(ls++[p])) (.otl Zq q'.1 q'.2.1 q'.2.2) nd' (λc hc=>?_) λc o z hn=>?_
 .rcases Ak.mp hc with z|z
  .subst z;exact .inl (by rw[h4];exact A9)
  .rcases EN.mp z with z|z
   .exact .inl (by rw[h4];exact AQ _ z)
   .obtain rfl:c=p:=BW.mp z
    exact .inr ⟨hF,eb.ext.hh.free hb,gy⟩
 .rw[Zo (λy=>hn (by rw[h4,y];exact A9))]
  exact z
theorem At.otlApp(k:List YS)(e:At K F0 H0 F H r L)(h:r[i]?=Z (Z (.otl kvs)))(hd:HM.ZL kvs k=Z ds):∃a vvs l vs,L[i]?=Z (Z (.ref a))/\H a=Z (.dT vvs)/\Aq vvs k=Z (.ref l)/\H l=Z (.lst vs)/\Zu K F ds vs/\∀d v,Rep K F d v->At K F0 H0 F (upd H l (.lst (vs++[v]))) (r.set i (Z (.otl (HM.NY kvs k d)))) L:=by
 obtain⟨fp,e⟩:=e;obtain⟨a,vvs,ls,h1,h2,h3,h4⟩:=e.otl h;obtain⟨l,vs,g1,g2,g3,g4⟩:=(h3.look k).1 ds hd;have fK:a∉ls:=(Cm.mp (h4▸e.nd i)).1;have nl:ls.Nodup:=(Cm.mp (h4▸e.nd i)).2;have ag:a≠l:=λz=>fK (by rw[z];exact g2);refine⟨a,vvs,l,vs,h1,h2,g1,g3,g4,λd v rd=>?_⟩;have q:=h3.app k nl rd g1 g3;refine e.change h1 (fp':=a::ls) (.otl (by rw[Zo ag];exact h2) q.1 q.2.1 q.2.2) (h4▸e.nd i) (λc hc=>.inl (by rw[h4];exact hc)) λc o z hn=>?_;rw[Zo (λy=>hn (by rw[h4,y];exact AQ _ g2))];exact z
section
variable{X:Cx}{a b c e:Expr}{fa fb fc:HM.EF}{pos p:Pos}{f:HM.BF}
theorem Us{k:List YS}(h:HM.ZL kvs k=Z ds):HM.KW kvs k=kvs:=by unfold HM.KW;rw[h]
theorem T5{k:List YS}(h:HM.ZL kvs k=U):HM.KW kvs k=kvs++[(k,[])]:=by unfold HM.KW;rw[h]
theorem SO(hu:X.A.units+1<cLine)(i:Nat){x:Str}{p0 p1 p2 p3 p4 p5:Pos}(hk:XE X b fb)(ha:XE X a fa)(m:M2 X (.Name x p0) "setdefault" p1 b (.List [] p2) p3)(hN:X.N[i]?=Z x:=by rfl)(hv:br X.env.scope x:=by first|exact Ah rfl|exact Af (Ah rfl)|exact Af (Af rfl))(hd:(x==("__debug__":Str))=Ab:=by decide)(Y7:(x==("__classdict__":Str))=Ab:=by decide)(Y3:Ck (.Call (.Attribute (.Name x p0) "setdefault" p1) [b,.List [] p2] [] p3) "append" X.env (eval (.Call (.Attribute (.Name x p0) "setdefault" p1) [b,.List [] p2] [] p3) X.env)=eval (.Call (.Attribute (.Name x p0) "setdefault" p1) [b,.List [] p2] [] p3) X.env:=by rfl)(bL:((backTo p5 (Ae [a] X.env)).all (λx=>!x.1)&&(Ez p5 (EB [] X.env)).all (λx=>x.1.isSome)&&decide (([a]:List Expr).length+([]:List Keyword).length+(if([]:List Keyword).isEmpty then 0 else 1)<30))=Y:=by rfl)(aq:(p4.endLine==p5.line)=Y:=by rfl)(hs:Ae [a] X.env=[(Ab,eval a X.env)]:=by rfl):XS X (.Expr (.Call (.Attribute (.Call (.Attribute (.Name x p0) "setdefault" p1) [b,.List [] p2] [] p3) "append" p4) [a] [] p5) pos) (HM.VM i fb fa):=by
 intro r o h;unfold HM.VM at h;split at h
 .rename_i y hy
  split at h
  .rename_i kvs hb
   split at h
   .rename_i k hk'
    split at h
    .rename_i kl
     split at h
     .rename_i d hd'
      split at h
      .rename_i ds af
       split at h
       .rename_i hz
        cases h;have hi:i<BX r:=(AE.mp hb).1;have hb':(r.set i (Z (.otl (HM.KW kvs k))))[i]?=Z (Z (.otl (HM.KW kvs k))):=Cr hi;refine PS.impN (Fd (JH Hr LS LR KD (Qk hu (ZS hN hv hd Y7) (hk r y hy) (HY (X:=X) Ze (by simp) r (.ol []) rfl) m) (Bf (ha _ d hd') BL hs) Y3 bL aq hs rfl)) λE L H F0 H0 F at_ kk=>?_;have YZ:∀{F3 H3:Hp} {l:Addr},At X.K F0 H0 F3 H3 (r.set i (Z (.otl (HM.KW kvs k)))) L->(∃vs,au X.K H3 l vs)->(∀a' vvs',L[i]?=Z (Z (.ref a'))->H3 a'=Z (.dT vvs')->Aq vvs' k=Z (.ref l)) ->
          eY X.K "list" (.ref l) H3/\aV X.K (r.set i (Z (.otl (HM.KW kvs k)))) L H3 λF0 H0 F=>∀v F' H',YR F H3 F' H'->Rep X.K F' d v->NA (.ref l) [v] H' λ_ H'=>E.nx L H':=by
         intro F3 H3 l aT hl gU;refine⟨.inl ⟨rfl,hl⟩,F0,H0,F3,aT,λv F4 H4 x4 r4=>?_⟩;obtain⟨aa',vvs',l',vs',g1,g2,g3,g4,g5,g6⟩:=(aT.grow x4).otlApp k hb' af;obtain⟨me,ir,l2,vs2,f1,f2,f3,_⟩:=aT.otlApp k hb' af;rw[f1]at g1;cases g1;rw[x4.hh _ _ f2]at g2;cases g2;rw[gU _ _ f1 f2]at g3;cases g3;have g7:=g6 d v r4;rw[FE]at g7;refine⟨_,vs',v,rfl,rfl,g4,?_,kk _ F4 _ g7⟩;rw[<-g5.1];exact Gu hz
        obtain⟨fq,eb⟩:=at_;obtain⟨aa,vvs,ls,e1,e2,e3,e4⟩:=eb.otl hb;refine⟨.ref aa,e1,aa,rfl,.inr ⟨vvs,.inl e2⟩,F0,H0,F,⟨fq,eb⟩,λw F1 H1 x1 r1=>⟨F0,H0,F1,At.grow ⟨fq,eb⟩ x1,λv F2 H2 x2 ⟨fp,r2,nd,hn⟩=>?_⟩⟩;obtain⟨bb,rfl,cL⟩:=Ia hk' r1;have dI:=x1.trans x2;have kn:BX vvs<sizeLine:=by rw[<-e3.len.2];exact Gu kl
        refine⟨vvs,k,bb,dI.hh _ _ e2,rfl,x2.hh _ _ (x1.sub _ _ cL),kn,λu hu'=>?_,λcI=>?_⟩
        .have bq:∃ds0,HM.ZL kvs k=Z ds0:=by
          cases hq:HM.ZL kvs k with
          |some ds0=>exact⟨ds0,rfl⟩
          |none=>rw[(e3.look k).2 hq]at hu';cases hu'
         obtain⟨ds0,bq⟩:=bq;have hZ:=Us bq;obtain⟨l0,iY,q1,q2,q3,q4⟩:=(e3.look k).1 ds0 bq;rw[q1]at hu';cases hu';refine YZ (F3:=F2) ?_ ⟨iY,au.of (dI.hh _ _ q3)⟩ λa' vvs' z1 z2=>?_
         .rw[hZ]
          have:r.set i (Z (.otl kvs))=r:=by obtain⟨h1,h2⟩:=AE.mp hb;rw[<-h2];exact Jm h1
          rw[this];exact At.grow ⟨fq,eb⟩ dI
         .rw[e1]at z1
          cases z1;rw[dI.hh _ _ e2]at z2;cases z2;exact q1
        .have bq:HM.ZL kvs k=U:=by
          cases hq:HM.ZL kvs k with
          |none=>rfl
          |some ds0=>obtain⟨l0,iY,q1,_⟩:=(e3.look k).1 ds0 hq;rw[cI]at q1;cases q1
         have hZ:=T5 bq;cases r2 with
         | @ol l _ vs c6 rs =>
          obtain rfl:vs=[]:=rs.nil_inv;have gY:H l=U:=x1.hh.free (hn l (by simp)).2;obtain⟨me,ir,g1,g2,g3,g4,g5⟩:=eb.otlNew k dI hb c6 (hn l (by simp)).1 gY;rw[e1]at g1;cases g1;rw[dI.hh _ _ e2]at g2;cases g2;have ag:l≠aa:=λz=>by rw[z,e2]at gY;cases gY
          refine YZ (F3:=F2) (by rw[hZ];exact g5) ⟨[],au.of (by rw[Zo ag];exact c6)⟩ λa' vvs' z1 z2=>?_;rw[e1]at z1;cases z1;rw[Zq]at z2;cases z2;unfold Aq at cI ⊢;rw[Option.map_eq_none_iff]at cI;rw[List.find?_append,cI];simp
       .cases h
      .cases h
     .cases h
    .cases h
   .cases h
  .cases h
 .cases h
end
end
end HP
namespace HP
open PySem PyProof.Rows
end HP
namespace HP
open PySem PySem.W PyProof.Rows
variable{d:Addr}{p:Array Nat}{h:Heap}{ep i j m n:Nat}{Q:Nat×Array Nat->Prop}
section
variable{α β:Type}
noncomputable def AY(o:Nat->Nat->Bool)(n:Nat):KasT α->(α->Prop)->Prop
 | .ret a,Q=>Q a
 | .ask i j k,Q=>i<n/\j<n/\AY o n (k (o i j)) Q
theorem AY.bnd{o:Nat->Nat->Bool}{n:Nat}{f:α->KasT β}{Q:β->Prop}:∀(t:KasT α),AY o n t (λa=>AY o n (f a) Q)->AY o n (t.bind f) Q
 | .ret a,h=>h
 | .ask i j k,h=>⟨h.1,h.2.1,AY.bnd (k (o i j)) h.2.2⟩
end
structure Pm(n:Nat)(p:Array Nat):Prop where
 pos:0<n
 perm:p.Perm (List.toArray (Cg n))
theorem Pm.size{n:Nat}{p:Array Nat}(h:Pm n p):p.size=n:=by have:=h.perm.size_eq;simpa using this
theorem Pm.lt(h:Pm n p)(i:Nat):p.getD i 0<n:=by
 by_cases hi:i<p.size
 .have e:p.getD i 0=p[i]:=by simp[GR,hi]
  rw[e];have:=(Mp.mp h.perm).mem_iff (a:=p[i]);have h2:=this.mp (by simp);simpa using h2
 .have e:p.getD i 0=0:=by simp[GR,hi]
  rw[e];exact h.pos
theorem Pm.rev(h:Pm n p)(i j:Nat):Pm n (kas_rev p i j):=⟨h.pos,(mirror_perm _ _ _ _).trans h.perm⟩
theorem Pm.bub(h:Pm n p)(i j:Nat):Pm n (bubble p i j):=⟨h.pos,(bubble_perm _ _ _).trans h.perm⟩
theorem ae(p:Array Nat)(i:Nat):p.getD i 0=(p[i]?).getD 0:=by simp[Array.getD_eq_getD_getElem?]
section
variable(O:KeyOrd)(key:Nat->O.α)
noncomputable def Ka(p:Array Nat)(i:Nat):O.α:=key (p.getD i 0)
noncomputable def Up(p:Array Nat)(k:Nat):Prop:=∀i j,i<=j->j<k->O.kle (Ka O key p i) (Ka O key p j)
noncomputable def Dn(p:Array Nat)(k:Nat):Prop:=∀i j,i<=j->j<k->O.kle (Ka O key p j) (Ka O key p i)
noncomputable def Ev(p:Array Nat)(m q:Nat):Prop:=∀i,m-(q+1)<=i->i<m->Ka O key p i=Ka O key p (m-1)
noncomputable abbrev cE:Nat->Nat->Bool:=λi j=>O.blt (key i) (key j)
variable{O key}{p:Array Nat}{n:Nat}
theorem JS(hj:j<=p.size)(k:Nat):Ka O key (kas_rev p i j) k=if i<=k/\k<j then Ka O key p (i+j-1-k)else Ka O key p k:=by unfold Ka kas_rev;rw[ae,getElem?_mirror_all hj];split<;>rw[<-ae]
theorem KJ(hj:j<=p.size)(h:∀k,i<=k->k<j->Ka O key p k=Ka O key p (j-1))(k:Nat):Ka O key (kas_rev p i j) k=Ka O key p k:=by
 rw[JS hj];split
 .rename_i hk
  rw[h _ (by omega) (by omega),h k hk.1 hk.2]
 .rfl
theorem M5{s d:Nat}(hs:s<p.size)(hd:d<=s)(k:Nat):Ka O key (bubble p s d) k=if k=s-d then Ka O key p s else if s-d<k/\k<=s then Ka O key p (k-1)else Ka O key p k:=by
 unfold Ka;rw[ae,getElem?_bubble hs d hd]
 by_cases h1:k=s-d
 .rw[if_pos h1,if_pos h1,<-ae]
 .rw[if_neg h1,if_neg h1]
  by_cases h2:s-d<k/\k<=s
  .rw[if_pos h2,if_pos h2,<-ae]
  .rw[if_neg h2,if_neg h2,<-ae]
theorem Up.one:Up O key p 1:=λi j h1 h2=>by
 obtain rfl:i=j:=by omega
 exact EM _
theorem Up.more{k:Nat}(h:Up O key p k)(hl:O.kle (Ka O key p (k-1)) (Ka O key p k)):Up O key p (k+1):=λi j h1 h2=>by
 by_cases hj:j<k
 .exact h i j h1 hj
 obtain rfl:j=k:=by omega
 by_cases hi:i=j
 .subst hi;exact EM _
 .exact GW (h i (j-1) (by omega) (by omega)) hl
theorem Dn.more{k:Nat}(h:Dn O key p k)(hl:O.kle (Ka O key p k) (Ka O key p (k-1))):Dn O key p (k+1):=λi j h1 h2=>by
 by_cases hj:j<k
 .exact h i j h1 hj
 obtain rfl:j=k:=by omega
 by_cases hi:i=j
 .subst hi;exact EM _
 .exact GW hl (h i (j-1) (by omega) (by omega))
theorem Dn.same{p':Array Nat}{k:Nat}(h:Dn O key p k)(e:∀i,Ka O key p' i=Ka O key p i):Dn O key p' k:=λi j h1 h2=>by rw[e,e];exact h i j h1 h2
theorem Kj(hp:Pm n p){Q:Nat->Prop}:∀(f m:Nat),Up O key p m->(∀m',m<=m'->m'<=m+f->Up O key p m'->(m'=m+f\/O.klt (Ka O key p m') (Ka O key p (m'-1)))->Q m')->AY (cE O key) n (kas_asc p f m) Q
 |0,m,hu,hq=>hq m (Al _) (by omega) hu (.inl rfl)
 |f+1,m,hu,hq=>by
  refine⟨hp.lt _,hp.lt _,?_⟩;dsimp only;split
  .rename_i h
   exact hq m (Al _) (by omega) hu (.inr h)
  .rename_i h
   refine Kj hp f (m+1) (hu.more (FK h)) λm' h1 h2 h3 h4=>hq m' (by omega) (by omega) h3 (h4.imp (λe=>by omega) id)
theorem Ii{Q:Array Nat×Nat×Nat->Prop}:∀(f:Nat) (p:Array Nat) (m q:Nat),Pm n p->Dn O key p m->q+1<=m->Ev O key p m q->m+f<=n ->(∀p' m' q',Pm n p'->m<=m'->m'<=m+f->Dn O key p' m'->q'+1<=m'->Ev O key p' m' q'->Q (p',m',q'))->AY (cE O key) n (kas_desc f p m q) Q
 |0,p,m,q,hp,hd,h1,he,hn,hq=>hq p m q hp (Al _) (by omega) hd h1 he
 |f+1,p,m,q,hp,hd,h1,he,hn,hq=>by
  have hz:m<=p.size:=by rw[hp.size];omega
  have e0:∀p',Ev O key p' (m+1) 0:=λp' i h1 h2=>by congr 1;omega
  refine⟨hp.lt _,hp.lt _,?_⟩;dsimp only;split
  .rename_i h
   have hd':=hd.more (G0 h);split
   .exact Ii f _ (m+1) 0 (hp.rev _ _) (hd'.same (KJ hz he)) (by omega) (e0 _) (by omega) λp' m' q' a b c d e g=>hq p' m' q' a (by omega) (by omega) d e g
   .exact Ii f _ (m+1) 0 hp hd' (by omega) (e0 _) (by omega) λp' m' q' a b c d e g=>hq p' m' q' a (by omega) (by omega) d e g
  .rename_i h
   refine⟨hp.lt _,hp.lt _,?_⟩;dsimp only;split
   .exact hq p m q hp (Al _) (by omega) hd h1 he
   .rename_i h'
    have l1:=FK h;have l2:=FK h';have ee:Ka O key p m=Ka O key p (m-1):=Mh l2 l1;refine Ii f p (m+1) (q+1) hp (hd.more l2) (by omega) (λi a b=>?_) (by omega) λp' m' q' a b c d e g=>hq p' m' q' a (by omega) (by omega) d e g;rw[show m+1-1=m by omega]
    by_cases hi:i=m
    .rw[hi]
    .rw[ee];exact he i (by omega) (by omega)
theorem Og(hp:Pm n p)(hd:Dn O key p m)(h1:1<=m)(hm:m<=n)(hq:∀m' p',1<=m'->m'<=n->Pm n p'->Up O key p' m'->Q (m',p')):AY (cE O key) n (kas_tail3 m n p) Q:=by
 have hz:m<=p.size:=by rw[hp.size];omega
 refine AY.bnd _ (Kj (hp.rev 0 m) (n-m) m (λi j a b=>?_) λm' a b c _=>hq m' _ (by omega) (by omega) (hp.rev 0 m) c);rw[JS hz,JS hz,if_pos (by omega),if_pos (by omega)];exact hd _ _ (by omega) (by omega)
theorem Oh(hp:Pm n p)(hd:Dn O key p (m+1))(hm:m+1<=n)(hq:∀m' p',1<=m'->m'<=n->Pm n p'->Up O key p' m'->Q (m',p')):AY (cE O key) n (kas_descPart m n p) Q:=by
 refine AY.bnd _ (Ii (n-(m+1)) p (m+1) 0 hp hd (by omega) (λi a b=>by congr 1;omega) (by omega) λp' m' q' h1 h2 h3 h4 h5 h6=>?_);have hz:m'<=p'.size:=by rw[h1.size];omega
 dsimp only;split
 .exact Og (h1.rev _ _) (h4.same (KJ hz h6)) (by omega) (by omega) hq
 .exact Og h1 h4 (by omega) (by omega) hq
theorem UT(hp:Pm n p)(hq:∀m' p',1<=m'->m'<=n->Pm n p'->Up O key p' m'->Q (m',p')):AY (cE O key) n (kas_count n p) Q:=by
 have h0:=hp.pos;refine AY.bnd _ (Kj hp (n-1) 1 Up.one λm h1 h2 h3 h4=>?_);have hz:m<=p.size:=by rw[hp.size];omega
 split
 .exact hq m p (by omega) (by omega) hp h3
 .rename_i ag
  have hne':m≠n:=by simpa using ag
  have aD:O.klt (Ka O key p m) (Ka O key p (m-1)):=h4.resolve_left (by omega);split
  .rename_i hm
   refine⟨hp.lt _,hp.lt _,?_⟩;dsimp only;split
   .exact hq m p (by omega) (by omega) hp h3
   .rename_i hr
    have hr':O.kle (Ka O key p (m-1)) (Ka O key p 0):=FK hr;have all:∀k,0<=k->k<m->Ka O key p k=Ka O key p (m-1):=λk _ hk=>Mh (h3 k (m-1) (by omega) (by omega)) (GW hr' (h3 0 k (by omega) hk));refine Oh (hp.rev _ _) (Dn.same ?_ (KJ hz all)) (by omega) hq;refine Dn.more (λi j a b=>?_) (G0 aD);rw[all i (by omega) (by omega),all j (by omega) b];exact EM _
  .obtain rfl:m=1:=by omega
   refine Oh hp (Dn.more (λi j a b=>?_) (G0 aD)) (by omega) hq;obtain rfl:i=j:=by omega
   exact EM _
theorem Kq{Q:Nat->Prop}{k:Nat}(hp:Pm n p)(hu:Up O key p k):∀(f l r:Nat),l<=r->r<=k->r-l<=f->(∀i,i<l->O.kle (Ka O key p i) (Ka O key p k))->(∀i,r<=i->i<k->O.klt (Ka O key p k) (Ka O key p i)) ->(∀l,l<=k->(∀i,i<l->O.kle (Ka O key p i) (Ka O key p k))->(∀i,l<=i->i<k->O.klt (Ka O key p k) (Ka O key p i))->Q l)->AY (cE O key) n (kas_place p k f l r) Q
 |0,l,r,h1,h2,h3,lo,hi,hq=>by
  obtain rfl:l=r:=by omega
  exact hq l h2 lo hi
 |f+1,l,r,h1,h2,h3,lo,hi,hq=>by
  unfold kas_place;split
  .obtain rfl:l=r:=by omega
   exact hq l h2 lo hi
  .refine⟨hp.lt _,hp.lt _,?_⟩
   dsimp only;split
   .rename_i h
    exact Kq hp hu f l ((l+r) / 2) (by omega) (by omega) (by omega) lo (λi a b=>KeyOrd.klt_of_klt_of_kle h (hu _ _ a b)) hq
   .rename_i h
    refine Kq hp hu f ((l+r) / 2+1) r (by omega) (by omega) (by omega) (λi a=>GW (hu i ((l+r) / 2) (by omega) (by omega)) (FK h)) hi hq
theorem NU{Q:Array Nat->Prop}:∀(f:Nat) (p:Array Nat) (k:Nat),Pm n p->Up O key p k->k+f=n->(∀p',Pm n p'->Up O key p' n->Q p')->AY (cE O key) n (kas_bin f p k) Q
 |0,p,k,hp,hu,hn,hq=>by
  obtain rfl:k=n:=by omega
  exact hq p hp hu
 |f+1,p,k,hp,hu,hn,hq=>by
  refine AY.bnd _ (Kq hp hu k 0 k (by omega) (Al _) (by omega) (λi a=>by omega) (λi a b=>by omega) λl hl lo hi=>?_);refine NU f _ (k+1) (hp.bub _ _) (λi j a b=>?_) (by omega) hq;have hk:k<p.size:=by rw[hp.size];omega
  rw[M5 hk (by omega),M5 hk (by omega),show k-(k-l)=l by omega]
  repeat' split
  all_goals first
   |(exfalso;omega)
   |exact EM _
   |exact lo _ (by omega)
   |exact G0 (hi _ (by omega) (by omega))
   |exact hu _ _ (by omega) (by omega)
theorem T9(hn:0<n){Q:Array Nat->Prop}(hq:∀p,Pm n p->Up O key p n->Q p):AY (cE O key) n (kas_sort n) Q:=by
 refine AY.bnd _ (UT ⟨hn,.refl _⟩ λm p h1 h2 h3 h4=>?_);dsimp only;rw[show max m 1=m by omega];split
 .exact NU _ p m h3 h4 (by omega) hq
 .exact hq p h3 (by rwa [show n=m by omega])
end
theorem aB:∀a:mB,HM.lexLt a a=Ab
 |[]=>rfl
 |x::a=>by show(if x=x then HM.lexLt a a else decide (x<x))=Ab;rw[if_pos rfl];exact aB a
theorem Gr(x y:Int)(a b:mB):HM.lexLt (x::a) (y::b)=if x=y then HM.lexLt a b else decide (x<y):=rfl
theorem aK:∀a b c:mB,HM.lexLt a b=Y->HM.lexLt b c=Y->HM.lexLt a c=Y
 |[],[],_,h,_=>by cases h
 |[],_::_,[],_,h=>by cases h
 |[],_::_,_::_,_,_=>rfl
 |_::_,[],_,h,_=>by cases h
 |_::_,_::_,[],_,h=>by cases h
 |x::a,y::b,z::c,h1,h2=>by
  rw[Gr]at *;split at h1
  .rename_i e
   subst e;split at h2
   .rename_i e;subst e;rw[if_pos rfl];exact aK a b c h1 h2
   .rename_i e;rw[if_neg e];exact h2
  .split at h2
   .rename_i e1 e2;subst e2;rw[if_neg e1];exact h1
   .rename_i e1 e2
    have h1:=of_decide_eq_true h1;have h2:=of_decide_eq_true h2;rw[if_neg (by omega)];exact decide_eq_true (by omega)
theorem J5:∀a b c:mB,HM.lexLt a c=Y->HM.lexLt a b=Y\/HM.lexLt b c=Y
 |[],[],_,h=>.inr h
 |[],_::_,_,_=>.inl rfl
 |_::_,_,[],h=>by cases h
 |_::_,[],_::_,_=>.inr rfl
 |x::a,y::b,z::c,h=>by
  rw[Gr]at *;rw[Gr];split at h
  .rename_i e
   subst e
   by_cases e:x=y
   .subst e;rw[if_pos rfl,if_pos rfl];exact J5 a b c h
   .rw[if_neg e,if_neg (AD e)]
    by_cases q:x<y
    .exact .inl (decide_eq_true q)
    .exact .inr (decide_eq_true (by omega))
  .rename_i e
   have h:=of_decide_eq_true h
   by_cases e1:x=y
   .subst e1;rw[if_neg e];exact .inr (decide_eq_true h)
   .rw[if_neg e1]
    by_cases q:x<y
    .exact .inl (decide_eq_true q)
    .rw[if_neg (by omega)];exact .inr (decide_eq_true (by omega))
theorem KU:∀a b:mB,HM.lexLt a b=Ab->HM.lexLt b a=Ab->a=b
 |[],[],_,_=>rfl
 |[],_::_,h,_=>by cases h
 |_::_,[],_,h=>by cases h
 |x::a,y::b,h1,h2=>by
  rw[Gr]at h1 h2
  by_cases e:x=y
  .subst e
   rw[if_pos rfl]at h1 h2;rw[KU a b h1 h2]
  .rw[if_neg e]at h1
   rw[if_neg (AD e)]at h2;have h1:=of_decide_eq_false h1;have h2:=of_decide_eq_false h2;omega
@[reducible] noncomputable def JT:KeyOrd where
 α:=mB
 blt:=HM.lexLt
 irrefl:=aB
 trans:=aK
 negTrans:=J5
 total:=KU
theorem Kr{α:Type}{R:α->α->Prop}(eS:∀a b,R a b->R b a->a=b):∀{l m:List α},l.Perm m->l.Pairwise R->m.Pairwise R->l=m
 |[],m,hp,_,_=>(List.nil_perm.mp hp).symm
 |x::l,[],hp,_,_=>absurd hp.symm (by intro q;exact List.cons_ne_nil _ _ (List.nil_perm.mp q))
 |x::l,y::m,hp,hl,hm=>by
  obtain⟨l1,l2⟩:=List.pairwise_cons.mp hl;obtain⟨m1,m2⟩:=List.pairwise_cons.mp hm;have e:x=y:=by
   rcases Ak.mp (hp.mem_iff.mp (A9 ..))with e|e
   .exact e
   .rcases Ak.mp (hp.mem_iff.mpr (A9 ..))with e'|e'
    .exact e'.symm
    .exact eS x y (l1 y e') (m1 x e)
  subst e;rw[Kr eS ((List.perm_cons x).mp hp) l2 m2]
noncomputable def TI(h:Heap)(b:Addr)(t:mB):Prop:=∃o YL n,h.get? b=Z o/\o.cls=.type "tuple"/\o.data=.seq YL n/\IntsAre YL.toList t
section
variable{prog:Program}{w:World}{A:Around}{E:mD}{s:Shared}
theorem MW{YZ:Bool}{Q:Bool->Shared->Prop}:∀{vs ws:mH} {a b:mB} (i:Nat),IntsAre vs a->IntsAre ws b->YZ=decide (BX vs<BX ws)->Q (HM.lexLt a b) s->KatLex prog w A Y YZ Q (vs.zip ws) i s
 |_,_,_,_,i,.nil,.nil,e,q=>by subst e;exact kat_nil q
 |_,_,_,_,i,.nil,.cons _ _ _,e,q=>by subst e;exact kat_nil q
 |_,_,_,_,i,.cons _ _ _,.nil,e,q=>by subst e;exact kat_nil q
 |_,_,_,_,i,.cons x t hv,.cons y u hw,e,q=>by
  rw[List.zip_cons_cons];refine kat_cons (wpAny_eqBool_int ?_);rw[Gr]at q
  by_cases h:x=y
  .rw[if_pos h]at q
   rw[show(x==y)=Y by simpa using h];refine kat_yes (MW (i+1) hv hw ?_ q);rw[e,A8,A8];exact decide_eq_decide.mpr (by omega)
  .rw[if_neg h]at q
   rw[show(x==y)=Ab by simpa using h];refine kat_no ?_
   by_cases hi:i=0
   .rw[show(Y&&i==0)=Y by simpa using hi]
    exact oneLt_int q
   .rw[show(Y&&i==0)=Ab by simpa using hi]
    exact kat_one _ _ (PyProof.Rows.lt_int q)
theorem Qo{x y:Addr}{a b:mB}{Q:Bool->Shared->Prop}(hx:TI s.heap x a)(hy:TI s.heap y b)(h:Q (HM.lexLt a b) s):wpAny (model prog w) A (keyLt' (tuples' Y) (.ref x) (.ref y)) Q E s:=by obtain⟨ox,ix,n,e1,_,d1,r1⟩:=hx;obtain⟨oy,iy,k,e2,_,d2,r2⟩:=hy;refine kat_lt e1 d1 e2 d2 (MW 0 r1 r2 ?_ h);rw[Co,Co]
theorem NL{α:Type}{jF:Nat->Nat->(Bool->Shared->Prop)->Shared->Prop}{o:Nat->Nat->Bool}{n:Nat}(hc:∀i j C,i<n->j<n->C (o i j) s->jF i j C s){G:α->Shared->Prop}:∀(t:KasT α),AY o n t (λa=>G a s)->t.kasWp jF G s
 | .ret a,h=>h
 | .ask i j k,h=>hc i j _ h.1 h.2.1 (NL hc (k (o i j)) h.2.2)
theorem Tt{R:Heap->Addr->mB->Prop}{F:mB->Prop}(kT:∀{h h':Heap} {b:Addr} {t:mB},R h b t->(∀c o,h.get? c=Z o->o.cls=.type "tuple"->h'.get? c=Z o)->R h' b t)(el:∀{h:Heap} {b:Addr} {t:mB},F t->R h b t->∃o YL n x u,h.get? b=Z o/\o.cls=.type "tuple"/\o.data=.seq YL n/\YL[0]?=Z (.int x u))(aD:∀{s:Shared} {x y:Addr} {a b:mB} {C:Bool->Shared->Prop} {E:mD},R s.heap x a->R s.heap y b->C (HM.lexLt a b) s->wpAny (model prog w) A (keyLt' (tuples' Y) (.ref x) (.ref y)) C E s){a:Addr}{vs:mH}{ts:mC}{n:Nat}{P:PySem.Fin->Shared->Prop}(ho:s.heap.get? a=Z (seqObj "list" vs.toArray n))(hl:BX ts=vs.length)(hT:∀(i:Nat) t,ts[i]?=Z t->∃b,vs[i]?=Z (.ref b)/\R s.heap b t)(ag:BX vs<2\/∀t∈ts,F t)(fN:BX vs<64)(h:∀p:List Nat,p.Perm (Cg vs.length)->(p.map λi=>ts.getD i []).Pairwise (λx y=>HM.lexLt y x=Ab)->P (.done (.ret .none)) {s with heap:=Fo s.heap a vs (p.map λi=>vs.getD i AR).toArray}):wpAny (model prog w) A (Builtin.«list.sort» ⟨[.ref a],[]⟩) P E s:=by
 rw[list_sort_plain];have ha:a<s.heap.objs.size:=Ai ho;refine Ac (listItems_at ho rfl (Ac (listUpdate_at ho rfl ?_ (by rw[Ay,CQ];omega) (CP _))));obtain⟨e1,jv⟩:∃e1,(s.heap.update a (ED λ_=>#[])).get? a=Z (seqObj "list" #[] e1):=⟨_,get?_update_seq ho (λ_=>#[])⟩;refine Ac (seqEpoch_at jv rfl ?_);refine Ac (wpAny_newTuple ?_ (by show vs.length<=_;rw[CQ];omega));refine Ac (wpAny_newList ?_ (CP _));refine CL ?_;generalize hG:((s.heap.update a (ED λ_=>#[])).push (seqObj "tuple" vs.toArray 0)).push (seqObj "list" #[] 0)=g;have ju:g.get? a=Z (seqObj "list" #[] e1):=by rw[<-hG,FT _ _ _ (by rw[size_push',GV];exact Am (GZ ha)),FT _ _ _ (by rw[GV];exact Am ha)];exact jv
 have iE:∀b o,b≠a->s.heap.get? b=Z o->g.get? b=Z o:=λb o hb e=>by have aD:=Ai e;rw[<-hG,FT _ _ _ (by rw[size_push',GV];exact Am (GZ aD)),FT _ _ _ (by rw[GV];exact Am aD),Ju _ _ _ _ hb];exact e
 have gX:∀(i:Nat) t,ts[i]?=Z t->∃b,vs[i]?=Z (.ref b)/\R g b t:=λi t e=>by
  obtain⟨b,e1,x⟩:=hT i t e;refine⟨b,e1,kT x λc o q hc=>iE c o ?_ q⟩
  rintro rfl
  rw[ho]at q;cases q;exact absurd (Value.type.inj hc) (by decide)
 show wpAny (model prog w) A _ P E {s with heap:=g};dsimp only;have YZ:∀(st':SortSt) (p:List Nat),p.Perm (Cg vs.length)->(p.map λi=>ts.getD i []).Pairwise (λx y=>HM.lexLt y x=Ab)->(arrOf st').map (·.2)=(p.map λi=>vs.getD i AR).toArray->failedOf st'=U ->
   wpAny (model prog w) A (do
    let touched:=(<-seqEpoch a) != e1
    Ma (.ref a) λ_=>(arrOf st').map (·.2)
    if let Z e:=failedOf st' then rule "list.sort.comparison-raised";throw e
    if touched then rule "list.sort.modified";raiseError "ValueError" "list modified during sort"
    ret .none) P E {s with heap:=g}:=by
  intro st' p hp hs gV hf;refine Ac (seqEpoch_at ju rfl ?_);rw[gV];refine Ac (listUpdate_at ju rfl ?_ (CP _) (by show(p.map λi=>vs.getD i AR).toArray.size<=_;rw[Ay,Ap,hp.length_eq,IW,CQ];omega));rw[hf];simp only[bne_self_eq_false,FY,if_false];refine Ag ?_;have:=h p hp hs;unfold Fo at this;rw[hG]at this;exact this
 by_cases h2:vs.toArray.size<2
 .rw[if_pos h2,if_pos h2]
  refine Ac (Ag ?_);rw[StateT.run_pure];refine Ac (Ag ?_);refine YZ (SortSt.mk' general' (vs.toArray.zip vs.toArray) #[] 7 U) (Cg vs.length) (.refl _) ?_ ?_ rfl
  .rw[Ay]at h2
   have:BX vs=0\/vs.length=1:=by omega
   rcases this with e|e<;>rw[e]<;>simp
  .rw[Ay]at h2
   show Array.map (·.2) (vs.toArray.zip vs.toArray)=_
   match vs,h2 with
   |[],_=>simp
   |[v],_=>simp
 .rw[if_neg h2,if_neg h2]
  rw[Ay]at h2;have hne':∀t∈ts,F t:=ag.resolve_left h2;have tups:∀(vs:mH) (ts:mC),BX ts=vs.length->(∀(i:Nat) t,ts[i]?=Z t->∃b,vs[i]?=Z (.ref b)/\R g b t)->(∀t∈ts,F t)->∃fs,KatTups g vs fs/\fs.length=vs.length/\∀v∈fs,∃x t,v=Fw x t:=by
   intro vs
   induction vs with
   |nil=>intro ts hl _ _;exact⟨[],KatTups.nil,rfl,by simp⟩
   |cons v vs ih =>
    intro ts hl hT hn;cases ts with
    |nil=>simp at hl
    |cons t ts =>
     obtain⟨fs,f1,f2,f3⟩:=ih ts (by simpa using hl) (λi t e=>hT (i+1) t (by simpa using e)) λx hx=>hn x (AQ _ hx);obtain⟨b,eb,hr⟩:=hT 0 t rfl;obtain⟨o,YL,m,x,u,g1,g2,g3,g4⟩:=el (hn t (A9 ..)) hr;simp at eb;subst eb;refine⟨.int x u::fs,KatTups.cons g1 g2 g3 g4 f1,by simp[f2],λv hv=>?_⟩;rcases Ak.mp hv with e|e
     .exact⟨x,u,e⟩
     .exact f3 v e
  obtain⟨fs,f1,f2,f3⟩:=tups vs ts hl gX hne';refine Ac (kat_kind (s:={s with heap:=g}) (T:=.type "int") f1 (by omega) (λv hv=>?_) (by rfl) ?_)
  .obtain⟨x,t,rfl⟩:=f3 v hv
   exact Looks.of_pure rfl
  rw[show(Ci "int" != Ci "tuple")=Y by decide];refine Ac (Ax (kat_run (ks:=vs) (Q:=λst' s'=>s'={s with heap:=g}/\∃p:Array Nat,Pm vs.length p/\Up JT (λi=>ts.getD i []) p vs.length/\arrOf st'=p.map (kas_item (vs.toArray.zip vs.toArray))/\failedOf st'=U)
   (G:=λp s'=>s'={s with heap:=g}/\Pm vs.length p/\Up JT (λi=>ts.getD i []) p vs.length) rfl (by omega) fN (λp' st' s' a1 a2 a3 a4=>⟨a4.1,p',a4.2.1,a4.2.2,a2,a3⟩) ?_) ?_ λ_ _ e=>e)
  .refine NL (o:=cE JT λi=>ts.getD i []) (n:=vs.length) (λi j C hi hj hC=>?_) _ (T9 (by omega) λp h1 h2=>⟨rfl,h1,h2⟩)
   have gi:ts[i]?=Z (ts.getD i []):=by simp[show i<BX ts by omega]
   have gj:ts[j]?=Z (ts.getD j []):=by simp[show j<BX ts by omega]
   obtain⟨b1,v1,x1⟩:=gX i _ gi;obtain⟨b2,v2,x2⟩:=gX j _ gj;show wpAny (model prog w) A (keyLt' _ (vs.getD i AR) (vs.getD j AR)) C _ _;rw[show vs.getD i AR=.ref b1 by simp[DV,v1],show vs.getD j AR=.ref b2 by simp[DV,v2]];exact aD x1 x2 hC
  .rintro ⟨⟨⟩,st'⟩ s' ⟨rfl,p,hp,hu,gV,hf⟩
   refine YZ st' p.toList ?_ ?_ (kat_snds rfl gV) hf
   .have:=Mp.mp hp.perm
    simpa using this
   .rw[List.pairwise_map,List.pairwise_iff_getElem]
    intro i j hi hj bB;have hsz:=hp.size;have q:=hu i j (EO bB) (by rw[Co]at hj;omega);unfold Ka at q;rw[show p.getD i 0=p.toList[i] by simp[GR,show i<p.size by simpa using hi],show p.getD j 0=p.toList[j] by simp[GR,show j<p.size by simpa using hj]]at q;exact q
theorem SY{a:Addr}{vs:mH}{ts:mC}{P:PySem.Fin->Shared->Prop}(ho:s.heap.get? a=Z (seqObj "list" vs.toArray n))(hl:BX ts=vs.length)(hT:∀(i:Nat) t,ts[i]?=Z t->∃b,vs[i]?=Z (.ref b)/\TI s.heap b t)(ag:BX vs<2\/∀t∈ts,t≠[])(fN:BX vs<64)(h:∀p:List Nat,p.Perm (Cg vs.length)->(p.map λi=>ts.getD i []).Pairwise (λx y=>HM.lexLt y x=Ab)->P (.done (.ret .none)) {s with heap:=Fo s.heap a vs (p.map λi=>vs.getD i AR).toArray}):wpAny (model prog w) A (Builtin.«list.sort» ⟨[.ref a],[]⟩) P E s:=by
 refine Tt (R:=TI) (F:=λt=>t≠[]) (λ⟨o,YL,n,e,c,r⟩ k=>⟨o,YL,n,k _ _ e c,c,r⟩) (λ{h b t} hn x=>?_) Qo ho hl hT ag fN h;obtain⟨o,YL,m,g1,g2,g3,g4⟩:=x;cases t with
 |nil=>exact absurd rfl hn
 |cons x t =>
  cases hi:YL.toList with
  |nil=>rw[hi]at g4;cases g4
  |cons y ys =>
   rw[hi]at g4;cases g4 with
   |cons _ u _=>exact⟨o,YL,m,x,u,g1,g2,g3,by rw[<-D5,hi];rfl⟩
end
noncomputable def BH(h:Heap)(d:Addr)(es:Array DictEntry)(ep:Nat):Prop:=∃o,h.get? d=Z o/\o.ExactDict/\o.data=.dict es ep
theorem BH.at'{h':Heap}{es:Array DictEntry}(x:BH h d es ep)(e:∀o,h.get? d=Z o->h'.get? d=Z o):BH h' d es ep:=let ⟨o,ho,r⟩:=x;⟨o,e _ ho,r⟩
theorem BH.typeIs{s:Shared}{es:Array DictEntry}(x:BH s.heap d es ep):s.TypeIs (.ref d) "dict":=let ⟨o,ho,hc,_⟩:=x;⟨o,ho,hc.1⟩
theorem BH.lt{es:Array DictEntry}(x:BH h d es ep):d<h.objs.size:=let ⟨o,ho,_⟩:=x;Ai ho
section
variable{prog:Program}{w:World}{A:Around}{E:mD}{s:Shared}{it d:Addr}{es:Array DictEntry}{ep i:Nat}
theorem R1{Q:mD}(hd:(d==Bn)=Ab)(hm:BH s.heap d es ep)(hQ:Q (.ref s.heap.objs.size) {s with heap:=s.heap.push {cls:=.type "dict_keyiterator",data:=.fields #[.ref d,.int 0 0,.int es.size 0,.int ep 0]}}):wpAny (model prog w) A (pyIter (.ref d)) Q E s:=by
 obtain⟨o,ho,hc,eN⟩:=id hm;have hT:=hm.typeIs;refine wpAny_pyIter_slot hT F.slot_dict_iter (CY F.slot_dict_iter hT F.entry_dict_iter ?_ (F.args_dict_iter_1 _));unfold Builtin.«dict.__iter__»;refine Ac ?_;unfold Builtin.Dict.dictSlotNone;refine Ac (wpAny_notOrdered_dict hT ?_);show wpAny _ _ (pure (Au d)) _ _ s;refine Ag ?_;show wpAny _ _ (LZ d >>= _) _ _ s;unfold LZ;rw[if_neg (by rw[hd];exact Bw)];refine Ac (Ag (Ac (G1 ho eN (Ac (Jc ho eN ?_)))));refine Ac (CU (Ag ⟨_,rfl,"dict_keyiterator",_,⟨_,Az _ rfl,rfl⟩,F.slot_dict_keyiterator_next.lookup,?_⟩));simpa [rawInt]using hQ
theorem SD{e:DictEntry}{Q:Option Value->Shared->Prop}(Y5:s.heap.IsKeyIter it d i es.size ep)(hm:BH s.heap d es ep)(hx:es[i]?=Z e)(hQ:∀h',h'.IsKeyIter it d (i+1) es.size ep->Bo it s.heap h'->Q (Z e.key) {s with heap:=h'}):wpAny (model prog w) A (pyNext (.ref it)) Q E s:=by
 obtain⟨o,ho,hc,hd⟩:=id Y5;obtain⟨od,eh,Y7,dv⟩:=id hm;unfold pyNext;refine Ac (Hl (wpAny_callSpecial?_slot (name:=AV "__next__") Y5.typeIs F.slot_dict_keyiterator_next
  (CY F.slot_dict_keyiterator_next Y5.typeIs F.entry_dict_keyiterator_next ?_ (F.args_dict_keyiterator_next_1 _))))
 refine Ac (Ag (Ac (Ac ?_)))
 first|refine Ac (Hn Y5.typeIs (Ag ?_))|refine Ac (Hu Y5.typeIs (Ag ?_))
 refine Ac (wpAny_fieldsOf ho hd ?_);have dC:Ml "dict_keyiterator"=Ab:=by decide
 simp only[dC,FY,if_false];show wpAny _ _ (if(Au d==AR)=Y then _ else _) _ _ s;rw[if_neg (show ¬((Au d==AR)=Y) from Bw)];refine Ac (Ag (Ac (G1 eh dv ?_)));rw[if_neg (by simp)];refine Ac (Ag (Ac (Jc eh dv ?_)));rw[if_neg (by simp)];refine Ag ?_;obtain⟨aD,he⟩:=Array.getElem?_eq_some_iff.mp hx;simp only[show ¬((i:Int)<0) from by omega,if_false,GY,LW aD];refine Ac ?_
 first|refine Ac (Hn Y5.typeIs (Ag ?_))|refine Ac (Hu Y5.typeIs (Ag ?_))
 refine Ac (wpAny_isOneOf_keyiter Y5.typeIs ?_);show wpAny _ _ (setField (.ref it) 1 (rawInt ((i:Int)+1)) >>= _) _ _ s;refine Ac (G8 ho hd (by simp) ?_);have hit':(s.heap.update it (Obj.mapFields (·.setIfInBounds 1 (rawInt ((i:Int)+1))))).IsKeyIter it d (i+1) es.size ep :=
  ⟨_,EJ _ ho (Obj.isFreed_of_fields (G3 hd _)),(Obj.cls_mapFields ..).trans hc,by rw[G3 hd];simp[rawInt]⟩
 refine Ac (CL ?_);refine Ac (wpAny_isOneOf_keyiter (s:={s with heap:=s.heap.update it (Obj.mapFields (·.setIfInBounds 1 (rawInt ((i:Int)+1))))}) hit'.typeIs ?_);show wpAny _ _ (pure es[i].key) _ _ _;refine Ag (Ag ⟨_,rfl,Ag ?_⟩);rw[he];exact hQ _ hit' (D8 ..)
theorem Q7{Q:Option Value->Shared->Prop}(hh:A.handled=U)(Y5:s.heap.IsKeyIter it d i es.size ep)(hm:BH s.heap d es ep)(hx:es.size<=i)(hQ:∀h',Heap.ExtBut it s.heap h'->Q U {s with heap:=h'}):wpAny (model prog w) A (pyNext (.ref it)) Q E s:=by
 obtain⟨o,ho,hc,hd⟩:=id Y5;obtain⟨od,eh,Y7,dv⟩:=id hm;unfold pyNext;refine Ac (Hl (wpAny_callSpecial?_slot (name:=AV "__next__") Y5.typeIs F.slot_dict_keyiterator_next
  (CY F.slot_dict_keyiterator_next Y5.typeIs F.entry_dict_keyiterator_next ?_ (F.args_dict_keyiterator_next_1 _))))
 refine Ac (Ag (Ac (Ac ?_)))
 first|refine Ac (Hn Y5.typeIs (Ag ?_))|refine Ac (Hu Y5.typeIs (Ag ?_))
 refine Ac (wpAny_fieldsOf ho hd ?_);have dC:Ml "dict_keyiterator"=Ab:=by decide
 simp only[dC,FY,if_false];show wpAny _ _ (if(Au d==AR)=Y then _ else _) _ _ s;rw[if_neg (show ¬((Au d==AR)=Y) from Bw)];refine Ac (Ag (Ac (G1 eh dv ?_)));rw[if_neg (by simp)];refine Ac (Ag (Ac (Jc eh dv ?_)));rw[if_neg (by simp)];refine Ag ?_;simp only[show ¬((i:Int)<0) from by omega,if_false,GY,Array.getElem?_eq_none hx];refine Ac ?_
 first|refine Ac (Hn Y5.typeIs (Ag ?_))|refine Ac (Hu Y5.typeIs (Ag ?_))
 show wpAny _ _ (setField (.ref it) 0 .none >>= _) _ _ s;refine Ac (G8 ho hd (by simp) ?_);show wpAny _ _ (newExc (.type "StopIteration") [] >>= _) _ _ _;refine Ac ?_;simp only[newExc,newTuple];refine Ac (CU ?_ (by size_fits));refine Ac (m:=G7 _ _) (wpAny_of_eq (a:=AR) (by first|rfl|(simp only[G7];rfl)) ?_)
 refine CU ?_ (by size_fits);simp only[raiseNew];refine Ac (wpAny_handled ?_);rw[show A.in1.handled=U from hh];refine Ac (Ag (wpAny_throw ?_));refine Ac (IS (T:="StopIteration") (b:=Y) ⟨_,Az _ rfl,rfl⟩ isSubtype_stop ?_);exact Ag (hQ _ (((D8 ..).extBut.push _).push _))
theorem Ub(hh:A.handled=U)(I d:Addr)(ag:d≠I)(es:Array DictEntry)(ep:Nat):Walks prog w A I [I,d] [I] es.size (λi v=>∃e,es[i]?=Z e/\v=e.key) (λi h=>h.IsKeyIter I d i es.size ep/\BH h d es ep) where
 sub:=λb hb=>by simp at hb;simp[hb]
 frame:=λ_ _ _ st hk=>⟨st.1.at λo e=>hk I (by simp) o e,st.2.at' λo e=>hk d (by simp) o e⟩
 item:=λi s Q E hi st hQ=>by have hx:es[i]?=Z es[i]:=LW hi;refine SD st.1 st.2 hx λh' hit' hs'=>?_;exact hQ _ h' s.toks ⟨_,hx,rfl⟩ ⟨hit',st.2.at' λo e=>hs'.extBut d o ag e⟩ λb o hb e=>hs'.extBut b o (λh=>hb (by simp[h])) e
 done:=λs Q E st hQ=>Q7 hh st.1 st.2 (Al _) λh' he'=>hQ h' s.toks λb o hb e=>he' b o (λh=>hb (by simp[h])) e
 self:=λ_ _ _ _ st hQ=>wpAny_pyIter_keyiter st.1 hQ
end
end HP
namespace HP
open PySem PySem.Spec PySem.W PySem.Calls PyProof.Rows L2
variable[FX]
section
variable{d:Addr}
section
variable{prog:Program}{w:World}{A:Around}{E:mD}{s:Shared}
theorem Sa{es:Array DictEntry}{ep:Nat}(lo:(d==Bn)=Ab):KdlSrc prog w "dict" d d es.size (λi v=>∃e,es[i]?=Z e/\v=e.key) (λh=>BH h d es ep) where
 type:=λ_ hm=>hm.typeIs
 there:=λ_ hm=>⟨hm.lt,hm.lt⟩
 keep:=λ_ _ hm hk=>hm.at' λo e=>hk d (.inl rfl) o e
 notList:=by decide
 notTuple:=by decide
 hint:=λ_ _ _ _ hm hq=>kdl_hint_dict hm.typeIs hq
 iter:=λ_ _ hh hm=>⟨_,_,(λ_ _ hq=>R1 lo hm hq),Ub hh _ d (Am hm.lt) es ep,⟨⟨_,Az _ rfl,rfl,rfl⟩,hm.at' λo e=>Aj _ e⟩⟩
theorem OM{T:String}{r:Addr}{n:Nat}{P:Nat->Value->Prop}{OK:Heap->Prop}{R:mH->Shared->Prop}(K:KdlSrc prog w T r d n P OK)(hh:A.handled=U)(hok:OK s.heap)(hn:n<=sizeLine)(h:∀(h':Heap) (tk:Nat) (acc:Array Value),(∀b o,s.heap.get? b=Z o->h'.get? b=Z o)->s.heap.objs.size<h'.objs.size->ItemsOf P acc n->R acc.toList {s with heap:=h',toks:=tk}):wpAny (model prog w) A (collect (.ref r)) R E s:=by
 have aD:=K.there _ hok;unfold collect;refine Ac (wpAny_runValue (EL entry_proto_collect' ?_));rw[FH PySem.F.plain_proto_collect _];show wpAny _ A.in1 (newList [] >>= λl=>again (.builtin "list.__iadd__" ⟨[l,.ref r],[]⟩)) _ _ s;refine Ac (CU (Ag ⟨Hk L9 _,EL entry_list_iadd' ?_⟩));rw[FH L9 _];have lF:(s.heap.push {cls:=.type "list",data:=.seq ([]:mH).toArray}).get? s.heap.objs.size=Z {cls:=.type "list",data:=.seq #[]}:=Az _ rfl;show wpAny _ A.in1 (EU (.ref s.heap.objs.size) (.ref r) (.ref s.heap.objs.size)) _ _ _;refine Ax (kdl_extend (A:=A) (s:={s with heap:=s.heap.push {cls:=.type "list",data:=.seq ([]:mH).toArray}})
  (R:=λ(q:Result) (s':Shared)=>∃(h':Heap) (tk:Nat) (acc':Array Value) (c':Nat),q=.ok (.ret (.ref s.heap.objs.size))/\s'={s with heap:=h',toks:=tk} /\
   (∀b o,s.heap.get? b=Z o->h'.get? b=Z o)/\h'.get? s.heap.objs.size=Z {cls:=.type "list",dict:=U,data:=.seq acc' c',slots:=#[]}/\ItemsOf P acc' n)
  K hh (K.keep _ _ hok λb _ o e=>Aj _ e) s.heap.objs.size (Cj aD.1) (Cj aD.2) (.ref s.heap.objs.size) 0 lF
  (λh' tk acc' c' hk hS' YV=>⟨h',tk,acc',c',rfl,rfl,λb o e=>hk b o (Am (Ai e)) (Aj _ e),hS',YV⟩) hn) (λYZ s' x=>?_) λe s' x=>?_
 .have go:∀(h':Heap) (tk:Nat) (acc':Array Value) (c':Nat),(∀b o,s.heap.get? b=Z o->h'.get? b=Z o)->h'.get? s.heap.objs.size=Z {cls:=.type "list",dict:=U,data:=.seq acc' c',slots:=#[]}->ItemsOf P acc' n ->
    wpAny (model prog w) A (load s.heap.objs.size >>= λo=>match o.data with | .seq xs _=>pure xs.toList|_=>unsupported "internal:collect") R E {s with heap:=h',toks:=tk}:=λh' tk acc' c' hk hS' YV =>
   Ac (wpAny_load hS' (Ag (h h' tk acc' hk (Ai hS') YV)))
  cases YZ with
  |done f=>obtain⟨h',tk,acc',c',e,rfl,hk,hS',YV⟩:=x;cases e;exact go h' tk acc' c' hk hS' YV
  |again c₁=>refine⟨x.1,DY x.2 λq s₂ y=>?_⟩;obtain⟨h',tk,acc',c',rfl,rfl,hk,hS',YV⟩:=y;exact go h' tk acc' c' hk hS' YV
 .obtain⟨_,_,_,_,e',_⟩:=x
  cases e'
end
inductive Ct(K:Ad)(F H:Hp)(p:Addr):mE->Prop where
 |lst {ds:mE} {vs:List V} (h:au K H p vs) (r:Zu K F ds vs):Ct K F H p ds
 |tup {ds:mE} {vs:List V} (h:aN K H p vs) (r:Zu K F ds vs):Ct K F H p ds
 |dk {kvs:List (YS×V)} (h:Rd H p (.dK kvs)):Ct K F H p (kvs.map λq=>HM.IA q.1)
 |dt {kvs:List (List YS×V)} (h:H p=Z (.dT kvs)):Ct K F H p (kvs.map λq=>.tuple (q.1.map HM.IA))
theorem Se{K:Ad}{F:Hp}(k:YS):Rep K F (HM.IA k) (kV k):=by
 cases k with
 |inl i=>exact .int i
 |inr x=>exact .str x
theorem KC{K:Ad}{F:Hp}:∀(ks:List YS),Zu K F (ks.map HM.IA) (ks.map kV)
 |[]=>.nil
 |k::ks=>.cons (Se k) (KC ks)
theorem Q1{P:Program}{w:World}{k:YS}{u:Value}(h:(A2 P w).is k u=Y):RelV (kV k) u:=by
 rw[UB]at h;rcases CG h with⟨i,t,rfl,rfl⟩|⟨x,t,rfl,rfl⟩
 .exact⟨t,rfl⟩
 .exact⟨t,rfl⟩
section
variable{X:Cx}{YK:mG}{L:L2.St}{H F:Hp}{s:Shared}{p:Addr}{ds:mE}
theorem HS:∀{vs:List V} {us:mH},BX vs=us.length->(∀(i:Nat) v u,vs[i]?=Z v->us[i]?=Z u->RelV v u)->YN vs us
 |[],[],_,_=>.nil
 |[],_::_,h,_=>by simp at h
 |_::_,[],h,_=>by simp at h
 |v::vs,u::us,h,k=>.cons (k 0 v u rfl rfl) (HS (by simpa using h) λi a b e1 e2=>k (i+1) a b (by simpa using e1) (by simpa using e2))
noncomputable def jN(X:Cx)(s:Shared)(ds:mE)(F:Hp)(p:Addr):Prop:=∃vs,Zu X.K F ds vs/\∀(A:Around) (E:mD) (R:mH->Shared->Prop),A.handled=U ->
  (∀us h' tk,YN vs us->(∀b o,s.heap.get? b=Z o->h'.get? b=Z o)->R us {s with heap:=h',toks:=tk})->wpAny (model X.prog X.w) A (collect (.ref p)) R E s
theorem Ct.gath(I:Inv X YK L H s)(sub:Zs F H)(h:Ct X.K F H p ds):jN X s ds (AJ F H) p:=by
 cases h with
 | @lst _ vs h r=>obtain⟨YL,rv,pl,hz⟩:=I.list h;obtain⟨o,ho,aF,n,hd⟩:=pl.isList;refine⟨vs,r.mono (CA sub),λA E R _ k=>wpAny_collect_seq p (.inl rfl) ho aF hd (λh' kp=>?_) (by rw[Ay,<-rv.length];exact hz)⟩;exact k YL h' s.toks rv kp
 | @tup _ vs h r=>obtain⟨YL,rv,pl,hz⟩:=I.tuple h;obtain⟨o,ho,aF,n,hd⟩:=pl;refine⟨vs,r.mono (CA sub),λA E R _ k=>wpAny_collect_seq p (.inr rfl) ho aF hd (λh' kp=>?_) (by rw[Ay,<-rv.length];exact hz)⟩;exact k YL h' s.toks rv kp
 | @dk kvs h =>
  obtain⟨z,lo,vs,aG,dd⟩:=Eb I.hok h;obtain⟨ep,gU⟩:=dd.dictAt;have hl:BX kvs=vs.length:=ET aG;refine⟨kvs.map λq=>kV q.1,?_,λA E R hh k=>OM (kdl_dict (knd:=A2 X.prog X.w) (kvs:=vs) (ep:=ep) lo) hh gU (by omega) λh' tk acc kp hsz YV=>k _ h' tk ?_ kp⟩
  .have:=KC (K:=X.K) (F:=AJ F H) (kvs.map (·.1))
   rw[Dr,Dr]at this;exact this
  .refine HS (by have q:acc.toList.length=acc.size:=Co;rw[Ap,q,YV.1,hl]) λi v u e1 e2=>?_
   obtain⟨kk,x,q1,q2⟩:=YV.2 i u (by rw[<-D5];exact e2);rw[Bh]at e1;obtain⟨q,e3,e4⟩:=Ao.mp e1;subst e4;have key:∀{l:List (YS×V)} {m:List (YS×Value)},KV l m->∀(i:Nat) a b,l[i]?=Z a->m[i]?=Z b->a.1=b.1:=by
    intro l m r
    induction r with
    |nil=>intro i a b e;simp at e
    |cons hq _ ih =>
     intro i a b e1 e2;cases i with
     |zero=>simp at e1 e2;subst e1;subst e2;exact hq.1
     |succ i=>exact ih i a b (by simpa using e1) (by simpa using e2)
   have ek:=key aG i q (kk,x) e3 q1;rw[ek];exact Q1 q2
 | @dt kvs h =>
  obtain⟨z,lo,xs,aG,o,es,ep,h1,h2,h3,h4,h5⟩:=(show Z0 X.prog X.w H s.heap p (.dT kvs) from I.hok p _ h);have hl:BX kvs=xs.length:=ET aG;have fH:es.size=xs.length:=by rw[<-Co,h4,Ap]
  have hm:BH s.heap p es ep:=⟨o,h1,h2,h3⟩;refine⟨xs.map λq=>V.ref q.2.1,?_,λA E R hh k=>OM (Sa (es:=es) (ep:=ep) lo) hh hm (by omega) λh' tk acc kp hsz YV=>k _ h' tk ?_ kp⟩
  .clear h4 fH hl z h h5
   induction aG with
   |nil=>exact .nil
   | @cons p0 _ _ _ hq _ ih=>obtain⟨q1,q2,_⟩:=hq;rw[An,An];refine .cons ?_ ih;have rk:=KC (K:=X.K) (F:=AJ F H) p0.1;exact .tup (Tx q2) rk.1 rk.2
  .refine HS (by have q:acc.toList.length=acc.size:=Co;rw[Ap,q,YV.1,fH]) λi v u e1 e2=>?_
   obtain⟨e,q1,q2⟩:=YV.2 i u (by rw[<-D5];exact e2);subst q2;rw[Bh]at e1;obtain⟨q,e3,e4⟩:=Ao.mp e1;subst e4;rw[<-D5,h4,Bh,e3]at q1;cases q1;rfl
theorem Gz{K:Ad}{F:Hp}:∀{ds:mE} {vs:List V} {ns:mB},HM.ID ds=Z ns->Zu K F ds vs->vs=ns.map V.int
 |[],vs,ns,h,r=>by cases h;exact r.nil_inv
 |d::ds,vs,ns,h,r=>by
  obtain⟨v,us,rfl,r1,r2⟩:=r.cons_inv;cases d with
  |int b=>obtain⟨bs',h1,h2⟩:=Ao.mp h;subst h2;rw[r1.int_inv,Gz h1 r2];rfl
  |none=>cases h
  |bool _=>cases h
  |str _=>cases h
  |list _=>cases h
  |tuple _=>cases h
  |dict _=>cases h
theorem Nv:∀(t:mB),HM.ID (HM.Y0 t)=Z t
 |[]=>rfl
 |x::t=>by show(HM.ID (HM.Y0 t)).map (x::·)=_;rw[Nv t];rfl
theorem N6:∀{ds:mE} {ns:mB},HM.ID ds=Z ns->ds=HM.Y0 ns
 |[],ns,h=>by cases h;rfl
 |d::ds,ns,h=>by
  cases d with
  |int b=>obtain⟨bs',h1,h2⟩:=Ao.mp h;subst h2;rw[N6 h1];rfl
  |none=>cases h
  |bool _=>cases h
  |str _=>cases h
  |list _=>cases h
  |tuple _=>cases h
  |dict _=>cases h
theorem Ih{K:Ad}{F:Hp}:∀(ns:mB),Zu K F (HM.Y0 ns) (ns.map V.int)
 |[]=>.nil
 |n::ns=>.cons (.int n) (Ih ns)
theorem J7:∀{ns:mB} {us:mH},YN (ns.map V.int) us->IntsAre us ns
 |[],_,r=>by rw[FF]at r;cases r;exact .nil
 |n::ns,_,r=>by
  rw[An]at r;cases r with
  |cons h t=>obtain⟨u,rfl⟩:=h;exact .cons n u (J7 t)
theorem Ov:∀{us:mH} {ns:mB},IntsAre us ns->YN (ns.map V.int) us
 |_,_,.nil=>.nil
 |_,_,.cons n t h=>.cons ⟨t,rfl⟩ (Ov h)
theorem N5:∀{ds:mE} {ts:mC},HM.Oo ds=Z ts->ds=HM.Xx ts
 |[],ts,h=>by cases h;rfl
 |d::ds,ts,h=>by
  cases d with
  |tuple es =>
   unfold HM.Oo at h;split at h
   .rename_i ns hn
    obtain⟨r',h1,h2⟩:=Ao.mp h;subst h2;rw[N6 hn,N5 h1];rfl
   .cases h
  |none=>cases h
  |bool _=>cases h
  |int _=>cases h
  |str _=>cases h
  |list _=>cases h
  |dict _=>cases h
theorem RN{ns ms:mB}(h:ms.Perm ns)(hs:ms.Pairwise (·<=·)):ms=HM.sortI ns:=by refine Kr (R:=(·<=·)) (λa b h1 h2=>by omega) (h.trans (List.mergeSort_perm ns _).symm) hs ?_;have:=L8 (le:=λa b:Int=>decide (a<=b)) (λa b c h1 h2=>by simp at *;omega) (λa b=>by simp;omega) ns;exact this.imp λh=>by simpa using h
theorem Tu{ts us:mC}(h:us.Perm ts)(hs:us.Pairwise (λx y=>HM.lexLt y x=Ab)):us=HM.UZ ts:=by
 refine Kr (R:=λx y=>HM.lexLt y x=Ab) (λa b h1 h2=>KU a b h2 h1) (h.trans (List.mergeSort_perm ts _).symm) hs ?_;have:=L8 (le:=λa b:mB=>!HM.lexLt b a) (λa b c h1 h2=>by
  simp only[IV]at *;cases q:HM.lexLt c a with
  |false=>rfl
  |true =>
   rcases J5 c b a q with z|z
   .rw[h2]at z;cases z
   .rw[h1]at z;cases z) (λa b=>by
  cases q:HM.lexLt b a with
  |false=>simp
  |true =>
   cases q2:HM.lexLt a b with
   |false=>simp
   |true=>have:=aK _ _ _ q q2;rw[aB]at this;cases this) ts
 exact this.imp λh=>by simpa using h
theorem Vc{h:Heap}{a:Addr}{vs:mH}{out:Array Value}{b:Addr}{o:Obj}(hb:b≠a)(e:h.get? b=Z o):(Fo h a vs out).get? b=Z o:=by rw[sortedHeap_old hb (Ai e)];exact e
theorem VC{Src:Hp->Hp->Addr->mE->Prop}(hc:X.calm=Y)(hg:∀{YK:mG} {s:Shared} {L:L2.St} {H F:Hp} {p:Addr} {ds:mE},Inv X YK L H s->Zs F H->Src F H p ds->jN X s ds (AJ F H) p):AI X (.builtin "sorted") (λxs H Q=>∃p F ds ds',xs=[.ref p]/\Zs F H/\Src F H p ds/\HM.Wn ds=Z ds'/\∀l ws,H l=U->Zu X.K (AJ F H) ds' ws->Q (.ref l) (upd H l (.lst ws))):=by
 intro YK s L H xs us Q I r h;obtain⟨p,F,ds,ds',rfl,sub,iC,ay,q⟩:=h;obtain⟨u,rfl,rx⟩:=vals1 r;cases rx;obtain⟨vs,rv,go⟩:=hg I sub iC;unfold HM.Wn at ay;split at ay
 .rename_i fN
  have hvl:=rv.1;refine Calls.call_function_entry kind_sorted plain_sorted entry_sorted (args_sorted1 _) ?_;unfold Builtin.«sorted»;refine Ac (m:=checkCount "sorted" 1 1 _) (Ag ?_);refine Ac (go _ _ _ (I.ok.hd hc) λus h' tk ru kp=>?_);have ku:=ru.length;refine Ac (wpAny_newList ?_ (by rw[CQ];omega));have dm:(h'.push (seqObj "list" us.toArray 0)).get? h'.objs.size=Z (seqObj "list" us.toArray 0):=Az _ rfl;have YZ:∀(out:Array Value) (ws:List V),YN ws out.toList->Zu X.K (AJ F H) ds' ws->ws.length<64->EP X YK L Q (.ref h'.objs.size) {s with heap:=Fo (h'.push (seqObj "list" us.toArray 0)) h'.objs.size us out,toks:=tk}:=λout ws rw' rd hw=>by obtain⟨e,he⟩:=sortedHeap_at (out:=out) dm;have I1:Inv X YK L H {s with heap:=h',toks:=tk}:=I.kept kp;refine⟨.ref h'.objs.size,_,I1.laid (a:=h'.objs.size) (o:=.lst ws) (t':=tk) (λb o e1=>?_) (Al _) ⟨by rw[CQ];omega,out.toList,e,rw',by simpa using he⟩,rfl,q _ ws (I1.hok.fresh (Al _)) rd⟩;exact Vc (Am (Ai e1)) (Aj _ e1)
  show wpAny _ _ _ _ _ {s with heap:=h'.push (seqObj "list" us.toArray 0),toks:=tk};split at ay
  .rename_i ns b8
   cases ay;have lS:=Gz b8 rv;rw[lS]at ru;have hI:=J7 ru;refine Ac (CL (CY slot_list_sort ⟨_,dm,rfl⟩ entry_list_sort (list_sort_tree dm hI (by omega) λout ns' a1 a2 a3=>⟨_,rfl,?_⟩) (args_list_sort _)));refine Ag ⟨_,rfl,?_⟩;have e:=RN a2 a3;have hl:ns'.length<64:=by rw[a2.length_eq,<-hI.length,<-ku];omega
   refine YZ out (ns'.map V.int) (Ov a1) ?_ (by rw[Ap];exact hl);rw[<-e];exact Ih ns'
  .split at ay
   .rename_i ts kx
    split at ay
    .rename_i ag
     cases ay;have hW:=N5 kx;have hT:∀(i:Nat) t,ts[i]?=Z t->∃b,us[i]?=Z (.ref b)/\TI (h'.push (seqObj "list" us.toArray 0)) b t:=λi t e=>by
      have ed:ds[i]?=Z (.tuple (HM.Y0 t)):=by rw[hW];unfold HM.Xx;rw[Bh,e];rfl
      obtain⟨v,hv,rp⟩:=rv.get ed;generalize hq:HM.Y0 t=q at rp;cases rp with
      | @tupk b x h1 =>
       exfalso;cases t with
       |nil=>cases hq
       |cons a t =>
        injection hq with e1 _
        cases e1
      | @tup b _ xs hb hl hr=>subst hq;obtain⟨u,hu,ru'⟩:=ru.get hv;cases ru';have ev:=Gz (F:=AJ F H) (Nv t) ⟨hl,hr⟩;subst ev;have hH:H b=Z (.tup (t.map V.int)):=(YR.refl sub).tups.sub _ _ hb;obtain⟨z,YL,rt,o,h1,h2,n,h3⟩:=(show Z0 X.prog X.w H s.heap b (.tup (t.map V.int)) from I.hok b _ hH);exact⟨b,hu,o,YL.toArray,n,Aj _ (kp b o h1),h2,h3,by simpa using J7 rt⟩
     have aD:BX ts=us.length:=by have:=congrArg BX hW;unfold HM.Xx at this;rw[Ap]at this;omega
     refine Ac (CL (CY slot_list_sort ⟨_,dm,rfl⟩ entry_list_sort (SY dm aD hT ?_ (by omega) λpm hp hs=>⟨_,rfl,?_⟩) (args_list_sort _)))
     .rw[Jd]at ag
      rcases ag with z|z
      .left
       have:=of_decide_eq_true z;omega
      .right
       intro t ht e;have:=Dp.mp z t ht;rw[e]at this;cases this
     .refine Ag ⟨_,rfl,?_⟩
      have hpl:BX pm=us.length:=by rw[hp.length_eq,IW]
      have bz:∀i∈pm,i<BX us:=λi hi=>G9.mp (hp.mem_iff.mp hi);have e:(pm.map λi=>ts.getD i [])=HM.UZ ts:=by
       refine Tu ?_ hs;refine(hp.map _).trans ?_;have:(Cg us.length).map (λi=>ts.getD i [])=ts:=by refine List.ext_getElem (by simp[aD]) λi h1 h2=>?_;simp at h1;simp[DV,show i<BX ts by omega]
       rw[this]
      refine YZ _ (pm.map λi=>vs.getD i V.non) ?_ ?_ (by rw[Ap];omega)
      .refine HS (by simp) λk v u e1 e2=>?_
       rw[Bh]at e1;rw[List.toList_toArray,Bh]at e2;obtain⟨i,hi,rfl⟩:=Ao.mp e1;rw[hi]at e2;cases e2;have hlt':=bz i (Cp hi);have hv:vs[i]?=Z (vs.getD i V.non):=by simp[DV,show i<BX vs by omega]
       obtain⟨u,hu,ru'⟩:=ru.get hv;have:us.getD i AR=u:=by simp[DV,hu]
       show RelV _ (us.getD i AR);rw[this];exact ru'
      .rw[<-e]
       refine⟨by unfold HM.Xx;simp,λk d v e1 e2=>?_⟩;unfold HM.Xx at e1;rw[Bh,Bh]at e1;rw[Bh]at e2;obtain⟨i,hi,rfl⟩:=Ao.mp e2;rw[hi]at e1;have hlt':=bz i (Cp hi);have hd:ds[i]?=Z d:=by
        rw[hW];unfold HM.Xx;rw[Bh];have:ts[i]?=Z (ts.getD i []):=by simp[DV,show i<BX ts by omega]
        rw[this];exact e1
       have hv:vs[i]?=Z (vs.getD i V.non):=by simp[DV,show i<BX vs by omega]
       exact rv.2 i d _ hd hv
    .cases ay
   .cases ay
 .cases ay
theorem VL(hc:X.calm=Y):AI X (.builtin "sorted") (λxs H Q=>∃p F ds ds',xs=[.ref p]/\Zs F H/\Ct X.K F H p ds/\HM.Wn ds=Z ds'/\∀l ws,H l=U->Zu X.K (AJ F H) ds' ws->Q (.ref l) (upd H l (.lst ws))):=VC (Src:=Ct X.K) hc λI sub h=>Ct.gath I sub h
end
end
section
variable{X:Cx}{a b c e:Expr}{fa fb fc:HM.EF}{pos p:Pos}{f:HM.BF}
theorem Uk{K:Ad}{F H:Hp}{q:HM.B}{v:V}{fp:List Addr}{ds:mE}(sub:Zs F H)(r:Z5 K F H q v fp)(h:HM.Sk q=Z ds):∃a,v=.ref a/\Ct K F H a ds:=by
 cases r with
 |pl r =>
  cases r with
  |tup h1 h2 h3=>cases h;exact⟨_,rfl,.tup (.of (sub _ _ h1)) ⟨h2,h3⟩⟩
  | @tupk a x h1=>cases h;exact⟨_,rfl,.tup (.inr h1) (.one (.str x))⟩
  |lst h1 h2 h3=>cases h;exact⟨_,rfl,.lst (sub.seq h1) ⟨h2,h3⟩⟩
  |dct _ _ _ _=>cases h
  |fn _=>cases h
  |non=>cases h
  |bl _=>cases h
  |int _=>cases h
  |str _=>cases h
 |ol h1 r=>cases h;exact⟨_,rfl,.lst (.of h1) r⟩
 |hd _ _ _ _=>cases h
 |hf _=>cases h
 | @ok a kvs vvs h1 h2 h3 =>
  cases h;refine⟨_,rfl,?_⟩;have e:(kvs.map λp=>HM.IA p.1)=vvs.map λp=>HM.IA p.1:=by
   have:=congrArg (Fx HM.IA) h2
   rwa [Dr,Dr]at this
  rw[e];exact .dk (.inl h1)
 | @ot a kvs vvs h1 h2 h3 =>
  cases h;refine⟨_,rfl,?_⟩;have e:(kvs.map λp=>AO (p.1.map HM.IA))=vvs.map λp=>AO (p.1.map HM.IA):=by
   have:=congrArg (Fx λk:List YS=>AO (k.map HM.IA)) h2
   rwa [Dr,Dr]at this
  rw[e];exact .dt h1
 | @otl a kvs vvs ls h1 h2 h3 h4 =>
  cases h;refine⟨_,rfl,?_⟩;have e:(kvs.map λp=>AO (p.1.map HM.IA))=vvs.map λp=>AO (p.1.map HM.IA):=by
   have:=congrArg (Fx λk:List YS=>AO (k.map HM.IA)) h2
   rwa [Dr,Dr]at this
  rw[e];exact .dt h1
theorem OC(hm:X.mg "sorted"=U)(hc:X.calm=Y)(ha:XB X a f)(hg:Gl X "sorted":=by rfl)(hs:Ae [a] X.env=[(Ab,eval a X.env)]:=by rfl):XF X (.Call (.Name "sorted" p) [a] [] pos) (HM.OJ f):=by
 intro r d h;unfold HM.OJ at h;split at h
 .rename_i x hx
  split at h
  .rename_i ds af
   obtain⟨ds',h1,h2⟩:=Ao.mp h;subst h2;refine PE.impN (E9 (VL hc) hg hm TL (HH ha hx hs) (he:=hs)) λL H Q F0 H0 F at_ k=>?_;refine⟨F0,H0,F,at_,λv fp F1 H1 x1 r1=>?_⟩;obtain⟨l,e1,jU⟩:=Uk x1.sub r1 af;subst e1;exact⟨l,F1,ds,ds',rfl,x1.sub,jU,h1,λl' ws hl' rs=>N4 (P:=λv _ H'=>Q v H') x1.tups rs hl' k⟩
  .cases h
 .cases h
end
end HP
namespace HP
open PySem PySem.Spec PyProof.Rows L2
variable[FX]
section
variable{cW:Bool}{q:HM.B}{r:HM.Env}{i:Int}{ns:mB}{ds:mE}{d:PyData}
section
variable{X:Cx}{a b:Expr}{fa:HM.EF}{f:HM.BF}{pos:Pos}
theorem Kk(i:Int):∀ns:mB,fu (.int i) (ns.map V.int)=ns.contains i
 |[]=>rfl
 |n::ns=>by have ih:=Kk i ns;unfold fu at ih ⊢;rw[An,ES,ih,List.contains_cons];show(n==i||_)=(i==n||_);rw[show(n==i)=(i==n) from Bool.eq_iff_iff.mpr ⟨λh=>beq_iff_eq.mpr (beq_iff_eq.mp h).symm,λh=>beq_iff_eq.mpr (beq_iff_eq.mp h).symm⟩]
theorem KH:∀ns:mB,(ns.map V.int).all De=Y
 |[]=>rfl
 |n::ns=>by rw[An,Jl,KH ns];rfl
theorem SA(h:HM.UK fa f r=Z d):∃i q ds ns,fa r=Z (.int i)/\f r=Z q/\HM.Em q=Z ds/\HM.ID ds=Z ns/\d=.bool (ns.contains i):=by
 unfold HM.UK at h;split at h
 .split at h
  .split at h
   .obtain⟨c,h1,h2⟩:=Ao.mp h
    obtain⟨ns,h3,h4⟩:=Ao.mp h1;exact⟨_,_,_,ns,by assumption,by assumption,by assumption,h3,by rw[<-h2,<-h4]⟩
   .cases h
  .cases h
 .cases h
theorem Vp(h:HM.LF fa f r=Z d):∃i q ds ns,fa r=Z (.int i)/\f r=Z q/\HM.Em q=Z ds/\HM.ID ds=Z ns/\d=.bool (!ns.contains i):=by
 unfold HM.LF at h;split at h
 .split at h
  .split at h
   .obtain⟨c,h1,h2⟩:=Ao.mp h
    obtain⟨ns,h3,h4⟩:=Ao.mp h1;exact⟨_,_,_,ns,by assumption,by assumption,by assumption,h3,by rw[<-h2,<-h4]⟩
   .cases h
  .cases h
 .cases h
theorem Tj(ha:XE X a fa)(hb:XB X b f)(h1:fa r=Z (.int i))(h2:f r=Z q)(h3:HM.Em q=Z ds)(h4:HM.ID ds=Z ns){op:CmpOp}(ho:aM X (Bp op) (fh X.K cW))(hm:Di op b=Ab):PE X (.Compare a [op] [b] pos) (cT X.K r λ_ F' _ v=>v=.bl (if cW then !ns.contains i else ns.contains i)):=by
 refine PE.impN (Nq ho (ha r _ h1) (hb r q h2) hm) λL H Q F0 H0 F at_ k=>?_;refine⟨F0,H0,F,at_,λv F1 H1 x1 r1=>⟨F0,H0,F1,at_.grow x1,λw F2 H2 x2 ⟨fp,r2⟩=>?_⟩⟩;obtain⟨p,vs,e1,hq,rs⟩:=Kf x2.sub r2 h3;cases r1;rw[Gz h4 rs]at hq;refine⟨p,_,e1,hq,rfl,KH ns,k _ F2 H2 (x1.trans x2) ?_⟩;rw[Kk]
theorem RU(ha:XE X a fa)(hb:XB X b f)(h1:fa r=Z (.int i))(h2:f r=Z q)(h3:HM.Em q=Z ds)(h4:HM.ID ds=Z ns){op:CmpOp}(ho:aM X (Bp op) (fh X.K cW))(hm:Di op b=Ab):PT X (.Compare a [op] [b] pos) λL H Q=>aV X.K r L H λF0 H0 F=>∀F' H',YR F H F' H'->Q (if cW then !ns.contains i else ns.contains i) H':=by
 refine PT.impN (J0 ho (ha r _ h1) (hb r q h2) hm) λL H Q F0 H0 F at_ k=>?_;refine⟨F0,H0,F,at_,λv F1 H1 x1 r1=>⟨F0,H0,F1,at_.grow x1,λw F2 H2 x2 ⟨fp,r2⟩=>?_⟩⟩;obtain⟨p,vs,e1,hq,rs⟩:=Kf x2.sub r2 h3;cases r1;rw[Gz h4 rs]at hq;refine⟨p,_,e1,hq,rfl,KH ns,_,rfl,?_⟩;rw[Kk];exact k F2 H2 (x1.trans x2)
theorem Rv(ha:XE X a fa)(hb:XB X b f)(hm:Di .In b=Ab:=by rfl):XE X (.Compare a [.In] [b] pos) (HM.UK fa f):=by intro r d h;obtain⟨i,q,ds,ns,h1,h2,h3,h4,rfl⟩:=SA h;refine PE.impN (Tj ha hb h1 h2 h3 h4 Ul hm) λL H Q F0 H0 F at_ k=>⟨F0,H0,F,at_,λv F' H' x e=>k v F' H' x ?_⟩;subst e;exact .bl _
theorem KS(ha:XE X a fa)(hb:XB X b f)(hm:Di .NotIn b=Ab:=by rfl):XT X (.Compare a [.NotIn] [b] pos) (HM.tV (HM.LF fa f)):=by intro r d h;obtain⟨i,q,ds,ns,h1,h2,h3,h4,e⟩:=Vp (JW h);cases e;exact RU ha hb h1 h2 h3 h4 VD hm
end
end
section
variable{X:Cx}{c e:Expr}{fa:HM.EF}{t:HM.TF}{g:HM.SF}{pos:Pos}{body:List Stmt}
theorem Oj(n:Nat)(bV:X.xe=λ_ _=>False)(hc:XT X c t)(hb:cc X body g):XS X (.While c body [] pos) (HM.N3 n t g):=by
 intro r o ho;have ho:HM.Lp t g n r=Z o:=ho;have pb:aA X body (λE L H=>∃r o,g r=Z o/\dJ X.K r o E L H):=λYK s L H E I ⟨r,o,h1,h2⟩=>hb r o h1 YK s L H E I h2;have pc:PT X c (λL H Q=>∃r b,t r=Z b/\aV X.K r L H λF0 H0 F=>∀F' H',YR F H F' H'->Q b H'):=λYK s L H Q I ⟨r,b,h1,h2⟩=>hc r b h1 YK s L H Q I h2;refine PS.impN (S6 (Od bV) pc pb) λE L H F0 H0 F at_ k=>?_;refine⟨λm L H=>∃F r,At X.K F0 H0 F H r L/\HM.Lp t g m r=Z o,⟨n,F,r,at_,ho⟩,?_⟩
 rintro m L H ⟨F2,r2,bR,go⟩
 cases m with
 |zero=>cases go
 |succ m =>
  unfold HM.Lp at go;split at go
  .rename_i ht
   refine⟨r2,Y,ht,F0,H0,F2,bR,λF' H' x=>?_⟩;dsimp only;rw[if_pos rfl];have aT:=bR.grow x;have a4:=aT.rebase;refine⟨λσ' H'=>∃F r,At X.K F0 H0 F H' r σ'/\HM.Lp t g m r=Z o,λσ' H' q=>⟨m,FQ m,q⟩,?_⟩;split at go
   .rename_i r' hr
    exact⟨_,_,hr,F',H0,F',a4,λσ' F' H' a'=>⟨F',r',a'.unbase aT.ext aT.nt0,go⟩⟩
   .rename_i r' hr
    exact⟨_,_,hr,F',H0,F',a4,λσ' F' H' a'=>⟨F',r',a'.unbase aT.ext aT.nt0,go⟩⟩
   .rename_i r' hr
    cases go;exact⟨_,_,hr,F',H0,F',a4,λσ' F' H' a'=>k σ' F' H' (a'.unbase aT.ext aT.nt0)⟩
   .rename_i d hr
    cases go;exact⟨_,_,hr,F',H0,F',a4,λv F' H' x q=>k v F' H' (aT.ext.unbase x) q⟩
   .cases go
  .rename_i ht
   cases go;refine⟨r2,Ab,ht,F0,H0,F2,bR,λF' H' x=>?_⟩;dsimp only;rw[if_neg (by simp)];exact k L F' H' (bR.grow x)
  .cases go
end
section
variable{X:Cx}{a b:Expr}{fa:HM.EF}{f:HM.BF}{pos:Pos}
open Classical in
end
section
variable{p1 p2 p3:Pos}{x:Str}
section
variable{X:Cx}{a b c e:Expr}{fa fb fc:HM.EF}{f:HM.BF}{pos p:Pos}{es:List Expr}
theorem U1(i:Nat)(ha:XB X a f)(hN:X.N[i]?=Z x:=by rfl)(hv:br X.env.scope x:=by first|exact Ah rfl|exact Af (Ah rfl)|exact Af (Af rfl))(hd:(x==("__debug__":Str))=Ab:=by decide)(Y7:(x==("__classdict__":Str))=Ab:=by decide)(Y3:Ck (.Name x p1) "extend" X.env (eval (.Name x p1) X.env)=eval (.Name x p1) X.env:=by rfl)(bL:((backTo p3 (Ae [a] X.env)).all (λx=>!x.1)&&(Ez p3 (EB [] X.env)).all (λx=>x.1.isSome)&&decide (([a]:List Expr).length+([]:List Keyword).length+(if([]:List Keyword).isEmpty then 0 else 1)<30))=Y:=by rfl)(aq:(p2.endLine==p3.line)=Y:=by rfl)(hs:Ae [a] X.env=[(Ab,eval a X.env)]:=by rfl):XS X (.Expr (.Call (.Attribute (.Name x p1) "extend" p2) [a] [] p3) pos) (HM.WR i f):=by
 intro r o h;unfold HM.WR at h;split at h
 .rename_i ds af
  split at h
  .rename_i es fH
   split at h
   .rename_i hz
    cases h;refine PS.impN (Fd (JH Hr PySem.F.slot_list_extend PySem.F.type_list_extend Uj (ZS hN hv hd Y7) (Bf (ha r _ fH) BL hs) Y3 bL aq hs rfl)) λE L H F0 H0 F at_ k=>?_;obtain⟨l,vs,e1,e2,e3,_⟩:=at_.chgList (es:=ds) af;refine⟨.ref l,e1,.inl ⟨rfl,_,au.of e2⟩,F0,H0,F,at_,λv F1 H1 x1 ⟨fp,r1⟩=>?_⟩;have ck:=at_.grow x1;obtain⟨l',vs',f1,f2,f3,f4⟩:=ck.chgList (es:=ds++es) af;rw[e1]at f1;cases f1;cases r1 with
    | @ol b _ us hb rs =>
     refine⟨_,b,vs',us,rfl,rfl,f2,hb,?_,k _ F1 _ (f4 _ (f3.append rs))⟩;have e4:=f3.1;have e6:=rs.1;have e5:(1000000:Nat)<=sizeLine:=by decide
     unfold HM.big at hz;omega
   .cases h
  .cases h
 .cases h
theorem Ru(i j:Nat){y:Str}{p4:Pos}(hN:X.N.Nodup)(lJ:X.N[i]?=Z x:=by rfl)(lI:X.N[j]?=Z y:=by rfl)(hx:Loc X.env.scope x:=by first|exact Ah rfl|exact Af rfl)(hv:br X.env.scope y:=by first|exact Ah rfl|exact Af (Ah rfl)|exact Af (Af rfl))(hd:(y==("__debug__":Str))=Ab:=by decide)(Y7:(y==("__classdict__":Str))=Ab:=by decide)(Y3:Ck (.Name y p1) "pop" X.env (eval (.Name y p1) X.env)=eval (.Name y p1) X.env:=by rfl)(aq:(p2.endLine==p3.line)=Y:=by rfl)(hs:Bj (.Call (.Attribute (.Name y p1) "pop" p2) [] [] p3) (Z (.Name x p4)) pos.line X.env=pure Ab:=by rfl)(hf:X.fn x=Y\/X.env.scope.names.lookup x=Z .local:=by first|exact .inl rfl|exact .inr rfl):XS X (.Assign [.Name x p4] (.Call (.Attribute (.Name y p1) "pop" p2) [] [] p3) pos) (HM.R0 i j):=by
 intro r o h;unfold HM.R0 at h;split at h
 .rename_i ds af
  split at h
  .rename_i d hd'
   cases h;refine PS.impN (E8 hN lJ hx (RK Hr PySem.F.slot_list_pop PySem.F.type_list_pop QD (ZS lI hv hd Y7) Y3 aq) hs hf) λE L H F0 H0 F at_ k=>?_;obtain⟨l,vs,e1,e2,e3,e4⟩:=at_.chgList (es:=ds.dropLast) af;obtain⟨v,q1,q2⟩:=e3.get hd';refine⟨.ref l,e1,.inl ⟨rfl,_,au.of e2⟩,l,vs,v,rfl,rfl,e2,by rw[<-e3.1];exact q1,k _ F _ ((e4 _ ?_).set q2)⟩;rw[LY,LY,<-e3.1];exact e3.take _
  .cases h
 .cases h
end
end
section
variable{K:Ad}{F H F0 H0 G:Hp}{a b:Addr}{ob u:HO}{vvs:List (List YS×V)}{d:PyData}{v:V}{ds:mE}{vs:List V}{r:HM.Env}{L:L2.St}{i:Nat}{es:List (PyData×PyData)}
theorem JI(h:b≠a):sw a ob G b=G b:=by unfold sw;rw[if_neg h]
theorem O7:sw a ob G a=(G a).map λ_=>ob:=by unfold sw;rw[if_pos rfl]
theorem Dk.nt(h:Dk vvs u):(∀xs,u≠.tup xs)/\(∀xs,u≠.lst xs)/\(∀o xs,u≠.frz o (.lst xs))/\(∀ps,u≠.tbl ps)/\(∀x,u≠.own x):=by rcases h with h|⟨o,h⟩<;>subst h<;>exact⟨λ_ z=>(by cases z),λ_ z=>(by cases z),λ_ _ z=>(by cases z),λ_ z=>(by cases z),λ_ z=>(by cases z)⟩
theorem Rep.sw(hF:∀u,F a=Z u->Dk vvs u)(aR:Dk vvs ob)(r:Rep K F d v):Rep K (HP.sw a ob F) d v:=by
 induction r with
 |non=>exact .non
 |bl b=>exact .bl b
 |int i=>exact .int i
 |str x=>exact .str x
 |fn h=>exact .fn (FX.sw hF aR h)
 |tupk h=>exact .tupk h
 | @tup b ds vs h hl _ ih=>exact .tup (by rw[JI (λz=>(hF _ (z▸h)).nt.1 _ rfl)];exact h) hl ih
 | @lst b ds vs h hl _ ih =>
  refine .lst ?_ hl ih;rcases h with h|h
  .refine .inl ?_
   have hb:b≠a:=λz=>by
    rcases h with h|⟨o,h⟩
    .exact(hF _ (z▸h)).nt.2.1 _ rfl
    .exact(hF _ (z▸h)).nt.2.2.1 _ _ rfl
   unfold Rd;rw[JI hb];exact h
  .exact .inr h
 | @dct b es kvs vvs' h he hk _ ih =>
  refine .dct ?_ he hk ih
  by_cases hb:b=a
  .subst hb
   have:vvs'=vvs/\∃u,F b=Z u:=by
    rcases h with h|⟨o,h⟩
    .rcases hF _ h with z|⟨o',z⟩
     .cases z;exact⟨rfl,_,h⟩
     .cases z
    .rcases hF _ h with z|⟨o',z⟩
     .cases z
     .cases z;exact⟨rfl,_,h⟩
   obtain⟨rfl,u,hu⟩:=this;unfold Rd;rw[O7,hu];rcases aR with z|⟨o,z⟩
   .subst z;exact .inl rfl
   .subst z;exact .inr ⟨o,rfl⟩
  .unfold Rd
   rw[JI hb];exact h
end
section
variable{X:Cx}{a b c e:Expr}{fa fb fc:HM.EF}{f:HM.BF}{pos p:Pos}
theorem Sl{K:Ad}{F:Hp}{ds:mE}{v:V}(r:Rep K F (.tuple ds) v):∃l vs,v=.ref l/\aN K F l vs/\Zu K F ds vs:=by
 cases r with
 |tup h1 h2 h3=>exact⟨_,_,rfl,.of h1,h2,h3⟩
 | @tupk a x h1=>exact⟨_,_,rfl,.inr h1,.one (.str x)⟩
end
end HP
namespace HP
open PySem
end HP
namespace HP
open PySem PySem.Spec PyProof.Rows L2
variable{cs:mE}
variable[FX]
theorem Rep.fn_inv{K:Ad}{F:Hp}{t:Nat}{v:V}(h:Rep K F (HM.jE t cs) v):∃a,v=.ref a/\FX.fv t cs F a:=by
 cases h with
 | @dct a es kvs vvs h he hk hr =>
  cases kvs with
  |nil=>cases he
  |cons p r =>
   injection he with h1 _
   injection h1 with h2 _
   cases h2
 |fn h=>exact⟨_,rfl,h⟩
theorem Sz{d:PyData}{t:Nat}(h:HM.Sy d=Z (t,cs)):d=HM.jE t cs:=by
 unfold HM.Sy at h;split at h
 .cases h;rfl
 .cases h
end HP
namespace HP
open PySem PySem.Spec PyProof.Rows L2
section
variable{F:Hp}{d:PyData}{K:Ad}{v:V}
noncomputable abbrev aj:FX where
 tl:=[]
 fv:=λ_ _ _ _=>False
 sw:=λ_ _ h=>h
 drop:=λh=>h
 mono:=λh _=>h
theorem Rep.up[FX](r:@Rep aj K F d v):Rep K F d v:=by
 induction r with
 |non=>exact .non
 |bl b=>exact .bl b
 |int i=>exact .int i
 |str x=>exact .str x
 |tup h hl _ ih=>exact .tup h hl ih
 |tupk h=>exact .tupk h
 |lst h hl _ ih=>exact .lst h hl ih
 |dct h he hk _ ih=>exact .dct h he hk ih
 |fn h=>exact h.elim
theorem Rep.cutF[FX]{F':Hp}(hF:∀b o,F b=Z o->te o=Ab->F' b=Z o)(r:Rep K F d v):∀n,HM.dO n d=Y->@Rep aj K F' d v:=by
 induction r with
 |non=>intro _ _;exact @Rep.non aj _ _
 |bl b=>intro _ _;exact @Rep.bl aj _ _ b
 |int i=>intro _ _;exact @Rep.int aj _ _ i
 |str x=>intro _ _;exact @Rep.str aj _ _ x
 |tupk h=>intro _ _;exact @Rep.tupk aj _ _ _ _ h
 |tup h hl _ ih =>
  intro n hn;cases n with
  |zero=>cases hn
  |succ n=>exact @Rep.tup aj _ _ _ _ _ (hF _ _ h rfl) hl λi d v h1 h2=>ih i d v h1 h2 n (Dp.mp hn d (Cp h1))
 |lst h hl _ ih =>
  intro n hn;cases n with
  |zero=>cases hn
  |succ n =>
   refine @Rep.lst aj _ _ _ _ _ ?_ hl λi d v h1 h2=>ih i d v h1 h2 n (Dp.mp hn d (Cp h1));rcases h with(h|⟨o,h⟩)|h
   .exact .inl (.inl (hF _ _ h rfl))
   .exact .inl (.inr ⟨o,hF _ _ h rfl⟩)
   .exact .inr h
 | @dct a es kvs vvs h he hk _ ih =>
  intro n hn;cases n with
  |zero=>cases hn
  |succ n =>
   refine @Rep.dct aj _ _ _ _ kvs vvs ?_ he hk λi d v h1 h2=>ih i d v h1 h2 n ?_
   .rcases h with h|⟨o,h⟩
    .exact .inl (hF _ _ h rfl)
    .exact .inr ⟨o,hF _ _ h rfl⟩
   .subst he
    rw[Bh]at h1;obtain⟨q,h3,h4⟩:=Ao.mp h1;subst h4;have hm:(AO (q.1.map HM.IA),q.2)∈HM.N8 kvs:=CK.mpr ⟨q,Cp h3,rfl⟩;have:=Dp.mp hn _ hm;rw[Av]at this;exact this.2
 |fn h =>
  intro n hn;cases n with
  |zero=>cases hn
  |succ n=>have:=Dp.mp hn _ (A9 ..);cases this
end
section
variable{a:Addr}{o:Obj}
section
variable{P:Program}{w:World}{C:List Addr}{G H H':Hp}{h h':Heap}
theorem Gx(x:Z0 P w H h a (As a o)):h.get? a=Z o:=x.1
theorem HV(e:h.get? a=Z o):Z0 P w H h a (As a o):=⟨e,⟨o,e⟩,λh1 h2 q k=>k o q⟩
end
end
end HP
namespace HP
open PySem PySem.Spec PyProof.Rows L2
variable[FX]
noncomputable def BMod(base:Heap)(mg:mF):Prop:=∃bm o,mg "__builtins__"=Z (.ref bm)/\bm≠Fu/\bm≠Ar/\base.get? bm=Z o/\o.cls=.type "module"/\o.dict=Z Fu/\o.data=.plain
end HP
namespace HP
open PySem
variable{it:Addr}{YM:Array Value}{i:Nat}{Q:mD}
section
variable{prog:Program}{w:World}{A:Around}{E:mD}{s:Shared}
theorem RP{t:Addr}{x:Value}(Y5:s.heap.IsTupleIter it t i)(ht:s.heap.IsTuple t YM)(hx:YM[i]?=Z x)(hQ:∀h',h'.IsTupleIter it t (i+1)->Bo it s.heap h'->Q x {s with heap:=h'}):wpAny (model prog w) A (D6 (.ref it)) Q E s:=by obtain⟨⟨o,ho,hc,hd⟩,⟨ot,gA,_,nt,gP⟩⟩:=And.intro (id Y5) ht;unfold D6;refine Ac (wpAny_callSpecial?_slot (name:=AV "__next__") Y5.typeIs F.slot_tuple_iterator_next (CY F.slot_tuple_iterator_next Y5.typeIs F.entry_tuple_iterator_next ?_ (F.args_tuple_iterator_next_1 _)));show wpAny _ _ (field (.ref it) 0 >>= _) _ _ s;refine Ac (BQ ho hd (x:=.ref t) rfl ?_);show wpAny _ _ (if(Au t==AR)=Y then _ else _) _ _ s;rw[if_neg (λz=>by cases z)];show wpAny _ _ (field (.ref it) 1 >>= _) _ _ s;refine Ac (BQ ho hd (x:=.int i 0) rfl ?_);show wpAny _ _ (seqItems? (.ref t) >>= _) _ _ s;refine Ac (Dj gA gP ?_);simp only[GY,hx];exact Ac (G8 ho hd (by simp) (Ag ⟨x,rfl,Ag (hQ _ ⟨_,EJ _ ho (Obj.isFreed_of_fields (G3 hd _)),(Obj.cls_mapFields ..).trans hc,by rw[G3 hd];simp[rawInt]⟩ (D8 ..))⟩))
theorem Q6{t:Addr}(hh:A.handled=U)(Y5:s.heap.IsTupleIter it t i)(ht:s.heap.IsTuple t YM)(hx:YM[i]?=U)(hE:∀h' e,Heap.ExtBut it s.heap h'->(∃o,h'.get? e=Z o/\o.cls=.type "StopIteration")->E (.ref e) {s with heap:=h'}):wpAny (model prog w) A (D6 (.ref it)) Q E s:=by
 obtain⟨⟨o,ho,hc,hd⟩,⟨ot,gA,_,nt,gP⟩⟩:=And.intro (id Y5) ht;unfold D6;refine Ac (wpAny_callSpecial?_slot (name:=AV "__next__") Y5.typeIs F.slot_tuple_iterator_next (CY F.slot_tuple_iterator_next Y5.typeIs F.entry_tuple_iterator_next ?_ (F.args_tuple_iterator_next_1 _)));show wpAny _ _ (field (.ref it) 0 >>= _) _ _ s;refine Ac (BQ ho hd (x:=.ref t) rfl ?_);show wpAny _ _ (if(Au t==AR)=Y then _ else _) _ _ s;rw[if_neg (λz=>by cases z)];show wpAny _ _ (field (.ref it) 1 >>= _) _ _ s;refine Ac (BQ ho hd (x:=.int i 0) rfl ?_);show wpAny _ _ (seqItems? (.ref t) >>= _) _ _ s;refine Ac (Dj gA gP ?_);simp only[GY,hx];refine Ac (Fp (Ac (G8 ho hd (by simp) ?_)));show wpAny _ _ (newExc (.type "StopIteration") [] >>= _) _ _ _;refine Ac ?_;simp only[newExc,newTuple];refine Ac (CU (Ac (m:=G7 _ _) (wpAny_of_eq (a:=AR) (by first|rfl|(simp only[G7];rfl)) (CU ?_ (by size_fits)))) (by size_fits))
 simp only[raiseNew];refine Ac (wpAny_handled ?_);first|rw[show A.in1.handled=U from hh]|rw[hh]
 exact Ac (Ag (wpAny_throw (hE _ _ (((D8 ..).extBut.push _).push _) ⟨_,Az _ rfl,rfl⟩)))
end
theorem TJ{prog:Program}{w:World}{A:Around}(hh:A.handled=U)(it t:Addr)(ag:t≠it)(YM:Array Value):Draws prog w A it [it,t] YM.size (λi v=>YM[i]?=Z v) (λi h=>h.IsTupleIter it t i/\h.IsTuple t YM) where
 live:=λ_ _ st=>let ⟨o,ho,_⟩:=st.1;⟨o,ho⟩
 frame:=λ_ _ _ ⟨⟨o,ho,r⟩,o2,ho2,r2⟩ hk=>⟨⟨o,hk it (by simp) o ho,r⟩,o2,hk t (by simp) o2 ho2,r2⟩
 item:=λi s Q E hi st hQ=>RP st.1 st.2 (x:=YM[i]) (by simp[hi]) λh' a b=>hQ _ h' s.toks (by simp[hi]) ⟨a,st.2.extBut b.extBut ag⟩ b
 done:=λs Q E st hE=>Q6 hh st.1 st.2 (by simp) hE
end HP
namespace HP
open PySem PySem.Spec PyProof.Rows L2
section
variable{tabs:List (Addr×Addr)}{x:Str}
noncomputable def HE(tabs:List Addr)(H:Hp):Prop:=(∀b,H b=U\/(∃o xs,H b=Z (.frz o (.lst xs)))\/H b=Z (.tbl #[]))/\∀T∈tabs,H T=Z (.tbl #[])
theorem Uh{P:Program}{w:World}{K:Ad}{mg mb:mF}{k:Nat}{fa a:Addr}{fd:FuncData}{sp:Sp}{s₁:Shared}{vs:mH}{ns:mB}(hT:∀q∈tabs,GU K q.1 q.2=Y/\K.lookup q.2=U/\s₁.heap.get? q.2=Z (G6 #[]))(KX:K.In s₁.heap)(b8:s₁.heap.Ns Ar mg)(hb:s₁.heap.Ns Fu mb)(cL:∀x:Str,x ≠ "__name__"->mb x=A4 x)(iQ:s₁.heap.NoLimit)(hg:s₁.gens=#[])(ha:s₁.heap.get? a=Z {cls:=.type "list",data:=.seq vs.toArray})(hi:IntsAre vs ns)(hl:BX ns<=sizeLine)(hr:Z6 k callerA)(lD:PyProof.Rows.BMain s₁.heap mg)(F:∀base:Heap,K.In base->base.Ns Ar mg->BMod base mg->AK P w K mg base bf k fa fd [x] sp)(bA:∀(s:Shared) (u:Value),BindsTo s fd ⟨[u],[]⟩ [(x,u)])(cX:∀H:Hp,HE (tabs.map (·.2)) H->au K H a (ns.map V.int)->sp [.ref a] H (λv _=>v=.bl Y) λ_ _ _=>False):codeAny (model P w) callerA (.call (.ref fa) ⟨[.ref a],[]⟩) (λr s'=>r=.ok (.ret (.bool Y))/\OldK s₁.heap s'.heap/\s'.os=s₁.os/\AllBare s'.gens) s₁:=by
 have rv:=Oy hi;have iA:=hi.length;have jQ:∀q∈tabs,q.2≠a:=λq hq z=>by have:=(hT q hq).2.2;rw[z,ha]at this;cases this
 have eR:∀oS:Option HO,(oS=U\/∃o xs,oS=Z (.frz o (.lst xs)))->(∀H:Hp,H a=oS->au K H a (ns.map V.int))->(∀H:Hp,∀u,oS=Z u->Z0 P w H s₁.heap a u)->(oS≠U->K.lookup a=U) ->
   codeAny (model P w) callerA (.call (.ref fa) ⟨[.ref a],[]⟩) (λr s'=>r=.ok (.ret (.bool Y))/\OldK s₁.heap s'.heap/\s'.os=s₁.os/\AllBare s'.gens) s₁:=by
  intro oS hO hS iJ hK;generalize hH:(λb:Addr=>if b=a then oS else if b∈tabs.map (·.2)then Z (HO.tbl #[])else U)=H;have Ha:H a=oS:=by rw[<-hH];exact if_pos rfl
  have Ht:∀T∈tabs.map (·.2),H T=Z (.tbl #[]):=λT hT'=>by obtain⟨q,hq,e⟩:=CK.mp hT';rw[<-hH];show(if T=a then oS else if T∈tabs.map (·.2)then Z (HO.tbl #[])else U)=_;rw[if_neg (by rw[<-e];exact jQ q hq),if_pos hT']
  have Hc:∀b u,H b=Z u->(b=a/\oS=Z u)\/(b∈tabs.map (·.2)/\u=.tbl #[]):=λb u e=>by
   rw[<-hH]at e;dsimp only at e;split at e
   .rename_i h;exact .inl ⟨h,e⟩
   .split at e
    .rename_i h;cases e;exact .inr ⟨h,rfl⟩
    .cases e
  have cq:∀T∈tabs.map (·.2),s₁.heap.get? T=Z (G6 #[])/\K.lookup T=U/\∃c,GU K c T=Y:=λT hT'=>by obtain⟨q,hq,e⟩:=CK.mp hT';subst e;exact⟨(hT q hq).2.2,(hT q hq).2.1,q.1,(hT q hq).1⟩
  have hok:ai P w H s₁.heap:=λb u e=>by
   rcases Hc b u e with⟨rfl,e'⟩|⟨h,rfl⟩
   .exact iJ H u e'
   .exact(cq b h).1
  have bg:∀{b:Addr} {o:Obj},s₁.heap.get? b=Z o->H b=U->(Cs s₁.heap H).get? b=Z o:=λe n=>RL e n;have d8:∀{b:Addr} {o:Obj} {es:Array DictEntry} {ep:Nat},s₁.heap.get? b=Z o->o.data=.dict es ep->H b=U:=λ{b o es ep} e d=>by
   cases q:H b with
   |none=>rfl
   |some u =>
    rcases Hc b u q with⟨rfl,_⟩|⟨h,_⟩
    .rw[ha]at e;cases e
     have d':Data.seq vs.toArray _=Data.dict es ep:=d;cases d'
    .rw[(cq b h).1]at e;cases e;cases d
  have fk:∀{b:Addr} {m:mF},s₁.heap.Ns b m->(Cs s₁.heap H).Ns b m:=λ{b m} ⟨o,es,ep,e,d,r⟩=>⟨o,es,ep,bg e (d8 e d),d,r⟩;have jB:K.In (Cs s₁.heap H):=λb o e=>bg (KX b o e) (by
   cases q:H b with
   |none=>rfl
   |some u =>
    rcases Hc b u q with⟨rfl,e'⟩|⟨h,_⟩
    .rw[hK (by rw[e'];simp)]at e;cases e
    .rw[(cq b h).2.1]at e;cases e)
  have hM:Mod K mg (Cs s₁.heap H):=⟨jB,fk b8,⟨mb,fk hb,cL⟩,let ⟨mc,h1,h2⟩:=iQ;⟨mc,fk h1,h2⟩⟩;have e0:Ea P w K mg (Cs s₁.heap H) callerA [] s₁ H:=⟨rfl,hM,λb o e=>RB e,EC (TU _ _),trivial,λb hb=>absurd (show b∈([]:List Addr) from hb) (by simp),hok,.of_eq hg⟩;have lH:HE (tabs.map (·.2)) H:=⟨λb=>by
   cases q:H b with
   |none=>exact .inl rfl
   |some u =>
    rcases Hc b u q with⟨_,e'⟩|⟨_,rfl⟩
    .rcases hO with z|⟨o,xs,z⟩
     .rw[z]at e';cases e'
     .rw[z]at e';cases e';exact .inr (.inl ⟨o,xs,rfl⟩)
    .exact .inr (.inr rfl),Ht⟩
  have lO:BMod (Cs s₁.heap H) mg:=by
   obtain⟨bm,ob,b1,b2,b3,b4,b5,b6⟩:=lD;refine⟨bm,ob,b1,b2,λz=>?_,bg b3 ?_,b4,b5,b6⟩
   .obtain⟨o,es,ep,e,d,_⟩:=b8
    rw[z,e]at b3;cases b3;rw[b6]at d;cases d
   .cases q:H bm with
    |none=>rfl
    |some u =>
     rcases Hc bm u q with⟨z,_⟩|⟨h,_⟩
     .rw[z,ha]at b3;cases b3;exact absurd (show(Ci "list":Value)=.type "module" from b4) (by decide)
     .rw[(cq bm h).1]at b3;cases b3;cases b4
  refine DY ((F _ jB (fk b8) lO).run callerA [] s₁ H ⟨[.ref a],[]⟩ [.ref a] [.ref a] _ _ hr e0 (bA s₁ (.ref a)) (.cons rfl .nil) (cX H lH (hS H Ha))) λr s' h=>?_;cases r with
  |error e=>exact AX h
  |ok fl =>
   cases fl with
   |next=>exact AX h
   |brk=>exact AX h
   |cont=>exact AX h
   |ret u =>
    obtain⟨v,H',os,bare,un,hok',r',q⟩:=h;have q':v=.bl Y:=q;subst q';obtain rfl:u=Value.bool Y:=r';refine⟨rfl,⟨λb o e=>?_,λb o e=>un.there b o e (by simp)⟩,os,bare⟩;cases q:H b with
    |none=>exact .inl (un.keep b o e q (by intro z;exact absurd (show b∈([]:List Addr) from z) (by simp)) (by simp))
    |some u =>
     rcases Hc b u q with⟨rfl,e'⟩|⟨h,rfl⟩
     .rcases hO with z|⟨ob,xs,z⟩
      .rw[z]at e';cases e'
      .rw[z]at e';cases e'
       have z2:=un.frzs _ ob _ q;obtain⟨e1,_⟩:=hok _ _ q;obtain⟨e2,_⟩:=hok' _ _ z2;rw[e]at e1;cases e1;exact .inl e2
     .obtain⟨g1,_,c,g3⟩:=cq b h
      rw[g1]at e;cases e;obtain⟨more,z2⟩:=un.tbls b _ q;have z3:s'.heap.get? b=Z {cls:=.none,data:=.fields (#[]++more)}:=hok' b _ z2;refine .inr (.inl ⟨((PySem.W.codeHd_of_K KX g3).tab g1).isCodeTable,rfl,#[],more,rfl,z3⟩)
 cases hk:K.lookup a with
 |some o=>have e:=KX a o hk;rw[ha]at e;cases e;exact eR U (.inl rfl) (λH _=>.inr ⟨_,vs.toArray,_,hk,rfl,rfl,rfl,by rw[Ay,iA];exact hl,by simpa using rv⟩) (λH u z=>by cases z) λz=>absurd rfl z
 |none=>refine eR (Z (.frz {cls:=.type "list",data:=.seq vs.toArray} (.lst (ns.map V.int)))) (.inr ⟨_,_,rfl⟩) (λH e=>.inl (.inr ⟨_,e⟩)) (λH u z=>?_) λ_=>hk;cases z;exact⟨ha,by rw[Ap];exact hl,vs,_,rv,ha⟩
theorem RZ{l:Jb}{n k:Nat}{q:Program}{aW:mI}{XP:mF->Heap->Prop}{YP:World->Heap->Prop}{d:DefRec}{K:Params->Ad}{sp:World->Sp}(hn:l.most=Z n)(fG:n<=sizeLine)(er:d.params.defaults=[])(hr:Z6 k callerA)(hY:∀(w:World) (h:Heap),YP w h->(K w.params).In h)(gW:∀(w:World) (h:Heap),YP w h->∀q∈tabs,h.get? q.2=Z (G6 #[]))(hT:∀(w:World),∀q∈tabs,GU (K w.params) q.1 q.2=Y/\(K w.params).lookup q.2=U)
  (F:∀(w:World) (mg:mF) (fa:Addr) (h:Heap),(K w.params).In h->h.Ns Ar mg->mg d.name=Z (.ref fa) ->
   ∃fd:FuncData,(∀(s:Shared) (u:Value),BindsTo s fd ⟨[u],[]⟩ [(x,u)]) /\
    ∀base:Heap,(K w.params).In base->base.Ns Ar mg->BMod base mg->AK l.prog w (K w.params) mg base bf k fa fd [x] (sp w))
  (cX:∀(w:World) (H:Hp) (a:Addr) (ns:mB),BX ns<=n->HE (tabs.map (·.2)) H->au (K w.params) H a (ns.map V.int)->sp w [.ref a] H (λv _=>v=.bl Y) λ_ _ _=>False):
  PySem.W.WalkO q aW XP YP l.row.toRowW d [] (λf vs=>PySem.call f vs):=by
 refine Att.Ye hn er λw s₀ s₁ mg mb fa o pm cd aH a vs ns G mq ho hd Y7 cY dD cy aw hg=>?_;have KX:=hY w _ mq;obtain⟨fd,hb,hF⟩:=F w mg fa _ KX G.T.g cY;exact Uh (λq hq=>⟨(hT w q hq).1,(hT w q hq).2,gW w _ mq q hq⟩) KX G.T.g G.T.b G.T.builtins G.T.nolimit hg dD cy (Bi aw fG) hr G.T.bmain hF hb λH hO hS=>cX w H a ns aw hO hS
end
section
variable[FX]
theorem XG{K:Ad}{M:mE->Option PyData}{H:Hp}{a:Addr}{ns:mB}{tabs:List Addr}(hO:HE tabs H)(ht:∀T q,(T,q)∈FX.tl->T∈tabs)(hS:au K H a (ns.map V.int))(hM:M [.list (HM.Y0 ns)]=Z (.bool Y)):spD K 1 M [.ref a] H (λv _=>v=.bl Y) λ_ _ _=>False:=by
 refine⟨B6 H,[.list (HM.Y0 ns)],.bool Y,rfl,TQ,λT q hT=>⟨#[],hO.2 T (ht T q hT),trivial,λpos c hc=>by cases hc⟩,.drop,.one (Rep.drop (.lst hS (Ih (K:=K) (F:=H) ns).1 (Ih ns).2)),hM,λv F1 H1 _ r=>r.bool_inv⟩
end
end HP
namespace HP
open PySem PySem.Spec PyProof.Rows L2
variable[FX]
end HP
namespace HP
open PySem PySem.W PyProof.Rows
end HP
namespace HP
open PySem PySem.Spec PyProof.Rows L2
variable[FX]
end HP
namespace HT
open PySem PySem.Spec PyProof.Rows L2
end HT
namespace HP
open PySem PySem.Spec PyProof.Rows L2
end HP
namespace HP
open PySem PySem.Spec PyProof.Rows L2
variable[FX]
section
omit [FX]in
theorem Oa{X:Cx}{YK:mG}{L:L2.St}{H:Hp}{s:Shared}{h':Heap}{t':Nat}{fp:List Addr}(I:Inv X YK L H s)(k:∀b o,b∉fp->s.heap.get? b=Z o->h'.get? b=Z o)(hf:∀b∈fp,BZ X YK H b):Inv X YK L H {s with heap:=h',toks:=t'}:=by
 refine I.step (g':=s.gens) (d':=s.drawn) (ch:=fp) (λb hb=>⟨(hf b hb).2.2.2.1,(hf b hb).2.1,(hf b hb).2.2.2.2.1,(hf b hb).2.2.2.2.2⟩) (λb o _ _ hc e _=>k b o hc e) (λb o _ _ hc e _=>⟨o.slots,k b o hc e⟩) (λ_ _ _ _ n=>n) (λb o hc e=>⟨o,k b o hc e⟩) (λ_ _ e=>e) (λ_ _ _ e=>e) (λb ps e=>⟨#[],by rw[e];simp⟩) (λm hm=>?_) (λb u e=>?_) I.bare
 .obtain⟨o,es,ep,ho,r⟩:=hm;exact⟨o,es,ep,k _ o (λz=>(hf _ z).2.1 rfl) ho,r⟩
 .refine(I.hok b u e).stay (λc v hc q=>k c v (λz=>?_) q) (λ_ q=>q) λ_ _ q=>q
  rcases hc with y|y
  .subst y;rw[(hf _ z).1]at e;cases e
  .rw[(hf c z).1]at y;cases y
end
end HP
namespace HP
open PySem PySem.Spec PyProof.Rows L2
end HP
namespace HP
open PySem PySem.W PyProof.Rows
end HP
namespace HP
open PySem PySem.Spec PyProof.Rows L2
variable[FX]
end HP
namespace HP
open PySem PySem.W PyProof.Rows
end HP
namespace HP
open PySem PySem.Spec PyProof.Rows L2
variable[FX]
end HP
namespace HP
open PySem PySem.Spec PySem.W PySem.Calls PyProof.Rows L2
variable[FX]
end HP
namespace HP
open PySem PySem.Spec PyProof.Rows L2
noncomputable def MP(P:Program)(w:World)(outer:List Env)(H:Hp)(s:Shared)(cls:Value)(e:Addr)(s':Shared)(G:Hp->Prop):Prop :=
 ∃(H':Hp) (B:Heap) (a0:Value),s'.os=s.os/\AllBare s'.gens/\Un (Y8 outer) [] H H' s.heap s'.heap/\ai P w H' s'.heap/\FD B outer e cls a0 s'.heap /\
  (∀b u o,H' b=Z u->s'.heap.get? b=Z o->B.get? b=Z o)/\(∀b o,s.heap.get? b=Z o->H b=U->b∉Y8 outer->B.get? b=Z o) /\
  (∀b o,s.heap.get? b=Z o->b∉Y8 outer->∃o',B.get? b=Z o')/\G H'
noncomputable def aI(P:Program)(w:World):cD:=λouter H s E v s'=>∃e cls,v=.ref e/\MP P w outer H s cls e s' (E cls U)
theorem HL{P:Program}{w:World}{H:Hp}{h:Heap}{a:Addr}{o:HO}(x:Z0 P w H h a o):∃ob,h.get? a=Z ob:=by
 cases o with
 |lst xs=>obtain⟨_,_,_,_,q⟩:=x;exact⟨_,q⟩
 |tup xs=>obtain⟨_,_,_,_,q,_⟩:=x;exact⟨_,q⟩
 |dK kvs=>obtain⟨_,_,_,_,_,_,_,q,_⟩:=x;exact⟨_,q⟩
 |dT kvs=>obtain⟨_,_,_,_,_,_,_,q,_⟩:=x;exact⟨_,q⟩
 |set mr n=>obtain⟨_,_,_,_,q,_⟩:=x;exact⟨_,q⟩
 |ins C dx fs=>obtain⟨_,_,_,q,_⟩:=x;exact⟨_,q⟩
 |own y=>exact x
 |xd fs=>obtain⟨_,⟨_,_,_,q,_⟩,_⟩:=x;exact⟨_,q⟩
 |rng lo hi=>obtain⟨_,_,_,q⟩:=x;exact⟨_,q⟩
 |frz ob u=>exact⟨_,x.1⟩
 |tbl ps=>exact⟨_,x⟩
 |met f y=>exact⟨_,x⟩
 |ext φ=>exact x.2.1
section
variable{P:Program}{w:World}{outer:List Env}{H H':Hp}{s:Shared}{h1 h2 B:Heap}
theorem Nc(g0:∀b∈Y8 outer,∀o,s.heap.get? b=Z o->∀ws,o.data≠.fields ws)(lR:∀b∈Y8 outer,H b=U)(mn:Un (Y8 outer) [] H H' s.heap h1)(hok:ai P w H' h1)(c1:∀b u o,H' b=Z u->h1.get? b=Z o->B.get? b=Z o)(c2:∀b o,s.heap.get? b=Z o->H b=U->b∉Y8 outer->B.get? b=Z o)(c3:∀b o,s.heap.get? b=Z o->b∉Y8 outer->∃o',B.get? b=Z o')(st:B.StaysIn h2)(sl:h1.UpToSlots h2):Un (Y8 outer) [] H H' s.heap h2/\ai P w H' h2/\∀b u o,H' b=Z u->h2.get? b=Z o->B.get? b=Z o:=by
 have keep:∀b u o,H' b=Z u->h1.get? b=Z o->h2.get? b=Z o:=λb u o e q=>st b o (c1 b u o e q);have slot:∀b o,s.heap.get? b=Z o->H b=U->b∈Y8 outer->∃sl,h2.get? b=Z {o with slots:=sl}:=λb o e n hb=>by obtain⟨s1,q⟩:=mn.slot b o e n hb (by simp);obtain⟨s2,q2⟩:=sl b _ q (λws=>g0 b hb o e ws);exact⟨s2,q2⟩
 refine⟨⟨λb o e n hb _=>st b o (c2 b o e n hb),λb o e n hb _=>slot b o e n hb,mn.free,λb o e _=>?_,mn.tups,mn.frzs,mn.tbls⟩,λb u e=>?_,λb u o e q=>?_⟩
 .by_cases hb:b∈Y8 outer
  .obtain⟨s2,q⟩:=slot b o e (lR b hb) hb
   exact⟨_,q⟩
  .obtain⟨o',q⟩:=c3 b o e hb
   exact⟨o',st b o' q⟩
 .refine(hok b u e).stay (λc v hc q=>?_) (λ_ q=>q) λ_ _ q=>q
  rcases hc with z|z
  .subst z;exact keep c u v e q
  .exact keep c _ v z q
 .obtain⟨o',q'⟩:=HL (hok b u e)
  have:=keep b u o' e q';rw[q]at this;cases this;exact c1 b u o e q'
end
section
variable{X:Cx}{YK:mG}{L:L2.St}{H:Hp}{s:Shared}
theorem RX(I:Inv X YK L H s):∀b∈Y8 X.outer,∀o,X.s₀.heap.get? b=Z o->∀ws,o.data≠.fields ws:=λb hb o e ws=>by obtain⟨_,o',q,n⟩:=I.ok.funs.mem hb;rw[e]at q;cases q;exact n ws
theorem Inv.base0(bj:X.ex=[])(I:Inv X YK L H s):Un (Y8 X.outer) [] X.H₀ H X.s₀.heap s.heap:=by have:=I.base;rw[bj]at this;exact this
theorem E7(I:Inv X YK L H s){b:Addr}{o:Obj}(q:X.s₀.heap.get? b=Z o)(n:b∉Y8 X.outer):b∉Y8 X.stack:=λz=>by
 rcases Ak.mp (I.stkSub b z)with y|y
 .have:=Ai q
  rw[y]at this;exact absurd (AW this I.ok.above) (DZ _)
 .exact n y
theorem Kg(bj:X.ex=[])(I:Inv X YK L H s){h2 B:Heap}{e:Addr}{cls a0:Value}{G:Hp->Prop}(FL:FD B X.outer e cls a0 h2)(sl:s.heap.UpToSlots h2)(c1:∀b u o,H b=Z u->s.heap.get? b=Z o->B.get? b=Z o)(d2:∀b o,X.s₀.heap.get? b=Z o->X.H₀ b=U->b∉Y8 X.outer->B.get? b=Z o)(d3:∀b o,X.s₀.heap.get? b=Z o->b∉Y8 X.outer->∃o',B.get? b=Z o')(g:G H):MP X.prog X.w X.outer X.H₀ X.s₀ cls e {s with heap:=h2} G:=by
 obtain⟨u1,u2,u3⟩:=Nc (RX I) I.ok.frf (Inv.base0 bj I) I.hok c1 d2 d3 FL.1 sl;exact⟨H,B,a0,I.os,I.bare,u1,u2,FL,u3,d2,d3,g⟩
structure JK(X:Cx)(E:XK):Prop where
 own:∀(YK:mG) (L:L2.St) (H:Hp) (s:Shared) (h':Heap) (e:Addr) (cls:Value) (vs:mH),Inv X YK L H s->G5 s.heap h' e cls vs->E cls U H->X.xe (.ref e) {s with heap:=h'}
 pass:Y1 (aI X.prog X.w) X E
end
section
variable{P:Program}{w:World}{K:Ad}{mg:mF}{base:Heap}{N:mI}{YO:Str}{scope:Scope}{f:Addr}{cd:Value}{A:Around}{outer:List Env}{s:Shared}{H:Hp}{E:XK}
theorem Zx:JK (AG (aI P w) P w K mg base N YO scope f cd A outer s H E) E:=by
 generalize hX:AG (aI P w) P w K mg base N YO scope f cd A outer s H E=X;have hP:X.prog=P:=by rw[<-hX];rfl
 have hw:X.w=w:=by rw[<-hX];rfl
 have bu:X.stack=X.env::X.outer:=by rw[<-hX];rfl
 have bj:X.ex=[]:=by rw[<-hX];rfl
 have aZ:X.env.frame=Z X.env.locals:=by rw[<-hX];rfl
 have bV:∀v s',X.xe v s'=wpAny (model X.prog X.w) X.A (leaving X.env v) (λ_ s''=>aI X.prog X.w X.outer X.H₀ X.s₀ E v s'') (λe' s''=>aI X.prog X.w X.outer X.H₀ X.s₀ E e' s'') s':=by intro v s';rw[<-hX];rfl
 constructor
 .intro YK L H1 s1 h' e cls vs I hm g
  rw[bV];have fr:X.A.frames=Z (X.env::X.outer):=by rw[<-bu];exact I.ok.frames
  have gJ:∀env∈X.env::X.outer,∀a,env.frame=Z a->a∈Y8 X.stack:=λenv he a ha=>by rw[bu];exact Hv.mpr ⟨env,he,ha⟩
  have el:s1.heap.FunFrames X.base (X.env::X.outer):=by rw[<-bu];exact I.stack
  refine wpAny_leaves_madeW (base:=Hh s1.heap (Y8 X.stack)) (s:={s1 with heap:=h'}) fr aZ (λb o q=>Jt _ q) (L5 el gJ) hm λh2 t fl _ _ sl=>?_;refine⟨e,cls,rfl,Kg (s:=s1) bj I fl ((Heap.UpToSlots.of_keeps hm.keeps).trans sl) (λb u o q1 q2=>D9 _ q2 λz=>?_) (λb o q n hb=>?_) (λb o q hb=>?_) g⟩
  .rw[I.stkFree b z]at q1;cases q1
  .exact D9 _ ((Inv.base0 bj I).keep b o q n hb (by simp)) (E7 I q hb)
  .obtain⟨o',q'⟩:=(Inv.base0 bj I).there b o q (by simp)
   exact⟨o',D9 _ q' (E7 I q hb)⟩
 .intro YK L H1 s1 v s' I hc
  obtain⟨e,cls,rfl,H',B,a0,os,bare,mn,hok,FL,c1,c2,c3,g⟩:=hc;rw[bV];have fr:X.A.frames=Z (X.env::X.outer):=by rw[<-bu];exact I.ok.frames
  have I':Inv X YK L H' s':=I.call' os mn hok bare λb z=>absurd z (by simp);rw[bu]at FL;refine wpAny_leaves_onW fr aZ FL λh2 fl sl=>?_;refine⟨e,cls,rfl,Kg (s:=s') bj I' fl sl c1 (λb o q n hb=>?_) (λb o q hb=>?_) g⟩
  .exact c2 b o ((Inv.base0 bj I).keep b o q n hb (by simp)) ((Inv.base0 bj I).free b o q n (by simp)) (E7 I q hb)
  .obtain⟨o',q'⟩:=(Inv.base0 bj I).there b o q (by simp)
   exact c3 b o' q' (E7 I q hb)
end
end HP
namespace HP
open PySem PySem.Spec PyProof.Rows L2
variable{M:mE->Option Str}{dG:Pos}{x:Str}
variable[FX]
noncomputable def tR(X:Cx)(E:XK)(r:HM.Env)(x:Str):TS:=λ_ L H=>aV X.K r L H λF0 H0 F=>∀F' H' v,YR F0 H0 F' H'->X.mg x=Z v->E v U H'
noncomputable def XR(X:Cx)(E:XK)(st:Stmt)(g:HM.RF):Prop:=∀r x,g r=Z x->PS X st (tR X E r x)
noncomputable def dc(X:Cx)(E:XK)(bU:List Stmt)(g:HM.RF):Prop:=∀r x,g r=Z x->aA X bU (tR X E r x)
section
variable{X:Cx}{E:XK}{st:Stmt}{bU rest:List Stmt}{g g':HM.RF}{m:HM.SF}{pos p:Pos}{e:Expr}{es:List Expr}{f:HM.AF}
theorem JP:XR X E st HM.aP:=λr x h=>by cases h
theorem ZJ(h1:XR X E st g)(h2:XS X st m)(h3:dc X E rest g'):dc X E (st::rest) (HM.AH g m g'):=by
 intro r x h;unfold HM.AH at h;split at h
 .rename_i y q
  cases h;refine aA.imp (B1 (h1 r _ q) Ep) λD L H ⟨F0,H0,F,at_,k⟩=>?_;exact⟨F0,H0,F,at_,k⟩
 .split at h
  .rename_i r' q
   refine aA.imp (B1 (h2 r _ q) (h3 r' x h)) λD L H ⟨F0,H0,F,at_,k⟩=>?_;exact⟨F0,H0,F,at_,λσ' F' H' at'=>⟨F0,H0,F',at',k⟩⟩
  .cases h
theorem A6{t:HM.TF}{c:Expr}{sa sb:List Stmt}(hc:XT X c t)(ha:dc X E sa g)(hb:dc X E sb g'):XR X E (.If c sa sb pos) (HM.bh t g g'):=by
 intro r o ho;unfold HM.bh at ho;split at ho
 .rename_i q
  refine PS.imp (HD (hc r _ q) (ha r o ho) Ep) λD L H ⟨F0,H0,F,at_,k⟩=>?_;exact⟨F0,H0,F,at_,λF' H' x=>EY ⟨F0,H0,F',at_.grow x,k⟩⟩
 .rename_i q
  refine PS.imp (HD (hc r _ q) Ep (hb r o ho)) λD L H ⟨F0,H0,F,at_,k⟩=>?_;exact⟨F0,H0,F,at_,λF' H' x=>E1 ⟨F0,H0,F',at_.grow x,k⟩⟩
 .cases ho
theorem Ts{C:Addr}{B newId YY:String}{bm:mH}{np YW:Pos}(fl:JK X E)(hc:X.calm=Y)(O:OwnCls x C bm newId X.mg X.base)(FB:ExcBaseFacts B newId YY bm)(ha:XA X (e::es) f)(hg:Gl X x:=by rfl)(aE:(x==("__debug__":Str))=Ab:=by decide)(he:Ae (e::es) X.env=(Ab,eval e X.env)::Ae es X.env:=by rfl)(hpl:(backTo YW (Ae es X.env)).any (·.1)=Ab:=by rfl)(hl:(e::es).length<=sizeLine:=by decide):XR X E (.Raise (Z (.Call (.Name x np) (e::es) [] YW)) U pos) (HM.CB x f):=by
 intro r y h;unfold HM.CB at h;split at h
 case h_2=>cases h
 rename_i ds af;cases h;intro YK s L H D I ⟨F0,H0,F,at_,k⟩;obtain⟨tl,N,nm,q,bs,hdct,sn,sub,ab,col,dd,k0,k1,k2,k3,k5,mN,hC,hN,kH,T⟩:=O.obj;refine wpAny_Raise_call_subT (C:=C) (nm:=nm) (q:=q) (N:=N) (bs:=bs) (bm:=tl) (hdct:=hdct) (sn:=sn) (sub:=sub) (ab:=ab) (col:=col) (dd:=dd) (k0:=k0) (k1:=k1) (k2:=k2) (k3:=k3) (k5:=k5) (mN:=mN)
  FB (T.hasType FB.hasBase) (I.ok.hd hc) ?_ kH (Eo I hg O.bound ⟨rfl,?_⟩ aE)
 .rw[he];show(Ab||(backTo YW (Ae es X.env)).any (·.1))=Ab;rw[hpl];rfl
 have h:=ha.pa r ds af YW YK s L H (λvs H2=>∃F2,YR F H F2 H2/\vs.length=ds.length) I ⟨F0,H0,F,at_,λvs F2 H2 x2 q2=>⟨F2,x2,q2.1.symm⟩⟩;have lj:=ha.len r ds af;rw[he]at h ⊢;refine FJ (Ax h (λus s2 ⟨vs,H2,I2,r2,F2,x2,l2⟩=>?_) λ_ _ y=>y);have kp:=I2.bk;exact⟨rfl,by rw[<-r2.length,l2,lj];exact hl,kp _ _ hC,hN.keeps kp,T.keeps kp,λh' e' hm=>fl.own YK L H2 s2 h' e' _ _ I2 hm (k F2 H2 (.ref C) (at_.ext.trans x2) O.bound)⟩
noncomputable def i8(K:Ad)(mg:mF)(n:Nat)(M:mE->Option Str):Sp:=λvs H _ E=>∃F ds x,BX vs=n/\Zs F H/\Tb H/\bG F/\Zu K F ds vs/\M ds=Z x/\∀F' H' v,YR F H F' H'->mg x=Z v->E v U H'
structure Zl(P:Program)(w:World)(K:Ad)(mg:mF)(base:Heap)(k:Nat)(x:Str)(M:mE->Option Str):Prop where
 ex:∃f fd ps,(∀ds d,M ds=Z d->ds.length=ps.length)/\AK P w K mg base (aI P w) k f fd ps (i8 K mg ps.length M)/\mg x=Z (.ref f)/\B3 K (.ref f)=Y/\Binds K fd ps []
theorem Zl.mono{P:Program}{w:World}{K:Ad}{mg:mF}{base:Heap}{j k:Nat}{x:Str}{M:mE->Option Str}(C:Zl P w K mg base j x M)(h:j<=k):Zl P w K mg base k x M:=by obtain⟨f,fd,ps,l,F,r⟩:=C.ex;exact⟨f,fd,ps,l,F.mono h,r⟩
theorem Ko{k:Nat}(hp:Y1 (aI X.prog X.w) X E)(C:Zl X.prog X.w X.K X.mg X.base k x M)(hr:Z6 k X.A)(ha:XA X (e::es) f){r:HM.Env}{y:Str}(h:HM.Z1 M f r=Z y)(hg:Gl X x)(aE:(x==("__debug__":Str))=Ab)(he:Ae (e::es) X.env=(Ab,eval e X.env)::Ae es X.env)(hpl:(backTo pos (Ae es X.env)).any (·.1)=Ab):PE X (.Call (.Name x p) (e::es) [] pos) λL H _=>aV X.K r L H λF0 H0 F=>∀F' H' v,YR F0 H0 F' H'->X.mg y=Z v->E v U H':=by
 unfold HM.Z1 at h;split at h
 case h_2=>cases h
 rename_i ds af;obtain⟨fa,fd,ps,hl,F,hm,hk,hb⟩:=C.ex;refine PE.imp (NG (E:=E) F hr hg hm hk hb .nil hp (ha.pa r ds af) aE he hpl) λL H Q ⟨F0,H0,F1,at_,kk⟩=>?_;refine⟨F0,H0,F1,at_,λvs F' H' x1 q=>?_⟩;show i8 X.K X.mg ps.length M (vs++[]) H' Q E;rw[F8];exact⟨F',ds,y,by rw[<-q.1];exact hl ds _ h,x1.sub,at_.tbx x1,at_.ntx x1,q,h,λF2 H2 v x2 hv=>kk F2 H2 v (at_.ext.trans (x1.trans x2)) hv⟩
theorem Be{k:Nat}(hp:Y1 (aI X.prog X.w) X E)(C:Zl X.prog X.w X.K X.mg X.base k x M)(hr:Z6 k X.A)(ha:XA X (e::es) f)(hg:Gl X x:=by rfl)(aE:(x==("__debug__":Str))=Ab:=by decide)(he:Ae (e::es) X.env=(Ab,eval e X.env)::Ae es X.env:=by rfl)(hpl:(backTo pos (Ae es X.env)).any (·.1)=Ab:=by rfl)(hs:Bj (.Call (.Name x p) (e::es) [] pos) U dG.line X.env=pure Ab:=by rfl):XR X E (.Expr (.Call (.Name x p) (e::es) [] pos) dG) (HM.Z1 M f):=λr y h=>PS.imp (Fd (Ko hp C hr ha h hg aE he hpl) hs) λD L H t=>t
theorem DC{k:Nat}(hp:Y1 (aI X.prog X.w) X E)(C:Zl X.prog X.w X.K X.mg X.base k x M)(hr:Z6 k X.A)(ha:XA X (e::es) f)(hg:Gl X x:=by rfl)(aE:(x==("__debug__":Str))=Ab:=by decide)(he:Ae (e::es) X.env=(Ab,eval e X.env)::Ae es X.env:=by rfl)(hpl:(backTo pos (Ae es X.env)).any (·.1)=Ab:=by rfl):XR X E (.Return (Z (.Call (.Name x p) (e::es) [] pos)) dG) (HM.Z1 M f):=λr y h=>PS.imp (HJ (Ko hp C hr ha h hg aE he hpl)) λD L H t=>t
end
theorem ZW{P:Program}{w:World}{K:Ad}{mg:mF}{base:Heap}{k:Nat}{YO:Str}{st:Stmt}{f:Addr}{fd:FuncData}{N ps:mI}{g:HM.RF}(Fn:ax K x YO st f fd)(mr:Zp N ps (Zg st))(hm:mg x=Z (.ref f))(hb:Binds K fd ps [])(body:∀(YQ:Value) (A:Around) (outer:List Env) (s:Shared) (H:Hp) (E:XK),Z6 k (A.deeper (envOfC YO (Zg st) s.heap.objs.size f YQ))->dc (AG (aI P w) P w K mg base N YO (Zg st) f YQ A outer s H E) E (Bm st) g):Zl P w K mg base (k+1) x (HM.Bk ps.length N.length g):=by
 have hpl:BX ps<=BX N:=by have:=congrArg BX mr.pre;rw[FP]at this;omega
 refine⟨f,fd,ps,λds d h=>?_,?_,hm,Fn.kp,hb⟩
 .unfold HM.Bk at h
  split at h
  .assumption
  .cases h
 .obtain⟨oc,od,kV,aH,pm,an,YQ,ct,bO,rfl,lk,Y7⟩:=Fn.ex
  refine MK lk Y7 mr (λvs H Q E h=>?_) λA outer s H vs Q E hr h=>?_
  .obtain⟨_,_,_,h,_⟩:=h
   exact h
  .obtain⟨F,ds,y,hl,sub,tb,nt,q,hM,kk⟩:=h
   unfold HM.Bk at hM;split at hM
   .exact⟨_,body YQ A outer s H E hr _ _ hM,F,H,F,NS (N:=N) sub tb nt q (by omega),λF' H' v x1 hv=>kk F' H' v x1 hv⟩
   .cases hM
end HP
namespace HP
open PySem PySem.W PyProof.Rows
end HP
namespace HP
open PySem PySem.Spec PyProof.Rows L2
noncomputable abbrev Cb(X:Cx)(e:Addr):Cx:={X with A:=X.A.mark (Z (.ref e)),calm:=Ab,xe:=λ_ _=>False}
noncomputable abbrev BG(X:Cx)(pn:mG)(Eh:mD):Cx:={X with pn:=pn,xe:=Eh}
section
variable{X:Cx}{YK:mG}{L:L2.St}{H:Hp}{s:Shared}
theorem NT(I:Inv X YK L H s)(e:Addr):Inv (Cb X e) YK L H s :=
 ⟨⟨I.ok.mod,I.ok.kind,I.ok.glob,I.ok.blt,I.ok.above,I.ok.inj,I.ok.has,I.ok.cab,λz=>absurd (show Ab=Y from z) (by simp),I.ok.frames,I.ok.stk,I.ok.exf,I.ok.bs,I.ok.bsz,I.ok.noex,I.ok.exfs,I.ok.funs,I.ok.frf⟩,I.os,I.bare,I.base,I.loc,I.cell,I.free,I.freeC,I.pin,I.hok,I.len⟩
theorem UQ(ok:X.Ok){e:Addr}(I:Inv (Cb X e) YK L H s):Inv X YK L H s:=⟨ok,I.os,I.bare,I.base,I.loc,I.cell,I.free,I.freeC,I.pin,I.hok,I.len⟩
theorem MJ(ok:X.Ok)(pn:mG)(Eh:mD):(BG X pn Eh).Ok:=⟨ok.mod,ok.kind,ok.glob,ok.blt,ok.above,ok.inj,ok.has,ok.cab,ok.hd,ok.frames,ok.stk,ok.exf,ok.bs,ok.bsz,ok.noex,ok.exfs,ok.funs,ok.frf⟩
theorem Qd(I:Inv X YK L H s)(Eh:mD):Inv (BG X (X.pn++YK) Eh) [] L H s :=
 ⟨MJ I.ok _ Eh,I.os,I.bare,I.base,I.loc,I.cell,I.free,I.freeC,λp hp=>I.pin p (by simpa using hp),I.hok,I.len⟩
theorem To(ok:X.Ok){bS:mG}{Eh:mD}(I:Inv (BG X (X.pn++YK) Eh) bS L H s):Inv X YK L H s :=
 ⟨ok,I.os,I.bare,I.base,I.loc,I.cell,I.free,I.freeC,λp hp=>I.pin p (Jw _ hp),I.hok,I.len⟩
theorem Td(I:Inv X YK L H s){h':Heap}{m':mF}{t':Nat}(hn:h'.Ns X.env.locals m')(hs:Bo X.env.locals s.heap h'):Inv X YK (CM X.N.length U) H {s with heap:=h',toks:=t'}:=by
 have k:∀{b:Addr} {o:Obj},b≠X.env.locals->s.heap.get? b=Z o->h'.get? b=Z o:=λ{b o} hb e=>(hs.2 b hb).trans e;have dP:∀{b:Addr} {o:Obj},X.s₀.heap.get? b=Z o->b≠X.env.locals:=λ{b o} e=>Am (AW (Ai e) I.ok.above);have trk:∀{b:Addr} {u:HO},H b=Z u->b≠X.env.locals:=λ{b u} e z=>by rw[z,I.free]at e;cases e
 refine⟨I.ok,I.os,I.bare,⟨λb o e n hb hx=>k (dP e) (I.base.keep b o e n hb hx),λb o e n hb hx=>?_,I.base.free,λb o e hx=>?_,I.base.tups,I.base.frzs,I.base.tbls⟩,⟨m',hn,λi x v _ h=>?_⟩,λx c e=>?_,I.free,I.freeC,λp hp=>?_,λb u e=>?_,by simp⟩
 .obtain⟨sl,q⟩:=I.base.slot b o e n hb hx
  exact⟨sl,k (dP e) q⟩
 .obtain⟨o',q⟩:=I.base.there b o e hx
  exact⟨o',k (dP e) q⟩
 .rw[FO]at h
  split at h<;>cases h
 .obtain⟨v,o,q,d⟩:=I.cell x c e
  exact⟨v,o,k (I.cne x c e) q,d⟩
 .obtain⟨q1,q2,q3,q4⟩:=I.pin p hp
  exact⟨k q3 q1,q2,q3,q4⟩
 .refine(I.hok b u e).stay (λc v hc q=>k ?_ q) (λ_ q=>q) λ_ _ q=>q
  rcases hc with z|z
  .rw[z];exact trk e
  .exact trk z
variable{H':Hp}{s':Shared}{e:Addr}{cls a0:Value}{B:Heap}{G:V->Hp->Prop}{Q:Flow->Shared->Prop}{E:mD}{cx n:Str}{c0:Value}{np hp:Pos}{b₀:Stmt}{cw:List Stmt}{rest:List ExceptHandler}{j:Nat}
end
end HP
namespace HP
open PySem PySem.Spec PyProof.Rows L2
variable[FX]
end HP
namespace HP
open PySem PySem.Spec PyProof.Rows L2
section
variable{h:Heap}{K:Ad}{cx x:Str}{mg:mF}
theorem Ri{C:Addr}{bQ:mH}{newId:String}(X:K.In h)(hm:mg x=Z (.ref C))(q:Hj K C bQ newId=Y):OwnCls x C bQ newId mg h:=by
 refine⟨hm,?_⟩;unfold Hj at q;split at q
 case h_2=>cases q
 rename_i d0 c0 s0 h0;split at q
 case h_2=>cases q
 rename_i C1 tl v0 v1 v2 v3 nn v5 h1 h2;rw[Av,Av,Av,Av,Av,beq_iff_eq,beq_iff_eq,beq_iff_eq,IV]at q;obtain⟨⟨⟨⟨⟨rfl,rfl⟩,q1⟩,q2⟩,q3⟩,q4⟩:=q;cases c0 with
 |mk nm bs mro ns qn hd sn sub ab col del =>
  dsimp only at h1 q1 q3 q4;subst h1 q1;have e:s0=#[v0,v1,v2,v3,Z (.builtin nn),v5]:=by
   cases s0 with
   |mk l=>simp only at h2;rw[h2]
  subst e;exact⟨tl,ns,nm,qn,bs,hd,sn,sub,ab,col,d0,v0,v1,v2,v3,v5,_,X _ _ h0,.of_isNs (Js X q3),PySem.W.nsMap_none_of_in X q3 q4,LP X q2⟩
structure CZ(K:Ad)(mg:mF)(cx x:Str):Prop where
 ex:∃C0 C1:Addr,mg cx=Z (.ref C0)/\mg x=Z (.ref C1)/\Hj K C1 [.type "ValueError",.type "Exception",.type "BaseException",.type "object"] "ValueError.__new__"=Y/\FA K (.ref C1) (.ref C0)=Z Y/\D0 K (.ref C1) (.type "ValueError")=Z Y
theorem XD{C0 C1:Addr}(X:K.In h)(G:h.Ns Ar mg)(a:AN K Ar cx=Z (Z (.ref C0)))(b:AN K Ar x=Z (Z (.ref C1)))(c:Hj K C1 [.type "ValueError",.type "Exception",.type "BaseException",.type "object"] "ValueError.__new__"=Y)(d:FA K (.ref C1) (.ref C0)=Z Y)(e:D0 K (.ref C1) (.type "ValueError")=Z Y):CZ K mg cx x :=
 ⟨C0,C1,Bb X G a,Bb X G b,c,d,e⟩
variable[FX]
section
variable{X:Cx}{E:XK}{pos:Pos}{e:Expr}{es:List Expr}{f:HM.AF}{st:Stmt}{bU rest:List Stmt}{g:HM.RF}
theorem A7:dc X E bU HM.aP:=λr x h=>by cases h
theorem Zy(h1:XR X E st g):dc X E (st::rest) g:=λr x h=>aA.imp (B1 (h1 r x h) Ep) λD L H ⟨F0,H0,F,at_,k⟩=>⟨F0,H0,F,at_,k⟩
theorem CJ{np YW:Pos}(fl:JK X E)(hc:X.calm=Y)(T:CZ X.K X.mg cx x)(ha:XA X (e::es) f)(hg:Gl X x:=by rfl)(aE:(x==("__debug__":Str))=Ab:=by decide)(he:Ae (e::es) X.env=(Ab,eval e X.env)::Ae es X.env:=by rfl)(hpl:(backTo YW (Ae es X.env)).any (·.1)=Ab:=by rfl)(hl:(e::es).length<=sizeLine:=by decide):XR X E (.Raise (Z (.Call (.Name x np) (e::es) [] YW)) U pos) (HM.CB x f):=by
 obtain⟨C0,C1,h0,h1,h2,h3,h4⟩:=T.ex;intro r y h YK s L H D I t;exact Ts fl hc (Ri I.mod.kin h1 h2) Jz ha hg aE he hpl hl r y h YK s L H D I t
end
end
end HP
namespace HN
open PySem
end HN
namespace HP
open PySem PySem.Spec PyProof.Rows L2
variable[FX]
section
variable{x:Str}
noncomputable def fR(X:Cx)(E:XK)(e:Expr)(g:HM.RF):Prop:=∀r x,g r=Z x->PE X e λL H _=>aV X.K r L H λF0 H0 F=>∀F' H' v,YR F0 H0 F' H'->X.mg x=Z v->E v U H'
section
variable{X:Cx}{E:XK}{pos p:Pos}{e:Expr}{es:List Expr}{f:HM.AF}{g:HM.RF}
theorem N0{k:Nat}{M:mE->Option Str}(hp:Y1 (aI X.prog X.w) X E)(C:Zl X.prog X.w X.K X.mg X.base k x M)(hr:Z6 k X.A)(ha:XA X (e::es) f)(hg:Gl X x:=by rfl)(aE:(x==("__debug__":Str))=Ab:=by decide)(he:Ae (e::es) X.env=(Ab,eval e X.env)::Ae es X.env:=by rfl)(hpl:(backTo pos (Ae es X.env)).any (·.1)=Ab:=by rfl):fR X E (.Call (.Name x p) (e::es) [] pos) (HM.Z1 M f):=λr y h=>Ko hp C hr ha h hg aE he hpl
theorem M1{x T:String}(h:fR X E e g)(hm:X.mg x=U)(hv:A4 x=Z (.type T))(hg:Gl X x:=by rfl)(hn:(x:Str) ≠ "__name__":=by decide)(aE:((x:Str)==("__debug__":Str))=Ab:=by decide)(he:Ae [e] X.env=[(Ab,eval e X.env)]:=by rfl):fR X E (.Call (.Name x p) [e] [] pos) g:=λr y hy =>
 PE.imp (OA (r:=λ_ _ _=>False) (λ_ _ _ _ _ _ _ _ _ z=>z.elim) hg hm hv (Bf (h r y hy) BL he) hn aE he rfl) λL H Q t=>t
theorem NF(i:Nat){p':Pos}(hN:X.N.Nodup)(h:fR X E e g)(hi:X.N[i]?=Z x:=by rfl)(hx:Loc X.env.scope x:=by first|exact Ah rfl|exact Af rfl)(hs:Bj e (Z (.Name x p')) pos.line X.env=pure Ab:=by rfl)(hf:X.fn x=Y\/X.env.scope.names.lookup x=Z .local:=by first|exact .inl rfl|exact .inr rfl):XR X E (.Assign [.Name x p'] e pos) g:=λr y hy =>
 PS.imp (E8 hN hi hx (h r y hy) hs hf) λD L H t=>t
end
end
end HP
namespace HP
open PySem
end HP
namespace HP
open PySem PySem.W PySem.Calls PyProof.Rows Builtin Builtin.ObjectAttr Builtin.Getset_descriptor
variable{tk:Tok}
section
variable{K:Frag}{e C:Addr}{prog:Program}{w:World}{A:Around}{E:mD}{s:Shared}{o:Obj}
theorem RJ{R:Result->Shared->Prop}{tp:Value}(X:K.In s.heap)(ho:s.heap.get? e=Z o)(hc:o.cls=.ref C)(hm:mroIn K C (.type "object")=Z Y)(h:R (.ok (.ret (.ref C))) s):codeAny (model prog w) A (.call (.builtin "getset_descriptor.__get__") ⟨[.builtin "object.__class__",.ref e,tp],[]⟩) R s:=by
 obtain⟨hh,g,dr,t,os⟩:=s;have L0:Looks (model prog w) hh (typeOf (.ref e)) (.ref C):=hc▸(Ey ho).andThen .now;have L1:=looks_mroIn (M:=model prog w) X hm;refine Ho KF.slot_gs.plain KF.entry_gs (KF.slot_gs.check _ _ _ _ _ _ _ _ KF.type_class (KF.args_gs _ _ _) ?_);unfold Builtin.«getset_descriptor.__get__» descrGet;rw[dga_obj];refine Ac (Ag ?_);unfold descrGetter descrCheckInstance descrNameAndClass isInstance;simp only[KF.owner_class]
 repeat lk
 refine⟨Jy _ (by decide +kernel),EL KF.entry_class ?_⟩;unfold Builtin.«object.__class__» shownTypeOf
 repeat lk
 exact h
theorem SE{M:Model}{de:Value}{Q:Unit->Shared->Prop}(X:K.In s.heap)(ho:s.heap.get? e=Z o)(hc:o.cls=.ref C)(hm:mroIn K C (.type "BaseException")=Z Y)(hq:Q () s):wpAny M A (IQ "BaseException.__getattribute__" ⟨[.ref e,de],[]⟩) Q E s:=by
 obtain⟨hh,g,dr,t,os⟩:=s;have hk:builtinKind "BaseException.__getattribute__"=Z .slot:=by decide +kernel
 have dH:splitId "BaseException.__getattribute__"=Z ("BaseException","__getattribute__"):=by decide +kernel
 have ha:=F.args_bexc_ga (.ref e) de;have L0:Looks M hh (typeOf (.ref e)) (.ref C):=hc▸(Ey ho).andThen .now;have L1:=looks_mroIn (M:=M) X hm;simp only[IQ,hk,dH];refine Ac ?_;unfold isInstance
 repeat lk
 repeat (first|assumption|wp_step)
theorem Tc{Q:Fin->Shared->Prop}(X:K.In s.heap)(ho:s.heap.get? e=Z o)(hc:o.cls=.ref C)(hm:mroIn K C (.type "object")=Z Y)(aF:findIn K (.ref C) "__class__"=Z (Z (.builtin "object.__class__")))(hq:Q (.done (.ret (.ref C))) s):wpAny (model prog w) A (Builtin.«object.__getattribute__» ⟨[.ref e,.str "__class__" tk],[]⟩) Q E s:=by
 obtain⟨hh,g,dr,t,os⟩:=s;have L0:Looks (model prog w) hh (typeOf (.ref e)) (.ref C):=hc▸(Ey ho).andThen .now;have L1:=looks_findIn (M:=model prog w) X aF;have f5:=F.typeOf_object_class;have hT5:(⟨hh,g,dr,t,os⟩:Shared).TypeIs (.builtin "object.__class__") "getset_descriptor":=F.typeOf_object_class;have f6:=F.slot_gs_get.lookup;have f7:=F.slot_gs_set.lookup
 repeat (any_goals (first|assumption|(with_reducible refine Dt ho ?_;rw[hc])|(with_reducible refine L1.at ?_)|wp_step))
 refine RJ X ho hc hm ?_
 repeat (any_goals (first|assumption|wp_step))
theorem Ra{R:Result->Shared->Prop}(X:K.In s.heap)(ho:s.heap.get? e=Z o)(hc:o.cls=.ref C)(hm:mroIn K C (.type "object")=Z Y)(hb:mroIn K C (.type "BaseException")=Z Y)(aF:findIn K (.ref C) "__class__"=Z (Z (.builtin "object.__class__")))(hq:R (.ok (.ret (.ref C))) s):codeAny (model prog w) A (.call (.builtin "BaseException.__getattribute__") ⟨[.ref e,.str "__class__" tk],[]⟩) R s :=
 Ho F.excAttr_ValueError.ga.plain F.entry_bexc_ga (SE X ho hc hb (Tc X ho hc hm aF hq))
theorem Pe{fill cv:Bool}{Q:mD}(X:K.In s.heap)(ho:s.heap.get? e=Z o)(hc:o.cls=.ref C)(hm:mroIn K C (.type "object")=Z Y)(hb:mroIn K C (.type "BaseException")=Z Y)(aF:findIn K (.ref C) "__class__"=Z (Z (.builtin "object.__class__")))(gN:findIn K (.ref C) "__getattribute__"=Z (Z (.builtin "BaseException.__getattribute__")))(gL:findIn K (.ref C) "__getattr__"=Z U)(hq:Q (.ref C) s):wpAny (model prog w) A (getAttrBy (.ref e) (.str "__class__" tk) fill cv) Q E s:=by
 obtain⟨hh,g,dr,t,os⟩:=s;have f3:=F.excAttr_ValueError.ga.bind (.ref e);have bj:(cv&&onTheHeap (Fz "BaseException.__getattribute__"))=Ab:=by cases cv<;>rfl
 have fz:(Fz "BaseException.__getattribute__" == Fz "object.__getattribute__")=Ab:=by decide +kernel
 have hx1:(onTheHeap (Au C)&&Fz "BaseException.__getattribute__" == Fz "object.__getattribute__")=Ab:=by rw[fz];rfl
 have L1:=looks_findIn (M:=model prog w) X gN;have L2:=looks_findIn (M:=model prog w) X gL
 repeat (any_goals (first|assumption|(with_reducible refine Dt ho ?_;rw[hc])|(with_reducible refine L1.at ?_)|(with_reducible refine L2.at ?_)|wp_step))
 refine Ra X ho hc hm hb aF ?_
 repeat (any_goals (first|assumption|wp_step))
theorem QQ{Q:Option Value->Shared->Prop}(X:K.In s.heap)(ho:s.heap.get? e=Z o)(hc:o.cls=.ref C)(hm:mroIn K C (.type "object")=Z Y)(hb:mroIn K C (.type "BaseException")=Z Y)(aF:findIn K (.ref C) "__class__"=Z (Z (.builtin "object.__class__")))(gN:findIn K (.ref C) "__getattribute__"=Z (Z (.builtin "BaseException.__getattribute__")))(gL:findIn K (.ref C) "__getattr__"=Z U)(hq:Q (Z (.ref C)) {s with toks:=s.toks+1}):wpAny (model prog w) A (getAttr? (.ref e) "__class__") Q E s:=by
 obtain⟨hh,g,dr,t,os⟩:=s;unfold getAttr? getAttrBy?
 repeat (any_goals (first|assumption|(with_reducible refine Pe (s:=⟨hh,g,dr,t+1,os⟩) X ho hc hm hb aF gN gL ?_)|wp_step))
structure Gd(K:Frag)(C:Addr):Prop where
 obj:mroIn K C (.type "object")=Z Y
 bas:mroIn K C (.type "BaseException")=Z Y
 cls:findIn K (.ref C) "__class__"=Z (Z (.builtin "object.__class__"))
 ga:findIn K (.ref C) "__getattribute__"=Z (Z (.builtin "BaseException.__getattribute__"))
 gt:findIn K (.ref C) "__getattr__"=Z U
 is:(clsIn K C).isSome=Y
theorem S8(F:Gd K C):KitX K (.ref e) (.ref C) (λh=>∃o,h.get? e=Z o/\o.cls=.ref C) where
 ty:=λM h _ p=>by obtain⟨o,h1,h2⟩:=p;exact h2▸(Ey h1).andThen .now
 it:=λ_ _ X _=>by
  have cj:=F.is;unfold clsIn at cj;split at cj
  .rename_i c' d' cd' sl' ho
   intro A' Q' E' s' k q;unfold isType loadHead;exact Ac (wpAny_loadPart (k _ _ (X _ _ ho)) (Ag q))
  .cases cj
 ne:=λh tp dd YL n sl X kz=>by
  have cj:=F.is;refine Bool.eq_false_iff.mpr λq=>?_;have z:C=tp:=Value.ref.inj (beq_iff_eq.mp q);subst z;unfold clsIn at cj;split at cj
  .rename_i c' d' cd' sl' ho
   have:=X _ _ ho;rw[kz]at this;cases this
  .cases cj
 ca:=λ{_ _ _ _ _ s} X p k=>by obtain⟨o,h1,h2⟩:=p;exact QQ X h1 h2 F.obj F.bas F.cls F.ga F.gt k
end
end HP
namespace HP
open PySem PySem.Spec PyProof.Rows L2
variable[FX]
section
variable{X:Cx}{pos p:Pos}{C:Addr}{b:Bool}
theorem TN(F:Gd X.K C):AI X (.builtin "isinstance") (λxs H Q=>∃e w oe,xs=[.ref e,w]/\H e=Z (As e oe)/\oe.cls=.ref C/\(∀c,RelV w c->D0 X.K (.ref C) c=Z b)/\Q (.bl b) H):=by
 intro YK s L H xs us Q I r h;obtain⟨e,w,oe,rfl,he,aF,hk,q⟩:=h;cases r with
 |cons r1 r =>
  cases r with
  |cons r2 r=>cases r;cases r1;exact PySem.W.kia_one (S8 F) I.kIn ⟨oe,Gx (I.hok e _ he),aF⟩ (hk _ r2) (by intro z;cases z) λtk=>⟨.bl b,H,I.tok tk,rfl,q⟩
noncomputable def Mu(j:Nat)(e:Addr)(C:Addr)(b:Bool):TE:=λL H Q=>∃oe,L[j]?=Z (Z (.ref e))/\H e=Z (As e oe)/\oe.cls=.ref C/\Q (.bl b) H
theorem Qu{n y:Str}{j:Nat}{e:Addr}{w:V}{p1 p2:Pos}(F:Gd X.K C)(hk:∀c,RelV w c->D0 X.K (.ref C) c=Z b)(hm:X.mg "isinstance"=U)(hy:PE X (.Name y p2) (tC w))(hN:X.N[j]?=Z n)(hv:br X.env.scope n)(hd:(n==("__debug__":Str))=Ab)(Y7:(n==("__classdict__":Str))=Ab)(hg:Gl X "isinstance")(bo:Ae [.Name n p1,.Name y p2] X.env=(Ab,eval (.Name n p1) X.env)::Ae [.Name y p2] X.env)(aQ:Ae [.Name y p2] X.env=[(Ab,eval (.Name y p2) X.env)]):PE X (.Call (.Name "isinstance" p) [.Name n p1,.Name y p2] [] pos) (Mu j e C b):=by
 refine PE.imp (E9 (TN (b:=b) F) hg hm OO (Bf (ZS hN hv hd Y7) (Bf hy BL (by rw[aQ];rfl)) bo) (he:=bo) (hpl:=by rw[aQ];rfl)) λL H Q ⟨oe,h1,h2,h3,h4⟩=>?_;exact⟨_,h1,e,w,oe,rfl,h2,h3,hk,h4⟩
noncomputable def P0(j:Nat)(e:Addr)(C:Addr)(bs:List Bool):TE:=λL H Q=>∃oe,L[j]?=Z (Z (.ref e))/\H e=Z (As e oe)/\oe.cls=.ref C/\∀q,H q=U->Q (.ref q) (upd H q (.lst (bs.map .bl)))
theorem J1{K:Ad}{F:Hp}:∀bs:List Bool,Zu K F (bs.map .bool) (bs.map .bl)
 |[]=>.nil
 |b::bs=>.cons (.bl b) (J1 bs)
end
section
variable{X:Cx}{E:XK}{pos p:Pos}{a b:Expr}{es:List Expr}{g g':HM.RF}{j:Nat}{e C:Addr}{bs:List Bool}{c:Bool}
noncomputable def Dz(j:Nat)(e:Addr)(C:Addr)(bs:List Bool):TA:=λL H Q=>∃oe,L[j]?=Z (Z (.ref e))/\H e=Z (As e oe)/\oe.cls=.ref C/\Q (bs.map .bl) H
theorem Qp:PA X [] (Dz j e C []):=PA.imp BL λL H Q ⟨oe,h1,h2,h3,h4⟩=>h4
theorem Qr(h:PE X a (Mu j e C c))(hr:PA X es (Dz j e C bs))(he:Ae (a::es) X.env=(Ab,eval a X.env)::Ae es X.env):PA X (a::es) (Dz j e C (c::bs)) :=
 PA.imp (Bf h hr he) λL H Q ⟨oe,h1,h2,h3,h4⟩=>⟨oe,h1,h2,h3,oe,h1,h2,h3,h4⟩
theorem MZ(h:PA X es (Dz j e C bs))(hl:BX bs<=sizeLine):PE X (.List es pos) (P0 j e C bs) :=
 PE.imp (M7 h) λL H Q ⟨oe,h1,h2,h3,h4⟩=>⟨oe,h1,h2,h3,by rw[Ap];exact hl,h4⟩
end
end HP
namespace HP
open PySem
section
variable{fI:Addr}{rest:mH}{oI:Obj}{mN:mF}
section
variable{prog:Program}{w:World}{A:Around}{E:mD}{h:Heap}{g:Array GenState}{d:Drawn}{t:Nat}{os:OsState}
variable{nm q:Str}{C N:Addr}{bs bm bQ:mH}{hdct:Bool}{sn:mI}{sub:mH}{ab:Bool}{col:Option Bool}{dd:Option Addr}{k0 k1 k2 k3 k5:Option Value}{B newId YY:String}
theorem WJ(F:ExcBaseFacts B newId YY bQ)(T:OwnTail h bQ bm){Q:Fin->Shared->Prop}(hC:h.get? C=Z (CO nm q C N bs bm hdct sn sub ab col dd k0 k1 k2 k3 k5 newId))(hn:h.Ns N mN)(hi:mN "__init__"=Z (.ref fI))(du:h.get? fI=Z oI)(dq:oI.cls=.type "function")(hq:∀h' e,G5 h h' e (.ref C) rest->wpAny (model prog w) A (call (.ref fI) (.ref e::rest)) (λr s'=>r=.none/\Q (.done (.ret (.ref e))) s') E ⟨h',g,d,t,os⟩)(hrest:BX rest<=sizeLine:=by size_fits):wpAny (model prog w) A (Builtin.«type.__call__» ⟨.ref C::rest,[]⟩) Q E ⟨h,g,d,t,os⟩:=by
 repeat (first|with_reducible refine Dt hC ?_|with_reducible refine wpAny_madeBy_exc hC ?_|wp_step)
 refine codeAny_call_builtin_code (Jy _ F.quiet) (wpAny_check_new_subT F T hC ?_);refine codeAny_exc_new_subT F T hC ?_ hrest;show wpAny _ _ _ _ _ _;have jC:=Aj {cls:=.ref C,data:=.fields #[.ref h.objs.size,.none,.none,.none,.bool Ab,.none]}
  (Aj {cls:=.type "tuple",data:=.seq rest.toArray} hC)
 have iS:=Aj {cls:=.ref C,data:=.fields #[.ref h.objs.size,.none,.none,.none,.bool Ab,.none]}
  (Aj {cls:=.type "tuple",data:=.seq rest.toArray} du)
 have kG:((h.push {cls:=.type "tuple",data:=.seq rest.toArray}).push {cls:=.ref C,data:=.fields #[.ref h.objs.size,.none,.none,.none,.bool Ab,.none]}).Ns N mN :=
  let ⟨o,es,ep,e,r⟩:=hn;⟨o,es,ep,Aj _ (Aj _ e),r⟩
 have eM:((h.push {cls:=.type "tuple",data:=.seq rest.toArray}).push
   {cls:=.ref C,data:=.fields #[.ref h.objs.size,.none,.none,.none,.bool Ab,.none]}).get? (h.objs.size+1)=Z
   {cls:=.ref C,data:=.fields #[.ref h.objs.size,.none,.none,.none,.bool Ab,.none]}:=by heap_get
 have lz:(Au C::bm).contains (.ref C)=Y:=by simp
 have T₁:=T.keeps (h':=(h.push {cls:=.type "tuple",data:=.seq rest.toArray}).push {cls:=.ref C,data:=.fields #[.ref h.objs.size,.none,.none,.none,.bool Ab,.none]})
  λb o e=>Aj _ (Aj _ e)
 unfold isInstance
 repeat (first|with_reducible refine Dt eM ?_|(with_reducible refine wpAny_isSubtype_exc jC ?_;rw[lz])|wp_step)
 show wpAny _ _ (typeLookup (.ref C) _) _ _ _;refine wpAny_typeLookup_tail jC kG T₁ F.mroIs F.init.lookup ?_;rw[hi];refine CL (Ac ?_);unfold bindSpecial;refine Ac (wpAny_typeOf (T:="function") ⟨_,iS,dq⟩ ?_);rw[if_pos (by decide)];refine Ag (Ac (Ax (hq _ (h.objs.size+1) ⟨λb o hb=>Aj _ (Aj _ hb),Jx (GP _),h.objs.size,eM,Jx (Al _),?_⟩) (λr s' hr=>?_) λ_ _ x=>x))
 .exact Aj _ (Heap.get?_push_at rfl rfl)
 .obtain⟨rfl,hQ⟩:=hr
  wp_walk
  exact hQ
theorem UP(F:ExcBaseFacts B newId YY bQ)(T:OwnTail h bQ bm){Q:mD}(hC:h.get? C=Z (CO nm q C N bs bm hdct sn sub ab col dd k0 k1 k2 k3 k5 newId))(hn:h.Ns N mN)(hi:mN "__init__"=Z (.ref fI))(du:h.get? fI=Z oI)(dq:oI.cls=.type "function")(hq:∀h' e,G5 h h' e (.ref C) rest->wpAny (model prog w) (A.under (.builtin "type.__call__" ⟨.ref C::rest,[]⟩)) (call (.ref fI) (.ref e::rest)) (λr s'=>r=.none/\Q (.ref e) s') E ⟨h',g,d,t,os⟩)(hrest:BX rest<=sizeLine:=by size_fits):wpAny (model prog w) A (call (.ref C) rest) Q E ⟨h,g,d,t,os⟩:=by
 have f1:=tc_lookup;have f2:=tc_bind (.ref C);have hT:(⟨h,g,d,t,os⟩:Shared).TypeIs (.ref C) "type":=⟨_,hC,rfl⟩;refine Fq (codeAny_of_tree ?_);show wpAny _ _ (callAny (.ref C) _) _ _ _
 repeat (any_goals (first|assumption|with_reducible refine Dt hC ?_|wp_step))
 refine⟨rfl,?_⟩;refine codeAny_call_builtin_at (Jy _ (by decide +kernel)) entry_typeCall (wpAny_check_type_call_sub hC (WJ (hrest:=hrest) F T hC hn hi du dq λh' e hm=>?_));exact hq h' e hm
end
section
variable{M:Model}{A:Around}{E:mD}{env:Env}{nm q:Str}{C N:Addr}{bs bm bQ:mH}{hdct:Bool}{sn:mI}{sub:mH}{ab:Bool}{col:Option Bool}{dd:Option Addr}{k0 k1 k2 k3 k5:Option Value}{B newId YY:String}
theorem Wq{s:Shared}{x:Sem Value}{Q:Flow->Shared->Prop}(Y3:bm.contains (.type "BaseException")=Y)(hh:A.handled=U)(h:wpAny M A x (λv s₁=>∃e a0 di sl,v=.ref e/\s₁.heap.get? C=Z (CO nm q C N bs bm hdct sn sub ab col dd k0 k1 k2 k3 k5 newId)/\s₁.heap.get? e=Z {cls:=.ref C,dict:=di,data:=.fields #[a0,.none,.none,.none,.bool Ab,.none],slots:=sl}/\E (.ref e) s₁) E s):wpAny M A (raiseStmt env (Z x) U) Q E s:=by
 have lC:(Au C::bm).contains (.type "BaseException")=Y:=by rw[List.contains_cons,Y3,Bool.or_true]
 unfold raiseStmt;refine Ac (Ax h (λv s₁ h₁=>?_) λ_ _ x=>x);obtain⟨e,a0,di,sl,rfl,hC,he,hE⟩:=h₁;obtain⟨hp,g,d,tk,os⟩:=s₁
 repeat (first|with_reducible refine Dt he ?_|with_reducible refine Dt hC ?_|(with_reducible refine wpAny_isSubtype_exc hC ?_;rw[lC])|wp_step)
 exact wpAny_raiseNew_none hh hE
end
section
variable{prog:Program}{w:World}{A:Around}{E:mD}{s:Shared}{env:Env}{nm q:Str}{C N:Addr}{bs bm bQ:mH}{hdct:Bool}{sn:mI}{sub:mH}{ab:Bool}{col:Option Bool}{dd:Option Addr}{k0 k1 k2 k3 k5:Option Value}{B newId YY:String}
theorem U9(F:ExcBaseFacts B newId YY bQ){x:Str}{np YW pos:Pos}{args:List Expr}{Q:Flow->Shared->Prop}(Y3:bm.contains (.type "BaseException")=Y)(hh:A.handled=U)(bM:(backTo YW (Ae args env)).any (·.1)=Ab)(hi:mN "__init__"=Z (.ref fI))(dq:oI.cls=.type "function")
  (h:wpAny (model prog w) A (eval (.Name x np) env) (λf s₁=>f=.ref C/\wpAny (model prog w) A (evalArgs (.ref C) Y (backTo YW (Ae args env)) [])
   (λa s₂=>a.kw=[]/\a.pos.length<=sizeLine/\s₂.heap.get? C=Z (CO nm q C N bs bm hdct sn sub ab col dd k0 k1 k2 k3 k5 newId)/\s₂.heap.Ns N mN/\OwnTail s₂.heap bQ bm/\s₂.heap.get? fI=Z oI /\
    ∀h' e,G5 s₂.heap h' e (.ref C) a.pos->wpAny (model prog w) (A.under (.builtin "type.__call__" ⟨.ref C::a.pos,[]⟩)) (call (.ref fI) (.ref e::a.pos))
     (λr s₃=>r=.none/\s₃.heap.get? C=Z (CO nm q C N bs bm hdct sn sub ab col dd k0 k1 k2 k3 k5 newId)/\∃a0 di sl,s₃.heap.get? e=Z {cls:=.ref C,dict:=di,data:=.fields #[a0,.none,.none,.none,.bool Ab,.none],slots:=sl}/\E (.ref e) s₃) E {s₂ with heap:=h'}) E s₁) E s):
  wpAny (model prog w) A (exec (.Raise (Z (.Call (.Name x np) args [] YW)) U pos) env) Q E s:=by
 rw[arm_exec_Raise];refine Ac (Hm (Wq (C:=C) (nm:=nm) (q:=q) (N:=N) (bs:=bs) (bm:=bm) (hdct:=hdct) (sn:=sn) (sub:=sub) (ab:=ab) (col:=col) (dd:=dd) (k0:=k0) (k1:=k1) (k2:=k2) (k3:=k3) (k5:=k5) (newId:=newId) Y3 hh (Ac (Ax (wpAny_Call_ofName (Ax h (λf s₁ h₁=>?_) λ_ _ x=>x)) (λv s₃ h₃=>Ac (Hm (Ag h₃))) λ_ _ x=>x))));obtain⟨rfl,h₁⟩:=h₁;unfold callWith;refine Ac (CL (Ax h₁ (λa s₂ h₂=>Ac (Hm ?_)) λ_ _ x=>x));obtain⟨ao,md⟩:=a;obtain⟨kS,aw,hC,hn,T,du,h₂⟩:=h₂;obtain rfl:md=[]:=kS;obtain⟨hp,g,d,tk,os⟩:=s₂;simp only[bM];refine Ac (wpAny_keeperOf_exc hC ?_);refine Ac (UP (hrest:=aw) F T hC hn hi du dq λh' e hm=>Ax (h₂ h' e hm) (λr s₃ z=>?_) λ_ _ x=>x);obtain⟨rfl,lN,a0,di,sl,z1,z4⟩:=z;exact⟨rfl,Ac (CL (wpAny_point (Ag ⟨e,a0,di,sl,rfl,lN,z1,z4⟩)))⟩
end
end
section
variable{prog:Program}{w:World}{A:Around}{E:mD}{h:Heap}{g:Array GenState}{d:Drawn}{t:Nat}{os:OsState}{e:Addr}{t0:Addr}{di:Option Addr}{sl:Array (Option Value)}
variable{nm q:Str}{C N:Addr}{bs bm bQ:mH}{hdct:Bool}{sn:mI}{sub:mH}{ab:Bool}{col:Option Bool}{dd:Option Addr}{k0 k1 k2 k3 k5:Option Value}{B newId YY:String}
theorem Tf(F:ExcBaseFacts B newId YY bQ)(T:OwnTail h bQ bm){rest:mH}{Q:mD}(hC:h.get? C=Z (CO nm q C N bs bm hdct sn sub ab col dd k0 k1 k2 k3 k5 newId))(he:h.get? e=Z {cls:=.ref C,dict:=di,data:=.fields #[.ref t0,.none,.none,.none,.bool Ab,.none],slots:=sl})(hrest:BX rest<=sizeLine)(hq:∀h1,(∀b o,b≠e->h.get? b=Z o->h1.get? b=Z o)->h1.get? e=Z {cls:=.ref C,dict:=di,data:=.fields #[.ref h.objs.size,.none,.none,.none,.bool Ab,.none],slots:=sl}->Q .none ⟨h1,g,d,t,os⟩):wpAny (model prog w) A (call (.builtin YY) (.ref e::rest)) Q E ⟨h,g,d,t,os⟩:=by
 refine Fq (Ho F.init.plain F.initEntry (wpAny_check_init_subT F T hC he rfl ?_))
 wp_walk
 refine hq _ (λb o hb q=>?_) ?_
 .rw[Jo _ _ (AD hb)]
  exact Aj _ q
 .rw[EJ _ (Aj _ he) rfl]
  rfl
end
end HP
namespace HP
open PySem PySem.W PySem.Calls PyProof.Rows Builtin Builtin.ObjectAttr Builtin.Getset_descriptor
variable{l:mH}
section
variable{K:Frag}{prog:Program}{w:World}{A:Around}{E:mD}{h:Heap}{g:Array GenState}{d:Drawn}{t:Nat}{os:OsState}{C x:Addr}{o:Obj}{name:Str}{v:Value}{cd:ClassData}
noncomputable def Ef(l:mH):Bool:=match l with
 | .ref _::.ref _::r=>r==[.type "ValueError",.type "Exception",.type "BaseException",.type "object"]
 |_=>Ab
theorem UY(e:Ef l=Y):∃a b:Addr,l=[.ref a,.ref b,.type "ValueError",.type "Exception",.type "BaseException",.type "object"]:=by
 unfold Ef at e;split at e
 .rename_i a b r
  rw[beq_iff_eq.mp e];exact⟨a,b,rfl⟩
 .cases e
theorem TK(self:Value)(e:Ef l=Y):refuseLoop self "__setattr__" l=pure ():=by obtain⟨a,b,rfl⟩:=UY e;rw[refuseLoop_ref,refuseLoop_ref];exact F.store_ValueError.passes self
theorem T6{tk:Tok}{Q:PySem.Fin->Shared->Prop}(X:K.In h)(hx:h.get? x=Z o)(hc:o.cls=.ref C)(fF:∀c,o.data≠.cls c)(dU:o.dict=U)(Y7:clsIn K C=Z cd)(gz:Ef cd.mro=Y)(gK:cd.hasDict=Y)(gC:findIn K (.ref C) name=Z U)(hq:∀h' tk',(∀b ob,b≠x->h.get? b=Z ob->h'.get? b=Z ob)->h'.get? x=Z {o with dict:=Z h.objs.size}->h'.Ns1 h.objs.size (λy=>if y=name then Z v else U)->Q (.done (.ret .none)) ⟨h',g,d,tk',os⟩):wpAny (model prog w) A (Builtin.«object.__setattr__» ⟨[.ref x,.str name tk,v],[]⟩) Q E ⟨h,g,d,t,os⟩:=by
 have L0:Looks (model prog w) h (typeOf (.ref x)) (.ref C):=hc▸(Ey hx).andThen .now;have hm:Looks (model prog w) h (mroOf (.ref C)) cd.mro:=(looks_clsIn X Y7).andThen .now;rw[osa_eq,refuse_eq];refine Ac (Ac (L0.here (Ac (hm.here ?_))));rw[TK _ gz];refine Ag (Ac (L0.here (Ac ((looks_findIn X gC).here (Ac (Ag ?_))))));obtain⟨oc,odi,jj,bO⟩:=o;dsimp only at hc dU fF;subst hc dU;refine Ac (Ag (Ac (Ac (wpAny_loadPart hx (Ac ((looks_clsIn X Y7).here ?_))))));rw[gK];have jo:(h.push {cls:=.type "dict",data:=.dict #[]}).get? x=Z ⟨.ref C,U,jj,bO⟩:=Aj _ hx;have fw:x≠h.objs.size:=Am (Ai hx);cases jj with
 |cls c=>exact absurd rfl (fF c)
 |_ =>
  refine Ac (wpAny_alloc' ?_);refine Ac (wpAny_update' jo ?_);refine Ag ?_;have k8:((h.push {cls:=.type "dict",data:=.dict #[]}).update x λo=>{cls:=o.cls,dict:=Z h.objs.size,data:=o.data,slots:=o.slots}).get? h.objs.size
    = Z {cls:=.type "dict",data:=.dict #[]} :=
   (Ju _ _ _ _ fw.symm).trans (Heap.get?_push_at rfl rfl)
  have kI:((h.push {cls:=.type "dict",data:=.dict #[]}).update x λo=>{cls:=o.cls,dict:=Z h.objs.size,data:=o.data,slots:=o.slots}).Ns h.objs.size (λ_=>U) :=
   ⟨_,#[],_,k8,rfl,λe he=>absurd he (by simp),λ_=>rfl⟩
  show wpAny _ _ (storeInDict h.objs.size (.str name tk) name v) _ _ _;unfold storeInDict newKeyGuard;refine Ac (Ag (Ac (wpAny_nsSet1 (LO kI) λh' hn' hs=>?_)));obtain⟨oD,lT,lW,gB,gQ,cj⟩:=hn'.count (Within.cons name v Within.nil);refine Ac (wpAny_lookBehind gB (by rw[gQ];exact pastItsLine_dict (Bi cj (by rw[A8,List.length_nil,CQ];omega))) ?_)
  wp_walk
  refine hq h' _ (λb ob dW hb=>?_) ?_ hn'
  .exact(hs.2 b (Am (Ai hb))).trans ((Ju _ _ _ _ dW).trans (Aj _ hb))
  .refine(hs.2 x fw).trans (EJ _ jo ?_)
   have aZ:=(Heap.get?_some_iff.mp hx).2
   first|rfl|exact aZ
theorem U5{Q:Unit->Shared->Prop}(X:K.In h)(hx:h.get? x=Z o)(hc:o.cls=.ref C)(fF:∀c,o.data≠.cls c)(dU:o.dict=U)(Y7:clsIn K C=Z cd)(gz:Ef cd.mro=Y)(gK:cd.hasDict=Y)(gC:findIn K (.ref C) name=Z U)(kB:findIn K (.ref C) "__setattr__"=Z (Z (.builtin "object.__setattr__")))(kL:mroIn K C (.type "object")=Z Y)(hq:∀h' tk',(∀b ob,b≠x->h.get? b=Z ob->h'.get? b=Z ob)->h'.get? x=Z {o with dict:=Z h.objs.size}->h'.Ns1 h.objs.size (λy=>if y=name then Z v else U)->Q () ⟨h',g,d,tk',os⟩):wpAny (model prog w) A (setAttr (.ref x) name v) Q E ⟨h,g,d,t,os⟩:=by
 have SF:=PySem.F.store_object;have f3:=SF.slot.bind (.ref x);have L1:=looks_findIn (M:=model prog w) X kB;have L0:Looks (model prog w) h (typeOf (.ref x)) (.ref C):=hc▸(Ey hx).andThen .now;have sub:Looks (model prog w) h (isInstance (.ref x) (.type "object")) Y:=L0.andThen (looks_mroIn X kL);unfold setAttr callSpecial? specialOf
 repeat (any_goals (first|assumption|(with_reducible refine Dt hx ?_;rw[hc])|(with_reducible refine L1.at ?_)|wp_step))
 refine Ho SF.slot.plain SF.entry (@check_slot (model prog w) _ _ _ "object.__setattr__" "object" "__setattr__" (.ref x) _ [] _ SF.kind SF.split sub (SF.args (.ref x) _ v) ?_);refine T6 X hx hc fF dU Y7 gz gK gC λh' tk' z1 z2 z3=>?_
 repeat (any_goals (first|assumption|wp_step))
 exact hq h' tk' z1 z2 z3
end
end HP
namespace HP
open PySem PySem.Spec PyProof.Rows L2
variable[FX]
section
variable{X:Cx}{a:Expr}{es:List Expr}{x:Str}{C0:Addr}{id:String}{p ap pos:Pos}{t:TA}{r:List V->Hp->VK->Prop}
theorem UN{m:Str}{pl:Sem Bool}(hc:AI X (.builtin id) r)(hg:Gl X x)(hm:X.mg x=Z (.ref C0))(aE:(x==("__debug__":Str))=Ab)(k1:FR X.K (.ref C0) "__getattribute__"=Z (Z (.builtin "type.__getattribute__")))(k2:F6 X.K C0 (.type "type")=Y)(k3:F5 X.K (.ref C0) (.type "type") m=Z (.val (.builtin id)))(k4:IT (.builtin id)=Y)(ha:PA X (a::es) t)(he:Ae (a::es) X.env=(Ab,eval a X.env)::Ae es X.env)(hpl:(backTo pos (Ae es X.env)).any (·.1)=Ab)
  (ht:eval (.Call (.Attribute (.Name x p) m ap) (a::es) [] pos) X.env=(do
   let ov <-eval (.Name x p) X.env
   standAt ap.atName
   let (f,first) <-holding [ov] (getMethod ov m pl)
   callWith pos f first (backTo pos (Ae (a::es) X.env)) (Ez pos (EB [] X.env)))):
  PE X (.Call (.Attribute (.Name x p) m ap) (a::es) [] pos) (eZ r t):=by
 intro YK s L H Q I h;refine PySem.W.methodCall_KW (pl:=pl) (Eo I hg hm ?_ aE) ht;refine PySem.W.method_cls I.kIn k1 (PySem.W.cls_value I.kIn k2 k3 k4 ?_);have I':=I.tok (s.toks+1);exact Mn (Y6 (ha pos YK _ L H _ I' h) λus s1 ⟨vs,H1,I1,r1,q1⟩=>hc YK s1 L H1 vs us Q I1 r1 q1) he hpl
noncomputable def Bd(C t0:Addr):Obj:={cls:=.ref C,data:=.fields #[.ref t0,.none,.none,.none,.bool Ab,.none]}
noncomputable def ClsAt(base:Heap)(C:Addr):Prop:=∃nm q N bs bm hdct sn sub ab col dd k0 k1 k2 k3 k5 newId,base.get? C=Z (CO nm q C N bs bm hdct sn sub ab col dd k0 k1 k2 k3 k5 newId)/\ExcBaseFacts "ValueError" newId id [.type "ValueError",.type "Exception",.type "BaseException",.type "object"]/\OwnTail base [.type "ValueError",.type "Exception",.type "BaseException",.type "object"] bm
theorem Ur(aF:∀C,X.mg "BadPlan"=Z (.ref C)->ClsAt (id:=id) X.base C):AI X (.builtin id) (λxs H Q=>∃e C t0 v1,xs=[.ref e,v1]/\X.mg "BadPlan"=Z (.ref C)/\H e=Z (As e (Bd C t0))/\∀t1,Q .non (upd H e (As e (Bd C t1)))):=by
 intro YK s L H xs us Q I rv h;obtain⟨e,C,t0,v1,rfl,hm,he,k⟩:=h;cases rv with
 |cons r1 rv =>
  cases rv with
  |cons r2 rv=>cases rv;cases r1;obtain⟨nm,q,N,bs,bm,hdct,sn,sub,ab,col,dd,k0,k1,k2,k3,k5,newId,hC,F,T⟩:=aF C hm;obtain⟨hp,g,d,tk,os⟩:=s;have aR:hp.get? e=Z (Bd C t0):=Gx (I.hok e _ he);refine Tf F (T.keeps I.bk) (I.bk _ _ hC) aR (show 1<=sizeLine by decide) λh1 z1 z2=>⟨.non,_,?_,rfl,k hp.objs.size⟩;exact I.write (x:=e) (e:=e) (h':=h1) (t':=tk) (by rw[he];exact CN) (.inl rfl) (λb u hb q=>z1 b u hb q) ⟨_,z2⟩ (HV z2)
structure Hz(K:Ad)(C:Addr)(f:Str):Prop where
 ex:∃cd,Jk K C=Z cd/\Ef cd.mro=Y/\cd.hasDict=Y
 no:AL K (.ref C) f=Z U
 sa:AL K (.ref C) "__setattr__"=Z (Z (.builtin "object.__setattr__"))
 ob:Hi K C (.type "object")=Z Y
noncomputable def MR(K:Ad)(f:Str)(to tv:TE):TS:=λD L H=>tv L H λ_ H1=>to L H1 λxv H2=>∃e C t1,xv=.ref e/\H2 e=Z (As e (Bd C t1))/\Hz K C f/\∀dx,D.nx L (upd H2 e (As e {Bd C t1 with dict:=Z dx}))
theorem So{o value:Expr}{f:Str}{to tv:TE}{pos':Pos}(ho:PE X o to)(hv:PE X value tv)(hs:Bj value (Z (.Attribute o f pos')) pos.line X.env=pure Ab:=by rfl):PS X (.Assign [.Attribute o f pos'] value pos) (MR X.K f to tv):=by intro YK s L H D I h;refine Mo (Y6 (hv YK s L H _ I h) λu s1 ⟨y,H1,I1,r1,q1⟩=>Y6 (ho YK s1 L H1 _ I1 q1) λov s2 ⟨x,H2,I2,rx,q2⟩=>?_) hs;obtain⟨e,C,t1,rfl,he,mr,k⟩:=q2;obtain rfl:ov=.ref e:=rx;obtain⟨cd,c1,c2,c3⟩:=mr.ex;obtain⟨hp,g,d,tk,os⟩:=s2;have aR:hp.get? e=Z (Bd C t1):=Gx (I2.hok e _ he);refine U5 I2.kIn aR rfl (λc z=>by cases z) rfl c1 c2 c3 mr.no mr.sa mr.ob λh' tk' z1 z2 z3=>?_;exact⟨L,_,I2.write (x:=e) (e:=e) (h':=h') (t':=tk') (by rw[he];exact CN) (.inl rfl) (λb u hb q=>z1 b u hb q) ⟨_,z2⟩ (HV z2),k hp.objs.size⟩
end
section
variable{X:Cx}{a:Expr}{ta:TE}{txt:Str}{k:Nat}{p1 p2 pos:Pos}
noncomputable def i5(K:Ad)(txt:Str)(ta:TE):TE:=λL H Q=>ta L H λv H1=>∃F ds l,v=.ref l/\Zs F H1/\Rep K F (.tuple ds) v/\(AO ds).canLay0=Y/\(AO ds).showable=Y/\(AO ds).hasDict=Ab/\(AO ds).depth<=60/\txt.length+(AO ds).shown.length<=sizeLine/\∀x,Q (.str x) H1
theorem Sr(ha:PE X a ta)(hg:X.A.guards=Z [])(hu:X.A.units+100<cLine)(aw:txt.length<=sizeLine)(he:∀e:Expr,evalEach [.Constant (.str txt) k p1,.FormattedValue a 114 U p2] X.env=[eval (.Constant (.str txt) k p1) X.env,eval (.FormattedValue a 114 U p2) X.env]:=by intro _;rfl):PE X (.JoinedStr [.Constant (.str txt) k p1,.FormattedValue a 114 U p2] pos) (i5 X.K txt ta):=by
 intro YK s L H Q I h;refine wpAny_JoinedStr ?_;rw[he a];refine Ax (M0 (X:=X) (x:=txt) (j:=k) (pos:=p1) YK s L H (λv H'=>v=.str txt/\H'=H) I ⟨rfl,rfl⟩) (λv s1 hv=>?_) λ_ _ z=>z;obtain⟨y,H1,I1,r1,rfl,rfl⟩:=hv;obtain⟨tk,rfl⟩:=r1;refine⟨txt,tk,rfl,by show(Fv++txt).length<=sizeLine;rw[Fy];show 0+txt.length<=_;omega,?_⟩;refine wpAny_FormattedValue_repr (Y6 (ha YK s1 L H1 _ I1 h) λv s2 ⟨y,H2,I2,r2,q2⟩=>?_);obtain⟨F,ds,l,rfl,sub,rp,c1,c2,c3,c4,c5,kk⟩:=q2;obtain rfl:v=.ref l:=r2;obtain⟨as,rd⟩:=rp.reads I2 sub c1 _ rfl;refine pyReprObj_of_reads rd c2 (λz=>by rw[c3]at z;cases z) hg (by omega) (λb o q=>q) (λh' u tk' hk=>?_) (by omega);refine formatField_str (λt' tk2=>⟨_,t',rfl,?_,?_⟩) (by omega)
 .show(Fv++txt++(AO ds).shown).length<=sizeLine
  rw[Fy,Fy];show 0+txt.length+_<=_;omega
 .refine⟨?_,?_⟩
  .show(Fv++txt++(AO ds).shown).length<=sizeLine
   rw[Fy,Fy];show 0+txt.length+_<=_;omega
  .exact⟨.str _,H2,I2.kept hk,⟨_,rfl⟩,kk _⟩
end
section
variable{H:Hp}{vs:List V}{K:Ad}{mg:mF}
noncomputable def Ga(K:Ad)(mg:mF)(n:Nat):Sp:=λvs H Q _=>∃e C t0 F ds l,vs=[.ref e,.ref l]/\mg "BadPlan"=Z (.ref C)/\H e=Z (As e (Bd C t0))/\Zs F H/\Rep K F (.tuple ds) (.ref l) /\
 (AO ds).canLay0=Y/\(AO ds).showable=Y/\(AO ds).hasDict=Ab/\(AO ds).depth<=60/\n+(AO ds).shown.length<=sizeLine/\Hz K C "at"/\∀t1 dx,Q .non (upd H e (As e {Bd C t1 with dict:=Z dx}))
noncomputable abbrev BK:mI:=["self","at"]
theorem S5{n:Nat}{Q:VK}{E:XK}(h:Ga K mg n vs H Q E):BX vs=BK.length:=by obtain⟨e,C,t0,F,ds,l,rfl,_⟩:=h;rfl
noncomputable def Py(mg:mF):List V->Hp->VK->Prop:=λxs H Q=>∃e C t0 v1,xs=[.ref e,v1]/\mg "BadPlan"=Z (.ref C)/\H e=Z (As e (Bd C t0))/\∀t1,Q .non (upd H e (As e (Bd C t1)))
theorem U4{txt:Str}{Q:VK}{E:XK}(h:Ga K mg txt.length vs H Q E):E3 (MU (eZ (Py mg) (JN (Bl 0) (JN (i5 K txt (Bl 1)) Mv)))) (MR K "at" (Bl 0) (Bl 1)) {nx:=λ_ H'=>Q .non H',rt:=Q} (L2.start BK vs) H:=by
 obtain⟨e,C,t0,F,ds,l,rfl,hm,he,sub,rp,c1,c2,c3,c4,c5,mr,q⟩:=h;have a0:(L2.start BK [.ref e,.ref l])[0]?=Z (Z (V.ref e)):=rfl;have a1:(L2.start BK [.ref e,.ref l])[1]?=Z (Z (V.ref l)):=rfl;exact⟨.ref e,a0,.ref l,a1,F,ds,l,rfl,sub,rp,c1,c2,c3,c4,c5,λx=>⟨e,C,t0,.str x,rfl,hm,he,λt1=>⟨.ref l,a1,.ref e,a0,e,C,t1,rfl,Zq,mr,λdx=>by rw[Ek];exact q t1 dx⟩⟩⟩
end
end HP
namespace HP
open PySem PySem.Spec PyProof.Rows L2
section
variable{b:Addr}{H:Hp}
noncomputable def Cy(e:Addr)(H:Hp):Hp:=λb=>if b=e then U else H b
theorem Tr{e:Addr}(h:b≠e):Cy e H b=H b:=if_neg h
theorem Oi{e:Addr}{u:HO}(h:Cy e H b=Z u):b≠e/\H b=Z u:=by
 unfold Cy at h;split at h
 .cases h
 .rename_i q;exact⟨q,h⟩
section
variable{X:Cx}{YK:mG}{L:L2.St}{H:Hp}{s:Shared}{e:Addr}{oe:Obj}
theorem S3(I:Inv X YK L H s)(he:H e=Z (As e oe)):Inv X YK L (Cy e H) s:=by
 have ne:∀{b:Addr} {u:HO},H b=Z u->u≠As e oe->Cy e H b=Z u:=λ{b u} q n=>by
  by_cases z:b=e
  .subst z;rw[he]at q;cases q;exact absurd rfl n
  .rw[Tr z];exact q
 have fr:∀{b:Addr},H b=U->Cy e H b=U:=λ{b} q=>by
  unfold Cy;split
  .rfl
  .exact q
 refine⟨I.ok,I.os,I.bare,⟨I.base.keep,I.base.slot,λb o q n hx=>fr (I.base.free b o q n hx),I.base.there,λb xs q=>ne (I.base.tups b xs q) (by intro z;cases z),λb o u q=>ne (I.base.frzs b o u q) (by intro z;cases z),λb ps q=>?_⟩,I.loc,I.cell,fr I.free,λx c q=>fr (I.freeC x c q),λp hp=>?_,λb u q=>?_,I.len⟩
 .obtain⟨m,q'⟩:=I.base.tbls b ps q
  exact⟨m,ne q' (by intro z;cases z)⟩
 .obtain⟨q1,q2,q3⟩:=I.pin p hp
  exact⟨q1,fr q2,q3⟩
 .obtain⟨_,q'⟩:=Oi q
  exact(I.hok b u q').stay (λ_ _ _ q=>q) (λc q=>ne q (by intro z;cases z)) λc xs q=>ne q (by intro z;cases z)
end
section
variable{P:Program}{w:World}{K:Ad}{mg:mF}{base:Heap}{N:mI}{YO:Str}{scope:Scope}{f:Addr}{cd:Value}{A:Around}{outer:List Env}{s:Shared}{H:Hp}{E:XK}
theorem Uy{YK:mG}{L:L2.St}{H1:Hp}{s1:Shared}{e:Addr}{oe:Obj}{vs:Array Value}{a0:Value}(I:Inv (AG (aI P w) P w K mg base N YO scope f cd A outer s H E) YK L H1 s1)(he:H1 e=Z (As e oe))(dE:s.heap.get? e=U)(hd:oe.data=.fields vs)(h1:vs[1]?=Z .none)(h0:vs[0]?=Z a0)(g:E oe.cls U (Cy e H1)):(AG (aI P w) P w K mg base N YO scope f cd A outer s H E).xe (.ref e) s1:=by
 generalize hX:AG (aI P w) P w K mg base N YO scope f cd A outer s H E=X at *;have bu:X.stack=X.env::X.outer:=by rw[<-hX];rfl
 have bj:X.ex=[]:=by rw[<-hX];rfl
 have aZ:X.env.frame=Z X.env.locals:=by rw[<-hX];rfl
 have jr:X.s₀.heap.get? e=U:=by rw[<-hX];exact dE
 have bV:∀v s',X.xe v s'=wpAny (model X.prog X.w) X.A (leaving X.env v) (λ_ s''=>aI X.prog X.w X.outer X.H₀ X.s₀ E v s'') (λe' s''=>aI X.prog X.w X.outer X.H₀ X.s₀ E e' s'') s':=by intro v s';rw[<-hX];rfl
 rw[bV];have J:=S3 I he;have aR:s1.heap.get? e=Z oe:=Gx (I.hok e _ he);have fr:X.A.frames=Z (X.env::X.outer):=by rw[<-bu];exact I.ok.frames
 have gJ:∀env∈X.env::X.outer,∀a,env.frame=Z a->a∈e::Y8 X.stack:=λenv hm a ha=>AQ _ (by rw[bu];exact Hv.mpr ⟨env,hm,ha⟩);have el:s1.heap.FunFrames X.base (X.env::X.outer):=by rw[<-bu];exact I.stack
 have eL:(Hh s1.heap (e::Y8 X.stack)).get? e=U:=Mi _ (A9 ..);refine wpAny_leaving_firstW (base:=Hh s1.heap (e::Y8 X.stack)) fr (L5 el gJ) aZ aR (λb o q=>Jt _ q) eL hd h1 h0 λh2 hL=>?_;obtain⟨k1,⟨_,_,k2⟩,k3,k4⟩:=hL;refine⟨e,oe.cls,rfl,Kg (s:=s1) bj J ⟨k1,eL,k2,k3⟩ k4 (λb u o q1 q2=>D9 _ q2 λz=>?_) (λb o q n hb=>?_) (λb o q hb=>?_) g⟩
 .obtain⟨n1,n2⟩:=Oi q1
  rcases Ak.mp z with z|z
  .exact n1 z
  .rw[I.stkFree b z]at n2;cases n2
 .refine D9 _ ((Inv.base0 bj J).keep b o q n hb (by simp)) λz=>?_
  rcases Ak.mp z with z|z
  .rw[z,jr]at q;cases q
  .exact E7 I q hb z
 .obtain⟨o',q'⟩:=(Inv.base0 bj J).there b o q (by simp)
  refine⟨o',D9 _ q' λz=>?_⟩;rcases Ak.mp z with z|z
  .rw[z,jr]at q;cases q
  .exact E7 I q hb z
end
end
section
noncomputable abbrev Hx:mH:=[.type "ValueError",.type "Exception",.type "BaseException",.type "object"]
variable[FX]
structure Ec(P:Program)(w:World)(K:Ad)(mg:mF)(base:Heap)(k n:Nat):Prop where
 ex:∃C fI fd j,j+1<=k/\mg "BadPlan"=Z (.ref C)/\Hz K C "at"/\AK P w K mg base bf j fI fd BK (Ga K mg n)/\Binds K fd BK [] /\
  ∃nm q N bs bm hdct sn sub ab col dd k0 k1 k2 k3 k5 newId YY mN oI,base.get? C=Z (CO nm q C N bs bm hdct sn sub ab col dd k0 k1 k2 k3 k5 newId)/\base.Ns N mN/\mN "__init__"=Z (.ref fI)/\OwnTail base Hx bm/\ExcBaseFacts "ValueError" newId YY Hx/\base.get? fI=Z oI/\oI.cls=.type "function"
section
variable{P:Program}{w:World}{K:Ad}{mg:mF}{base:Heap}{N:mI}{YO:Str}{scope:Scope}{f:Addr}{cd:Value}{A:Around}{outer:List Env}{s:Shared}{H:Hp}{E:XK}{a:Expr}{fa:HM.EF}{np YW pos:Pos}{k n:Nat}
theorem Ui(B:Ec P w K mg base k n)(hr:Z6 k (AG (aI P w) P w K mg base N YO scope f cd A outer s H E).A)(ha:XE (AG (aI P w) P w K mg base N YO scope f cd A outer s H E) a fa)(hg:Gl (AG (aI P w) P w K mg base N YO scope f cd A outer s H E) "BadPlan":=by rfl)(he:Ae [a] (AG (aI P w) P w K mg base N YO scope f cd A outer s H E).env=[(Ab,eval a (AG (aI P w) P w K mg base N YO scope f cd A outer s H E).env)]:=by rfl):XR (AG (aI P w) P w K mg base N YO scope f cd A outer s H E) E (.Raise (Z (.Call (.Name "BadPlan" np) [a] [] YW)) U pos) (HM.WX n "BadPlan" fa):=by
 intro r y h;unfold HM.WX at h;split at h
 case h_2=>cases h
 rename_i ds af;split at h
 case isFalse=>cases h
 rename_i hok;cases h;unfold HM.Qv at hok;rw[Av,Av,Av,Av,decide_eq_true_eq,decide_eq_true_eq]at hok;obtain⟨⟨⟨⟨c1,c2⟩,c3⟩,c4⟩,c5⟩:=hok;have c3':(AO ds).hasDict=Ab:=by simpa using c3
 obtain⟨C,fI,fd,j,hj,hm,hS,FI,hb,nm,q,Nn,bs,bm,hdct,sn,sub,ab,col,dd,k0,k1,k2,k3,k5,newId,YY,mN,oI,hC,hN,hi,T,FB,du,dq⟩:=B.ex;intro YK s1 L H1 D I ⟨F0,H0,F,at_,kk⟩;refine U9 (C:=C) (nm:=nm) (q:=q) (N:=Nn) (bs:=bs) (bm:=bm) (hdct:=hdct) (sn:=sn) (sub:=sub) (ab:=ab) (col:=col) (dd:=dd) (k0:=k0) (k1:=k1) (k2:=k2) (k3:=k3) (k5:=k5) (mN:=mN) (fI:=fI) (oI:=oI) FB (T.hasType FB.hasBase) hr.hd ?_ hi dq (Eo I hg hm ⟨rfl,?_⟩)
 .rw[he];rfl
 have hA:=Bf (ha r _ af) BL he YW YK s1 L H1 (λvs H2=>∃v F2,vs=[v]/\YR F H1 F2 H2/\Rep K F2 (.tuple ds) v) I ⟨F0,H0,F,at_,λv F' H' x rp=>⟨v,F',rfl,x,rp⟩⟩;rw[he]at hA ⊢;refine FJ (Ax hA (λus s2 ⟨vs,H2,I2,r2,v,F2,ev,x2,rp⟩=>?_) λ_ _ z=>z);subst ev;obtain⟨l,rfl⟩:∃l,v=.ref l:=by obtain⟨l,vs,z,_⟩:=Sl rp;exact⟨l,z⟩
 cases r2 with
 |cons ru rn =>
  cases rn;rename_i u _;refine⟨rfl,(show 1<=sizeLine by decide),I2.bk _ _ hC,hN.keeps I2.bk,T.keeps I2.bk,I2.bk _ _ du,λh' e cZ=>?_⟩;obtain⟨t0,lh,ht0,ht1⟩:=cZ.there;have eA:H2 e=U:=by
   cases z:H2 e with
   |none=>rfl
   |some o=>obtain⟨ob,z'⟩:=HL (I2.hok e o z);rw[cZ.new]at z';cases z'
  have dE:s.heap.get? e=U:=by
   cases z:s.heap.get? e with
   |none=>rfl
   |some o=>obtain⟨o',z'⟩:=I2.base.there e o z (by intro z2;cases z2);rw[cZ.new]at z';cases z'
  have up:∀{b:Addr} {o:HO},H2 b=Z o->upd H2 e (As e (Bd C t0)) b=Z o:=λ{b o} z=>by unfold upd;rw[if_neg (λy=>by rw[y,eA]at z;cases z)];exact z
  have hU:Un (Y8 (AG (aI P w) P w K mg base N YO scope f cd A outer s H E).stack) [] H2 (upd H2 e (As e (Bd C t0))) s2.heap h':=⟨λb o z _ _ _=>cZ.keeps b o z,λb o z _ _ _=>⟨_,cZ.keeps b o z⟩,λb o z nz _=>by unfold upd;rw[if_neg (λy=>by rw[y,cZ.new]at z;cases z)];exact nz,λb o z _=>⟨_,cZ.keeps b o z⟩,λb xs z=>up z,λb o u z=>up z,λb ps z=>⟨#[],by rw[Array.append_empty];exact up z⟩⟩;have iI:ai P w (upd H2 e (As e (Bd C t0))) h':=λb o z=>by
   by_cases y:b=e
   .subst y
    rw[Zq]at z;cases z;exact HV lh
   .have z':H2 b=Z o:=by unfold upd at z;rw[if_neg y]at z;exact z
    exact((I2.hok b o z').stay (λc v _ q=>cZ.keeps c v q) (λc q=>up q) λc xs q=>up q)
  have I3:Inv (AG (aI P w) P w K mg base N YO scope f cd A outer s H E) YK L (upd H2 e (As e (Bd C t0))) {s2 with heap:=h'}:=I2.call' (s':={s2 with heap:=h'}) rfl hU iI I2.bare λb z=>absurd z (by simp);have kD:Z6 (j+1) (AG (aI P w) P w K mg base N YO scope f cd A outer s H E).A:=hr.mono hj;have sF:Zs F2 (upd H2 e (As e (Bd C t0))):=λb o z=>up (x2.sub b o z);refine Fq (DY (FI.run _ _ _ _ ⟨[.ref e,u],[]⟩ [.ref e,u] [.ref e,.ref l] (λv4 H4=>v4=.non/\∃t1 dx,H4=upd H2 e (As e {Bd C t1 with dict:=Z dx})) E0 (kD.make C [u] []) (I3.env0.make C [u] []) (hb _ [.ref e,u] I3.kIn rfl) (.cons rfl (.cons ru .nil))
   ⟨e,C,t0,F2,ds,l,rfl,hm,Zq,sF,rp,c1,c2,c3',c4,c5,hS,λt1 dx=>⟨rfl,t1,dx,by rw[Ek]⟩⟩) λrs s4 hq=>?_)
  cases rs with
  |error e=>exact AX hq
  |ok fl =>
   cases fl with
   |next=>exact AX hq
   |brk=>exact AX hq
   |cont=>exact AX hq
   |ret u4 =>
    obtain⟨v4,H4,I4,rv,ev,t1,dx,eH⟩:=I3.after hq;subst ev eH;obtain rfl:u4=.none:=rv;have cH:=Gx (I4.hok e _ Zq);refine⟨rfl,I4.bk _ _ hC,.ref t1,Z dx,#[],cH,?_⟩;refine Uy I4 Zq dE rfl rfl rfl ?_;have e2:Cy e (upd H2 e (As e {Bd C t1 with dict:=Z dx}))=H2:=by
     funext b
     unfold Cy upd;split
     .rename_i z;rw[z,eA]
     .rfl
    rw[e2];exact kk F2 H2 (.ref C) (at_.ext.trans x2) hm
end
end
end HP
namespace HP
open PySem
section
variable{TO i1 i2 z:Addr}{A:Around}{xs:Array Value}{f1 f2:List Addr}{n1 n2:Nat}{S1 S2:Nat->Heap->Prop}{P1 P2:Nat->Value->Prop}{prog:Program}{s:Shared}{a b:Value}{E Q:mD}{w:World}
section
variable{prog:Program}{w:World}{A:Around}{E:mD}{s:Shared}
structure GL(z TI TO i1 i2:Addr)(f1 f2:List Addr):Prop where
 a1:TI≠z
 a2:TO≠z
 a3:i1≠z
 a4:i2≠z
 a5:TI≠TO
 a6:TI≠i1
 a7:TI≠i2
 a8:TO≠i1
 a9:TO≠i2
 b1:z∉f1/\TO∉f1/\i2∉f1
 b2:z∉f2/\TO∉f2/\i1∉f2
theorem Sv{TI:Addr}{k:Nat}(D:GL z TI TO i1 i2 f1 f2)(D1:Draws prog w A i1 f1 n1 P1 S1)(D2:Draws prog w A i2 f2 n2 P2 S2)(hz:IsZip s.heap z TI TO .none)(aS:IsPair s.heap TI (.ref i1) (.ref i2))(bw:IsPair s.heap TO a b)(h1:S1 k s.heap)(h2:S2 k s.heap)(k1:k<n1)(k2:k<n2)
  (hQ:∀x y h' tk,P1 k x->P2 k y->IsZip h' z TI TO (rawInt s.heap.objs.size)->IsPair h' TO x y->S1 (k+1) h'->S2 (k+1) h'->IsPair h' s.heap.objs.size x y ->
   (∀c o,c≠z->c≠TO->c≠i1->c≠i2->s.heap.get? c=Z o->h'.get? c=Z o)->Q (.ref s.heap.objs.size) {s with heap:=h',toks:=tk}):
  wpAny (model prog w) A (Builtin.«zip.__next__» ⟨[.ref z],[]⟩) (λYZ s'=>∃v,YZ=.done (.ret v)/\Q v s') E s:=by
 show wpAny _ _ (field (.ref z) 2 >>= _) _ _ _;refine Ac (BQ hz rfl (x:=.bool Ab) rfl ?_);show wpAny _ _ (field (.ref z) 3 >>= _) _ _ _;refine Ac (BQ hz rfl (x:=.ref TI) rfl ?_);refine Ac (Dj aS rfl ?_);show wpAny _ _ (Hw (.ref z) >>= _) _ _ _;refine Ac ?_;unfold Hw;refine Ac (BQ hz rfl (x:=.none) rfl (Ag ?_));simp only[if_true];refine Ac (Fp (Ac (BQ hz rfl (x:=.ref TO) rfl (Ac (FW hz (by simp) λg1 z1 s1=>?_)))))
 replace z1:IsZip g1 z TI TO .ellipsis:=z1
 refine Ac ?_;simp only[List.zipIdx_cons,List.zipIdx_nil,Je,List.forIn_nil];refine Ac (Ac (wpAny_onRaise ?_));show wpAny _ _ (D6 (.ref i1) >>= _) _ _ _;have q1:S1 k g1:=D1.frame _ _ _ h1 λc hc o e=>s1.extBut _ _ (λz=>D.b1.1 (z▸hc)) e;refine Ac (D1.item k _ _ _ k1 q1 λx g2 t2 px r1 s2=>Ag ?_)
 replace s2:Bo i1 g1 g2:=s2
 have TO2:IsPair g2 TO a b:=s2.extBut _ _ D.a8 (s1.extBut _ _ D.a2 bw);refine Ac (Dj TO2 rfl (Ac (wpAny_updateSeq_pair TO2 λg3 TO3 s3=>Ac (wpAny_letGo (Ag ?_)))))
 replace TO3:IsPair g3 TO x b:=TO3
 refine Ac (Ac (wpAny_onRaise ?_));show wpAny _ _ (D6 (.ref i2) >>= _) _ _ _
 replace s3:Bo TO g2 g3:=s3
 have q2:S2 k g3:=D2.frame _ _ _ h2 λc hc o e=>s3.extBut _ _ (λz=>D.b2.2.1 (z▸hc)) (s2.extBut _ _ (λz=>D.b2.2.2 (z▸hc)) (s1.extBut _ _ (λz=>D.b2.1 (z▸hc)) e));refine Ac (D2.item k _ _ _ k2 q2 λy g4 t4 py r2 s4=>Ag ?_)
 replace s4:Bo i2 g3 g4:=s4
 have TO4:IsPair g4 TO x b:=s4.extBut _ _ D.a9 TO3;refine Ac (Dj TO4 rfl (Ac (wpAny_updateSeq_pair TO4 λg5 TO5 s5=>Ac (wpAny_letGo (Ag (Ag ?_))))))
 replace TO5:IsPair g5 TO x y:=TO5
 replace s5:Bo TO g4 g5:=s5
 refine Ac (Dj TO5 rfl (Ac (wpAny_newTuple ?_)));have sz:g5.objs.size=s.heap.objs.size:=by rw[s5.1,s4.1,s3.1,s2.1,s1.1]
 have z5:IsZip g5 z TI TO .ellipsis:=s5.extBut _ _ D.a2.symm (s4.extBut _ _ D.a4.symm (s3.extBut _ _ D.a2.symm (s2.extBut _ _ D.a3.symm z1)));have k5:∀c o,c≠z->c≠TO->c≠i1->c≠i2->s.heap.get? c=Z o->g5.get? c=Z o:=λc o c1 c2 c3 c4 e=>s5.extBut _ _ c2 (s4.extBut _ _ c4 (s3.extBut _ _ c2 (s2.extBut _ _ c3 (s1.extBut _ _ c1 e))));have j9:S1 (k+1) g5:=D1.frame _ _ _ r1 λc hc o e=>s5.extBut _ _ (λz=>D.b1.2.1 (z▸hc)) (s4.extBut _ _ (λz=>D.b1.2.2 (z▸hc)) (s3.extBut _ _ (λz=>D.b1.2.1 (z▸hc)) e));have j8:S2 (k+1) g5:=D2.frame _ _ _ r2 λc hc o e=>s5.extBut _ _ (λz=>D.b2.2.1 (z▸hc)) e;have iX:z<g5.objs.size:=Ai z5;show wpAny _ _ (Mj (.ref z) (.ref g5.objs.size) >>= _) _ _ _;refine Ac ?_;unfold Mj
 have z6:IsZip (g5.push {cls:=.type "tuple",data:=.seq #[x,y]}) z TI TO .ellipsis:=Aj _ z5;refine Ac (FW z6 (by simp) λg7 z7 s7=>?_)
 replace z7:IsZip g7 z TI TO (rawInt g5.objs.size):=z7
 refine FW z7 (by simp) λg8 z8 s8=>?_
 replace z8:IsZip g8 z TI TO (rawInt g5.objs.size):=z8
 have up:∀c o,c≠z->g5.get? c=Z o->g8.get? c=Z o:=λc o c1 e=>s8.extBut _ _ c1 (s7.extBut _ _ c1 (Aj _ e));have T8:IsPair g8 g5.objs.size x y:=s8.extBut _ _ (Cj iX) (s7.extBut _ _ (Cj iX) (Az _ rfl));rw[sz]at z8 T8;refine Ag ⟨_,rfl,?_⟩;show Q (.ref g5.objs.size) _;rw[sz];exact hQ x y g8 t4 px py z8 (up _ _ D.a2 TO5) (D1.frame _ _ _ j9 λc hc o e=>up c o (λz=>D.b1.1 (z▸hc)) e) (D2.frame _ _ _ j8 λc hc o e=>up c o (λz=>D.b2.1 (z▸hc)) e) T8 λc o c1 c2 c3 c4 e=>up c o c1 (k5 c o c1 c2 c3 c4 e)
theorem Qm{TI:Addr}{Q:Fin->Shared->Prop}(D:GL z TI TO i1 i2 f1 f2)(D1:Draws prog w A i1 f1 n1 P1 S1)(D2:Draws prog w A i2 f2 n2 P2 S2)(hz:IsZip s.heap z TI TO .none)(aS:IsPair s.heap TI (.ref i1) (.ref i2))(bw:IsPair s.heap TO a b)(h1:S1 n1 s.heap)(hE:∀h' e,(∀c o,c≠z->c≠TO->c≠i1->c≠i2->s.heap.get? c=Z o->h'.get? c=Z o)->(∃o,h'.get? e=Z o/\o.cls=.type "StopIteration")->E (.ref e) {s with heap:=h'}):wpAny (model prog w) A (Builtin.«zip.__next__» ⟨[.ref z],[]⟩) Q E s:=by
 show wpAny _ _ (field (.ref z) 2 >>= _) _ _ _;refine Ac (BQ hz rfl (x:=.bool Ab) rfl ?_);show wpAny _ _ (field (.ref z) 3 >>= _) _ _ _;refine Ac (BQ hz rfl (x:=.ref TI) rfl ?_);refine Ac (Dj aS rfl ?_);show wpAny _ _ (Hw (.ref z) >>= _) _ _ _;refine Ac ?_;unfold Hw;refine Ac (BQ hz rfl (x:=.none) rfl (Ag ?_));simp only[if_true];refine Ac (Fp (Ac (BQ hz rfl (x:=.ref TO) rfl (Ac (FW hz (by simp) λg1 z1 s1=>?_)))))
 replace z1:IsZip g1 z TI TO .ellipsis:=z1
 refine Ac ?_;simp only[List.zipIdx_cons,List.zipIdx_nil,Je,List.forIn_nil];refine Ac (Ac (wpAny_onRaise ?_));show wpAny _ _ (D6 (.ref i1) >>= _) _ _ _;have q1:S1 n1 g1:=D1.frame _ _ _ h1 λc hc o e=>s1.extBut _ _ (λz=>D.b1.1 (z▸hc)) e;refine Ac (D1.done _ _ _ q1 λg2 e s2 ⟨oe,cH,hce⟩=>?_)
 replace s2:Heap.ExtBut i1 g1 g2:=s2
 have z2:IsZip g2 z TI TO .ellipsis:=s2 _ _ D.a3.symm z1;have lg:e≠z:=λx=>by subst x;rw[show g2.get? e=_ from z2]at cH;cases cH;simp at hce
 exact FW z2 (by simp) λg3 _ s3=>hE g3 e (λc o c1 _ c3 _ x=>s3.extBut _ _ c1 (s2 _ _ c3 (s1.extBut _ _ c1 x))) ⟨oe,s3.extBut _ _ lg cH,hce⟩
theorem Sq{TI:Addr}{k:Nat}{Q:Option Value->Shared->Prop}(D:GL z TI TO i1 i2 f1 f2)(D1:Draws prog w A.in1 i1 f1 n1 P1 S1)(D2:Draws prog w A.in1 i2 f2 n2 P2 S2)(hz:IsZip s.heap z TI TO .none)(aS:IsPair s.heap TI (.ref i1) (.ref i2))(bw:IsPair s.heap TO a b)(h1:S1 k s.heap)(h2:S2 k s.heap)(k1:k<n1)(k2:k<n2)
  (hQ:∀x y h' tk,P1 k x->P2 k y->IsZip h' z TI TO (rawInt s.heap.objs.size)->IsPair h' TO x y->S1 (k+1) h'->S2 (k+1) h'->IsPair h' s.heap.objs.size x y ->
   (∀c o,c≠z->c≠TO->c≠i1->c≠i2->s.heap.get? c=Z o->h'.get? c=Z o)->Q (Z (.ref s.heap.objs.size)) {s with heap:=h',toks:=tk}):wpAny (model prog w) A (pyNext (.ref z)) Q E s:=by
 have hT:s.TypeIs (.ref z) "zip":=⟨_,hz,rfl⟩;unfold pyNext;refine Ac (Hl (wpAny_callSpecial?_slot (name:=AV "__next__") hT F.slot_zip_next (CY F.slot_zip_next hT F.entry_zip_next (Sv D D1 D2 hz aS bw h1 h2 k1 k2 λx y h' tk p1 p2 a1 a2 a3 a4 a5 a6=>Ag (hQ x y h' tk p1 p2 a1 a2 a3 a4 a5 a6)) (F.args_zip_next_1 _))))
theorem R9{TI:Addr}{Q:Option Value->Shared->Prop}(D:GL z TI TO i1 i2 f1 f2)(D1:Draws prog w A.in1 i1 f1 n1 P1 S1)(D2:Draws prog w A.in1 i2 f2 n2 P2 S2)(hz:IsZip s.heap z TI TO .none)(aS:IsPair s.heap TI (.ref i1) (.ref i2))(bw:IsPair s.heap TO a b)(h1:S1 n1 s.heap)(hQ:∀h',(∀c o,c≠z->c≠TO->c≠i1->c≠i2->s.heap.get? c=Z o->h'.get? c=Z o)->Q U {s with heap:=h'}):wpAny (model prog w) A (pyNext (.ref z)) Q E s:=by
 have hT:s.TypeIs (.ref z) "zip":=⟨_,hz,rfl⟩;unfold pyNext;refine Ac (Hl (wpAny_callSpecial?_slot (name:=AV "__next__") hT F.slot_zip_next (CY F.slot_zip_next hT F.entry_zip_next (Qm D D1 D2 hz aS bw h1 λh' e hk he=>?_) (F.args_zip_next_1 _))));obtain⟨o,ho,hc⟩:=he;exact Ac (IS (T:="StopIteration") (b:=Y) ⟨o,ho,hc⟩ isSubtype_stop (Ag (hQ _ hk)))
end
noncomputable def PY:Bool->String
 |true=>"list_iterator"
 |false=>"tuple_iterator"
noncomputable def Bx(b:Bool)(h:Heap)(l:Addr)(xs:Array Value):Prop:=match b with
 |true=>h.IsList l xs
 |false=>h.IsTuple l xs
noncomputable def b0(b:Bool)(h:Heap)(i l:Addr)(k:Nat):Prop:=match b with
 |true=>h.IsListIter i l k
 |false=>h.IsTupleIter i l k
theorem Ib(hh:A.handled=U)(b:Bool)(i l:Addr)(ag:l≠i)(xs:Array Value):Draws prog w A i [i,l] xs.size (λk v=>xs[k]?=Z v) (λk h=>b0 b h i l k/\Bx b h l xs):=by
 cases b with
 |false=>exact TJ hh i l ag xs
 |true =>
  refine⟨λ_ _ st=>let ⟨o,ho,_⟩:=st.1;⟨o,ho⟩,λ_ _ _ ⟨h1,h2⟩ hk=>⟨Heap.IsListIter.at h1 λo e=>hk i (by simp) o e,Heap.IsList.at h2 λo e=>hk l (by simp) o e⟩,λk s Q E hi st hQ=>?_,λs Q E st hE=>?_⟩
  .exact wpAny_nextOf_list_item st.1 st.2 (x:=xs[k]) (by simp[hi]) λh' a b=>hQ _ h' s.toks (by simp[hi]) ⟨a,Heap.IsList.extBut st.2 b.extBut ag⟩ b
  .exact wpAny_nextOf_list_end hh st.1 st.2 (by simp) hE
noncomputable def Br(b:Bool)(l:Addr):Obj:={cls:=.type (PY b),data:=.fields #[.ref l,.int 0 0]}
noncomputable abbrev fX(b1 b2:Bool)(h:Heap)(l1 l2:Addr):Heap:=((((h.push (Br b1 l1)).push (Br b2 l2)).push {cls:=.type "tuple",data:=.seq #[.ref h.objs.size,.ref (h.push (Br b1 l1)).objs.size]}).push {cls:=.type "tuple",data:=.seq #[.none,.none]})
theorem Nu{b:Bool}{l:Addr}(hl:Bx b s.heap l xs)(h:Q (.ref s.heap.objs.size) {s with heap:=s.heap.push (Br b l)}):wpAny (model prog w) A (pyIter (.ref l)) Q E s:=by
 cases b with
 |true=>exact IX hl h
 |false=>exact wpAny_pyIter_tuple hl h
theorem Bx.push{b:Bool}{h:Heap}{l:Addr}{xs:Array Value}(q:Bx b h l xs)(o:Obj):Bx b (h.push o) l xs:=by
 cases b with
 |true=>exact Heap.IsList.at q λ_ e=>Aj _ e
 |false=>obtain⟨u,h1,h2⟩:=q;exact⟨u,Aj _ h1,h2⟩
theorem Tg(b1 b2:Bool)(l1 l2:Addr)(xs ys:Array Value):Meets (Builtin.«zip.__new__» ⟨[.type "zip",.ref l1,.ref l2],[]⟩) (λ_ R s=>Bx b1 s.heap l1 xs/\Bx b2 s.heap l2 ys /\
  R (.ok (.ret (.ref (fX b1 b2 s.heap l1 l2).objs.size))) {s with heap:=(fX b1 b2 s.heap l1 l2).push {cls:=.type "zip",data:=.fields #[.none,.bool Ab,.bool Ab,.ref ((s.heap.push (Br b1 l1)).push (Br b2 l2)).objs.size,.ref (((s.heap.push (Br b1 l1)).push (Br b2 l2)).push {cls:=.type "tuple",data:=.seq #[.ref s.heap.objs.size,.ref (s.heap.push (Br b1 l1)).objs.size]}).objs.size]}}) :=
 .of_wp λprog w A R s h=>by
  obtain⟨hp,g,d,tk,os⟩:=s;obtain⟨c6,ei,h⟩:=h;have iB:=sub_zip;have lL:Bx b1 (Shared.heap ⟨hp,g,d,tk,os⟩) l1 xs:=c6;have lK:Bx b2 (Shared.heap ⟨hp.push (Br b1 l1),g,d,tk,os⟩) l2 ys:=Bx.push ei _
  wp_walk using Nu lL,Nu lK
  exact⟨_,rfl,h⟩
theorem Q2{b1 b2:Bool}{l1 l2:Addr}{ys:Array Value}(c6:Bx b1 s.heap l1 xs)(ei:Bx b2 s.heap l2 ys)
  (h:∀h',IsZip h' (s.heap.objs.size+4) (s.heap.objs.size+2) (s.heap.objs.size+3) .none->IsPair h' (s.heap.objs.size+2) (.ref s.heap.objs.size) (.ref (s.heap.objs.size+1))->IsPair h' (s.heap.objs.size+3) .none .none ->
   b0 b1 h' s.heap.objs.size l1 0->b0 b2 h' (s.heap.objs.size+1) l2 0->(∀c o,s.heap.get? c=Z o->h'.get? c=Z o)->Q (.ref (s.heap.objs.size+4)) {s with heap:=h'}):wpAny (model prog w) A (call (.type "zip") [.ref l1,.ref l2]) Q E s:=by
 refine callType_new F.called_zip (by decide) (F.typeCall_zip_2 _ _) (F.newCall_zip_2 _ _) (λobj=>F.args_object_init_3 obj _ _) F.entry_zip_new (Tg b1 b2 l1 l2 xs ys) ⟨c6,ei,?_⟩;unfold fX;have jn:∀(b:Bool) (g:Heap) (i l:Addr),g.get? i=Z (Br b l)->b0 b g i l 0:=λb g i l e=>by cases b<;>exact⟨_,e,rfl,rfl⟩
 generalize e1:s.heap.push (Br b1 l1)=g1;have z1:g1.objs.size=s.heap.objs.size+1:=by rw[<-e1];exact Dl ..
 have o1:g1.get? s.heap.objs.size=Z (Br b1 l1):=by rw[<-e1];exact Az _ rfl
 have k1:∀c o,s.heap.get? c=Z o->g1.get? c=Z o:=λc o e=>by rw[<-e1];exact Aj _ e
 generalize e2:g1.push (Br b2 l2)=g2;have z2:g2.objs.size=s.heap.objs.size+2:=by rw[<-e2,Dl,z1]
 have o2:g2.get? (s.heap.objs.size+1)=Z (Br b2 l2):=by rw[<-e2,<-z1];exact Az _ rfl
 have k2:∀c o,g1.get? c=Z o->g2.get? c=Z o:=λc o e=>by rw[<-e2];exact Aj _ e
 rw[z1];generalize e3:g2.push {cls:=.type "tuple",data:=.seq #[.ref s.heap.objs.size,.ref (s.heap.objs.size+1)]}=g3;have z3:g3.objs.size=s.heap.objs.size+3:=by rw[<-e3,Dl,z2]
 have o3:IsPair g3 (s.heap.objs.size+2) (.ref s.heap.objs.size) (.ref (s.heap.objs.size+1)):=by rw[<-e3,<-z2];exact Az _ rfl
 have k3:∀c o,g2.get? c=Z o->g3.get? c=Z o:=λc o e=>by rw[<-e3];exact Aj _ e
 generalize e4:g3.push {cls:=.type "tuple",data:=.seq #[.none,.none]}=g4;have z4:g4.objs.size=s.heap.objs.size+4:=by rw[<-e4,Dl,z3]
 have o4:IsPair g4 (s.heap.objs.size+3) .none .none:=by rw[<-e4,<-z3];exact Az _ rfl
 have k4:∀c o,g3.get? c=Z o->g4.get? c=Z o:=λc o e=>by rw[<-e4];exact Aj _ e
 rw[z2,z3];have k5:∀(u:Obj) c o,g4.get? c=Z o->(g4.push u).get? c=Z o:=λu c o e=>Aj _ e;have o5:IsZip (g4.push {cls:=.type "zip",data:=.fields #[.none,.bool Ab,.bool Ab,.ref (s.heap.objs.size+2),.ref (s.heap.objs.size+3)]}) (s.heap.objs.size+4) (s.heap.objs.size+2) (s.heap.objs.size+3) .none:=by rw[<-z4];exact Az _ rfl
 show _/\_;rw[z4];exact⟨⟨_,o5,rfl⟩,h _ o5 (k5 _ _ _ (k4 _ _ o3)) (k5 _ _ _ o4) (jn _ _ _ _ (k5 _ _ _ (k4 _ _ (k3 _ _ (k2 _ _ o1))))) (jn _ _ _ _ (k5 _ _ _ (k4 _ _ (k3 _ _ o2)))) λc o e=>k5 _ _ _ (k4 _ _ (k3 _ _ (k2 _ _ (k1 _ _ e))))⟩
end
section
variable{it l:Addr}{YM:Array Value}
theorem RV:typeLookup (.type "list_reverseiterator") "__len__"=pure U:=by rw[typeLookup_type,builtinLookup_eq_fast];kernel_rfl
theorem Q0:Slot "list_reverseiterator" "__length_hint__" "list_reverseiterator.__length_hint__":=.of (owner:="list_reverseiterator") (n:="__length_hint__") (by rw[typeLookup_type,builtinLookup_eq_fast];kernel_rfl) (by decide +kernel) (by decide +kernel) (by decide +kernel) (by first|exact .inl (by decide +kernel)|exact .inr (by decide +kernel)) (by rw[isSubtype_type];kernel_rfl)
section
variable{prog:Program}{w:World}{A:Around}{E:mD}{s:Shared}
theorem Uz{i:Int}{Q:Bool->Shared->Prop}(Y5:s.heap.IsRevIter it l i)(h:Q Ab s):wpAny (model prog w) A (Mr (.ref it)) Q E s:=by
 unfold Mr;refine Ac (Jf Y5.typeIs RV ?_);show wpAny _ A (specialOf (Au it) (AV "__length_hint__") >>= _) _ _ _;refine Ac (Jf Y5.typeIs Q0.lookup ?_);generalize hid:("list_reverseiterator.__length_hint__":String)=id0
 wp_delta
 rw[show splitId id0=Z ("list_reverseiterator","__length_hint__") from by subst hid;decide +kernel];subst hid;refine Ac (IS (T:="list_reverseiterator") (b:=Y) Y5.typeIs (by rw[isSubtype_type];kernel_rfl) ?_);refine Hd (λdw=>absurd dw (by decide)) (λ_=>?_);refine Hd (λ_=>?_) (λdw=>absurd (by decide +kernel) dw);refine Hd (λdw=>absurd dw (by decide +kernel)) (λ_=>?_);exact Ag h
theorem Oz{R:Result->Shared->Prop}(hh:A.handled=U)(Y5:s.heap.IsRevIter it l ((YM.size:Int)-1))(hl:s.heap.IsList l YM)(ag:l≠it)(hsz:YM.size<=sizeLine)(mr:Addr)(res:Value)(c0:Nat)(hS:s.heap.get? mr=Z {cls:=.type "list",data:=.seq #[] c0})(eu:mr≠it)(fL:mr≠l)(hR:∀h' tk acc' c',(∀b o,b≠mr->b≠it->s.heap.get? b=Z o->h'.get? b=Z o)->h'.get? mr=Z {cls:=.type "list",dict:=U,data:=.seq acc' c',slots:=#[]}->ItemsOf (λi v=>YM[YM.size-1-i]?=Z v) acc' YM.size->R (.ok (.ret res)) {s with heap:=h',toks:=tk}):wpAny (model prog w) A.in1 (EU (.ref mr) (.ref it) res) (λYZ s'=>match YZ with | .done f=>R (.ok f) s' | .again c'=>c'.quiet=Y/\codeAny (model prog w) A c' R s') (λe s'=>R (.error e) s') s:=by
 have W:=(Walks.listRev (prog:=prog) (w:=w) (A:=A.in1) hh it l ag YM).toS;unfold EU;refine Ac (wpAny_typeOf Y5.typeIs ?_);have h1:Me (.ref mr) (.ref it)=Ab:=by simp[Me,eu]
 have h2:(Ci "list_reverseiterator" == Ci "list")=Ab:=by decide
 have h3:(Ci "list_reverseiterator" == Ci "tuple")=Ab:=by decide
 simp only[h1,h2,h3,Bool.or_false,FY,if_false];refine Ac (wpAny_pyIter_revIter Y5 (Ac (CL (Uz Y5 ?_))));refine Hd (λdw=>absurd dw (by decide +kernel)) (λ_=>?_);refine Ag ⟨Hk F.plain_extend_loop _,codeAny_extend_loopS W hsz mr (by simp[eu,fL]) res YM.size 0 _ #[] c0 rfl (CP _) ⟨CP _,by simpa using Y5,hl⟩ hS (ItemsOf.nil _) λs' acc' c' hm hS' YV=>?_⟩;rw[Moved.eq_with hm];refine hR s'.heap s'.toks acc' c' (λb o hb gT e=>hm.heap b o (λbz=>?_) e) hS' YV;rcases Ak.mp bz with e'|bz
 .exact hb e'
 .exact gT (BW.mp bz)
theorem Q3{R:Result->Shared->Prop}(hh:A.handled=U)(Y5:s.heap.IsRevIter it l ((YM.size:Int)-1))(hl:s.heap.IsList l YM)(ag:l≠it)(hsz:YM.size<=sizeLine)(mr:Addr)(hS:s.heap.get? mr=Z {cls:=.type "list",data:=.seq #[]})(eu:mr≠it)(fL:mr≠l)(hR:∀h' tk acc' c',(∀b o,b≠mr->b≠it->s.heap.get? b=Z o->h'.get? b=Z o)->h'.get? mr=Z {cls:=.type "list",dict:=U,data:=.seq acc' c',slots:=#[]}->ItemsOf (λi v=>YM[YM.size-1-i]?=Z v) acc' YM.size->R (.ok (.ret .none)) {s with heap:=h',toks:=tk}):wpAny (model prog w) A.in1 (Builtin.«list.__init__» ⟨[.ref mr,.ref it],[]⟩) (λYZ s'=>match YZ with | .done f=>R (.ok f) s' | .again c'=>c'.quiet=Y/\codeAny (model prog w) A c' R s') (λe s'=>R (.error e) s') s:=by
 show wpAny _ _ (do let dN <-L4 (.ref mr);Ma (.ref mr) (λ_=>#[]);letGo dN.toList.reverse;EU (.ref mr) (.ref it) .none) _ _ s;refine Ac ?_;unfold L4;refine Ac (Dj hS rfl (Ag ?_));show wpAny _ _ (updateSeq mr (λ_=>#[]) >>= λ_=>letGo (#[]:Array Value).toList.reverse >>= λ_=>EU (.ref mr) (.ref it) .none) _ _ s;refine Ac (wpAny_updateSeq hS rfl ?_);have lG:=EJ (ED (λ_=>(#[]:Array Value))) hS rfl;have gh:∀b o,b≠mr->s.heap.get? b=Z o->(s.heap.update mr (ED (λ_=>(#[]:Array Value)))).get? b=Z o:=λb o hb e=>(Jo _ _ (AD hb)).trans e;refine Ac (wpAny_letGo (Oz hh (Y5.at λo e=>gh it o eu.symm e) (hl.at λo e=>gh l o fL.symm e) ag hsz mr .none _ lG eu fL λh' tk acc' c' hk hS' YV=>?_));exact hR h' tk acc' c' (λb o hb gT e=>hk b o hb gT (gh b o hb e)) hS' YV
theorem Wu{Q:mD}(hh:A.handled=U)(Y5:s.heap.IsRevIter it l ((YM.size:Int)-1))(hl:s.heap.IsList l YM)(ag:l≠it)(hsz:YM.size<=sizeLine)(hQ:∀h' tk acc' c',(∀b o,b≠it->s.heap.get? b=Z o->h'.get? b=Z o)->h'.get? s.heap.objs.size=Z {cls:=.type "list",dict:=U,data:=.seq acc' c',slots:=#[]}->ItemsOf (λi v=>YM[YM.size-1-i]?=Z v) acc' YM.size->Q (.ref s.heap.objs.size) {s with heap:=h',toks:=tk}):wpAny (model prog w) A (call (.type "list") [.ref it]) Q E s:=by
 refine callType_codes (Q₁:=λobj s₁=>obj=.ref s.heap.objs.size/\s₁={s with heap:=s.heap.push {cls:=.type "list",data:=.seq #[]}}) F.called_list (F.typeCall_list_1 _) F.entry_list_init (code_list_new _ ⟨rfl,rfl⟩) λobj s₁ h₁=>?_;obtain⟨rfl,rfl⟩:=h₁;have hS:(s.heap.push {cls:=.type "list",data:=.seq #[]}).get? s.heap.objs.size=Z {cls:=.type "list",data:=.seq #[]}:=Az _ rfl;have n1:s.heap.objs.size≠it:=by obtain⟨o,e,_⟩:=Y5;exact Cj (Ai e)
 have n2:s.heap.objs.size≠l:=by obtain⟨o,e,_⟩:=hl;exact Cj (Ai e)
 refine⟨⟨_,hS,rfl⟩,F.args_list_init_2 _ _,Q3 (A:=A.in1) hh (Y5.at λo e=>Aj _ e) (hl.at λo e=>Aj _ e) ag hsz _ hS n1 n2 λh' tk acc' c' hk hS' YV=>?_⟩;exact⟨rfl,hQ h' tk acc' c' (λb o hb e=>hk b o (Am (Ai e)) hb (Aj _ e)) hS' YV⟩
end
end
end HP
namespace HP
open PySem PySem.Spec PyProof.Rows L2
variable{i:Nat}{d:PyData}
noncomputable def BY:mI:=["ahead","seen","part","row","depth"]
noncomputable abbrev c9(a s p w:V)(n:Int):List (Str×V):=[("ahead",a),("seen",s),("part",p),("row",w),("depth",.int n)]
inductive bc(K:Ad)(C:Addr)(F:Hp):mE->Addr->Prop where
 |top {a dx:Addr} {v1 v2 v3:V} {d1 d2 d3:PyData} {n:Int} (h:F a=Z (.ins C dx (c9 .non v1 v2 v3 n))) (r1:@Rep aj K F d1 v1) (r2:@Rep aj K F d2 v2) (r3:@Rep aj K F d3 v3):bc K C F [.none,d1,d2,d3,.int n] a
 |on {a b dx:Addr} {cs:mE} {v1 v2 v3:V} {d1 d2 d3:PyData} {n:Int} (h:F a=Z (.ins C dx (c9 (.ref b) v1 v2 v3 n))) (q:bc K C F cs b) (r1:@Rep aj K F d1 v1) (r2:@Rep aj K F d2 v2) (r3:@Rep aj K F d3 v3):bc K C F [HM.jE 9 cs,d1,d2,d3,.int n] a
noncomputable def cm(F:Hp)(cs:mE)(a:Addr):Prop:=∃(o:Obj) (ps:List (Int×Int)),F a=Z (.frz o (.dK (ps.map λp=>(Cf p.1,V.int p.2))))/\cs=ps.map λp=>.tuple [.int p.1,.int p.2]
section
variable{K:Ad}{C:Addr}{F F':Hp}{cs:mE}{a:Addr}
theorem bc.mono(h:bc K C F cs a)(s:Zs F F'):bc K C F' cs a:=by
 induction h with
 |top h r1 r2 r3=>exact .top (s _ _ h) (@Rep.mono aj _ _ _ _ _ r1 s) (@Rep.mono aj _ _ _ _ _ r2 s) (@Rep.mono aj _ _ _ _ _ r3 s)
 |on h _ r1 r2 r3 ih=>exact .on (s _ _ h) ih (@Rep.mono aj _ _ _ _ _ r1 s) (@Rep.mono aj _ _ _ _ _ r2 s) (@Rep.mono aj _ _ _ _ _ r3 s)
theorem bc.drop(h:bc K C F cs a):bc K C (B6 F) cs a:=by
 induction h with
 |top h r1 r2 r3=>exact .top (DG h rfl) (@Rep.drop aj _ _ _ _ r1) (@Rep.drop aj _ _ _ _ r2) (@Rep.drop aj _ _ _ _ r3)
 |on h _ r1 r2 r3 ih=>exact .on (DG h rfl) ih (@Rep.drop aj _ _ _ _ r1) (@Rep.drop aj _ _ _ _ r2) (@Rep.drop aj _ _ _ _ r3)
theorem bc.sw{b:Addr}{ob:HO}{vvs:List (List YS×V)}(hF:∀u,F b=Z u->Dk vvs u)(aR:Dk vvs ob)(h:bc K C F cs a):bc K C (HP.sw b ob F) cs a:=by
 have key:∀{c dx:Addr} {fs:List (Str×V)},F c=Z (.ins C dx fs)->HP.sw b ob F c=Z (.ins C dx fs):=λ{c dx fs} e=>by
  have hb:c≠b:=λz=>by subst z;rcases hF _ e with z|⟨o,z⟩<;>cases z
  unfold HP.sw;rw[if_neg hb];exact e
 induction h with
 |top h r1 r2 r3=>exact .top (key h) (@Rep.sw aj _ _ _ _ _ _ _ hF aR r1) (@Rep.sw aj _ _ _ _ _ _ _ hF aR r2) (@Rep.sw aj _ _ _ _ _ _ _ hF aR r3)
 |on h _ r1 r2 r3 ih=>exact .on (key h) ih (@Rep.sw aj _ _ _ _ _ _ _ hF aR r1) (@Rep.sw aj _ _ _ _ _ _ _ hF aR r2) (@Rep.sw aj _ _ _ _ _ _ _ hF aR r3)
theorem cm.mono(h:cm F cs a)(s:Zs F F'):cm F' cs a:=let ⟨o,ps,h1,h2⟩:=h;⟨o,ps,s _ _ h1,h2⟩
theorem cm.drop(h:cm F cs a):cm (B6 F) cs a:=let ⟨o,ps,h1,h2⟩:=h;⟨o,ps,DG h1 rfl,h2⟩
theorem cm.sw{b:Addr}{ob:HO}{vvs:List (List YS×V)}(hF:∀u,F b=Z u->Dk vvs u)(aR:Dk vvs ob)(h:cm F cs a):cm (HP.sw b ob F) cs a:=by
 obtain⟨o,ps,h1,h2⟩:=h;refine⟨o,ps,?_,h2⟩;have hb:a≠b:=λz=>by subst z;rcases hF _ h1 with z|⟨o,z⟩<;>cases z
 unfold HP.sw;rw[if_neg hb];exact h1
theorem bc.fld[FX](hv:∀cs F a,bc K C F cs a->FX.fv 9 cs F a)(h:bc K C F cs a){f:Str}(hf:BY[i]?=Z f)(hd:cs[i]?=Z d):∃dx fs v,F a=Z (.ins C dx fs)/\fs.lookup f=Z v/\Rep K F d v:=by
 have sk:∀{fs:List (Str×V)} {v:V} {g:Str},fs.lookup g=Z v->g=f->fs.lookup f=Z v:=λe z=>z▸e;cases h with
 |top h r1 r2 r3 =>
  match i,hf,hd with
  |0,hf,hd=>cases hf;cases hd;exact⟨_,_,_,h,rfl,.non⟩
  |1,hf,hd=>cases hf;cases hd;exact⟨_,_,_,h,rfl,r1.up⟩
  |2,hf,hd=>cases hf;cases hd;exact⟨_,_,_,h,rfl,r2.up⟩
  |3,hf,hd=>cases hf;cases hd;exact⟨_,_,_,h,rfl,r3.up⟩
  |4,hf,hd=>cases hf;cases hd;exact⟨_,_,_,h,rfl,.int _⟩
 |on h q r1 r2 r3 =>
  match i,hf,hd with
  |0,hf,hd=>cases hf;cases hd;exact⟨_,_,_,h,rfl,.fn (hv _ _ _ q)⟩
  |1,hf,hd=>cases hf;cases hd;exact⟨_,_,_,h,rfl,r1.up⟩
  |2,hf,hd=>cases hf;cases hd;exact⟨_,_,_,h,rfl,r2.up⟩
  |3,hf,hd=>cases hf;cases hd;exact⟨_,_,_,h,rfl,r3.up⟩
  |4,hf,hd=>cases hf;cases hd;exact⟨_,_,_,h,rfl,.int _⟩
end
noncomputable def Mz(C:Addr)(H:Hp)(x:Addr)(a:V)(n:Int):Prop:=(a=.non/\n=1)\/∃b dx fs m,a=.ref b/\b≠x/\H b=Z (.ins C dx fs)/\fs.lookup ("depth":Str)=Z (V.int m)/\n=m+1
noncomputable def d7(C:Addr):Sp:=λvs H Q _=>∃x dx a s p w n,vs=[.ref x,a,s,p,w]/\H x=Z (.ins C dx [])/\Mz C H x a n/\Q .non (upd H x (.ins C dx (c9 a s p w n)))
noncomputable abbrev B7:mI:=["self","ahead","seen","part","row"]
structure B5[FX](P:Program)(w:World)(K:Ad)(mg:mF)(base:Heap)(k:Nat):Prop where
 ex:∃C,(∀cs F a,FX.fv 9 cs F a↔bc K C F cs a)/\(∀cs F a,FX.fv 10 cs F a↔cm F cs a)/\cn K C/\(∀f∈BY,B8 K C f)/\mg "Place"=Z (.ref C) /\
  ∃f fd j,j+1<=k/\Mk K C f/\AK P w K mg base bf j f fd B7 (d7 C)/\Binds K fd B7 []
theorem B5.mono[FX]{P:Program}{w:World}{K:Ad}{mg:mF}{base:Heap}{j k:Nat}(h:B5 P w K mg base j)(hj:j<=k):B5 P w K mg base k:=by obtain⟨C,h1,h2,h3,h4,h5,f,fd,i,hi,r⟩:=h.ex;exact⟨C,h1,h2,h3,h4,h5,f,fd,i,by omega,r⟩
variable[FX]
section
variable{X:Cx}{pos p:Pos}{e:Expr}{es:List Expr}{fa:HM.EF}{f:HM.AF}{k:Nat}
theorem Nx{d':PyData}(h:HM.NN i d=Z d'):∃cs,d=HM.jE 9 cs/\cs[i]?=Z d':=by
 unfold HM.NN HM.QG at h;split at h
 .rename_i cs cK
  split at cK
  .rename_i cs' hu
   cases cK;exact⟨_,Sz hu,h⟩
  .cases cK
 .cases h
theorem DF(PL:B5 X.prog X.w X.K X.mg X.base k)(i:Nat){x:Str}(ha:XE X e fa)(hi:BY[i]?=Z x:=by rfl)(hb:Ck e x X.env (eval e X.env)=eval e X.env:=by rfl):XE X (.Attribute e x pos) (HM.DB i fa):=by
 intro r d h;obtain⟨C,hv,_,hc,hn,_⟩:=PL.ex;unfold HM.DB at h;split at h
 .rename_i d0 h0
  obtain⟨cs,rfl,hd⟩:=Nx h;refine PE.impN (M6 (ha r _ h0) hb) λL H Q F0 H0 F at_ kk=>?_;refine⟨F0,H0,F,at_,λv F1 H1 x1 r1=>?_⟩;obtain⟨a,rfl,q⟩:=r1.fn_inv;obtain⟨dx,fs,u,h1,h2,h3⟩:=bc.fld (λcs F a h=>(hv cs F a).mpr h) ((hv _ _ _).mp q) hi hd;exact⟨a,C,dx,fs,u,rfl,x1.sub _ _ h1,hc,hn x (Cp hi),h2,kk u F1 H1 x1 h3⟩
 .cases h
theorem SN(PL:B5 X.prog X.w X.K X.mg X.base k)(hr:Z6 k X.A)(ha:XA X (e::es) f)(hg:Gl X "Place":=by rfl)(he:Ae (e::es) X.env=(Ab,eval e X.env)::Ae es X.env:=by rfl)(hpl:(backTo pos (Ae es X.env)).any (·.1)=Ab:=by rfl):XE X (.Call (.Name "Place" p) (e::es) [] pos) (HM.VB f):=by
 intro r d h;obtain⟨C,hv,_,hc,hn,hm,g,fd,j,hj,M,F,hb⟩:=PL.ex;unfold HM.VB at h;split at h
 .rename_i d0 d1 d2 d3 hf
  split at h
  .rename_i eO
   rw[Av,Av]at eO;obtain⟨⟨c1,c2⟩,c3⟩:=eO;obtain⟨n,gE,rfl⟩:=Ao.mp h;refine PE.impN (QP (E:=E0) M F (hr.mono hj) hg hm hb .nil MI (ha.pa r _ hf) (by decide) he hpl) λL H Q F0 H0 F1 at_ kk=>?_;refine⟨F0,H0,F1,at_,λvs F2 H2 x2 q=>λx dx hx jA ag=>?_⟩;obtain⟨v0,vs,rfl,q0,q⟩:=q.cons_inv;obtain⟨v1,vs,rfl,q1,q⟩:=q.cons_inv;obtain⟨v2,vs,rfl,q2,q⟩:=q.cons_inv;obtain⟨v3,vs,rfl,q3,q⟩:=q.cons_inv;cases q.nil_inv;have kq:upd H2 dx (.own x) x=U:=by rw[Zo (λz=>ag z.symm)];exact hx
   have x3:YR F1 H (upd F2 x (.ins C dx (c9 v0 v1 v2 v3 n))) (upd (upd H2 dx (.own x)) x (.ins C dx (c9 v0 v1 v2 v3 n))):=(x2.lay' (o:=.own x) jA).lay kq;have s3:Zs F2 (upd F2 x (.ins C dx (c9 v0 v1 v2 v3 n))):=Zs.upd' (x2.sub.free hx);have dZ:∀{d:PyData} {v:V},Rep X.K F2 d v->HM.dO 400 d=Y->@Rep aj X.K (upd F2 x (.ins C dx (c9 v0 v1 v2 v3 n))) d v:=λr0 h0=>r0.cutF (λb o z _=>s3 b o z) 400 h0;have YZ:∀l6,d0=l6->Mz C (upd (upd H2 dx (.own x)) x (.ins C dx [])) x v0 n->FX.fv 9 [d0,d1,d2,d3,.int n] (upd F2 x (.ins C dx (c9 v0 v1 v2 v3 n))) x->d7 C (.ref x::([v0,v1,v2,v3]++[])) (upd (upd H2 dx (.own x)) x (.ins C dx [])) (λv H3=>v=.non/\Q (.ref x) H3) E0:=λ_ _ iT la=>by refine⟨x,dx,v0,v1,v2,v3,n,rfl,Zq,iT,rfl,?_⟩;rw[Ek];exact kk _ _ _ x3 (.fn la)
   cases d0 with
   |none =>
    have e0:n=1:=by cases gE;rfl
    cases q0;exact YZ _ rfl (Ah ⟨rfl,e0⟩) ((hv _ _ _).mpr (.top Zq (dZ q1 c1) (dZ q2 c2) (dZ q3 c3)))
   |dict es' =>
    have gD:(match HM.NN 4 (.dict es')with|some (.int n)=>Z (n+1)|_=>U)=Z n:=gE;split at gD
    .rename_i m kO
     cases gD;obtain⟨cs,ec,h4⟩:=Nx kO;rw[ec]at q0;obtain⟨b,rfl,q9⟩:=q0.fn_inv;have pr:=(hv _ _ _).mp q9;obtain⟨ia,fs,u,g1,g2,g3⟩:=bc.fld (i:=4) (λcs F a h=>(hv cs F a).mpr h) pr rfl h4;cases g3;have gS:=x2.sub _ _ g1;have dW:b≠x:=BA gS hx;have lE:b≠dx:=BA gS jA;refine YZ _ rfl (Af ⟨b,ia,fs,m,rfl,dW,?_,g2,rfl⟩) ?_
     .rw[Zo dW,Zo lE];exact gS
     .rw[ec]
      exact(hv _ _ _).mpr (.on Zq (pr.mono s3) (dZ q1 c1) (dZ q2 c2) (dZ q3 c3))
    .cases gD
   |_=>cases gE
  .cases h
 .cases h
end
end HP
namespace HP
open PySem PySem.Spec PyProof.Rows L2
variable[FX]
section
variable{l:Addr}{b:Bool}{X:Cx}{F H:Hp}{L:L2.St}{YK:mG}{eQ:List Expr}{vs xs:List V}{us:mH}{a kt:Nat}{K:Ad}{s:Shared}
noncomputable def bW(K:Ad)(b:Bool)(H:Hp)(l:Addr)(xs:List V):Prop:=match b with
 |true=>au K H l xs
 |false=>aN K H l xs
noncomputable def jM(K:Ad)(b1 b2:Bool)(l1 l2:Addr):It :=
 ⟨λi H=>∃xs ys x y,bW K b1 H l1 xs/\bW K b2 H l2 ys/\xs[i]?=Z x/\ys[i]?=Z y,λi H v H'=>∃T x y,H T=U/\v=.ref T/\(∀xs,bW K b1 H l1 xs->xs[i]?=Z x)/\(∀ys,bW K b2 H l2 ys->ys[i]?=Z y)/\H'=upd H T (.tup [x,y]),λi H=>∃xs,bW K b1 H l1 xs/\xs.length=i⟩
omit [FX]in
theorem Gq(I:Inv X YK L H s)(h:bW X.K b H l xs):∃YL:mH,YN xs YL/\Bx b s.heap l YL.toArray/\xs.length<=sizeLine:=by
 cases b with
 |true=>obtain⟨YL,rv,p,hz⟩:=I.list h;exact⟨YL,rv,p.isList,hz⟩
 |false=>obtain⟨YL,rv,p,hz⟩:=I.tuple h;exact⟨YL,rv,p,hz⟩
omit [FX]in
theorem ND{ys:List V}(I:Inv X YK L H s)(h:bW X.K b H l xs)(h':bW X.K b H l ys):xs=ys:=by
 cases b with
 |true=>exact I.list_inj h h'
 |false=>exact I.tuple_inj h h'
theorem Ic{F':Hp}(h:bW K b F l xs)(s:Zs F F'):bW K b F' l xs:=by
 cases b with
 |true=>exact s.seq h
 |false=>exact NQ h s
omit [FX]in
theorem cF{b:Nat}(h:a≠b):@Ne Addr a b:=h
omit [FX]in
theorem E2{b c:Nat}(h1:a≠b)(h2:a≠c):a∉[b,c]:=λz=>by
 rcases Ak.mp z with z|z
 .exact h1 z
 .exact h2 (BW.mp z)
omit [FX]in
theorem Nf{n l1 l2:Nat}(h1:l1<n)(h2:l2<n):GL (n+4) (n+2) (n+3) n (n+1) [n,l1] [n+1,l2] :=
 ⟨cF (by omega),cF (by omega),cF (by omega),cF (by omega),cF (by omega),cF (by omega),cF (by omega),cF (by omega),cF (by omega),⟨E2 (by omega) (by omega),E2 (by omega) (by omega),E2 (by omega) (by omega)⟩,E2 (by omega) (by omega),E2 (by omega) (by omega),E2 (by omega) (by omega)⟩
omit [FX]in
theorem RY{P:Program}{w:World}{pt:Pos}(b1 b2:Bool)(n l1 l2:Addr)(h1:l1<n)(h2:l2<n):bY P w K (.Tuple eQ kt pt) (jM K b1 b2 l1 l2) [n+4,n+2,n+3,n,n+1] (n+4) (λi h=>IsZip h (n+4) (n+2) (n+3) .none/\IsPair h (n+2) (.ref n) (.ref (n+1))/\(∃a b,IsPair h (n+3) a b)/\b0 b1 h n l1 i/\b0 b2 h (n+1) l2 i) where
 mem:=by simp
 obj:=λi h st b hb=>by
  obtain⟨hz,aS,⟨a,c,bw⟩,i1,i2⟩:=st;have key:∀(b:Bool) (it l:Addr),b0 b h it l i->∃o,h.get? it=Z o/\∀v,o.data≠.cell v:=λb it l z=>by cases b<;>(obtain⟨o,ho,hc,hd⟩:=z;exact⟨o,ho,λv z=>by rw[hd]at z;cases z⟩)
  rcases Ak.mp hb with rfl|hb
  .exact⟨_,hz,λv z=>by cases z⟩
  rcases Ak.mp hb with rfl|hb
  .exact⟨_,aS,λv z=>by cases z⟩
  rcases Ak.mp hb with rfl|hb
  .exact⟨_,bw,λv z=>by cases z⟩
  rcases Ak.mp hb with rfl|hb
  .exact key _ _ _ i1
  .rw[BW.mp hb];exact key _ _ _ i2
 keep:=λi h h' ⟨hz,aS,⟨a,c,bw⟩,i1,i2⟩ k=>by
  have key:∀(b:Bool) (it l:Addr),it∈[n+4,n+2,n+3,n,n+1]->b0 b h it l i->b0 b h' it l i:=λb it l hm z=>by cases b<;>(obtain⟨o,ho,r⟩:=z;exact⟨o,k it hm o ho,r⟩)
  exact⟨k _ (by simp) _ hz,k _ (by simp) _ aS,⟨a,c,k _ (by simp) _ bw⟩,key _ _ _ (by simp) i1,key _ _ _ (by simp) i2⟩
 item:=by
  intro X hP hw hK hc i YK s L H E I hf st hg;subst hP hw hK;obtain⟨hz,aS,⟨a,c,bw⟩,i1,i2⟩:=st;obtain⟨xs,ys,x,y,fC,js,hx,hy⟩:=hg;obtain⟨bJ,gb,p1,_⟩:=Gq I fC;obtain⟨aL,jZ,p2,_⟩:=Gq I js;obtain⟨u,hu,ru⟩:=gb.get hx;obtain⟨v,hv,rv⟩:=jZ.get hy;have iP:i<bJ.toArray.size:=by simpa using(AE.mp hu).1
  have iO:i<aL.toArray.size:=by simpa using(AE.mp hv).1
  have D1:=Ib (prog:=X.prog) (w:=X.w) (A:=X.A.in1) (I.ok.hd hc) b1 n l1 (Am h1) bJ.toArray;have D2:=Ib (prog:=X.prog) (w:=X.w) (A:=X.A.in1) (I.ok.hd hc) b2 (n+1) l2 (Am (GZ h2)) aL.toArray;have live:∀b∈[n+4,n+2,n+3,n,n+1],b<s.heap.objs.size:=λb hb=>by
   have key:∀(b:Bool) (it l:Addr),b0 b s.heap it l i->it<s.heap.objs.size:=λb it l z=>by cases b<;>(obtain⟨o,ho,_⟩:=z;exact Ai ho)
   rcases Ak.mp hb with rfl|hb
   .exact Ai hz
   rcases Ak.mp hb with rfl|hb
   .exact Ai aS
   rcases Ak.mp hb with rfl|hb
   .exact Ai bw
   rcases Ak.mp hb with rfl|hb
   .exact key _ _ _ i1
   .rw[BW.mp hb];exact key _ _ _ i2
  refine Sq (Nf h1 h2) D1 D2 hz aS bw ⟨i1,p1⟩ ⟨i2,p2⟩ iP iO λx' y' h' tk q1 q2 hz' hTO' r1 r2 hT hk=>⟨_,rfl,wpAny_letOwnedTupleGo_zip hz' λh3 km fB=>?_⟩;have ex:x'=u:=by
   have:bJ.toArray[i]?=Z u:=by simpa using hu
   rw[this]at q1;exact(B4 q1).symm
  have ey:y'=v:=by
   have:aL.toArray[i]?=Z v:=by simpa using hv
   rw[this]at q2;exact(B4 q2).symm
  subst ex ey;have hn:H s.heap.objs.size=U:=I.hok.fresh (Al _);have IL:Inv X YK L (upd H s.heap.objs.size (.tup [x,y])) {s with heap:=s.heap.push {cls:=.type "tuple",data:=.seq #[x',y']},toks:=s.toks}:=I.laid (λb ob q=>Aj _ q) (Al _) ⟨by show 2<=sizeLine;decide,[x',y'],.cons ru (.cons rv .nil),IsTup.new _ _⟩;have I2:Inv X YK L (upd H s.heap.objs.size (.tup [x,y])) {s with heap:=h3,toks:=tk}:=Oa (s:={s with heap:=s.heap.push {cls:=.type "tuple",data:=.seq #[x',y']},toks:=s.toks}) (fp:=[n+4,n+2,n+3,n,n+1]) IL (λb o hb q=>by
   have c1:b≠n+4:=λz=>hb (by simp[z]);have c2:b≠n+3:=λz=>hb (by simp[z]);have c3:b≠n:=λz=>hb (by simp[z]);have c4:b≠n+1:=λz=>hb (by simp[z]);show h3.get? b=Z o;rw[fB.2 b c1]
   by_cases eb:b=s.heap.objs.size
   .subst eb
    have:(s.heap.push {cls:=.type "tuple",data:=.seq #[x',y']}).get? s.heap.objs.size=Z {cls:=.type "tuple",data:=.seq #[x',y']}:=Az _ rfl;rw[show(Z o:Option Obj)=_ from q.symm.trans this];exact hT
   .exact hk b o c1 c2 c3 c4 (by rw[<-FT _ _ _ eb];exact q)) λb hb=>by obtain⟨f0,f1,f2,f3,f4,f5⟩:=hf b hb;refine⟨?_,f1,f2,f3,f4,f5⟩;rw[Zo (Am (live b hb))];exact f0
  have step:∀(b:Bool) (it l:Addr),it≠n+4->b0 b h' it l (i+1)->b0 b h3 it l (i+1):=λb it l ag z=>by cases b<;>(obtain⟨o,ho,r⟩:=z;exact⟨o,(fB.2 it ag).trans ho,r⟩)
  refine⟨.ref s.heap.objs.size,_,I2,rfl,⟨_,x,y,hn,rfl,λzs hz=>by rw[ND I hz fC];exact hx,λzs hz=>by rw[ND I hz js];exact hy,rfl⟩,⟨km,?_,⟨x',y',?_⟩,step _ _ _ (by simp) r1.1,step _ _ _ (by simp) r2.1⟩,λb hb=>?_⟩
  .exact(fB.2 _ (by simp)).trans (hk _ _ (by simp) (by simp) (by simp) (by simp) aS)
  .exact(fB.2 _ (by simp)).trans hTO'
  .rw[Zo (Am (live b hb))]
   exact(hf b hb).1
 done:=by
  intro X hP hw hK hc i YK s L H E I hf st hg;subst hP hw hK;obtain⟨hz,aS,⟨a,c,bw⟩,i1,i2⟩:=st;obtain⟨xs,fC,hx⟩:=hg;obtain⟨bJ,gb,p1,_⟩:=Gq I fC;have D1:=Ib (prog:=X.prog) (w:=X.w) (A:=X.A.in1) (I.ok.hd hc) b1 n l1 (Am h1) bJ.toArray;have D2:=Ib (prog:=X.prog) (w:=X.w) (A:=X.A.in1) (I.ok.hd hc) b2 (n+1) l2 (Am (GZ h2)) (#[]:Array Value);have hl:=gb.length;have en:i=bJ.toArray.size:=by simp;omega
  subst en;exact R9 (Nf h1 h2) D1 D2 hz aS bw ⟨i1,p1⟩ λh' eb=>⟨rfl,Oa (t':=s.toks) (fp:=[n+4,n+2,n+3,n,n+1]) I (λb o hb q=>eb b o (λz=>hb (by simp[z])) (λz=>hb (by simp[z])) (λz=>hb (by simp[z])) (λz=>hb (by simp[z])) q) hf⟩
 self:=λ_ _ _ _ _ ⟨hz,_⟩ h=>wpAny_pyIter_zip hz h
omit [FX]in
theorem NI:∀(xs ys:mE) (i:Nat) (d:PyData),(HM.NW xs ys)[i]?=Z d->∃x y,xs[i]?=Z x/\ys[i]?=Z y/\d=.tuple [x,y]
 |[],_,_,_,h=>by cases h
 |_::_,[],_,_,h=>by cases h
 |x::xs,y::ys,0,d,h=>by cases h;exact⟨x,y,rfl,rfl,rfl⟩
 |x::xs,y::ys,i+1,d,h=>NI xs ys i d h
omit [FX]in
theorem NO:∀(xs ys:mE),BX xs=ys.length->(HM.NW xs ys).length=xs.length
 |[],_,_=>rfl
 |_::_,[],h=>by cases h
 |_::xs,_::ys,h=>congrArg (·+1) (NO xs ys (Nat.succ.inj h))
theorem R8{b1 b2:Bool}{l1 l2:Addr}{xs ys:mE}{ws:List V}(h1:bW K b1 F l1 vs)(h2:bW K b2 F l2 ws)(r1:Zu K F xs vs)(r2:Zu K F ys ws)(hl:BX xs=ys.length):eG K (jM K b1 b2 l1 l2) (HM.NW xs ys) F:=by intro F' H s1 s2;have q1:=Ic h1 (s1.trans s2);have q2:=Ic h2 (s1.trans s2);refine⟨λi d hd=>?_,vs,q1,by rw[NO xs ys hl,r1.1]⟩;obtain⟨x,y,hx,hy,rfl⟩:=NI xs ys i d hd;obtain⟨v,e1,e2⟩:=r1.get hx;obtain⟨w,g1,g2⟩:=r2.get hy;refine⟨⟨vs,ws,v,w,q1,q2,e1,g1⟩,λz H' ⟨T,v',w',hn,ez,hv,hw,eH⟩=>?_⟩;subst ez eH;have:=hv vs q1;rw[e1]at this;cases this;have:=hw ws q2;rw[g1]at this;cases this;have hs:=(YR.refl s2).tups.sub;refine⟨_,(YR.refl hs).lay hn,.tup Zq rfl ?_⟩;have hT:AJ F' H T=U:=hs.free hn;have up:∀{d:PyData} {u:V},Rep K F d u->Rep K (upd (AJ F' H) T (.tup [v,w])) d u:=λr=>(r.mono (s1.trans (CA s2))).mono (Zs.upd' hT);exact(Zu.cons (up e2) (.one (up g2))).2
theorem NP{d:PyData}{v:V}{ds:mE}(r:Rep K F d v)(h:HM.Em (.pl d)=Z ds):∃b l vs,v=.ref l/\bW K b F l vs/\Zu K F ds vs:=by
 cases r with
 |tup h1 h2 h3=>cases h;exact⟨Ab,_,_,rfl,.of h1,h2,h3⟩
 | @tupk a x h1=>cases h;exact⟨Ab,_,_,rfl,.inr h1,.one (.str x)⟩
 |lst h1 h2 h3=>cases h;exact⟨Y,_,_,rfl,h1,h2,h3⟩
 |dct _ _ _ _=>cases h
 |fn _=>cases h
 |non=>cases h
 |bl _=>cases h
 |int _=>cases h
 |str _=>cases h
omit [FX]in
theorem Qx{v1 v2:V}(r:YN [v1,v2] us):∃u1 u2,us=[u1,u2]/\RelV v1 u1/\RelV v2 u2:=by
 cases r with
 |cons a b =>
  cases b with
  |cons c d=>cases d;exact⟨_,_,rfl,a,c⟩
theorem Nm{a b:Expr}{fa fb:HM.EF}{p pos:Pos}{pt:Pos}(hm:X.mg "zip"=U)(ha:XE X a fa)(hb:XE X b fb)(hg:Gl X "zip":=by rfl)(hs:Ae [a,b] X.env=(Ab,eval a X.env)::Ae [b] X.env:=by rfl)(aQ:Ae [b] X.env=[(Ab,eval b X.env)]:=by rfl)(hpl:(backTo pos (Ae [b] X.env)).any (·.1)=Ab:=by rfl):fS X (.Tuple eQ kt pt) (.Call (.Name "zip" p) [a,b] [] pos) (HM.Nj fa fb):=by
 intro r ds h;unfold HM.Nj at h;split at h
 case h_2=>cases h
 rename_i x hx;split at h
 case h_2=>cases h
 rename_i xs fw;split at h
 case h_2=>cases h
 rename_i y hy;split at h
 case h_2=>cases h
 rename_i ys gv;split at h
 case isFalse=>cases h
 rename_i aw;cases h;intro YK s L H R I ⟨F0,H0,F,at_,k⟩;have eg:=Za ha (Za hb (Ze (X:=X)) aQ) hs;have aZ:HM.S fa (HM.S fb HM.Zh) r=Z [x,y]:=by simp[hx,hy]
 refine Call_ (Dc I hg hm boot_zip (D7 (Y6 (eg.pa r [x,y] aZ pos YK s L H (λvs H1=>∃F1,YR F H F1 H1/\Zu X.K F1 [x,y] vs) I ⟨F0,H0,F,at_,λvs F' H' x q=>⟨F',x,q⟩⟩) λus s1 ⟨vs,H1,I1,r1,F1,x1,q1⟩=>?_) hs hpl));obtain⟨v,vs,rfl,rx,q1⟩:=q1.cons_inv;obtain⟨w,vs,rfl,ry,q1⟩:=q1.cons_inv;cases q1.nil_inv;obtain⟨b1,l1,ws1,rfl,i7,j3⟩:=NP rx fw;obtain⟨b2,l2,ws2,rfl,i6,j0⟩:=NP ry gv;obtain⟨u1,u2,rfl,e1,e2⟩:=Qx r1
 .cases e1
  cases e2;obtain⟨bJ,_,p1,_⟩:=Gq I1 (Ic i7 x1.sub);obtain⟨aL,_,p2,_⟩:=Gq I1 (Ic i6 x1.sub);have lt:∀(b:Bool) (l:Addr) (YL:Array Value),Bx b s1.heap l YL->l<s1.heap.objs.size:=λb l YL z=>by cases b<;>(obtain⟨o,ho,_⟩:=z;exact Ai ho)
  refine Q2 p1 p2 λh' hz aS bw kY kX hk=>wpAny_pyIter_zip hz ?_;refine⟨_,[s1.heap.objs.size+4,s1.heap.objs.size+2,s1.heap.objs.size+3,s1.heap.objs.size,s1.heap.objs.size+1],_,_,H1,rfl,I1.kept (t':=s1.toks) hk,RY b1 b2 s1.heap.objs.size l1 l2 (lt _ _ _ p1) (lt _ _ _ p2),⟨hz,aS,⟨_,_,bw⟩,kY,kX⟩,λb hb=>?_,k _ F1 H1 x1 (R8 i7 i6 j3 j0 aw)⟩;have jw:s1.heap.objs.size<=b:=by
   rcases Ak.mp hb with e|hb
   .rw[e];exact GS _ _
   rcases Ak.mp hb with e|hb
   .rw[e];exact GS _ _
   rcases Ak.mp hb with e|hb
   .rw[e];exact GS _ _
   rcases Ak.mp hb with e|hb
   .rw[e];exact Al _
   rw[BW.mp hb];exact GS _ _
  exact I1.fpOk jw (I1.hok.fresh jw)
section
variable{X:Cx}{N:mI}{scope:Scope}{x x2:Str}{px fj pt:Pos}{kt:Nat}{bC iter:Expr}{aU:List Expr}{pos:Pos}{fi:HM.IF}{fc:HM.TF}{fe:HM.EF}
theorem OB(bV:X.xe=λ_ _=>False)(aY:X.calm=Y)(T:Cw X N scope [x,x2])(hi:fS X (.Tuple [.Name x px,.Name x2 fj] kt pt) iter fi)(hc:∀cl C s H ex,eE (ZT X N scope cl C s H ex) aU fc)(he:∀cl C s H ex,XE (ZT X N scope cl C s H ex) bC fe)(hs:∀x,FV iter X.env x=pure x:=by intro _;rfl):XF X (.ListComp bC [⟨.Tuple [.Name x px,.Name x2 fj] kt pt,iter,aU,0⟩] scope pos) (HM.OS fi fc fe):=by
 rw[Q5];exact Ol bV aY T (Rh T) hi hc he hs
end
section
variable{X:Cx}{a:Expr}{fa:HM.EF}{p p' pos pos':Pos}
theorem NR(h:YN vs us):YN vs.reverse us.reverse:=by
 induction h with
 |nil=>exact .nil
 |cons r _ ih=>rw[List.reverse_cons,List.reverse_cons];exact ih.append (.cons r .nil)
theorem Nl(gG:X.mg "list"=U)(gF:X.mg "reversed"=U)(hc:X.calm=Y)(ha:XE X a fa)(dR:Gl X "list":=by rfl)(gM:Gl X "reversed":=by rfl)(hs:Ae [a] X.env=[(Ab,eval a X.env)]:=by rfl)(aQ:Ae [EE (.Name "reversed" p') [a] [] pos'] X.env=[(Ab,eval (EE (.Name "reversed" p') [a] [] pos') X.env)]:=by rfl):XF X (.Call (.Name "list" p) [.Call (.Name "reversed" p') [a] [] pos'] [] pos) (HM.Ni fa):=by
 intro r d h;unfold HM.Ni at h;split at h
 case h_2=>cases h
 rename_i ds af;cases h;intro YK s L H Q I ⟨F0,H0,F,at_,k⟩;refine Du (Dc I dR gG J4 ?_);refine D7 ?_ aQ rfl;rw[aQ];show wpAny _ _ (spliced [(Ab,eval (EE (.Name "reversed" p') [a] [] pos') X.env)]) _ _ s;refine DX (Du (Dc I gM gF boot_reversed ?_));have eg:=Za ha (Ze (X:=X)) hs;refine D7 (Y6 (eg.pa r [.list ds] (by show(match fa r with|some x=>_|none=>_)=_;rw[af];rfl) pos' YK s L H (λvs H1=>∃F1,YR F H F1 H1/\Zu X.K F1 [.list ds] vs) I ⟨F0,H0,F,at_,λvs F' H' x q=>⟨F',x,q⟩⟩) λus s1 ⟨vs,H1,I1,r1,F1,x1,q1⟩=>?_) hs rfl;obtain⟨v,vs,rfl,rx,q1⟩:=q1.cons_inv;cases q1.nil_inv;obtain⟨u,rfl,ru⟩:=vals1 r1;cases rx with
 | @lst l _ ws hq hl hr =>
  cases ru;obtain⟨YL,rv,pl,hz⟩:=I1.list (x1.sub.seq hq);have hL:s1.heap.IsList l YL.toArray:=pl.isList;refine call_reversed_list hL (FU ?_);have aD:l<s1.heap.objs.size:=by obtain⟨o,ho,_⟩:=hL;exact Ai ho
  have hsz:YL.toArray.size<=sizeLine:=by rw[Ay,<-rv.length];exact hz
  refine Wu (I.ok.hd hc) ⟨_,Az _ rfl,rfl,rfl⟩ (hL.at λo e=>Aj _ e) (Am aD) hsz λh' tk acc' c' hk hS YV=>?_;have kk:∀b o,s1.heap.get? b=Z o->h'.get? b=Z o:=λb o e=>hk b o (Am (Ai e)) (Aj _ e);have gu:(s1.heap.push (revObj l ((YL.toArray.size:Int)-1))).objs.size=s1.heap.objs.size+1:=Dl ..;rw[gu]at hS ⊢;have hacc':acc'=YL.reverse.toArray:=by
   apply Array.ext';have c6:acc'.toList.length=YL.length:=by rw[Co,YV.1,Ay]
   apply List.ext_getElem?;intro i
   by_cases hi:i<BX YL
   .have e1:acc'.toList[i]?=Z (acc'.toList[i]'(by omega)):=BS _
    have e2:=YV.2 i _ (by rw[<-D5];exact e1);rw[e1,<-e2];show YL.toArray[YL.toArray.size-1-i]?=YL.reverse[i]?;rw[EI hi];simp
   .rw[FN (by omega),FN (by show YL.reverse.length<=i;rw[Cn];omega)]
  subst hacc';have hf:H1 (s1.heap.objs.size+1)=U:=I1.hok.fresh (GP _);refine⟨.ref (s1.heap.objs.size+1),_,I1.laid (a:=s1.heap.objs.size+1) (o:=.lst ws.reverse) (t':=tk) kk (GP _) ⟨by rw[Cn];exact hz,YL.reverse,c',NR rv,hS⟩,rfl,?_⟩;have rr:Zu X.K F1 ds.reverse ws.reverse:=by
   refine⟨by rw[Cn,Cn];exact hl,λi d v e1 e2=>?_⟩;have hi:i<BX ds:=by have:=(AE.mp e1).1;rwa [Cn]at this
   rw[EI hi]at e1;rw[EI (by omega),<-hl]at e2;exact hr _ d v e1 e2
  exact N4 (P:=λv _ H'=>Q v H') x1 rr hf k
end
end
section
variable{C:Addr}{H:Hp}{vs:List V}{p1:Pos}{K:Ad}{x:Str}
theorem M3{K:Ad}{F:Hp}:∀{kvs:List (YS×PyData)} {vvs:List (YS×V)} {ps:List (Int×Int)},HM.Nh kvs=Z ps->kvs.map (·.1)=vvs.map (·.1)->Zu K F (kvs.map (·.2)) (vvs.map (·.2))->vvs=ps.map λp=>((Cf p.1:YS),V.int p.2)
 |[],vvs,ps,h,hk,_=>by
  cases h;cases vvs with
  |nil=>rfl
  |cons _ _=>cases hk
 |(k,d)::kvs,vvs,ps,h,hk,r=>by
  cases vvs with
  |nil=>cases hk
  |cons q vvs =>
   obtain⟨k',v⟩:=q;injection hk with h1 h2
   cases h1;obtain⟨v',us,e,r1,r2⟩:=r.cons_inv;injection e with e1 e2
   subst e1;subst e2;cases k with
   |inr _=>cases h
   |inl i =>
    cases d<;>first|(cases h;done)|skip
    rename_i j;obtain⟨ps',hp,e⟩:=Ao.mp (show(HM.Nh kvs).map ((i,j)::·)=Z ps from h);subst e;cases r1;rw[M3 hp h2 r2];rfl
section
variable{X:Cx}{a b c e:Expr}{fa fb fc:HM.EF}{p pos:Pos}{k:Nat}
theorem Sj{ao:Pos}(hu:X.A.units+1<cLine)(i:Nat)(hk:XE X b fb)(hz:XE X c fc)(m:M2 X (.Name x p1) "get" ao b c pos)(hN:X.N[i]?=Z x:=by rfl)(hv:br X.env.scope x:=by first|exact Ah rfl|exact Af (Ah rfl)|exact Af (Af rfl))(hd:(x==("__debug__":Str))=Ab:=by decide)(Y7:(x==("__classdict__":Str))=Ab:=by decide):XE X (.Call (.Attribute (.Name x p1) "get" ao) [b,c] [] pos) (HM.UU i fb fc):=by
 intro r d h;unfold HM.UU at h;split at h
 case h_2=>cases h
 rename_i kvs hr;split at h
 case h_2=>cases h
 rename_i y hy;split at h
 case h_2=>cases h
 rename_i z hz';split at h
 case h_2=>cases h
 rename_i ky gI;cases h;refine PE.impN (S9 hu (ZS hN hv hd Y7) (hk r y hy) (hz r z hz') m) λL H Q F0 H0 F at_ kk=>?_;obtain⟨v,fp,h1,h2⟩:=at_.any hr;cases h2 with
 | @ok l _ vvs hl hke rr =>
  refine⟨_,h1,l,rfl,.inl ⟨vvs,.inl hl⟩,F0,H0,F,at_,λw F1 H1 x1 r1=>⟨F0,H0,F1,at_.grow x1,λw' F2 H2 x2 r2=>?_⟩⟩;have e3:H2 l=Z (.dK vvs):=x2.hh.ntb (x1.hh.ntb hl rfl) rfl;have ew:w=kV ky:=by
   cases y<;>first|(cases gI;done)|skip
   .cases gI;cases r1;rfl
   .cases gI;cases r1;rfl
  subst ew;refine⟨_,BJ.k e3,kk _ F2 H2 (x1.trans x2) ?_⟩;have j4:Zu X.K F2 (kvs.map (·.2)) (vvs.map (·.2)):=(rr.mono x1.ff).mono x2.ff;have key:∀{kvs:List (YS×PyData)} {vvs:List (YS×V)},kvs.map (·.1)=vvs.map (·.1)->Zu X.K F2 (kvs.map (·.2)) (vvs.map (·.2))->(∀dd,HM.ZL kvs ky=Z dd->∃u,Aq vvs ky=Z u/\Rep X.K F2 dd u)/\(HM.ZL kvs ky=U->Aq vvs ky=U):=by
   intro kvs
   induction kvs with
   |nil =>
    intro vvs h1 _;cases vvs with
    |nil=>exact⟨λ_ h=>(by cases h),λ_=>rfl⟩
    |cons _ _=>cases h1
   |cons q kvs ih =>
    intro vvs h1 rr;cases vvs with
    |nil=>cases h1
    |cons q' vvs =>
     obtain⟨k1,d1⟩:=q;obtain⟨k2,v2⟩:=q';injection h1 with h1 h2
     have h1:k1=k2:=h1;subst h1;obtain⟨v',us,e,ra,rb⟩:=rr.cons_inv;injection e with e1 e2
     subst e1;subst e2;obtain⟨i1,i2⟩:=ih h2 rb;unfold HM.ZL Aq at *;rw[BV,BV]
     by_cases hq:k1=ky
     .rw[decide_eq_true hq]
      refine⟨λdd dv=>?_,λcI=>by cases cI⟩;cases dv;exact⟨_,rfl,ra⟩
     .rw[decide_eq_false hq]
      exact⟨i1,i2⟩
  obtain⟨t1,t2⟩:=key hke j4;cases hl:HM.ZL kvs ky with
  |none=>rw[t2 hl];exact r2
  |some dd=>obtain⟨u,q1,q2⟩:=t1 dd hl;rw[q1];exact q2
omit [FX]in
theorem QV{YK:mG}{L:L2.St}{s:Shared}{a:Addr}{vvs:List (YS×V)}{ob:HO}(I:Inv X YK L H s)(ha:H a=Z (.dK vvs))(ok:Z0 X.prog X.w (upd H a ob) s.heap a ob):Inv X YK L (upd H a ob) s:=by
 have none':∀b,H b=U->upd H a ob b=U:=λb h=>by rw[Zo (λz=>by rw[z,ha]at h;cases h)];exact h
 refine⟨I.ok,I.os,I.bare,⟨I.base.keep,I.base.slot,λb o h1 h2 h3=>none' b (I.base.free b o h1 h2 h3),I.base.there,λb xs h=>?_,λb o w h=>?_,λb ps h=>?_⟩,I.loc,I.cell,none' _ I.free,λx c h=>none' _ (I.freeC x c h),λp hp=>?_,λb o h=>?_,I.len⟩
 .have q:=I.base.tups b xs h
  rw[Zo (λz=>by rw[z,ha]at q;cases q)];exact q
 .have q:=I.base.frzs b o w h
  rw[Zo (λz=>by rw[z,ha]at q;cases q)];exact q
 .obtain⟨m,q⟩:=I.base.tbls b ps h
  exact⟨m,by rw[Zo (λz=>by rw[z,ha]at q;cases q)];exact q⟩
 .have q:=I.pin p hp
  exact⟨q.1,none' _ q.2.1,q.2.2⟩
 .by_cases hb:b=a
  .subst hb
   rw[Zq]at h;cases h;exact ok
  .rw[Zo hb]at h
   exact(I.hok b o h).stay (λ_ _ _ q=>q) (λc q=>by rw[Zo (λz=>by rw[z,ha]at q;cases q)];exact q) λc xs q=>by rw[Zo (λz=>by rw[z,ha]at q;cases q)];exact q
theorem Si(PL:B5 X.prog X.w X.K X.mg X.base k)(i:Nat)(hN:X.N[i]?=Z x:=by rfl)(hv:br X.env.scope x:=by first|exact Ah rfl|exact Af (Ah rfl)|exact Af (Af rfl))(hd:(x==("__debug__":Str))=Ab:=by decide)(Y7:(x==("__classdict__":Str))=Ab:=by decide):XS X (.Return (Z (.Name x p)) p1) (HM.UW i):=by
 intro r o h;obtain⟨C,_,kU,_⟩:=PL.ex;unfold HM.UW at h;split at h
 case h_2=>cases h
 rename_i kvs hr;obtain⟨ps,kE,e⟩:=Ao.mp h;subst e;intro YK s L H E I ⟨F0,H0,F,⟨fp,at_⟩,kk⟩;obtain⟨v,h1,h2⟩:=at_.at_ i _ hr;generalize cJ:fp i=fi at h2;cases h2 with
 | @ok a _ vvs hl hke rr =>
  have ho:=at_.own i a (by rw[cJ];simp);obtain⟨z,y,vs,rl,q,lU,ep,e1,c1⟩:=(show Z0 X.prog X.w H s.heap a (.dK vvs) from I.hok a _ hl);have I':=QV (ob:=.frz q (.dK vvs)) I hl ⟨e1,⟨z,y,vs,rl,q,lU,ep,e1,c1⟩⟩;have sF:Zs F (upd F a (.frz q (.dK vvs))):=Zs.upd' ho.1;have x':YR F0 H0 (upd F a (.frz q (.dK vvs))) (upd H a (.frz q (.dK vvs))):=by
   refine⟨at_.ext.ff.trans sF,λb o z=>?_,λb o z=>?_,λb o z=>?_,λt=>(at_.ext.tab t).keep λb o z ht=>?_,λt=>(at_.ext.nts t).upd rfl⟩
   .exact(at_.ext.hh b o z).cong (Zo (λe=>by rw[e,ho.2]at z;cases z))
   .by_cases hb:b=a
    .subst hb;rw[Zq]at z ⊢;exact z
    .rw[Zo hb]at z ⊢;exact at_.sub b o z
   .by_cases hb:b=a
    .subst hb;exact .inr (.inl ho.2)
    .rw[Zo hb]at z;exact at_.ext.new b o z
   .rw[Zo (λe=>by rw[e,hl]at z;cases z;cases ht)];exact z
  have cA:=M3 kE hke rr;have j6:Rep X.K (upd F a (.frz q (.dK vvs))) (HM.ki ps) (.ref a):=.fn ((kU _ _ _).mpr ⟨q,ps,by rw[Zq,cA],rfl⟩);exact HJ (ZS hN hv hd Y7) YK s L _ E I' ⟨_,h1,kk _ _ _ x' j6⟩
end
noncomputable def PR(K:Ad):TE:=i4 (MM (dM (λx y H Q=>y=.non/\Q (.bl (decide (x=.non))) H) (Bl 1) (tC .non))) (tC (.int 1)) (MF (My K (Bl 1) "depth") (tC (.int 1)))
noncomputable def Pj(K:Ad):TS:=E3 (EV K (Bl 0) (Bl 1) "ahead") (E3 (EV K (Bl 0) (Bl 2) "seen") (E3 (EV K (Bl 0) (Bl 3) "part") (E3 (EV K (Bl 0) (Bl 4) "row") (EV K (Bl 0) (PR K) "depth"))))
omit [FX]in
theorem TR(hc:cn K C)(hn:∀f∈BY,B8 K C f){Q:VK}{E:XK}(h:d7 C vs H Q E):Pj K {nx:=λ_ H'=>Q .non H',rt:=Q} (L2.start B7 vs) H:=by
 obtain⟨x,dx,a,s,p,w,n,rfl,hx,hd,q⟩:=h;have at_:∀(i:Nat) (v:V),([V.ref x,a,s,p,w]:List V)[i]?=Z v->(L2.start B7 [.ref x,a,s,p,w])[i]?=Z (Z v):=λi v e=>by show(([V.ref x,a,s,p,w].map Z)++[])[i]?=_;rw[F8,Bh,e];rfl
 refine⟨a,at_ 1 _ rfl,.ref x,at_ 0 _ rfl,x,C,dx,[],rfl,hx,hc,hn _ (by simp[BY]),by decide,?_⟩;refine⟨s,at_ 2 _ rfl,.ref x,at_ 0 _ rfl,x,C,dx,_,rfl,Zq,hc,hn _ (by simp[BY]),(show(1:Nat)<1000 by decide),?_⟩;rw[Ek];refine⟨p,at_ 3 _ rfl,.ref x,at_ 0 _ rfl,x,C,dx,_,rfl,Zq,hc,hn _ (by simp[BY]),(show(2:Nat)<1000 by decide),?_⟩;rw[Ek];refine⟨w,at_ 4 _ rfl,.ref x,at_ 0 _ rfl,x,C,dx,_,rfl,Zq,hc,hn _ (by simp[BY]),(show(3:Nat)<1000 by decide),?_⟩;rw[Ek];have YZ:∀(H':Hp),H'=upd H x (.ins C dx [("ahead",a),("seen",s),("part",p),("row",w)])->∃a' C' dx' fs,V.ref x=.ref a'/\H' a'=Z (.ins C' dx' fs)/\cn K C'/\B8 K C' "depth"/\fs.length<1000/\Q .non (upd H' a' (.ins C' dx' (Bc "depth" (.int n) fs))):=λH' e=>by subst e;refine⟨x,C,dx,_,rfl,Zq,hc,hn _ (by simp[BY]),(show(4:Nat)<1000 by decide),?_⟩;rw[Ek];exact q
 refine⟨a,at_ 1 _ rfl,rfl,decide (a=.non),rfl,?_⟩;rcases hd with⟨rfl,rfl⟩|⟨b,ia,fs,m,rfl,dW,hb,hf,rfl⟩
 .rw[if_pos (by decide)]
  exact⟨.ref x,at_ 0 _ rfl,YZ _ rfl⟩
 .rw[if_neg (by simp)]
  refine⟨.ref b,at_ 1 _ rfl,b,C,ia,fs,.int m,rfl,?_,hc,hn _ (by simp[BY]),hf,m,1,rfl,rfl,.ref x,at_ 0 _ rfl,YZ _ rfl⟩;rw[Zo dW];exact hb
omit [FX]in
theorem Sb{Q:VK}{E:XK}(h:d7 C vs H Q E):BX vs=B7.length:=by obtain⟨x,dx,a,s,p,w,n,rfl,_⟩:=h;rfl
noncomputable def dh(s:Stmt):Stmt:=match s with
 | .ClassDef _ _ _ body _ _ _ _ _ _ _=>body.getD 0 (.Pass ⟨0,0,0,0⟩)
 |s=>s
structure jJ(K:Ad)(mg:mF)(st:Stmt):Prop where
 ex:∃C f fd,AN K Ar "Place"=Z (Z (.ref C))/\mg "Place"=Z (.ref C)/\cn K C/\(∀x∈BY,B8 K C x)/\Mk K C f/\ax K "__init__" "Place.__init__" st f fd/\Binds K fd B7 []
omit [FX]in
theorem XQ{h:Heap}{mg:mF}{st:Stmt}{f1:Addr}{gm ij:Option Addr}{fZ:Array (Option Value)}{gn gp ib gc eD ic:Value}(X:K.In h)(G:h.Ns Ar mg)(aC:AN K Ar "Place"=Z (Z (.ref C)))(a1:AL K (.ref C) "__init__"=Z (Z (.ref f1)))(i1:GN K (.ref f1)=Y)(l1:K.lookup f1=Z ⟨gn,gm,.func (BE "__init__" "Place.__init__" (B9 st) (Bm st) (Zg st) .none gp ib gc ij eD ic),fZ⟩)(c1:D3 K eD "Place.__init__"=Y)(k1:B3 K (.ref f1)=Y)(pg:GX K C Fv=Y)(hd:G2 K C=Y)(po:IZ K C=Y)(sa:AL K (.ref C) "__setattr__"=Z (Z (.builtin "object.__setattr__")))(mk:Jh K C=Y)(kc:B3 K (.ref C)=Y)(n0:AL K (.ref C) "ahead"=Z U)(n1:AL K (.ref C) "seen"=Z U)(n2:AL K (.ref C) "part"=Z U)(n3:AL K (.ref C) "row"=Z U)(n4:AL K (.ref C) "depth"=Z U)(b:∀(kV aH pm:Value) (an:Option Addr) (YQ ct:Value) (us:mH),BX us=B7.length->bindArgs (BE "__init__" "Place.__init__" (B9 st) (Bm st) (Zg st) .none kV aH pm an YQ ct) ⟨us,[]⟩=pure (B7.zip us)):jJ K mg st:=by
 refine⟨C,f1,_,aC,Bb X G aC,⟨pg,hd,po,sa⟩,λx hx=>?_,⟨mk,a1,i1,kc⟩,Eg l1 c1 k1,(Eg l1 c1 k1).binds b⟩;rcases Ak.mp hx with e|hx
 .rw[e];exact n0
 rcases Ak.mp hx with e|hx
 .rw[e];exact n1
 rcases Ak.mp hx with e|hx
 .rw[e];exact n2
 rcases Ak.mp hx with e|hx
 .rw[e];exact n3
 rw[BW.mp hx];exact n4
section
variable{X:Cx}{a b c e:Expr}{fa fb fc:HM.EF}{pos p:Pos}
theorem RC:AI X (.builtin "isinstance") (λxs H Q=>∃F d v,xs=[v,.ty "str"]/\Zs F H/\Rep X.K F d v/\(∀es,d≠.dict es)/\Q (.bl (HM.Xy .str d)) H):=by
 refine Gn λs d v u Q ru ⟨K,F,rp⟩ nd ho k=>?_;cases rp with
 |non=>cases ru;exact IsiPair.NoneType_str (k _)
 |bl _=>cases ru;exact IsiPair.bool_str (k _)
 |int _=>obtain⟨t,rfl⟩:=ru;exact IsiPair.int_str (k _)
 |str _=>obtain⟨t,rfl⟩:=ru;exact IsiPair.str_str (k _)
 |tup _ _ _|tupk _ =>
  cases ru;obtain⟨o,h1,⟨_,_,h2⟩|⟨_,e,_⟩|⟨_,e,_⟩⟩:=ho _ rfl
  .exact IsiPair.tuple_str h1 h2 (k _)
  .cases e
  .cases e
 |lst _ _ _ =>
  cases ru;obtain⟨o,h1,⟨_,e,_⟩|⟨_,_,h2⟩|⟨_,e,_⟩⟩:=ho _ rfl
  .cases e
  .exact IsiPair.list_str h1 h2 (k _)
  .cases e
 |dct _ _ _ _ =>
  cases ru;obtain⟨o,h1,⟨_,e,_⟩|⟨_,e,_⟩|⟨_,_,h2⟩⟩:=ho _ rfl
  .cases e
  .cases e
  .exact IsiPair.dict_str h1 h2 (k _)
 |fn _=>exact absurd rfl (nd _)
theorem Vz{p2:Pos}(hm:X.mg "isinstance"=U)(cf:X.mg "str"=U)(ha:XE X a fa)(hg:Gl X "isinstance":=by rfl)(cg:Gl X "str":=by rfl)(bo:Ae [a,.Name "str" p2] X.env=(Ab,eval a X.env)::Ae [.Name "str" p2] X.env:=by rfl):XE X (.Call (.Name "isinstance" p) [a,.Name "str" p2] [] pos) (HM.En fa .str):=Gj RC Qn hm cf ha hg cg (by decide) (by decide) bo rfl
end
end
end HP
namespace HP
open PySem
variable{it l:Addr}{YM:Array Value}
section
variable{prog:Program}{w:World}{A:Around}{E:mD}{s:Shared}
theorem Vn{Q:mH->Shared->Prop}(hh:A.handled=U)(Y5:s.heap.IsRevIter it l ((YM.size:Int)-1))(hl:s.heap.IsList l YM)(ag:l≠it)(hsz:YM.size<=sizeLine)(hQ:∀(h':Heap) tk (acc:Array Value),(∀b o,b≠it->s.heap.get? b=Z o->h'.get? b=Z o)->ItemsOf (λi v=>YM[YM.size-1-i]?=Z v) acc YM.size->Q acc.toList {s with heap:=h',toks:=tk}):wpAny (model prog w) A (collect (.ref it)) Q E s:=by
 unfold collect;refine Ac (wpAny_runValue (EL F.entry_proto_collect ?_));rw[FH F.plain_proto_collect _];show wpAny _ A.in1 (newList [] >>= λl=>again (.builtin "list.__iadd__" ⟨[l,.ref it],[]⟩)) _ _ s;refine Ac (CU ?_);refine Ag ⟨Hk F.plain_list_iadd _,EL F.entry_list_iadd ?_⟩;rw[FH F.plain_list_iadd _];show wpAny _ A.in1 (EU (.ref s.heap.objs.size) (.ref it) (.ref s.heap.objs.size)) _ _ _;have hS:(s.heap.push {cls:=.type "list",data:=.seq ([]:mH).toArray}).get? s.heap.objs.size=Z {cls:=.type "list",data:=.seq #[] 0}:=Az _ rfl;have n1:s.heap.objs.size≠it:=by obtain⟨o,e,_⟩:=Y5;exact Cj (Ai e)
 have n2:s.heap.objs.size≠l:=by obtain⟨o,e,_⟩:=hl;exact Cj (Ai e)
 have fin':∀h' tk acc' c',(∀b o,b≠s.heap.objs.size->b≠it->(s.heap.push {cls:=.type "list",data:=.seq ([]:mH).toArray}).get? b=Z o->h'.get? b=Z o)->h'.get? s.heap.objs.size=Z {cls:=.type "list",dict:=U,data:=.seq acc' c',slots:=#[]}->ItemsOf (λi v=>YM[YM.size-1-i]?=Z v) acc' YM.size ->
   wpAny (model prog w) A (match Au s.heap.objs.size with
   |Au a=>do
    match(<-load a).data with
     |Data.seq xs _=>pure xs.toList
     |_=>unsupported "internal:collect"
   |_=>unsupported "internal:collect") Q E {s with heap:=h',toks:=tk}:=λh' tk acc' c' hk hS' YV=>by
  show wpAny _ A (load s.heap.objs.size >>= _) _ _ _;refine Ac (wpAny_load hS' ?_);refine Ag (hQ h' tk acc' (λb o hb e=>hk b o (Am (Ai e)) hb (Aj _ e)) YV)
 refine Ax (Oz (A:=A) (R:=λr s'=>r=.ok (.ret (.ref s.heap.objs.size))/\∃h' tk acc' c',s'={s with heap:=h',toks:=tk}/\(∀b o,b≠s.heap.objs.size->b≠it->(s.heap.push {cls:=.type "list",data:=.seq ([]:mH).toArray}).get? b=Z o->h'.get? b=Z o)/\h'.get? s.heap.objs.size=Z {cls:=.type "list",dict:=U,data:=.seq acc' c',slots:=#[]}/\ItemsOf (λi v=>YM[YM.size-1-i]?=Z v) acc' YM.size)
  (s:={s with heap:=s.heap.push {cls:=.type "list",data:=.seq ([]:mH).toArray}}) hh (Y5.at λo e=>Aj _ e) (hl.at λo e=>Aj _ e) ag hsz _ _ 0 hS n1 n2 λh' tk acc' c' hk hS' YV=>⟨rfl,h',tk,acc',c',rfl,hk,hS',YV⟩) (λYZ s' h=>?_) (λe s' h=>?_)
 .cases YZ with
  |done f=>obtain⟨e,h',tk,acc',c',rfl,hk,hS',YV⟩:=h;cases e;exact fin' h' tk acc' c' hk hS' YV
  |again c'=>exact⟨h.1,DY h.2 λr s'' hr=>by obtain⟨rfl,h',tk,acc',c',rfl,hk,hS',YV⟩:=hr;exact fin' h' tk acc' c' hk hS' YV⟩
 .exact absurd h.1 (by simp)
theorem Xw{Q₁:mD}(hh:A.handled=U)(Y5:s.heap.IsRevIter it l ((YM.size:Int)-1))(hl:s.heap.IsList l YM)(ag:l≠it)(hsz:YM.size<=sizeLine)(h:∀(h':Heap) tk (acc:Array Value),(∀b o,b≠it->s.heap.get? b=Z o->h'.get? b=Z o)->ItemsOf (λi v=>YM[YM.size-1-i]?=Z v) acc YM.size->Q₁ (.ref h'.objs.size) {s with heap:=h'.push {cls:=.type "tuple",data:=.seq acc},toks:=tk}):codeAny (model prog w) A (.call (.builtin "tuple.__new__") ⟨[.type "tuple",.ref it],[]⟩) (wants Q₁ E) s:=by
 refine codeAny_of_tree ?_;show wpAny _ A.in1 (do IQ "tuple.__new__" ⟨[.type "tuple",.ref it],[]⟩;again (.builtin "tuple.__new__" ⟨[.type "tuple",.ref it],[]⟩)) _ _ s;refine Ac (wpAny_of_eq (F.newCall_tuple_1 _) (Ag ⟨Hk F.plain_tuple_new _,EL F.entry_tuple_new ?_⟩));rw[FH F.plain_tuple_new _];have iB:=sub_tuple_self;have jP:=init_tuple_lookup;have hmh:=madeHere_tuple;have aS:=Y5.typeIs;have kZ:A.in1.handled=U:=hh
 wp_walk using wpAny_typeOf aS,Vn kZ Y5 hl ag hsz
 intro h' tk acc hm YV;show wpAny _ _ (Md acc.toList.toArray >>= λv=>ret v) _ _ _;unfold Md;refine Ac (CU ?_ (by show acc.toList.toArray.size<=sizeLine;simp only[Array.toArray_toList];rw[YV.1];exact hsz));refine Ag ?_;have e:acc.toList.toArray=acc:=by simp
 rw[e];exact h h' tk acc hm YV
theorem WW{Q:mD}(hh:A.handled=U)(Y5:s.heap.IsRevIter it l ((YM.size:Int)-1))(hl:s.heap.IsList l YM)(ag:l≠it)(hsz:YM.size<=sizeLine)(hQ:∀(h':Heap) tk (acc:Array Value),(∀b o,b≠it->s.heap.get? b=Z o->h'.get? b=Z o)->ItemsOf (λi v=>YM[YM.size-1-i]?=Z v) acc YM.size->Q (.ref h'.objs.size) {s with heap:=h'.push {cls:=.type "tuple",data:=.seq acc},toks:=tk}):wpAny (model prog w) A (call (.type "tuple") [.ref it]) Q E s:=by
 refine callType_codes (Q₁:=λobj s₁=>s₁.TypeIs obj "tuple"/\Q obj s₁) F.called_tuple (F.typeCall_tuple_1 _) F.entry_object_init
  (Xw hh Y5 hl ag hsz λh' tk acc hm YV=>⟨⟨_,Az _ rfl,rfl⟩,hQ h' tk acc hm YV⟩) λobj s₁ h₁=>?_
 exact⟨h₁.1,F.args_object_init_2 obj _,object_init_meets F.called_tuple.init.lookup F.called_tuple.made (by decide) prog w A.in1 _ s₁ ⟨h₁.1,rfl,h₁.2⟩⟩
end
open PySem.Spec PyProof.Rows L2
section
variable[FX]{X:Cx}{a:Expr}{fa:HM.EF}{p p' pos pos':Pos}
theorem T4(gG:X.mg "tuple"=U)(gF:X.mg "reversed"=U)(hc:X.calm=Y)(ha:XE X a fa)(dR:Gl X "tuple":=by rfl)(gM:Gl X "reversed":=by rfl)(hs:Ae [a] X.env=[(Ab,eval a X.env)]:=by rfl)(aQ:Ae [EE (.Name "reversed" p') [a] [] pos'] X.env=[(Ab,eval (EE (.Name "reversed" p') [a] [] pos') X.env)]:=by rfl):XE X (.Call (.Name "tuple" p) [.Call (.Name "reversed" p') [a] [] pos'] [] pos) (HM.WU fa):=by
 intro r d h;unfold HM.WU at h;split at h
 case h_2=>cases h
 rename_i ds af;cases h;intro YK s L H Q I ⟨F0,H0,F,at_,k⟩;refine Du (Dc I dR gG Kd ?_);refine D7 ?_ aQ rfl;rw[aQ];show wpAny _ _ (spliced [(Ab,eval (EE (.Name "reversed" p') [a] [] pos') X.env)]) _ _ s;refine DX (Du (Dc I gM gF boot_reversed ?_));have eg:=Za ha (Ze (X:=X)) hs;refine D7 (Y6 (eg.pa r [.list ds] (by show(match fa r with|some x=>_|none=>_)=_;rw[af];rfl) pos' YK s L H (λvs H1=>∃F1,YR F H F1 H1/\Zu X.K F1 [.list ds] vs) I ⟨F0,H0,F,at_,λvs F' H' x q=>⟨F',x,q⟩⟩) λus s1 ⟨vs,H1,I1,r1,F1,x1,q1⟩=>?_) hs rfl;obtain⟨v,vs,rfl,rx,q1⟩:=q1.cons_inv;cases q1.nil_inv;obtain⟨u,rfl,ru⟩:=vals1 r1;cases rx with
 | @lst l _ ws hq hl hr =>
  cases ru;obtain⟨YL,rv,pl,hz⟩:=I1.list (x1.sub.seq hq);have hL:s1.heap.IsList l YL.toArray:=pl.isList;refine call_reversed_list hL (FU ?_);have aD:l<s1.heap.objs.size:=by obtain⟨o,ho,_⟩:=hL;exact Ai ho
  have hsz:YL.toArray.size<=sizeLine:=by rw[Ay,<-rv.length];exact hz
  refine WW (I.ok.hd hc) ⟨_,Az _ rfl,rfl,rfl⟩ (hL.at λo e=>Aj _ e) (Am aD) hsz λh' tk acc' hk YV=>?_;have kk:∀b o,s1.heap.get? b=Z o->h'.get? b=Z o:=λb o e=>hk b o (Am (Ai e)) (Aj _ e);have hacc':acc'=YL.reverse.toArray:=by
   apply Array.ext';have c6:acc'.toList.length=YL.length:=by rw[Co,YV.1,Ay]
   apply List.ext_getElem?;intro i
   by_cases hi:i<BX YL
   .have e1:acc'.toList[i]?=Z (acc'.toList[i]'(by omega)):=BS _
    have e2:=YV.2 i _ (by rw[<-D5];exact e1);rw[e1,<-e2];show YL.toArray[YL.toArray.size-1-i]?=YL.reverse[i]?;rw[EI hi];simp
   .rw[FN (by omega),FN (by show YL.reverse.length<=i;rw[Cn];omega)]
  subst hacc';have I2:Inv X YK L H1 {s1 with heap:=h',toks:=tk}:=I1.kept (t':=tk) kk;have hf:H1 h'.objs.size=U:=I2.hok.fresh (Al _);have I3:Inv X YK L (upd H1 h'.objs.size (.tup ws.reverse)) {s1 with heap:=h'.push {cls:=.type "tuple",data:=.seq YL.reverse.toArray},toks:=tk} :=
   I2.laid (t':=tk) (λb o e=>Aj _ e) (Al _) (show Z0 X.prog X.w _ _ _ (.tup ws.reverse) from⟨by rw[Cn];exact hz,YL.reverse,NR rv,IsTup.new _ _⟩)
  refine⟨.ref h'.objs.size,_,I3,rfl,?_⟩;have rr:Zu X.K F1 ds.reverse ws.reverse:=by
   refine⟨by rw[Cn,Cn];exact hl,λi d v e1 e2=>?_⟩;have hi:i<BX ds:=by have:=(AE.mp e1).1;rwa [Cn]at this
   rw[EI hi]at e1;rw[EI (by omega),<-hl]at e2;exact hr _ d v e1 e2
  have x2:=x1.lay (o:=.tup ws.reverse) hf;have rm:Zu X.K (upd F1 h'.objs.size (.tup ws.reverse)) ds.reverse ws.reverse:=rr.mono (Gf (x1.sub.free hf));exact k _ _ _ x2 (.tup Zq rm.1 rm.2)
end
end HP
namespace HP
open PySem PySem.Spec PyProof.Rows L2
variable{C fI:Addr}{h:Heap}{K:Ad}{st:Stmt}{mg:mF}
theorem Qw{N:Addr}{n:Str}{v:Value}(X:K.In h)(G:h.Ns N mg)(e:AN K N n=Z (Z v)):mg n=Z v:=by
 obtain⟨o1,e1,p1,q1,d1,_,f1⟩:=G;unfold AN at e;split at e
 case h_2=>cases e
 rename_i q;have z:=X _ _ q;rw[q1]at z;cases z;cases d1;split at e
 case h_2=>split at e<;>cases e
 rename_i q2;cases e;rw[<-f1];unfold nsFind findBy;rw[<-Array.find?_toList,q2];rfl
noncomputable def E5(K:Ad)(C fI:Addr):Bool:=match K.lookup C with
 |some ⟨.type "type",_,.cls cd,sl⟩=>(match cd.mro,sl.toList with
  | .ref C'::bm,[_,_,_,_,Z (.builtin n),_]=>C'==C&&n == "ValueError.__new__" && !cd.hasDel&&PySem.W.tailIn K Hx bm&&PySem.W.nsOkIn K cd.ns&&AN K cd.ns "__init__" == Z (Z (.ref fI))
  |_,_=>Ab)
 |_=>Ab
theorem NC(X:K.In h)(q:E5 K C fI=Y):∃nm qn N bs bm hdct sn sub ab col dd k0 k1 k2 k3 k5 mN,h.get? C=Z (CO nm qn C N bs bm hdct sn sub ab col dd k0 k1 k2 k3 k5 "ValueError.__new__")/\h.Ns N mN/\mN "__init__"=Z (.ref fI)/\OwnTail h Hx bm:=by
 unfold E5 at q;split at q
 case h_2=>cases q
 rename_i d0 c0 s0 h0;split at q
 case h_2=>cases q
 rename_i C1 tl v0 v1 v2 v3 nn v5 h1 h2;rw[Av,Av,Av,Av,Av,beq_iff_eq,beq_iff_eq,beq_iff_eq,IV]at q;obtain⟨⟨⟨⟨⟨rfl,rfl⟩,q1⟩,q2⟩,q3⟩,q4⟩:=q;cases c0 with
 |mk nm bs mro ns qn hd sn sub ab col del =>
  dsimp only at h1 q1 q3 q4;subst h1 q1;have e:s0=#[v0,v1,v2,v3,Z (.builtin "ValueError.__new__"),v5]:=by
   cases s0 with
   |mk l=>simp only at h2;rw[h2]
  subst e;exact⟨nm,qn,ns,bs,tl,hd,sn,sub,ab,col,d0,v0,v1,v2,v3,v5,_,X _ _ h0,.of_isNs (Js X q3),Qw X (.of_isNs (Js X q3)) q4,LP X q2⟩
noncomputable abbrev E4:String:="ValueError.__init__"
structure JC(K:Ad)(mg:mF)(st:Stmt):Prop where
 ex:∃C C0 fI fd,mg "BadPlan"=Z (.ref C)/\mg "SeenError"=Z (.ref C0)/\Hz K C "at"/\E5 K C fI=Y/\ax K "__init__" "BadPlan.__init__" st fI fd/\Binds K fd BK []/\GN K (.ref fI)=Y /\
  FR K (.ref C0) "__getattribute__"=Z (Z (.builtin "type.__getattribute__"))/\F6 K C0 (.type "type")=Y/\F5 K (.ref C0) (.type "type") "__init__"=Z (.val (.builtin E4))
theorem XX{C0:Addr}{gm ij:Option Addr}{fZ:Array (Option Value)}{gn gp ib gc eD ic:Value}(X:K.In h)(G:h.Ns Ar mg)(aC:AN K Ar "BadPlan"=Z (Z (.ref C)))(a0:AN K Ar "SeenError"=Z (Z (.ref C0)))(a1:AL K (.ref C) "__init__"=Z (Z (.ref fI)))(i1:GN K (.ref fI)=Y)(l1:K.lookup fI=Z ⟨gn,gm,.func (BE "__init__" "BadPlan.__init__" (B9 st) (Bm st) (Zg st) .none gp ib gc ij eD ic),fZ⟩)(c1:D3 K eD "BadPlan.__init__"=Y)(k1:B3 K (.ref fI)=Y)(e1:E5 K C fI=Y)(s1:((Jk K C).any λcd=>Ef cd.mro&&cd.hasDict)=Y)(s4:AL K (.ref C) "at"=Z U)(s5:AL K (.ref C) "__setattr__"=Z (Z (.builtin "object.__setattr__")))(s6:Hi K C (.type "object")=Z Y)(z1:FR K (.ref C0) "__getattribute__"=Z (Z (.builtin "type.__getattribute__")))(z2:F6 K C0 (.type "type")=Y)(z3:F5 K (.ref C0) (.type "type") "__init__"=Z (.val (.builtin E4)))(b:∀(kV aH pm:Value) (an:Option Addr) (YQ ct:Value) (us:mH),BX us=BK.length->bindArgs (BE "__init__" "BadPlan.__init__" (B9 st) (Bm st) (Zg st) .none kV aH pm an YQ ct) ⟨us,[]⟩=pure (BK.zip us)):JC K mg st:=by
 obtain⟨cd,q1,q2⟩:=(Option.any_eq_true _ _).mp s1;rw[Av]at q2;exact⟨C,C0,fI,_,Bb X G aC,Bb X G a0,⟨⟨cd,q1,q2.1,q2.2⟩,s4,s5,s6⟩,e1,Eg l1 c1 k1,(Eg l1 c1 k1).binds b,i1,z1,z2,z3⟩
theorem Pl{A:Around}{k:Nat}(hr:Z6 k A):A.units+100<cLine:=by have:=hr.un;omega
variable[FX]
section
variable{P:Program}{w:World}{K:Ad}{mg:mF}{base:Heap}{k n:Nat}
theorem Ec.mono{j:Nat}(B:Ec P w K mg base j n)(h:j<=k):Ec P w K mg base k n:=by obtain⟨C,fI,fd,i,hi,r⟩:=B.ex;exact⟨C,fI,fd,i,Bi hi h,r⟩
theorem RM(X:K.In base)(q:E5 K C fI=Y):ClsAt (id:=E4) base C:=by obtain⟨nm,qn,N,bs,bm,hdct,sn,sub,ab,col,dd,k0,k1,k2,k3,k5,mN,h1,h2,h3,h4⟩:=NC X q;exact⟨nm,qn,N,bs,bm,hdct,sn,sub,ab,col,dd,k0,k1,k2,k3,k5,_,h1,Jz,h4⟩
theorem Tv(X:K.In base)(D:JC K mg st)(ok:∀C C0 fI fd,mg "BadPlan"=Z (.ref C)->mg "SeenError"=Z (.ref C0)->E5 K C fI=Y->ax K "__init__" "BadPlan.__init__" st fI fd ->
   FR K (.ref C0) "__getattribute__"=Z (Z (.builtin "type.__getattribute__"))->F6 K C0 (.type "type")=Y->F5 K (.ref C0) (.type "type") "__init__"=Z (.val (.builtin E4))->AK P w K mg base bf 1 fI fd BK (Ga K mg n)):Ec P w K mg base 2 n:=by
 obtain⟨C,C0,fI,fd,h1,h2,h3,h4,h5,h6,h7,h8,h9,fO⟩:=D.ex;obtain⟨nm,qn,N,bs,bm,hdct,sn,sub,ab,col,dd,k0,k1,k2,k3,k5,mN,c1,c2,c3,c4⟩:=NC X h4;obtain⟨oc,od,kV,aH,pm,an,YQ,ct,bO,e1,lk,_⟩:=h5.ex;have cu:oc=.type "function":=by have h7:((K.lookup fI).map (·.cls)==Z (.type "function"))=Y:=h7;rw[lk]at h7;exact B4 (beq_iff_eq.mp h7)
 exact⟨C,fI,fd,1,Al _,h1,h3,ok C C0 fI fd h1 h2 h4 h5 h8 h9 fO,h6,nm,qn,N,bs,bm,hdct,sn,sub,ab,col,dd,k0,k1,k2,k3,k5,_,_,mN,_,c1,c2,c3,c4,Jz,X _ _ lk,cu⟩
end
end HP
namespace HP
open PySem PySem.Spec PyProof.Rows L2
variable{H:Hp}{L:L2.St}{YK:mG}{s:Shared}
variable[FX]
noncomputable abbrev JB(X:Cx):Cx:={X with xe:=λ_ _=>False}
section
variable{X:Cx}{e:Expr}
theorem RI(I:Inv X YK L H s):Inv (JB X) YK L H s :=
 ⟨⟨I.ok.mod,I.ok.kind,I.ok.glob,I.ok.blt,I.ok.above,I.ok.inj,I.ok.has,I.ok.cab,I.ok.hd,I.ok.frames,I.ok.stk,I.ok.exf,I.ok.bs,I.ok.bsz,I.ok.noex,I.ok.exfs,I.ok.funs,I.ok.frf⟩,I.os,I.bare,I.base,I.loc,I.cell,I.free,I.freeC,I.pin,I.hok,I.len⟩
theorem SH(ok:X.Ok)(I:Inv (JB X) YK L H s):Inv X YK L H s:=⟨ok,I.os,I.bare,I.base,I.loc,I.cell,I.free,I.freeC,I.pin,I.hok,I.len⟩
theorem Pq{f:HM.BF}(h:XF (JB X) e f):XF X e f:=λr b hb YK s L H Q I q=>Ax (h r b hb YK s L H Q (RI I) q) (λ_ _ ⟨v,H',J,rv,q'⟩=>⟨v,H',SH I.ok J,rv,q'⟩) λ_ _ z=>AX z
end
end HP
namespace HP
open PySem PySem.Spec PyProof.Rows L2
variable{C0:Addr}{H:Hp}{ys:mI}{K:Ad}{cx:Str}{mg:mF}
section
variable{X:Cx}{YK:mG}{L:L2.St}{H:Hp}{s:Shared}
theorem S7(I:Inv X YK L H s){h':Heap}{m:mF}{n:Str}{w:Option Value}{j t':Nat}(hN:X.N.Nodup)(hj:X.N[j]?=Z n)(hm:∀(i:Nat) (x:Str) (v:V),X.N[i]?=Z x->L[i]?=Z (Z v)->br X.env.scope x->∃u,RelV v u/\Look X.env s.heap m x u)(hn:h'.Ns X.env.locals (λx=>if x=n then w else m x))(hs:Bo X.env.locals s.heap h'):Inv X YK (L.set j U) H {s with heap:=h',toks:=t'}:=by
 have J:=Td (t':=t') I hn hs;refine⟨J.ok,J.os,J.bare,J.base,⟨_,hn,λi x v e1 e2 e3=>?_⟩,J.cell,J.free,J.freeC,J.pin,J.hok,by rw[CW];exact I.len⟩;have bB:i≠j:=λz=>by subst z;rw[List.getElem?_set]at e2;simp at e2
 rw[Ba (AD bB)]at e2;have ko:x≠n:=λz=>by subst z;exact bB ((List.getElem?_inj (AE.mp e1).1 hN).mp (e1.trans hj.symm))
 obtain⟨u,r,q⟩:=hm i x v e1 e2 e3;refine⟨u,r,?_⟩;rcases q with⟨k1,k2⟩|⟨k1,c,k2,k3⟩
 .exact .inl ⟨k1,by show(if x=n then w else m x)=_;rw[if_neg ko];exact k2⟩
 .obtain⟨o,q1,q2⟩:=k3
  exact .inr ⟨k1,c,k2,o,(hs.2 c (I.cne x c k2)).trans q1,q2⟩
variable{H':Hp}{s':Shared}{e:Addr}{cls a0:Value}{B:Heap}{G:Flow->L2.St->Hp->Prop}{Q:Flow->Shared->Prop}{E:mD}{cx n:Str}{c0:Value}{np hp:Pos}{b₀:Stmt}{cw:List Stmt}{rest:List ExceptHandler}{j:Nat}
theorem Su(bu:X.stack=X.env::X.outer)(aZ:X.env.frame=Z X.env.locals)(I:Inv X YK L H s)(os:s'.os=s.os)(bare:AllBare s'.gens)(mn:Un (Y8 X.stack) [] H H' s.heap s'.heap)(hok:ai X.prog X.w H' s'.heap)(FL:FD B X.stack e cls a0 s'.heap)(c1:∀b u o,H' b=Z u->s'.heap.get? b=Z o->B.get? b=Z o)(c2:∀b o,s.heap.get? b=Z o->H b=U->b∉Y8 X.stack->B.get? b=Z o)(c3:∀b o,s.heap.get? b=Z o->b∉Y8 X.stack->∃o',B.get? b=Z o')(hg:Gl X cx)(gH:X.mg cx=Z c0)(bj:FA X.K cls c0=Z Y)(aE:(cx==("__debug__":Str))=Ab)(hN:X.N.Nodup)(hj:X.N[j]?=Z n)(bX:X.env.scope.names.lookup n=Z .local)(cR:∀s7 oe,oe.cls=cls->H' e=U->Inv (Cb X e) YK (L.set j (Z (.ref e))) (upd H' e (As e oe)) s7->wpAny (model X.prog X.w) (X.A.mark (Z (.ref e))) (execs (b₀::cw) X.env) (λf s8=>∃σ8 H8,Inv (Cb X e) YK σ8 H8 s8/\(∃f',f=f'/\G f' σ8 H8)) (λ_ _=>False) s7)(YZ:∀f H8 σ8 s9,Inv X YK (σ8.set j U) H8 s9->G f σ8 H8->Q f s9):wpAny (model X.prog X.w) X.A (noteFrame (.ref e) X.env) (λ_ s₂=>wpAny (model X.prog X.w) X.A (setFlight (.ref e) U) (λ_ s₃=>wpAny (model X.prog X.w) X.A (handleBy (.ref e) X.env (.ExceptHandler (Z (.Name cx np)) (Z n) (b₀::cw) hp::rest)) Q E s₃) E s₂) E s':=by
 have fr:X.A.frames=Z (X.env::X.outer):=by rw[<-bu];exact I.ok.frames
 have g0:∀b∈Y8 X.stack,∀o,s.heap.get? b=Z o->∀ws,o.data≠.fields ws:=λb hb o q ws=>by obtain⟨_,o',q',nf⟩:=I.stack.mem hb;rw[q]at q';cases q';exact nf ws
 have FL0:FD B (X.env::X.outer) e cls a0 s'.heap:=by rw[<-bu];exact FL
 refine wpAny_looks_onW fr aZ FL0 λh4 eV fg=>?_;refine wpAny_landsW eV λh5 FL5 i9=>?_;have step:∀{h:Heap},FD B (X.env::X.outer) e cls a0 h->s'.heap.UpToSlots h->Un (Y8 X.stack) [] H H' s.heap h/\ai X.prog X.w H' h:=λ{h} fl sl=>by obtain⟨u1,u2,_⟩:=Nc g0 (λb hb=>I.stkFree b hb) mn hok c1 c2 c3 fl.1 sl;exact⟨u1,u2⟩
 obtain⟨u5,iH⟩:=step FL5 (fg.trans i9);have I5:Inv X YK L H' {s' with heap:=h5}:=I.call' (s':={s' with heap:=h5}) os u5 iH bare λb z=>absurd z (by simp);obtain⟨ob,aR,iM⟩:=FL5.there;refine wpAny_handleBy_cons (codeAny_handlers_test (Eo (X:=Cb X e) (NT I5 e) hg gH ?_ aE)) (by intro q;cases q);have LT:PySem.W.Looks (model X.prog X.w) h5 (typeOf (.ref e)) cls:=iM▸(PySem.W.Looks.ld aR).andThen .now;refine(PySem.W.exm_one I5.kIn LT bj).here ?_;refine codeAny_handlers_suite_as (lands_againW FL5 λh6 FL6 jV=>?_);obtain⟨u6,iG⟩:=step FL6 (fg.trans (i9.trans jV));obtain⟨oe,cH,iK⟩:=FL6.there;have jD:B.get? e=U:=FL6.2.1;have jq:s.heap.get? e=U:=by
  cases q:s.heap.get? e with
  |none=>rfl
  |some o =>
   by_cases hb:e∈Y8 X.stack
   .exfalso
    have hb':e∈Y8 (X.env::X.outer):=by rw[<-bu];exact hb
    obtain⟨_,o',q',nf⟩:=FL6.2.2.1.mem hb';obtain⟨oe',vs,q2,_,q3,_⟩:=FL6.first
    rw[q']at q2;cases q2;exact nf vs q3
   .obtain⟨o',q'⟩:=c3 e o q hb
    rw[jD]at q';cases q'
 have eA:H e=U:=by
  cases q:H e with
  |none=>rfl
  |some u=>obtain⟨o,q'⟩:=HL (I.hok e u q);rw[jq]at q';cases q'
 have hHe':H' e=U:=by
  cases q:H' e with
  |none=>rfl
  |some u=>obtain⟨o,q'⟩:=HL (hok e u q);have:=c1 e u o q q';rw[jD]at this;cases this
 have ne:∀{b:Addr} {u:HO},H' b=Z u->b≠e:=λ{b u} q z=>by rw[z,hHe']at q;cases q
 have up:∀{b:Addr} {u:HO},H' b=Z u->upd H' e (As e oe) b=Z u:=λ{b u} q=>by unfold upd;rw[if_neg (ne q)];exact q
 have u7:Un (Y8 X.stack) [] H (upd H' e (As e oe)) s.heap h6:=⟨u6.keep,u6.slot,λb o q n hx=>by
  have hb:b≠e:=λz=>by rw[z,jq]at q;cases q
  unfold upd;rw[if_neg hb];exact u6.free b o q n hx,u6.there,λb xs q=>up (u6.tups b xs q),λb o u q=>up (u6.frzs b o u q),λb ps q=>by
  obtain⟨more,q'⟩:=u6.tbls b ps q;exact⟨more,up q'⟩⟩
 have iF:ai X.prog X.w (upd H' e (As e oe)) h6:=λb u q=>by
  by_cases hb:b=e
  .subst hb
   rw[Zq]at q;cases q;exact HV cH
  .have q':H' b=Z u:=by unfold upd at q;rw[if_neg hb]at q;exact q
   exact(iG b u q').stay (λ_ _ _ q=>q) (λc q=>up q) λc xs q=>up q
 have I6:Inv X YK L (upd H' e (As e oe)) {s' with heap:=h6}:=I.call' (s':={s' with heap:=h6}) os u7 iF bare λb z=>absurd z (by simp);refine Kc (X:=Cb X e) (i:=j) (v:=.ref e) (NT I6 e) hN hj (.inl bX) rfl (λs7 I7=>?_) (.inr bX);refine Ax (cR s7 oe iK hHe' I7) (λf s8 hf=>?_) λ_ _ z=>AX z;obtain⟨σ8,H8,I8,f',rfl,g⟩:=hf;have I8':=UQ I.ok I8;obtain⟨m8,kK,kN⟩:=I8'.loc;refine wpAny_nameGoes_keeps bX kK (by rw[I.ok.kind];rfl) λh9 v9 kJ kC=>?_;exact YZ f H8 σ8 _ (S7 I8' hN hj kN kJ kC) g
end
structure Hy(K:Ad)(mg:mF)(cx:Str)(ys:mI):Prop where
 ex:∃C0:Addr,mg cx=Z (.ref C0)/\∀x∈ys,∃C:Addr,mg x=Z (.ref C)/\FA K (.ref C) (.ref C0)=Z Y/\Gd K C/\∀y∈ys,∃D:Addr,mg y=Z (.ref D)/\D0 K (.ref C) (.ref D)=Z (y==x)
noncomputable def MB(K:Ad)(C:Addr):Bool:=Hi K C (.type "object")==Z Y&&Hi K C (.type "BaseException")==Z Y&&AL K (.ref C) "__class__" == Z (Z (.builtin "object.__class__"))&&AL K (.ref C) "__getattribute__" == Z (Z (.builtin "BaseException.__getattribute__")) &&
 AL K (.ref C) "__getattr__" == Z U&&(Jk K C).isSome
noncomputable def MD(K:Ad)(C0:Addr)(ps:List (Str×Addr)):Bool:=ps.all λp=>FA K (.ref p.2) (.ref C0)==Z Y&&MB K p.2&&ps.all λq=>D0 K (.ref p.2) (.ref q.2)==Z (q.1==p.1)
theorem R4(ps:List (Str×Addr))(h0:mg cx=Z (.ref C0))(h1:∀p∈ps,mg p.1=Z (.ref p.2))(h2:ys=ps.map (·.1))(c:MD K C0 ps=Y):Hy K mg cx ys:=by subst h2;refine⟨C0,h0,λx hx=>?_⟩;obtain⟨p,hp,rfl⟩:=CK.mp hx;have q:=Dp.mp c p hp;rw[Av,Av]at q;obtain⟨⟨q1,q2⟩,q3⟩:=q;unfold MB at q2;rw[Av,Av,Av,Av,Av]at q2;obtain⟨⟨⟨⟨⟨f1,f2⟩,f3⟩,f4⟩,f5⟩,f6⟩:=q2;refine⟨p.2,h1 p hp,beq_iff_eq.mp q1,⟨beq_iff_eq.mp f1,beq_iff_eq.mp f2,beq_iff_eq.mp f3,beq_iff_eq.mp f4,beq_iff_eq.mp f5,f6⟩,λy hy=>?_⟩;obtain⟨q,hq,rfl⟩:=CK.mp hy;exact⟨q.2,h1 q hq,beq_iff_eq.mp (Dp.mp q3 q hq)⟩
theorem X1{h:Heap}{x1 x2 x3 x4 x5 x6 x7 x8:Str}{C1 C2 C3 C4 C5 C6 C7 C8:Addr}(X:K.In h)(G:h.Ns Ar mg)(a0:AN K Ar cx=Z (Z (.ref C0)))(a1:AN K Ar x1=Z (Z (.ref C1)))(a2:AN K Ar x2=Z (Z (.ref C2)))(a3:AN K Ar x3=Z (Z (.ref C3)))(a4:AN K Ar x4=Z (Z (.ref C4)))(a5:AN K Ar x5=Z (Z (.ref C5)))(a6:AN K Ar x6=Z (Z (.ref C6)))(a7:AN K Ar x7=Z (Z (.ref C7)))(a8:AN K Ar x8=Z (Z (.ref C8)))(c:MD K C0 [(x1,C1),(x2,C2),(x3,C3),(x4,C4),(x5,C5),(x6,C6),(x7,C7),(x8,C8)]=Y):Hy K mg cx [x1,x2,x3,x4,x5,x6,x7,x8]:=by
 refine R4 _ (Bb X G a0) (λp hp=>?_) rfl c;rcases Ak.mp hp with rfl|hp
 .exact Bb X G a1
 rcases Ak.mp hp with rfl|hp
 .exact Bb X G a2
 rcases Ak.mp hp with rfl|hp
 .exact Bb X G a3
 rcases Ak.mp hp with rfl|hp
 .exact Bb X G a4
 rcases Ak.mp hp with rfl|hp
 .exact Bb X G a5
 rcases Ak.mp hp with rfl|hp
 .exact Bb X G a6
 rcases Ak.mp hp with rfl|hp
 .exact Bb X G a7
 rcases Ak.mp hp with rfl|hp
 .exact Bb X G a8
 cases hp
inductive Dy(n:Str):mI->List Expr->Prop
 |nil:Dy n [] []
 |cons {y:Str} {ys:mI} {es:List Expr} {p q r z:Pos}:Dy n ys es->Dy n (y::ys) (.Call (.Name "isinstance" p) [.Name n q,.Name y r] [] z::es)
variable[FX]
section
variable{X:Cx}{n:Str}{j:Nat}{e C:Addr}
structure Mw(X:Cx)(n:Str):Prop where
 s1:∀(y:Str) (q r:Pos),Ae [.Name n q,.Name y r] X.env=(Ab,eval (.Name n q) X.env)::Ae [.Name y r] X.env
 s2:∀(y:Str) (r:Pos),Ae [.Name y r] X.env=[(Ab,eval (.Name y r) X.env)]
 s3:∀(p z:Pos) (as es:List Expr),Ae (.Call (.Name "isinstance" p) as [] z::es) X.env=(Ab,eval (.Call (.Name "isinstance" p) as [] z) X.env)::Ae es X.env
 mi:X.mg "isinstance"=U
 gi:Gl X "isinstance"
 dn:(n==("__debug__":Str))=Ab
 cd:(n==("__classdict__":Str))=Ab
theorem QM{es:List Expr}{f:Str->Bool}(h:Dy n ys es)(T:Mw X n)(F:Gd X.K C)(hj:X.N[j]?=Z n)(hv:br X.env.scope n)(hy:∀y∈ys,Gl X y/\(y==("__debug__":Str))=Ab/\∃D:Addr,X.mg y=Z (.ref D)/\D0 X.K (.ref C) (.ref D)=Z (f y)):PA X es (Dz j e C (ys.map f)):=by
 induction h with
 |nil=>exact Qp
 | @cons y ys es p q r z _ ih=>obtain⟨g1,d1,D,m1,k1⟩:=hy y (A9 ..);refine Qr (Qu (w:=.ref D) F (λc rc=>?_) T.mi (Nw g1 m1 rfl d1) hj hv T.dn T.cd T.gi (T.s1 _ _ _) (T.s2 _ _)) (ih λy' h'=>hy y' (AQ _ h')) (T.s3 _ _ _ _);obtain rfl:c=.ref D:=rc;exact k1
noncomputable def d4(i j:Nat)(e C:Addr)(F0 H0 F:Hp)(bs:List Bool)(L:L2.St)(H:Hp):Prop :=
 L[j]?=Z (Z (.ref e))/\(∃oe,H e=Z (As e oe)/\oe.cls=.ref C)/\(∃l,L[i]?=Z (Z (.ref l))/\H l=Z (.lst (bs.map .bl))/\H0 l=U/\F l=U)/\YR F0 H0 F H
noncomputable def mf(i j:Nat)(e C:Addr)(F0 H0 F:Hp)(L:L2.St)(H:Hp):Prop:=L[j]?=Z (Z (.ref e))/\(∃oe,H e=Z (As e oe)/\oe.cls=.ref C)/\i<BX L/\YR F0 H0 F H
variable{i:Nat}{F0 H0 F:Hp}{sm:Str}{ys zs:mI}{es:List Expr}{f:Str->Bool}{p1 p2 p3 pos:Pos}
theorem M8{bs:List Bool}{L:L2.St}{q:Addr}(bB:i≠j)(h1:L[j]?=Z (Z (.ref e)))(h2:∃oe,H e=Z (As e oe)/\oe.cls=.ref C)(hi:i<BX L)(x:YR F0 H0 F H)(hq:H q=U):d4 i j e C F0 H0 F bs (L.set i (Z (.ref q))) (upd H q (.lst (bs.map .bl))):=by obtain⟨oe,h3,h4⟩:=h2;refine⟨by rw[Ba bB];exact h1,⟨oe,?_,h4⟩,⟨q,by rw[Cr hi],Zq,x.hh.free hq,x.sub.free hq⟩,x.lay' hq⟩;unfold upd;rw[if_neg (λz=>by rw[z,hq]at h3;cases h3)];exact h3
theorem Rg(bB:i≠j)(hN:X.N.Nodup)(hi:X.N[i]?=Z sm)(bq:X.env.scope.names.lookup sm=Z .local)(h:PA X es (Dz j e C (ys.map f)))(hl:BX ys<=8)(hs:Bj (.List es p1) (Z (.Name sm p2)) pos.line X.env=pure Ab):PS X (.Assign [.Name sm p2] (.List es p1) pos) λD L H=>mf i j e C F0 H0 F L H/\∀σ' H',d4 i j e C F0 H0 F (ys.map f) σ' H'->D.nx σ' H' :=
 PS.imp (E8 hN hi (.inl bq) (MZ h (by rw[Ap];exact Bi hl (by decide))) hs (.inr bq)) λD L H ⟨⟨h1,h2,h3,h4⟩,k⟩=>by obtain⟨oe,h5,h6⟩:=id h2;exact⟨oe,h1,h5,h6,λq hq=>k _ _ (M8 bB h1 h2 h3 h4 hq)⟩
theorem Nz(bB:i≠j)(hN:X.N.Nodup)(hi:X.N[i]?=Z sm)(bq:X.env.scope.names.lookup sm=Z .local)(af:(sm==("__debug__":Str))=Ab)(cK:(sm==("__classdict__":Str))=Ab)(h:PA X es (Dz j e C (zs.map f)))(hl:(ys++zs).length<=8){p4 p5:Pos}(hs:Bj (.BinOp (.Name sm p3) .Add (.List es p1) p4) (Z (.Name sm p2)) pos.line X.env=pure Ab):PS X (.Assign [.Name sm p2] (.BinOp (.Name sm p3) .Add (.List es p1) p4) pos) λD L H=>d4 i j e C F0 H0 F (ys.map f) L H/\∀σ' H',d4 i j e C F0 H0 F ((ys++zs).map f) σ' H'->D.nx σ' H':=by
 have hz:BX zs<=8:=by rw[A3]at hl;omega
 refine PS.imp (E8 hN hi (.inl bq) (ML QH (ZS hi (.inl bq) af cK) (MZ h (by rw[Ap];exact Bi hz (by decide)))) hs (.inr bq)) λD L H ⟨⟨h1,⟨oe,h5,h6⟩,⟨l,h7,h8,h9,fO⟩,h4⟩,k⟩=>?_;refine⟨.ref l,h7,oe,h1,h5,h6,λq hq=>⟨l,q,(ys.map f).map .bl,(zs.map f).map .bl,rfl,rfl,?_,Zq,?_,λp hp=>?_⟩⟩
 .unfold upd
  rw[if_neg (λz=>by rw[z,hq]at h8;cases h8)];exact h8
 .rw[Ap,Ap,Ap,Ap,<-A3]
  exact Bi hl (by decide)
 .have hi':i<BX L:=(AE.mp h7).1
  have e1:(ys.map f).map V.bl++(zs.map f).map V.bl=((ys++zs).map f).map V.bl:=by rw[BU,BU]
  rw[e1];refine k _ _ (M8 bB h1 ⟨oe,?_,h6⟩ hi' (h4.lay' hq) hp);unfold upd;rw[if_neg (λz=>by rw[z,hq]at h5;cases h5)];exact h5
theorem Q4{l:Addr}{o:HO}(x:YR F0 H0 F H)(h:H l=Z o)(h0:H0 l=U)(hf:F l=U)(no:nt o=Y):YR F0 H0 (upd F l o) H:=by
 refine⟨λb q z=>?_,x.hh,λb q z=>?_,λb q z=>?_,x.tab,λt=>(x.nts t).upd no⟩
 .rw[Zo (BA (x.ff b q z) hf)];exact x.ff b q z
 .by_cases hb:b=l
  .subst hb;rw[Zq]at z;cases z;exact h
  .rw[Zo hb]at z;exact x.sub b q z
 .by_cases hb:b=l
  .subst hb;exact .inr (.inl h0)
  .rw[Zo hb]at z;exact x.new b q z
theorem SM{g:HM.RF}{body:List Stmt}{n sm:Str}{y1 y2 y3:mI}{l1 l2 l3:List Expr}{np hp rp j5 ji jh jf je jd gg jc jb ja gf pA pB pC:Pos}(T:Hy X.K X.mg cx (y1++y2++y3))(L1:Dy n y1 l1)(L2:Dy n y2 l2)(L3:Dy n y3 l3)(bB:i≠j)(bu:X.stack=X.env::X.outer)(aZ:X.env.frame=Z X.env.locals)(hN:X.N.Nodup)(hR:∀(pn:mG) (Eh:mD) (E0:XK),Y1 (aI X.prog X.w) (BG X pn Eh) E0->dc (BG X pn Eh) E0 body g)(kM:X.mg "isinstance"=U)(dR:∀y∈y1++y2++y3,Gl X y/\(y==("__debug__":Str))=Ab)(hl:(y1++y2++y3).length<=8)(hj:X.N[j]?=Z n:=by rfl)(hi:X.N[i]?=Z sm:=by rfl)(bX:X.env.scope.names.lookup n=Z .local:=by rfl)(bq:X.env.scope.names.lookup sm=Z .local:=by rfl)(k9:Gl X cx:=by rfl)(aE:(cx==("__debug__":Str))=Ab:=by decide)(k6:Gl X "isinstance":=by rfl)(dU:(n==("__debug__":Str))=Ab:=by decide)(Y7:(n==("__classdict__":Str))=Ab:=by decide)(af:(sm==("__debug__":Str))=Ab:=by decide)(cK:(sm==("__classdict__":Str))=Ab:=by decide)(u1:∀(y:Str) (q r:Pos),Ae [.Name n q,.Name y r] X.env=(Ab,eval (.Name n q) X.env)::Ae [.Name y r] X.env:=by intros;rfl)(u2:∀(y:Str) (r:Pos),Ae [.Name y r] X.env=[(Ab,eval (.Name y r) X.env)]:=by intros;rfl)(u3:∀(p z:Pos) (as es:List Expr),Ae (.Call (.Name "isinstance" p) as [] z::es) X.env=(Ab,eval (.Call (.Name "isinstance" p) as [] z) X.env)::Ae es X.env:=by intros;rfl)(w1:∀(es:List Expr) (p q:Pos) (k:Nat),Bj (.List es p) (Z (.Name sm q)) k X.env=pure Ab:=by intros;rfl)(w2:∀(es:List Expr) (p q r z:Pos) (k:Nat),Bj (.BinOp (.Name sm p) .Add (.List es q) r) (Z (.Name sm z)) k X.env=pure Ab:=by intros;rfl):cc X [.Try body [.ExceptHandler (Z (.Name cx np)) (Z n) [.Assign [.Name sm ji] (.List l1 jh) pA,.Assign [.Name sm jf] (.BinOp (.Name sm je) .Add (.List l2 jd) gg) pB,.Assign [.Name sm jc] (.BinOp (.Name sm jb) .Add (.List l3 ja) gf) pC] hp] [] [] pos,.Return (Z (.Name sm rp)) j5] (HM.Ti g (HM.lp (HM.ll (y1++y2++y3))) HM.Z4):=by
 intro r o h;unfold HM.Ti at h;split at h
 case h_2=>cases h
 rename_i x hx;obtain⟨d,lx,lr⟩:=Ao.mp h;subst lr;obtain⟨bs,fJ,lq⟩:=Ao.mp lx;subst lq;unfold HM.ll at fJ;split at fJ
 case isFalse=>cases fJ
 rename_i bz;cases fJ;obtain⟨C0,h0,hT⟩:=T.ex;obtain⟨C,cu,k0,FC,gv⟩:=hT x (List.contains_iff_mem.mp bz);intro YK s L H D I ⟨F0,H0,F,at_,k⟩;refine IU (Y6 (Q:=λf s1=>f=.next/\∃σ9 H9 l F9,Inv X YK σ9 H9 s1/\σ9[i]?=Z (Z (.ref l))/\YR F0 H0 F9 H9/\Rep X.K F9 (.list (((y1++y2++y3).map (·==x)).map .bool)) (.ref l)) ?_ λf s1 hf=>?_)
 case refine_2=>obtain⟨rfl,σ9,H9,l,F9,I9,e9,x9,r9⟩:=hf;exact Gw (HJ (ZS hi (.inl bq) af cK)) YK s1 σ9 H9 D I9 ⟨.ref l,e9,k _ F9 H9 x9 r9⟩
 refine wpAny_Try_except ?_;generalize hEh:(λe s₁=>wpAny (model X.prog X.w) X.A (noteFrame e X.env) (λ_ s₂=>wpAny (model X.prog X.w) X.A (setFlight e U) (λ_ s₃=>wpAny (model X.prog X.w) X.A (handleBy e X.env _) _ X.xe s₃) X.xe s₂) X.xe s₁)=Eh;have hP:Y1 (aI X.prog X.w) (BG X (X.pn++YK) Eh) (λv _ H'=>X.mg x=Z v/\∃F',YR F0 H0 F' H'):=by
  intro bS σ1 H1 s1 v s' I1 hc;obtain⟨e,cls',rfl,H',B,a0,os,bare,mn,hok,FL,c1,c2,c3,cY,F',x1⟩:=hc;rw[cu]at cY;cases cY;have I1n:Inv (BG X (X.pn++YK) λ_ _=>False) bS σ1 H1 s1:=⟨MJ I.ok _ _,I1.os,I1.bare,I1.base,I1.loc,I1.cell,I1.free,I1.freeC,I1.pin,I1.hok,I1.len⟩;show Eh (.ref e) s';rw[<-hEh];refine Su (X:=BG X (X.pn++YK) λ_ _=>False) (j:=j) (G:=λf σ8 H8=>f=.next/\d4 i j e C F0 H0 F' ((y1++y2++y3).map (·==x)) σ8 H8) bu aZ I1n os bare mn hok FL c1 c2 c3 k9 h0 k0 aE hN hj bX (λs7 oe cH eA I7=>?_) λf H8 σ8 s9 I9 ⟨ef,q1,q2,⟨l,q3,q4,q5,q6⟩,q7⟩=>?_
  .have kQ:j<σ1.length:=by rw[I1.len];exact(AE.mp hj).1
   have kR:i<σ1.length:=by rw[I1.len];exact(AE.mp hi).1
   have TX:Mw (Cb (BG X (X.pn++YK) λ_ _=>False) e) n:=⟨u1,u2,u3,kM,k6,dU,Y7⟩;have part:∀{zs:mI} {es:List Expr},Dy n zs es->(∀y∈zs,y∈y1++y2++y3)->PA (Cb (BG X (X.pn++YK) λ_ _=>False) e) es (Dz j e C (zs.map (·==x))):=λ{zs es} hL hz=>QM (f:=(·==x)) hL TX FC hj (.inl bX) λy hy=>⟨(dR y (hz y hy)).1,(dR y (hz y hy)).2,gv y (hz y hy)⟩;have lA:(y1++y2).length<=8:=by rw[A3]at hl;omega
   have lB:BX y1<=8:=by rw[A3]at lA;omega
   have P1:=Rg (X:=Cb (BG X (X.pn++YK) λ_ _=>False) e) (F0:=F0) (H0:=H0) (F:=F') (p1:=jh) (p2:=ji) (pos:=pA) bB hN hi bq (part L1 λy hy=>by simp[hy]) lB (w1 _ _ _ _);have P2:=Nz (X:=Cb (BG X (X.pn++YK) λ_ _=>False) e) (F0:=F0) (H0:=H0) (F:=F') (ys:=y1) (p1:=jd) (p2:=jf) (p3:=je) (p4:=gg) (p5:=gg) (pos:=pB) bB hN hi bq af cK (part L2 λy hy=>by simp[hy]) lA (w2 _ _ _ _ _ _);have P3:=Nz (X:=Cb (BG X (X.pn++YK) λ_ _=>False) e) (F0:=F0) (H0:=H0) (F:=F') (ys:=y1++y2) (p1:=ja) (p2:=jc) (p3:=jb) (p4:=gf) (p5:=gf) (pos:=pC) bB hN hi bq af cK (part L3 λy hy=>by simp[hy]) hl (w2 _ _ _ _ _ _);refine Ax (B1 P1 (B1 P2 (Gw P3)) bS s7 (σ1.set j (Z (.ref e))) (upd H' e (As e oe)) {nx:=λσ8 H8=>d4 i j e C F0 H0 F' ((y1++y2++y3).map (·==x)) σ8 H8,rt:=λ_ _=>False} I7 ?_) (λf s8 hf=>?_) λ_ _ z=>z
   .refine⟨⟨by rw[Cr kQ],⟨oe,Zq,cH⟩,by rw[CW];exact kR,x1.lay' eA⟩,λσ2 H2 q2=>⟨q2,λσ3 H3 q3=>⟨q3,λσ4 H4 q4=>q4⟩⟩⟩
   .cases f with
    |next=>obtain⟨σ8,H8,I8,q⟩:=hf;exact⟨σ8,H8,I8,_,rfl,rfl,q⟩
    |ret u=>obtain⟨_,_,_,_,_,q⟩:=hf;exact q.elim
    |brk=>obtain⟨_,_,_,q⟩:=hf;exact q.elim
    |cont=>obtain⟨_,_,_,q⟩:=hf;exact q.elim
  .subst ef
   refine⟨rfl,σ8.set j U,H8,l,upd F' l (.lst _),To I.ok I9,by rw[Ba (AD bB)];exact q3,Q4 q7 q4 q5 q6 rfl,?_⟩;exact .lst (.of Zq) (J1 (K:=X.K) (F:=F') _).1 (J1 _).2
 refine Ax (hR _ Eh _ hP r x hx [] s L H {nx:=λ_ _=>False,rt:=λ_ _=>False} (Qd I Eh) ⟨F0,H0,F,at_,λF' H' v x1 hv=>⟨hv,F',x1⟩⟩) (λf s1 hf=>?_) λe s1 he=>he;cases f with
 |ret u=>obtain⟨_,_,_,_,_,q⟩:=hf;exact q.elim
 |next=>obtain⟨_,_,_,q⟩:=hf;exact q.elim
 |brk=>obtain⟨_,_,_,q⟩:=hf;exact q.elim
 |cont=>obtain⟨_,_,_,q⟩:=hf;exact q.elim
end
end HP
namespace HG32
open PySem HM
noncomputable def Wm:SF :=
 (ZK (az (b7 (tV (En (Zd 0) .bool)) (ZY (tV (En (Zd 0) .int)))) (ZO (eC (.bool Ab))) ZZ)
  (ZO (Oq fP fP (Zd 1) (Zd 0) (Zd 2))))
noncomputable def Zv:mE->Option D:=fnOf 3 3 Wm
noncomputable def T3:SF :=
 (ZO (By (En (Zd 0) .tuple) (Oq fP fP (Zd 1) (AU (ZR 0)) (Zd 2))))
noncomputable def Zz:mE->Option D:=fnOf 3 3 T3
noncomputable def Wc:SF :=
 (ZK (az (ZY (tV (Zj Zv (S (Zd 3) (S (Zd 2) (S (ah Dw (Zd 1) (eC (.int 1))) Zh)))))) (ZO (eC (.bool Ab))) ZZ)
  (A5 2 (ah Qj (Zd 3) (eC (.int 1)))))
noncomputable def Wl:SF :=
 (ZK (az (ZY (tV (En (Zd 0) .tuple))) (ZO (eC (.bool Ab))) ZZ)
  (ZK (A5 2 (eC (.int 0)))
  (ZK (HK 3 (Bq (ak (Zd 0))) Wc)
  (ZO (eC (.bool Y))))))
noncomputable def Cd:mE->Option D:=fnOf 2 4 Wl
noncomputable def Vy:SF :=
 (ZO (By (Zj Zz (S (Zd 0) (S (Zd 1) (S (Zd 1) Zh)))) (Cv (BP (Bq (ak (Zd 0))) Bv (Zj Cd (S (Zd 0) (S (Zd 2) Zh)))))))
noncomputable def Ln:mE->Option D:=fnOf 2 2 Vy
noncomputable def Vx:SF :=
 (ZO (By (Zj Zz (S (Zd 0) (S (Zd 1) (S (Zd 1) Zh)))) (Cv (BP (Bq (ak (Zd 0))) Bv (Zj Zv (S (Zd 0) (S (eC (.int 0)) (S (eC (.int 9)) Zh))))))))
noncomputable def Lm:mE->Option D:=fnOf 2 2 Vx
noncomputable def Wk:SF :=
 (ZO (By (Zj Zz (S (Zd 0) (S (eC (.int 1)) (S (eC (.int 5)) Zh)))) (Cv (BP (Bq (ak (Zd 0))) Bv (Zj Ln (S (Zd 0) (S (Zd 2) Zh)))))))
noncomputable def LD:mE->Option D:=fnOf 2 2 Wk
noncomputable def Wj:SF :=
 (ZO (By (Zj Zz (S (Zd 0) (S (eC (.int 0)) (S (eC (.int 4)) Zh)))) (Cv (BP (Bq (ak (Zd 0))) Bv (Zj Lm (S (Zd 0) (S (Zd 2) Zh)))))))
noncomputable def LC:mE->Option D:=fnOf 2 2 Wj
noncomputable def VX:SF :=
 (ZO (By (Zj Cd (S (Zd 0) (S (Zd 1) Zh))) (ah gZ (AU (ZR 0)) (eC (.int 0)))))
noncomputable def Ex:mE->Option D:=fnOf 2 2 VX
noncomputable def Wi:SF :=
 (ZK (az (b7 (ZY (tV (Zj Zz (S (Zd 0) (S (eC (.int 5)) (S (eC (.int 5)) Zh)))))) (ZY (tV (Zj Zv (S (ar (ZR 0) (eC (.int 0))) (S (eC (.int 1)) (S (eC (.int 8)) Zh))))))) (ZO (eC (.bool Ab))) ZZ)
  (ZK (A5 1 (ar (ZR 0) (eC (.int 0))))
  (ZK (az (b7 (ZY (tV (Zj LD (S (ar (ZR 0) (eC (.int 1))) (S (Zd 1) Zh))))) (ZY (tV (Zj LC (S (ar (ZR 0) (eC (.int 2))) (S (Zd 1) Zh)))))) (ZO (eC (.bool Ab))) ZZ)
  (ZO (By (Zj Ex (S (ar (ZR 0) (eC (.int 3))) (S (Zd 1) Zh))) (Zj Cd (S (ar (ZR 0) (eC (.int 4))) (S (Zd 1) Zh))))))))
noncomputable def GF:mE->Option D:=fnOf 1 2 Wi
noncomputable def Wh:SF :=
 (ZO (ar (ZR 0) (eC (.int 0))))
noncomputable def CI:mE->Option D:=fnOf 1 1 Wh
noncomputable def VW:SF :=
 (ZO (ar (ZR 0) (eC (.int 1))))
noncomputable def ZP:mE->Option D:=fnOf 1 1 VW
noncomputable def VV:SF :=
 (ZO (ar (ZR 0) (eC (.int 2))))
noncomputable def Cc:mE->Option D:=fnOf 1 1 VV
noncomputable def VU:SF :=
 (ZO (ar (ZR 0) (eC (.int 3))))
noncomputable def CH:mE->Option D:=fnOf 1 1 VU
noncomputable def Vw:SF :=
 (ZO (ar (ZR 0) (eC (.int 4))))
noncomputable def Ll:mE->Option D:=fnOf 1 1 Vw
noncomputable def Vv:SF :=
 (ZK (az (ZY (tV (Zj GF (S (Zd 0) Zh)))) Z4 ZZ)
  (ZO (Zd 0)))
noncomputable def Z3:mE->Option D:=fnOf 1 1 Vv
noncomputable def Zn:mE->Option Str:=Bk 1 1
 (bh (ZY (tV (Zj GF (S (Zd 0) Zh)))) (CB "BadWorks" (S (eC (.str (AV "these are no works"))) Zh)) aP)
noncomputable def Xj:SF :=
 (ZK (az (ZY (tV (Zj Cd (S (Zd 1) (S (AU (ak (Zj Cc (S (Zd 0) Zh)))) Zh))))) Z4 ZZ)
  (ZO (Zd 1)))
noncomputable def GK:mE->Option D:=fnOf 2 2 Xj
noncomputable def Zw:mE->Option Str:=Bk 2 2
 (bh (ZY (tV (Zj Cd (S (Zd 1) (S (AU (ak (Zj Cc (S (Zd 0) Zh)))) Zh))))) (CB "BadLooks" (S (eC (.str (AV "this is no choice of looks of these works"))) Zh)) aP)
noncomputable def Xi:SF :=
 (ZK (az (ZY (tV (Zj Ex (S (Zd 1) (S (Zj CI (S (Zd 0) Zh)) Zh))))) Z4 ZZ)
  (ZO (Zd 1)))
noncomputable def LI:mE->Option D:=fnOf 2 2 Xi
noncomputable def ZH:mE->Option Str:=Bk 2 2
 (bh (ZY (tV (Zj Ex (S (Zd 1) (S (Zj CI (S (Zd 0) Zh)) Zh))))) (CB "BadCrowd" (S (eC (.str (AV "this is no crowd of one state at least of these works"))) Zh)) aP)
noncomputable def Vu:SF :=
 (ZO (KZ (BP (Bq (ak (Zd 1))) Bv (ar (ak (ar (ak (Zj Cc (S (Zd 1) Zh))) (Zd 0))) (Zd 3)))))
noncomputable def Lk:mE->Option D:=fnOf 3 3 Vu
noncomputable def WH:SF :=
 (ZK (A5 3 (ar (ak (Zj ZP (S (Zd 0) Zh))) (Zd 2)))
  (ZO (Cv (BP (Bq (ak (Zd 1))) Bv (ah gZ (AU (ak (ar (ZR 4) (Zd 0)))) (eC (.int 0)))))))
noncomputable def Ew:mE->Option D:=fnOf 3 4 WH
noncomputable def Vt:SF :=
 (Ng 4 (Zd 6) (eC (.bool Y)))
noncomputable def Vs:SF :=
 (HK 6 (Bq (ak (ar (ZR 3) (Zd 5)))) Vt)
noncomputable def T2:SF :=
 (ZK (A5 3 (ar (ak (Zj ZP (S (Zd 0) Zh))) (Zd 2)))
  (ZK (Ee 4 hJ)
  (ZK (HK 5 (Bq (ak (Zd 1))) Vs)
  (ZO (KZ (OJ (ZR 4)))))))
noncomputable def KR:mE->Option D:=fnOf 3 7 T2
noncomputable def Vr:SF :=
 (VM 3 (Zj Lk (S (Zd 0) (S (Zd 1) (S (Zd 4) Zh)))) (Zd 4))
noncomputable def T1:SF :=
 (ZK (Ee 3 QC)
  (ZK (HK 4 (Bq (ak (Zd 2))) Vr)
  (ZO (dY (BP (Bq (ak (dY (OJ (ZR 3))))) Bv (A1 (S (Zd 0) (S (KZ (UX 4 (Zd 0))) Zh))))))))
noncomputable def GA:mE->Option D:=fnOf 3 5 T1
noncomputable def VT:SF :=
 (ZO (Cv (BP (Bq (ak (Zd 1))) Bv (UK (Zd 0) (ak (Zj Ll (S (Zd 1) Zh)))))))
noncomputable def Li:mE->Option D:=fnOf 2 2 VT
noncomputable def Xl:SF :=
 (ZK (az (ZY (tV (Zj Zv (S (Zd 2) (S (eC (.int 0)) (S (ah Dw (AU (ak (Zj ZP (S (Zd 0) Zh)))) (eC (.int 1))) Zh)))))) Z4 ZZ)
  (ZK (az (ZY (tV (Zj Ew (S (Zd 0) (S (Zd 1) (S (Zd 2) Zh)))))) Z4 ZZ)
  (ZO (Zd 2))))
noncomputable def Xk:mE->Option D:=fnOf 3 3 Xl
noncomputable def DM:mE->Option Str:=Bk 3 3
 (AH (bh (ZY (tV (Zj Zv (S (Zd 2) (S (eC (.int 0)) (S (ah Dw (AU (ak (Zj ZP (S (Zd 0) Zh)))) (eC (.int 1))) Zh)))))) (CB "BadDeed" (S (eC (.str (AV "this is no deed's number"))) Zh)) aP) (az (ZY (tV (Zj Zv (S (Zd 2) (S (eC (.int 0)) (S (ah Dw (AU (ak (Zj ZP (S (Zd 0) Zh)))) (eC (.int 1))) Zh)))))) Z4 ZZ)
  (bh (ZY (tV (Zj Ew (S (Zd 0) (S (Zd 1) (S (Zd 2) Zh)))))) (CB "BadDeed" (S (eC (.str (AV "this deed can not be done with this crowd"))) Zh)) aP))
noncomputable def DJ:mE->Option Str:=Bk 2 2
 (AH (Z1 Zn (S (Zd 0) Zh)) (Ca (Zj Z3 (S (Zd 0) Zh)))
  (Z1 ZH (S (Zd 0) (S (Zd 1) Zh))))
noncomputable def DH:mE->Option Str:=Bk 3 3
 (AH (Z1 Zn (S (Zd 0) Zh)) (Ca (Zj Z3 (S (Zd 0) Zh)))
  (AH (Z1 ZH (S (Zd 0) (S (Zd 1) Zh))) (Ca (Zj LI (S (Zd 0) (S (Zd 1) Zh))))
  (Z1 DM (S (Zd 0) (S (Zd 1) (S (Zd 2) Zh))))))
noncomputable def DI:mE->Option Str:=Bk 2 4
 (AH (Z1 Zn (S (Zd 0) Zh)) (Ca (Zj Z3 (S (Zd 0) Zh)))
  (Z1 Zw (S (Zd 0) (S (Zd 1) Zh))))
noncomputable def WG:SF :=
 (ZK (WT 1 (DB 1 (Zd 2)))
  (A5 2 (DB 0 (Zd 2))))
noncomputable def Wb:SF :=
 (ZK (Ee 1 (JO Zh))
  (ZK (A5 2 (Zd 0))
  (ZK (N3 100000 (tV (ah Uw (Zd 2) (eC .none))) WG)
  (P4 1 (ZO (WU (Zd 1)))))))
noncomputable def GG:mE->Option D:=fnOf 1 3 Wb
noncomputable def Vq:SF :=
 (ZO (By (En (Zd 0) .str) (ah ba (Zd 0) (Zd 1))))
noncomputable def GJ:mE->Option D:=fnOf 2 2 Vq
noncomputable def VS:SF :=
 (ZK (az (ZY (tV (Zj Zz (S (Zd 0) (S (AU (ZR 1)) (S (AU (ZR 1)) Zh)))))) (ZO (eC (.bool Ab))) ZZ)
  (ZO (Cv (OS (Nj (Zd 0) (Zd 1)) Bv (Zj Zv (S (Zd 0) (S (Zd 1) (S (Zd 1) Zh))))))))
noncomputable def Lh:mE->Option D:=fnOf 2 2 VS
noncomputable def UJ:SF :=
 (ZO (By (Zj Zz (S (Zd 0) (S (eC (.int 1)) (S (eC (.int 1)) Zh)))) (Zj GJ (S (ar (ZR 0) (eC (.int 0))) (S (eC (.str (AV "done"))) Zh)))))
noncomputable def GI:mE->Option D:=fnOf 1 1 UJ
noncomputable def SK:SF :=
 (ZO (By (Zj Zz (S (Zd 0) (S (eC (.int 3)) (S (eC (.int 3)) Zh)))) (Zj GJ (S (ar (ZR 0) (eC (.int 0))) (S (eC (.str (AV "do"))) Zh)))))
noncomputable def GB:mE->Option D:=fnOf 1 1 SK
noncomputable def Wa:SF :=
 (ZO (By (Zj Zz (S (Zd 0) (S (eC (.int 2)) (S (eC (.int 2)) Zh)))) (By (Zj Lh (S (ar (ZR 0) (eC (.int 0))) (S (Zd 1) Zh))) (lX (Zj GI (S (ar (ZR 0) (eC (.int 1))) Zh)) (Zj GB (S (ar (ZR 0) (eC (.int 1))) Zh))))))
noncomputable def LB:mE->Option D:=fnOf 2 2 Wa
noncomputable def WQ:SF :=
 (ZK (az (tV (Zj GI (S (Zd 2) Zh))) (ZO (Zj Li (S (Zd 0) (S (Zd 1) Zh)))) ZZ)
  (ZO (By (Zj Zv (S (ar (ZR 2) (eC (.int 1))) (S (eC (.int 0)) (S (ah Dw (AU (ak (Zj ZP (S (Zd 0) Zh)))) (eC (.int 1))) Zh)))) (Zj Ew (S (Zd 0) (S (Zd 1) (S (ar (ZR 2) (eC (.int 1))) Zh)))))))
noncomputable def LN:mE->Option D:=fnOf 3 3 WQ
noncomputable def Wg:SF :=
 (ZK (A5 5 (Zj GA (S (Zd 0) (S (Zd 1) (S (Zd 2) Zh)))))
  (ZK (az (ZY (tV (Zj Zz (S (Zd 3) (S (AU (ZR 5)) (S (AU (ZR 5)) Zh)))))) Z4 ZZ)
  (ZO (dY (OS (Nj (Zd 5) (Zd 3)) Bv (VB (S (Zd 6) (S (ar (ZR 0) (eC (.int 0))) (S (ar (ZR 0) (eC (.int 1))) (S (Zd 1) Zh))))))))))
noncomputable def IJ:mE->Option D:=fnOf 5 6 Wg
noncomputable def DQ:mE->Option Str:=Bk 5 6
 (AH aP (A5 5 (Zj GA (S (Zd 0) (S (Zd 1) (S (Zd 2) Zh)))))
  (bh (ZY (tV (Zj Zz (S (Zd 3) (S (AU (ZR 5)) (S (AU (ZR 5)) Zh)))))) (WX 46 "BadPlan" (Zj GG (S (Zd 4) Zh))) aP))
noncomputable def WO:SF :=
 (ZK (az (ZY (tV (Zj LB (S (DB 3 (Zd 1)) (S (DB 1 (Zd 1)) Zh))))) Z4 ZZ)
  (ZK (A5 2 (ar (ak (DB 3 (Zd 1))) (eC (.int 1))))
  (ZK (az (ZY (tV (Zj LN (S (Zd 0) (S (DB 2 (Zd 1)) (S (Zd 2) Zh)))))) Z4 ZZ)
  (ZO (Zd 2)))))
noncomputable def LM:mE->Option D:=fnOf 2 3 WO
noncomputable def Xv:SF :=
 (ZK (R0 5 4)
  (ZK (A5 6 (Zj LM (S (Zd 0) (S (Zd 5) Zh))))
  (az (tV (Zj GB (S (Zd 6) Zh))) (ZK (A5 7 (ar (ZR 6) (eC (.int 1))))
  (ZK (Ng 3 (Zd 7) (ah Rr (UU 3 (Zd 7) (eC (.int 0))) (DB 4 (Zd 5))))
  (ZK (A5 8 (Zj IJ (S (Zd 0) (S (Zd 1) (S (Zj KR (S (Zd 0) (S (DB 2 (Zd 5)) (S (Zd 7) Zh)))) (S (ar (ZR 6) (eC (.int 2))) (S (Zd 5) Zh)))))))
  (WR 4 (Ni (Zd 8)))))) ZZ)))
noncomputable def W9:SF :=
 (ZK (Ee 3 hJ)
  (ZK (Ee 4 (Ni (Zj IJ (S (Zd 0) (S (Zd 1) (S (Zj CH (S (Zd 0) Zh)) (S (Zd 2) (S (eC .none) Zh))))))))
  (ZK (N3 Ms (tV (ah gZ (AU (ZR 4)) (eC (.int 0)))) Xv)
  (UW 3))))
noncomputable def LL:mE->Option D:=fnOf 3 9 W9
noncomputable def ZE:mE->Option Str:=Bk 3 9
 (AH aP (Ee 3 hJ)
  (Z1 DQ (S (Zd 0) (S (Zd 1) (S (Zj CH (S (Zd 0) Zh)) (S (Zd 2) (S (eC .none) Zh)))))))
noncomputable def DS:mE->Option Str:=Bk 3 4
 (AH (Z1 Zn (S (Zd 0) Zh)) (Ca (Zj Z3 (S (Zd 0) Zh)))
  (AH (Z1 Zw (S (Zd 0) (S (Zd 1) Zh))) (Ca (Zj GK (S (Zd 0) (S (Zd 1) Zh))))
  (Z1 ZE (S (Zd 0) (S (Zd 1) (S (Zd 2) Zh))))))
noncomputable def Wf:SF :=
 (ZK (az (b7 (ZY (tV (Zj Zv (S (Zd 1) (S (eC (.int 0)) (S (ah Dw (Zj CI (S (Zd 0) Zh)) (eC (.int 1))) Zh)))))) (tV (LF (Zd 1) (ak (Zj CH (S (Zd 0) Zh)))))) Z4 ZZ)
  (az (b7 (ZY (tV (En (Zd 2) .list))) (ZY (tV (Cv (BP (Bq (ak (Zd 2))) Bv (Zj Zv (S (Zd 0) (S (eC (.int 0)) (S (eC (.int 999)) Zh))))))))) Z4 ZZ))
noncomputable def We:mE->Option D:=fnOf 3 3 Wf
noncomputable def DR:mE->Option Str:=Bk 3 3
 (AH (bh (b7 (ZY (tV (Zj Zv (S (Zd 1) (S (eC (.int 0)) (S (ah Dw (Zj CI (S (Zd 0) Zh)) (eC (.int 1))) Zh)))))) (tV (LF (Zd 1) (ak (Zj CH (S (Zd 0) Zh)))))) (CB "BadRun" (S (eC (.str (AV "a run begins in a state of begin"))) Zh)) aP) (az (b7 (ZY (tV (Zj Zv (S (Zd 1) (S (eC (.int 0)) (S (ah Dw (Zj CI (S (Zd 0) Zh)) (eC (.int 1))) Zh)))))) (tV (LF (Zd 1) (ak (Zj CH (S (Zd 0) Zh)))))) Z4 ZZ)
  (bh (b7 (ZY (tV (En (Zd 2) .list))) (ZY (tV (Cv (BP (Bq (ak (Zd 2))) Bv (Zj Zv (S (Zd 0) (S (eC (.int 0)) (S (eC (.int 999)) Zh))))))))) (CB "BadRun" (S (eC (.str (AV "picks are a list of whole numbers from 0 to 999"))) Zh)) aP))
noncomputable def DD:mE->Option Str:=Bk 5 10
 (AH (Z1 Zn (S (Zd 0) Zh)) (Ca (Zj Z3 (S (Zd 0) Zh)))
  (AH (Z1 Zw (S (Zd 0) (S (Zd 1) Zh))) (Ca (Zj GK (S (Zd 0) (S (Zd 1) Zh))))
  (AH (Z1 ZE (S (Zd 0) (S (Zd 1) (S (Zd 2) Zh)))) (Ca (Zj LL (S (Zd 0) (S (Zd 1) (S (Zd 2) Zh)))))
  (Z1 DR (S (Zd 0) (S (Zd 3) (S (Zd 4) Zh)))))))
noncomputable def WN:SF :=
 (ZO (By (Zj Zz (S (Zd 0) (S (Zd 1) (S (Zd 1) Zh)))) (Cv (BP (Bq (ak (Zd 0))) Bv (Zj Zv (S (Zd 0) (S (eC (.int 1)) (S (eC (.int 20)) Zh))))))))
noncomputable def Et:mE->Option D:=fnOf 2 2 WN
noncomputable def W8:SF :=
 (ZK (az (ZY (tV (Zj Zz (S (Zd 1) (S (eC (.int 2)) (S (eC (.int 2)) Zh)))))) Z4 ZZ)
  (ZK (az (b7 (ZY (tV (Zj Et (S (ar (ZR 1) (eC (.int 0))) (S (AU (ak (Zj ZP (S (Zd 0) Zh)))) Zh))))) (ZY (tV (Zj Et (S (ar (ZR 1) (eC (.int 1))) (S (AU (ak (Zj Cc (S (Zd 0) Zh)))) Zh)))))) Z4 ZZ)
  (ZO (Zd 1))))
noncomputable def W7:mE->Option D:=fnOf 2 2 W8
noncomputable def Z9:mE->Option Str:=Bk 2 2
 (AH (bh (ZY (tV (Zj Zz (S (Zd 1) (S (eC (.int 2)) (S (eC (.int 2)) Zh)))))) (CB "BadPrices" (S (eC (.str (AV "prices are a tuple of two tuples"))) Zh)) aP) (az (ZY (tV (Zj Zz (S (Zd 1) (S (eC (.int 2)) (S (eC (.int 2)) Zh)))))) Z4 ZZ)
  (bh (b7 (ZY (tV (Zj Et (S (ar (ZR 1) (eC (.int 0))) (S (AU (ak (Zj ZP (S (Zd 0) Zh)))) Zh))))) (ZY (tV (Zj Et (S (ar (ZR 1) (eC (.int 1))) (S (AU (ak (Zj Cc (S (Zd 0) Zh)))) Zh)))))) (CB "BadPrices" (S (eC (.str (AV "a deed or a look has no price from 1 to 20"))) Zh)) aP))
noncomputable def DO:mE->Option Str:=Bk 2 3
 (AH (Z1 Zn (S (Zd 0) Zh)) (Ca (Zj Z3 (S (Zd 0) Zh)))
  (Z1 Z9 (S (Zd 0) (S (Zd 1) Zh))))
noncomputable def Z8:mE->Option Str:=Bk 2 2
 (AH (Z1 Zn (S (Zd 0) Zh)) (Ca (Zj Z3 (S (Zd 0) Zh)))
  (bh (ZY (tV (Zj Zv (S (Zd 1) (S (eC (.int 0)) (S (eC (.int 999)) Zh)))))) (CB "BadNumber" (S (eC (.str (AV "this is no whole number from 0 to 999"))) Zh)) aP))
noncomputable def OH:SF :=
 (ZK (az (tV (ah lP (Zd 1) (AU (ZR 0)))) (ZO (ar (ZR 0) (Zd 1))) ZZ)
  (ZO (eC (.int 0))))
noncomputable def DP:mE->Option D:=fnOf 2 2 OH
noncomputable def DL:mE->Option Str:=Bk 1 2
 (AH aP (A5 1 (A1 (S (eC (.int 1)) (S (A1 (S (A1 (S (A1 (S (eC (.int 0)) Zh)) Zh)) Zh)) (S (A1 Zh) (S (A1 (S (eC (.int 0)) Zh)) (S (A1 (S (eC (.int 0)) Zh)) Zh)))))))
  (AH (bh (tV (ah ba (Zd 0) (eC (.int 0)))) (Z1 Zn (S (A1 Zh) Zh)) aP) (az (tV (ah ba (Zd 0) (eC (.int 0)))) Z4 ZZ)
  (AH (bh (tV (ah ba (Zd 0) (eC (.int 1)))) (Z1 DI (S (Zd 1) (S (A1 (S (eC (.int 0)) Zh)) Zh))) aP) (az (tV (ah ba (Zd 0) (eC (.int 1)))) Z4 ZZ)
  (AH (bh (tV (ah ba (Zd 0) (eC (.int 2)))) (Z1 DJ (S (Zd 1) (S (A1 Zh) Zh))) aP) (az (tV (ah ba (Zd 0) (eC (.int 2)))) Z4 ZZ)
  (AH (bh (tV (ah ba (Zd 0) (eC (.int 3)))) (Z1 DH (S (Zd 1) (S (A1 (S (eC (.int 0)) Zh)) (S (eC (.int 1)) Zh)))) aP) (az (tV (ah ba (Zd 0) (eC (.int 3)))) Z4 ZZ)
  (AH (bh (tV (ah ba (Zd 0) (eC (.int 4)))) (Z1 DS (S (Zd 1) (S (A1 Zh) (S (A1 Zh) Zh)))) aP) (az (tV (ah ba (Zd 0) (eC (.int 4)))) Z4 ZZ)
  (AH (bh (tV (ah ba (Zd 0) (eC (.int 5)))) (Z1 DD (S (Zd 1) (S (A1 Zh) (S (A1 (S (A1 (S (A1 Zh) (S (A1 (S (eC (.str (AV "done"))) Zh)) Zh))) Zh)) (S (eC (.int 1)) (S (dY (JO Zh)) Zh)))))) aP) (az (tV (ah ba (Zd 0) (eC (.int 5)))) Z4 ZZ)
  (AH (bh (tV (ah ba (Zd 0) (eC (.int 6)))) (Z1 DO (S (Zd 1) (S (A1 Zh) Zh))) aP) (az (tV (ah ba (Zd 0) (eC (.int 6)))) Z4 ZZ)
  (Z1 Z8 (S (Zd 1) (S (eC (.int (-1))) Zh)))))))))))
noncomputable def WM:SF :=
 (ZK (Ee 1 (JO Zh))
  (Ti (Z1 DL (S (Zd 0) Zh)) (lp (ll ["BadWorks","BadLooks","BadCrowd","BadDeed","BadPlan","BadRun","BadPrices","BadNumber"])) Z4))
noncomputable def Iz:mE->Option D:=fnOf 1 3 WM
noncomputable def Rt:SF :=
 (ZK (A5 1 (ah HB (Zj DP (S (Zd 0) (S (eC (.int 0)) Zh))) (eC (.int 8))))
  (ZO (ah ba (Zj Iz (S (Zd 1) Zh)) (dY (BP (HR (eC (.int 8))) Bv (ah ba (Zd 0) (Zd 2)))))))
noncomputable def Ei:mE->Option D:=fnOf 1 2 Rt
theorem Pd(ns:mB):∃x,DP [.list (Y0 ns),.int 0]=Z (.int x):=by
 cases ns with
 |nil=>exact⟨0,rfl⟩
 | cons n ns=>exact⟨n,by
   have e:cG (BX ns+1) 0=Z 0:=by simp[cG]
   simp[DP,OH,Y0,jH,e]⟩
noncomputable def gs:Option d5->Bool
 |some (.rt (.bool Y))=>Y
 |_=>Ab
theorem P8{o:Option d5}(h:gs o=Y):o=Z (.rt (.bool Y)):=by
 unfold gs at h;split at h
 .rfl
 .cases h
noncomputable abbrev Gb:SF:=ZO (ah ba (Zj Iz (S (Zd 1) Zh)) (dY (BP (HR (eC (.int 8))) Bv (ah ba (Zd 0) (Zd 2)))))
theorem RG:∀w:Nat,w<8->gs (Gb [U,Z (.pl (.int w))])=Y:=by decide +kernel
theorem ON(ns:mB)(_:BX ns<=63):Ei [.list (Y0 ns)]=Z (.bool Y):=by
 obtain⟨x,hx⟩:=Pd ns;have h0:0<=x%8:=Int.emod_nonneg _ (by decide);have h8:x%8<8:=Int.emod_lt_of_pos _ (by decide);have e:=P8 (RG (x%8).toNat (by omega));rw[Int.toNat_of_nonneg h0]at e;have e2:Gb [Z (.pl (.list (Y0 ns))),Z (.pl (.int (x%8)))]=Gb [U,Z (.pl (.int (x%8)))]:=rfl;have hs:(A5 1 (ah HB (Zj DP (S (Zd 0) (S (eC (.int 0)) Zh))) (eC (.int 8)))) [Z (.pl (.list (Y0 ns))),U]=Z (.nx [Z (.pl (.list (Y0 ns))),Z (.pl (.int (x%8)))]):=by simp[hx]
 show fnOf 1 2 (ZK (A5 1 (ah HB (Zj DP (S (Zd 0) (S (eC (.int 0)) Zh))) (eC (.int 8)))) Gb) _=_;unfold fnOf;rw[if_pos (show[PyData.list (Y0 ns)].length=1 from rfl)];have e3:ZK (A5 1 (ah HB (Zj DP (S (Zd 0) (S (eC (.int 0)) Zh))) (eC (.int 8)))) Gb (Ig 2 [.list (Y0 ns)])=Z (.rt (.bool Y)):=by unfold ZK;rw[show Ig 2 [PyData.list (Y0 ns)]=[Z (.pl (.list (Y0 ns))),U] from rfl,hs];exact e2.trans e
 rw[e3]
end HG32
namespace HT
open PySem PySem.Spec PyProof.Rows L2 HP HM
open HG32
variable{f:Addr}{fd:FuncData}{h:Heap}{ps:mI}{x:Str}
noncomputable def top(i:Nat):Stmt:=PySem.Challenge.pw_halfseen_k32_refusals_stand_apart.main.body.getD i (.Pass ⟨0,0,0,0⟩)
noncomputable abbrev K5:Stmt:=top 15
noncomputable abbrev KQ:Stmt:=top 16
noncomputable abbrev K4:Stmt:=top 17
noncomputable abbrev Io:Stmt:=top 18
noncomputable abbrev Im:Stmt:=top 19
noncomputable abbrev Il:Stmt:=top 20
noncomputable abbrev Ik:Stmt:=top 21
noncomputable abbrev Lg:Stmt:=top 22
noncomputable abbrev K3:Stmt:=top 23
noncomputable abbrev K2:Stmt:=top 24
noncomputable abbrev Lf:Stmt:=top 25
noncomputable abbrev Le:Stmt:=top 26
noncomputable abbrev Ld:Stmt:=top 27
noncomputable abbrev Lj:Stmt:=top 28
noncomputable abbrev Iv:Stmt:=top 29
noncomputable abbrev IC:Stmt:=top 30
noncomputable abbrev IB:Stmt:=top 31
noncomputable abbrev Iu:Stmt:=top 33
noncomputable abbrev II:Stmt:=top 35
noncomputable abbrev KP:Stmt:=top 37
noncomputable abbrev Ie:Stmt:=top 38
noncomputable abbrev Iq:Stmt:=top 39
noncomputable abbrev Iy:Stmt:=top 40
noncomputable abbrev KO:Stmt:=top 41
noncomputable abbrev Km:Stmt:=top 42
noncomputable abbrev KN:Stmt:=top 54
noncomputable abbrev LA:Stmt:=top 58
noncomputable abbrev KA:Stmt:=top 59
noncomputable abbrev Ip:Stmt:=top 60
noncomputable abbrev Kz:Stmt:=top 61
noncomputable abbrev Kl:Stmt:=top 62
noncomputable abbrev Lz:Stmt:=top 63
noncomputable abbrev Lx:Stmt:=top 64
noncomputable abbrev GD:Stmt:=top 65
noncomputable abbrev Lw:Stmt:=top 66
noncomputable abbrev IM:Stmt:=top 67
noncomputable abbrev Kx:Stmt:=top 68
noncomputable abbrev Fm:Stmt:=top 69
noncomputable abbrev JX:Stmt:=top 71
noncomputable abbrev Iw:Stmt:=top 75
noncomputable abbrev IK:Stmt:=top 76
noncomputable abbrev Lc:Stmt:=top 82
noncomputable abbrev LK:Stmt:=top 89
noncomputable abbrev Lb:Stmt:=top 91
noncomputable abbrev Lq:Stmt:=top 92
noncomputable abbrev Lv:Stmt:=top 93
noncomputable abbrev DE:Stmt:=top 94
noncomputable abbrev JL:Stmt:=dh (top 57)
noncomputable abbrev JV:Stmt:=dh (top 6)
structure YU(K:Ad)(mg:mF)(x:Str)(st:Stmt)(ps:mI):Prop where
 ex:∃f fd,ax K x x st f fd/\mg x=Z (.ref f)/\Binds K fd ps []
structure YX(K:Ad)(mg:mF):Prop where
 n_len:mg "len"=U
 n_tuple:mg "tuple"=U
 n_list:mg "list"=U
 n_sorted:mg "sorted"=U
 n_range:mg "range"=U
 n_all:mg "all"=U
 n_isinstance:mg "isinstance"=U
 n_int:mg "int"=U
 n_bool:mg "bool"=U
 n_str:mg "str"=U
 n_max:mg "max"=U
 n_zip:mg "zip"=U
 n_reversed:mg "reversed"=U
 c_MOST_STATES:∃t,mg "MOST_STATES"=Z (.int 8 t)
 c_MOST_DEEDS:∃t,mg "MOST_DEEDS"=Z (.int 5 t)
 c_MOST_LOOKS:∃t,mg "MOST_LOOKS"=Z (.int 4 t)
 c_MOST_SEEN:∃t,mg "MOST_SEEN"=Z (.int 9 t)
 c_MOST_PICK:∃t,mg "MOST_PICK"=Z (.int 999 t)
 c_LEAST_PRICE:∃t,mg "LEAST_PRICE"=Z (.int 1 t)
 c_MOST_PRICE:∃t,mg "MOST_PRICE"=Z (.int 20 t)
 c_MOST_NUMBER:∃t,mg "MOST_NUMBER"=Z (.int 999 t)
 n_ValueError:mg "ValueError"=U
 x_BadCrowd:CZ K mg "SeenError" "BadCrowd"
 x_BadDeed:CZ K mg "SeenError" "BadDeed"
 x_BadLooks:CZ K mg "SeenError" "BadLooks"
 x_BadNumber:CZ K mg "SeenError" "BadNumber"
 x_BadPrices:CZ K mg "SeenError" "BadPrices"
 x_BadRun:CZ K mg "SeenError" "BadRun"
 x_BadWorks:CZ K mg "SeenError" "BadWorks"
 q:Hy K mg "SeenError" ["BadWorks","BadLooks","BadCrowd","BadDeed","BadPlan","BadRun","BadPrices","BadNumber"]
section
variable[FX]{P:Program}{w:World}{K:Ad}{mg:mF}{base:Heap}{k:Nat}
set_option maxHeartbeats 8000000
theorem Y2{N:mI}{sc:Scope}(a:sc.kind=.function:=by rfl)(b:sc.isCoroutine=Ab:=by rfl)(c:sc.isGenerator=Ab:=by rfl)(d:N.Nodup:=by decide +kernel)(e:N.take ps.length=ps:=by rfl)(f:∀x∈ps,sc.names.lookup x=Z .local\/sc.names.lookup x=Z .cell:=by decide +kernel)(g:∀y∈sc.names,y.2≠.free:=by decide +kernel):Zp N ps sc:=⟨a,b,c,d,e,f,g⟩
theorem YU.ok{x:Str}{st:Stmt}{N ps:mI}{g:HM.SF}(D:YU K mg x st ps)(mr:Zp N ps (Zg st))(body:∀(f:Addr) (YQ:Value) (A:Around) (outer:List PySem.Env) (s:Shared) (H:Hp) (E:XK),Z6 k (A.deeper (envOfC x (Zg st) s.heap.objs.size f YQ))->cc (AG bf P w K mg base N x (Zg st) f YQ A outer s H E).nox (Bm st) g):Callee P w K mg base (k+1) x (HM.fnOf ps.length N.length g):=by obtain⟨f,fd,F,m,b⟩:=D.ex;exact Ua F mr m b (body f)
theorem YT{j:Nat}{M:mE->Option PyData}(C:Callee P w K mg base j x M)(h:j<=k:=by decide):Callee P w K mg base k x M:=C.mono h
theorem Qi:Zp B7 B7 (Zg JL):=Y2
theorem Qe{C:Addr}(hc:cn K C)(hn:∀f∈BY,B8 K C f)(Fn:ax K "__init__" "Place.__init__" JL f fd):AK P w K mg base bf 1 f fd B7 (d7 C) :=
 Fn.ok Qi (λvs H Q E h=>Sb h) λYQ A outer s H vs Q E hr h=>⟨_,(B1 (Gp (ZS (i:=0) rfl (by first|exact Ah rfl|exact Af (Ah rfl)|exact Af (Af rfl))) (ZS (i:=1) rfl (by first|exact Ah rfl|exact Af (Ah rfl)|exact Af (Af rfl))) rfl) (B1 (Gp (ZS (i:=0) rfl (by first|exact Ah rfl|exact Af (Ah rfl)|exact Af (Af rfl))) (ZS (i:=2) rfl (by first|exact Ah rfl|exact Af (Ah rfl)|exact Af (Af rfl))) rfl) (B1 (Gp (ZS (i:=0) rfl (by first|exact Ah rfl|exact Af (Ah rfl)|exact Af (Af rfl))) (ZS (i:=3) rfl (by first|exact Ah rfl|exact Af (Ah rfl)|exact Af (Af rfl))) rfl) (B1 (Gp (ZS (i:=0) rfl (by first|exact Ah rfl|exact Af (Ah rfl)|exact Af (Af rfl))) (ZS (i:=4) rfl (by first|exact Ah rfl|exact Af (Ah rfl)|exact Af (Af rfl))) rfl) (Gw (Gp (ZS (i:=0) rfl (by first|exact Ah rfl|exact Af (Ah rfl)|exact Af (Af rfl))) (RS (J0 Rm (ZS (i:=1) rfl (by first|exact Ah rfl|exact Af (Ah rfl)|exact Af (Af rfl))) M4 (Kb _ (by decide) (by decide))) HG (Rj (M6 (ZS (i:=1) rfl (by first|exact Ah rfl|exact Af (Ah rfl)|exact Af (Af rfl))) rfl) HG)) rfl)))))),TR hc hn h⟩
theorem QY:Zp BK BK (Zg JV):=Y2
theorem QU{C0:Addr}(gH:mg "SeenError"=Z (.ref C0))(aF:∀C,mg "BadPlan"=Z (.ref C)->ClsAt (id:=E4) base C)(k1:FR K (.ref C0) "__getattribute__"=Z (Z (.builtin "type.__getattribute__")))(k2:F6 K C0 (.type "type")=Y)(k3:F5 K (.ref C0) (.type "type") "__init__"=Z (.val (.builtin E4)))(Fn:ax K "__init__" "BadPlan.__init__" JV f fd):AK P w K mg base bf 1 f fd BK (Ga K mg 46):=by
 have e:("no plan of these works, behind what was seen: ":Str).length=46:=by decide +kernel
 refine Fn.ok QY (λvs H Q E h=>S5 h) λYQ A outer s H vs Q E hr h=>⟨_,B1 (Fd (UN (Ur aF) rfl gH (by decide) k1 k2 k3 (by decide) (Bf (ZS (i:=0) rfl (by first|exact Ah rfl|exact Af (Ah rfl)|exact Af (Af rfl))) (Bf (Sr (txt:="no plan of these works, behind what was seen: ") (ZS (i:=1) rfl (by first|exact Ah rfl|exact Af (Ah rfl)|exact Af (Af rfl))) hr.gd (Pl hr) (by decide +kernel)) BL)) rfl rfl rfl)) (Gw (So (ZS (i:=0) rfl (by first|exact Ah rfl|exact Af (Ah rfl)|exact Af (Af rfl))) (ZS (i:=1) rfl (by first|exact Ah rfl|exact Af (Ah rfl)|exact Af (Af rfl))))),U4 (by rw[e];exact h)⟩
theorem Wd:Zp ["_law_script","_law_k"] ["_law_script","_law_k"] (Zg Lb):=Y2
theorem WE(T:YX K mg)(D:YU K mg "_law_cell" Lb ["_law_script","_law_k"]):Callee P w K mg base (k+1) "_law_cell" DP :=
 D.ok Wd λ_ YQ A outer s H E hr=>by
  exact(Zt (Z2 (Bg l7 (Zc 1) (AS T.n_len (ZC 0))) (Zk (ZA (ZV (ZC 0) (Zc 1)))) ZG)
  (Zk (ZA Zi)))
theorem V9:Zp ["thing","least","most"] ["thing","least","most"] (Zg K5):=Y2
theorem V8(T:YX K mg)(D:YU K mg "is_number" K5 ["thing","least","most"]):Callee P w K mg base (k+1) "is_number" Zv :=
 D.ok V9 λ_ YQ A outer s H E hr=>by
  exact(Zt (Z2 (Cu (Cz (ZD (VI T.n_isinstance T.n_bool (Zc 0))) (CD (ZF (ZD (Vm T.n_isinstance T.n_int (Zc 0))))))) (Zk (ZA DK)) ZG)
  (Zk (ZA (Om fQ fQ (Zc 1) (Zc 0) (Zc 2)))))
theorem IG:Zp ["thing","many","least","number"] ["thing","many"] (Zg K4):=Y2
theorem V7(T:YX K mg)(Zm:Callee P w K mg base k "is_number" Zv)(D:YU K mg "is_rising" K4 ["thing","many"]):Callee P w K mg base (k+1) "is_rising" Cd :=
 D.ok IG λ_ YQ A outer s H E hr=>by
  exact(Zt (Z2 (ZF (ZD (OR T.n_isinstance T.n_tuple (Zc 0)))) (Zk (ZA DK)) ZG)
  (Zt (Bu 2 IG.nd Zi)
  (Zt (HX 3 IG.nd rfl rfl (Bt (Zc 0)) (Zt (Z2 (ZF (ZD (Zf Zm hr (Za (Zc 3) (Za (Zc 2) (Za (CF DA (Zc 1) Zi) Ze)))))) (Zk (ZA DK)) ZG)
  (Zk (Bu 2 IG.nd (CF PD (Zc 3) Zi)))))
  (Zk (ZA DK)))))
theorem WD:Zp ["thing","many"] ["thing","many"] (Zg Lg):=Y2
theorem WC(T:YX K mg)(ZN:Callee P w K mg base k "is_rising" Cd)(D:YU K mg "is_crowd" Lg ["thing","many"]):Callee P w K mg base (k+1) "is_crowd" Ex :=
 D.ok WD λ_ YQ A outer s H E hr=>by exact(Zk (ZA (BC (Zf ZN hr (Za (Zc 0) (Za (Zc 1) Ze))) (BD (Gk ie (AS T.n_len (ZC 0)) Zi)))))
theorem UI:Zp ["thing","least","most"] ["thing","least","most"] (Zg KQ):=Y2
theorem UH(T:YX K mg)(D:YU K mg "is_row" KQ ["thing","least","most"]):Callee P w K mg base (k+1) "is_row" Zz :=
 D.ok UI λ_ YQ A outer s H E hr=>by exact(Zk (ZA (BC (OR T.n_isinstance T.n_tuple (Zc 0)) (BD (Om fQ fQ (Zc 1) (AS T.n_len (ZC 0)) (Zc 2))))))
theorem VR:Zp ["thing","many"] ["thing","many"] (Zg Io):=Y2
theorem VQ(T:YX K mg)(Zr:Callee P w K mg base k "is_row" Zz)(ZN:Callee P w K mg base k "is_rising" Cd)(D:YU K mg "is_deed" Io ["thing","many"]):Callee P w K mg base (k+1) "is_deed" Ln :=
 D.ok VR λ_ YQ A outer s H E hr=>by exact(Zk (ZA (BC (Zf Zr hr (Za (Zc 0) (Za (Zc 1) (Za (Zc 1) Ze)))) (BD (CC T.n_all rfl (BN (B0 rfl rfl (N:=["crowd","thing","many"]) (Bz (sc:=Zg Io) (XN:=["thing","many"])) (Bt (Zc 0)) (λ_ _ _ _ _=>BB) (λ_ _ _ _ _=>(Zf ZN hr (Za (Zc 0) (Za (Zc 2) Ze)))))))))))
theorem V6:Zp ["thing","many"] ["thing","many"] (Zg Il):=Y2
theorem V5(T:YX K mg)(Zr:Callee P w K mg base k "is_row" Zz)(Kw:Callee P w K mg base k "is_deed" Ln)(D:YU K mg "are_deeds" Il ["thing","many"]):Callee P w K mg base (k+1) "are_deeds" LD :=
 D.ok V6 λ_ YQ A outer s H E hr=>by exact(Zk (ZA (BC (Zf Zr hr (Za (Zc 0) (Za Zi (Za (Df T.c_MOST_DEEDS) Ze)))) (BD (CC T.n_all rfl (BN (B0 rfl rfl (N:=["deed","thing","many"]) (Bz (sc:=Zg Il) (XN:=["thing","many"])) (Bt (Zc 0)) (λ_ _ _ _ _=>BB) (λ_ _ _ _ _=>(Zf Kw hr (Za (Zc 0) (Za (Zc 2) Ze)))))))))))
theorem VP:Zp ["thing","many"] ["thing","many"] (Zg Im):=Y2
theorem VO(T:YX K mg)(Zr:Callee P w K mg base k "is_row" Zz)(Zm:Callee P w K mg base k "is_number" Zv)(D:YU K mg "is_look" Im ["thing","many"]):Callee P w K mg base (k+1) "is_look" Lm :=
 D.ok VP λ_ YQ A outer s H E hr=>by exact(Zk (ZA (BC (Zf Zr hr (Za (Zc 0) (Za (Zc 1) (Za (Zc 1) Ze)))) (BD (CC T.n_all rfl (BN (B0 rfl rfl (N:=["told","thing","many"]) (Bz (sc:=Zg Im) (XN:=["thing","many"])) (Bt (Zc 0)) (λ_ _ _ _ _=>BB) (λ_ _ _ _ _=>(Zf Zm hr (Za (Zc 0) (Za Zi (Za (Df T.c_MOST_SEEN) Ze))))))))))))
theorem V4:Zp ["thing","many"] ["thing","many"] (Zg Ik):=Y2
theorem V3(T:YX K mg)(Zr:Callee P w K mg base k "is_row" Zz)(Kv:Callee P w K mg base k "is_look" Lm)(D:YU K mg "are_looks" Ik ["thing","many"]):Callee P w K mg base (k+1) "are_looks" LC :=
 D.ok V4 λ_ YQ A outer s H E hr=>by exact(Zk (ZA (BC (Zf Zr hr (Za (Zc 0) (Za Zi (Za (Df T.c_MOST_LOOKS) Ze)))) (BD (CC T.n_all rfl (BN (B0 rfl rfl (N:=["look","thing","many"]) (Bz (sc:=Zg Ik) (XN:=["thing","many"])) (Bt (Zc 0)) (λ_ _ _ _ _=>BB) (λ_ _ _ _ _=>(Zf Kv hr (Za (Zc 0) (Za (Zc 2) Ze)))))))))))
theorem OQ:Zp ["thing","many"] ["thing"] (Zg K3):=Y2
theorem V2(T:YX K mg)(Dh:Callee P w K mg base k "is_crowd" Ex)(ZN:Callee P w K mg base k "is_rising" Cd)(Zr:Callee P w K mg base k "is_row" Zz)(Zm:Callee P w K mg base k "is_number" Zv)(K1:Callee P w K mg base k "are_deeds" LD)(K0:Callee P w K mg base k "are_looks" LC)(D:YU K mg "are_works" K3 ["thing"]):Callee P w K mg base (k+1) "are_works" GF :=
 D.ok OQ λ_ YQ A outer s H E hr=>by
  exact(Zt (Z2 (Cu (Cz (ZF (ZD (Zf Zr hr (Za (Zc 0) (Za Zi (Za Zi Ze)))))) (CD (ZF (ZD (Zf Zm hr (Za (ZV (ZC 0) Zi) (Za Zi (Za (Df T.c_MOST_STATES) Ze))))))))) (Zk (ZA DK)) ZG)
  (Zt (Bu 1 OQ.nd (ZV (ZC 0) Zi))
  (Zt (Z2 (Cu (Cz (ZF (ZD (Zf K1 hr (Za (ZV (ZC 0) Zi) (Za (Zc 1) Ze))))) (CD (ZF (ZD (Zf K0 hr (Za (ZV (ZC 0) Zi) (Za (Zc 1) Ze)))))))) (Zk (ZA DK)) ZG)
  (Zk (ZA (BC (Zf Dh hr (Za (ZV (ZC 0) Zi) (Za (Zc 1) Ze))) (BD (Zf ZN hr (Za (ZV (ZC 0) Zi) (Za (Zc 1) Ze))))))))))
theorem OG:Zp ["works"] ["works"] (Zg Iv):=Y2
theorem VJ(T:YX K mg)(Fe:Callee P w K mg base k "are_works" GF)(Fn:ax K "checked" "checked" Iv f fd)(hm:mg "checked"=Z (.ref f))(hb:Binds K fd ["works"] []):Zl P w K mg base (k+1) "checked" Zn :=
 ZW Fn OG hm hb λYQ A outer s H E hr=>by exact(Zy (A6 (ZF (ZD (Zf Fe hr (Za (Zc 0) Ze)))) (Zy (CJ Zx rfl T.x_BadWorks (Za BO Ze))) A7))
theorem Vl(T:YX K mg)(Fe:Callee P w K mg base k "are_works" GF)(D:YU K mg "checked" Iv ["works"]):Callee P w K mg base (k+1) "checked" Z3 :=
 D.ok OG λ_ YQ A outer s H E hr=>by
  exact(Zt (Z2 (ZF (ZD (Zf Fe hr (Za (Zc 0) Ze)))) (Zk ZQ) ZG)
  (Zk (ZA (Zc 0))))
theorem Xu:Zp ["works","most"] ["works","most"] (Zg LK):=Y2
theorem Xp(T:YX K mg)(ZI:Callee P w K mg base k "checked" Z3)(Zm:Callee P w K mg base k "is_number" Zv)(Zn:Zl P w K mg base k "checked" Zn)(Fn:ax K "weakest_within" "weakest_within" LK f fd)(hm:mg "weakest_within"=Z (.ref f))(hb:Binds K fd ["works","most"] []):Zl P w K mg base (k+1) "weakest_within" Z8 :=
 ZW Fn Xu hm hb λYQ A outer s H E hr=>by
  exact(ZJ (Be Zx.pass Zn hr (Za (Zc 0) Ze)) (Ce (Zf ZI hr (Za (Zc 0) Ze)))
  (Zy (A6 (ZF (ZD (Zf Zm hr (Za (Zc 1) (Za Zi (Za (Df T.c_MOST_NUMBER) Ze)))))) (Zy (CJ Zx rfl T.x_BadNumber (Za BO Ze))) A7)))
theorem WB:Zp ["works"] ["works"] (Zg Le):=Y2
theorem WA(T:YX K mg)(D:YU K mg "looks_of" Le ["works"]):Callee P w K mg base (k+1) "looks_of" Cc :=
 D.ok WB λ_ YQ A outer s H E hr=>by exact(Zk (ZA (ZV (ZC 0) Zi)))
theorem O0:Zp ["works","looks"] ["works","looks"] (Zg IC):=Y2
theorem Xa(T:YX K mg)(ZN:Callee P w K mg base k "is_rising" Cd)(ZU:Callee P w K mg base k "looks_of" Cc)(Fn:ax K "checked_looks" "checked_looks" IC f fd)(hm:mg "checked_looks"=Z (.ref f))(hb:Binds K fd ["works","looks"] []):Zl P w K mg base (k+1) "checked_looks" Zw :=
 ZW Fn O0 hm hb λYQ A outer s H E hr=>by exact(Zy (A6 (ZF (ZD (Zf ZN hr (Za (Zc 1) (Za (AS T.n_len (A0 (Zf ZU hr (Za (Zc 0) Ze)))) Ze))))) (Zy (CJ Zx rfl T.x_BadLooks (Za BO Ze))) A7))
theorem W6(T:YX K mg)(ZN:Callee P w K mg base k "is_rising" Cd)(ZU:Callee P w K mg base k "looks_of" Cc)(D:YU K mg "checked_looks" IC ["works","looks"]):Callee P w K mg base (k+1) "checked_looks" GK :=
 D.ok O0 λ_ YQ A outer s H E hr=>by
  exact(Zt (Z2 (ZF (ZD (Zf ZN hr (Za (Zc 1) (Za (AS T.n_len (A0 (Zf ZU hr (Za (Zc 0) Ze)))) Ze))))) (Zk ZQ) ZG)
  (Zk (ZA (Zc 1))))
theorem UG:Zp ["works","looks","begin","depths"] ["works","looks"] (Zg KN):=Y2
theorem U6(T:YX K mg)(ZI:Callee P w K mg base k "checked" Z3)(Zn:Zl P w K mg base k "checked" Zn)(Zw:Zl P w K mg base k "checked_looks" Zw)(Fn:ax K "fewest" "fewest" KN f fd)(hm:mg "fewest"=Z (.ref f))(hb:Binds K fd ["works","looks"] []):Zl P w K mg base (k+1) "fewest" DI :=
 ZW Fn UG hm hb λYQ A outer s H E hr=>by
  exact(ZJ (Be Zx.pass Zn hr (Za (Zc 0) Ze)) (Ce (Zf ZI hr (Za (Zc 0) Ze)))
  (Zy (Be Zx.pass Zw hr (Za (Zc 0) (Za (Zc 1) Ze)))))
theorem V1:Zp ["works"] ["works"] (Zg K2):=Y2
theorem V0(T:YX K mg)(D:YU K mg "states_of" K2 ["works"]):Callee P w K mg base (k+1) "states_of" CI :=
 D.ok V1 λ_ YQ A outer s H E hr=>by exact(Zk (ZA (ZV (ZC 0) Zi)))
theorem OZ:Zp ["works","crowd"] ["works","crowd"] (Zg IB):=Y2
theorem Xr(T:YX K mg)(Dh:Callee P w K mg base k "is_crowd" Ex)(ZX:Callee P w K mg base k "states_of" CI)(Fn:ax K "checked_crowd" "checked_crowd" IB f fd)(hm:mg "checked_crowd"=Z (.ref f))(hb:Binds K fd ["works","crowd"] []):Zl P w K mg base (k+1) "checked_crowd" ZH :=
 ZW Fn OZ hm hb λYQ A outer s H E hr=>by exact(Zy (A6 (ZF (ZD (Zf Dh hr (Za (Zc 1) (Za (Zf ZX hr (Za (Zc 0) Ze)) Ze))))) (Zy (CJ Zx rfl T.x_BadCrowd (Za BO Ze))) A7))
theorem W5(T:YX K mg)(Dh:Callee P w K mg base k "is_crowd" Ex)(ZX:Callee P w K mg base k "states_of" CI)(D:YU K mg "checked_crowd" IB ["works","crowd"]):Callee P w K mg base (k+1) "checked_crowd" LI :=
 D.ok OZ λ_ YQ A outer s H E hr=>by
  exact(Zt (Z2 (ZF (ZD (Zf Dh hr (Za (Zc 1) (Za (Zf ZX hr (Za (Zc 0) Ze)) Ze))))) (Zk ZQ) ZG)
  (Zk (ZA (Zc 1))))
theorem UE:Zp ["works","crowd"] ["works","crowd"] (Zg KO):=Y2
theorem U7(T:YX K mg)(ZI:Callee P w K mg base k "checked" Z3)(Zn:Zl P w K mg base k "checked" Zn)(ZH:Zl P w K mg base k "checked_crowd" ZH)(Fn:ax K "doable" "doable" KO f fd)(hm:mg "doable"=Z (.ref f))(hb:Binds K fd ["works","crowd"] []):Zl P w K mg base (k+1) "doable" DJ :=
 ZW Fn UE hm hb λYQ A outer s H E hr=>by
  exact(ZJ (Be Zx.pass Zn hr (Za (Zc 0) Ze)) (Ce (Zf ZI hr (Za (Zc 0) Ze)))
  (Zy (Be Zx.pass ZH hr (Za (Zc 0) (Za (Zc 1) Ze)))))
theorem Wz:Zp ["works"] ["works"] (Zg Lf):=Y2
theorem Wy(T:YX K mg)(D:YU K mg "deeds_of" Lf ["works"]):Callee P w K mg base (k+1) "deeds_of" ZP :=
 D.ok Wz λ_ YQ A outer s H E hr=>by exact(Zk (ZA (ZV (ZC 0) Zi)))
theorem OV:Zp ["works","crowd","deed","leads"] ["works","crowd","deed"] (Zg II):=Y2
theorem WL(T:YX K mg)(ZB:Callee P w K mg base k "deeds_of" ZP)(D:YU K mg "can_be_done" II ["works","crowd","deed"]):Callee P w K mg base (k+1) "can_be_done" Ew :=
 D.ok OV λ_ YQ A outer s H E hr=>by
  exact(Zt (Bu 3 OV.nd (ZV (A0 (Zf ZB hr (Za (Zc 0) Ze))) (Zc 2)))
  (Zk (ZA (CC T.n_all rfl (BN (B0 rfl rfl (N:=["state","works","crowd","deed","leads"]) (Bz (sc:=Zg II) (XN:=["works","crowd","deed","leads"])) (Bt (Zc 1)) (λ_ _ _ _ _=>BB) (λ_ _ _ _ _=>(Gk ie (AS T.n_len (A0 (ZV (ZC 4) (Zc 0)))) Zi))))))))
theorem OX:Zp ["works","crowd","deed"] ["works","crowd","deed"] (Zg Iy):=Y2
theorem W3(T:YX K mg)(Zm:Callee P w K mg base k "is_number" Zv)(Dg:Callee P w K mg base k "can_be_done" Ew)(ZB:Callee P w K mg base k "deeds_of" ZP)(Fn:ax K "checked_deed" "checked_deed" Iy f fd)(hm:mg "checked_deed"=Z (.ref f))(hb:Binds K fd ["works","crowd","deed"] []):Zl P w K mg base (k+1) "checked_deed" DM :=
 ZW Fn OX hm hb λYQ A outer s H E hr=>by
  exact(ZJ (A6 (ZF (ZD (Zf Zm hr (Za (Zc 2) (Za Zi (Za (CF DA (AS T.n_len (A0 (Zf ZB hr (Za (Zc 0) Ze)))) Zi) Ze)))))) (Zy (CJ Zx rfl T.x_BadDeed (Za BO Ze))) A7) (Z2 (ZF (ZD (Zf Zm hr (Za (Zc 2) (Za Zi (Za (CF DA (AS T.n_len (A0 (Zf ZB hr (Za (Zc 0) Ze)))) Zi) Ze)))))) (Zk ZQ) ZG)
  (Zy (A6 (ZF (ZD (Zf Dg hr (Za (Zc 0) (Za (Zc 1) (Za (Zc 2) Ze)))))) (Zy (CJ Zx rfl T.x_BadDeed (Za BO Ze))) A7)))
theorem Xh(T:YX K mg)(Zm:Callee P w K mg base k "is_number" Zv)(Dg:Callee P w K mg base k "can_be_done" Ew)(ZB:Callee P w K mg base k "deeds_of" ZP)(D:YU K mg "checked_deed" Iy ["works","crowd","deed"]):Callee P w K mg base (k+1) "checked_deed" Xk :=
 D.ok OX λ_ YQ A outer s H E hr=>by
  exact(Zt (Z2 (ZF (ZD (Zf Zm hr (Za (Zc 2) (Za Zi (Za (CF DA (AS T.n_len (A0 (Zf ZB hr (Za (Zc 0) Ze)))) Zi) Ze)))))) (Zk ZQ) ZG)
  (Zt (Z2 (ZF (ZD (Zf Dg hr (Za (Zc 0) (Za (Zc 1) (Za (Zc 2) Ze)))))) (Zk ZQ) ZG)
  (Zk (ZA (Zc 2)))))
theorem TZ:Zp ["works","crowd","deed"] ["works","crowd","deed"] (Zg Km):=Y2
theorem UR(T:YX K mg)(ZI:Callee P w K mg base k "checked" Z3)(LH:Callee P w K mg base k "checked_crowd" LI)(Zn:Zl P w K mg base k "checked" Zn)(ZH:Zl P w K mg base k "checked_crowd" ZH)(DM:Zl P w K mg base k "checked_deed" DM)(Fn:ax K "after" "after" Km f fd)(hm:mg "after"=Z (.ref f))(hb:Binds K fd ["works","crowd","deed"] []):Zl P w K mg base (k+1) "after" DH :=
 ZW Fn TZ hm hb λYQ A outer s H E hr=>by
  exact(ZJ (Be Zx.pass Zn hr (Za (Zc 0) Ze)) (Ce (Zf ZI hr (Za (Zc 0) Ze)))
  (ZJ (Be Zx.pass ZH hr (Za (Zc 0) (Za (Zc 1) Ze))) (Ce (Zf LH hr (Za (Zc 0) (Za (Zc 1) Ze))))
  (Zy (Be Zx.pass DM hr (Za (Zc 0) (Za (Zc 1) (Za (Zc 2) Ze)))))))
theorem Wx:Zp ["thing","seen"] ["thing","seen"] (Zg Ip):=Y2
theorem Ww(T:YX K mg)(Zr:Callee P w K mg base k "is_row" Zz)(Zm:Callee P w K mg base k "is_number" Zv)(D:YU K mg "is_sight" Ip ["thing","seen"]):Callee P w K mg base (k+1) "is_sight" Lh :=
 D.ok Wx λ_ YQ A outer s H E hr=>by
  exact(Zt (Z2 (ZF (ZD (Zf Zr hr (Za (Zc 0) (Za (AS T.n_len (ZC 1)) (Za (AS T.n_len (ZC 1)) Ze)))))) (Zk (ZA DK)) ZG)
  (Zk (ZA (CC T.n_all rfl (BN (OB rfl rfl (N:=["told","number","thing","seen"]) (Bz (sc:=Zg Ip) (XN:=["thing","seen"])) (Nm T.n_zip (Zc 0) (Zc 1)) (λ_ _ _ _ _=>BB) (λ_ _ _ _ _=>(Zf Zm hr (Za (Zc 0) (Za (Zc 1) (Za (Zc 1) Ze)))))))))))
theorem Vk:Zp ["thing","word"] ["thing","word"] (Zg KA):=Y2
theorem Vj(T:YX K mg)(D:YU K mg "is_word" KA ["thing","word"]):Callee P w K mg base (k+1) "is_word" GJ :=
 D.ok Vk λ_ YQ A outer s H E hr=>by exact(Zk (ZA (BC (Vz T.n_isinstance T.n_str (Zc 0)) (BD (Gk (bx hr) (Zc 0) (Zc 1))))))
theorem Vi:Zp ["step"] ["step"] (Zg Kz):=Y2
theorem Vh(T:YX K mg)(Zr:Callee P w K mg base k "is_row" Zz)(Fg:Callee P w K mg base k "is_word" GJ)(D:YU K mg "is_done" Kz ["step"]):Callee P w K mg base (k+1) "is_done" GI :=
 D.ok Vi λ_ YQ A outer s H E hr=>by exact(Zk (ZA (BC (Zf Zr hr (Za (Zc 0) (Za Zi (Za Zi Ze)))) (BD (Zf Fg hr (Za (ZV (ZC 0) Zi) (Za BO Ze)))))))
theorem TY:Zp ["step"] ["step"] (Zg Kl):=Y2
theorem TV(T:YX K mg)(Zr:Callee P w K mg base k "is_row" Zz)(Fg:Callee P w K mg base k "is_word" GJ)(D:YU K mg "is_do" Kl ["step"]):Callee P w K mg base (k+1) "is_do" GB :=
 D.ok TY λ_ YQ A outer s H E hr=>by exact(Zk (ZA (BC (Zf Zr hr (Za (Zc 0) (Za Zi (Za Zi Ze)))) (BD (Zf Fg hr (Za (ZV (ZC 0) Zi) (Za BO Ze)))))))
theorem W0:Zp ["row","seen"] ["row","seen"] (Zg Lz):=Y2
theorem WZ(T:YX K mg)(Zr:Callee P w K mg base k "is_row" Zz)(La:Callee P w K mg base k "is_sight" Lh)(Ff:Callee P w K mg base k "is_done" GI)(Fc:Callee P w K mg base k "is_do" GB)(D:YU K mg "is_row_for" Lz ["row","seen"]):Callee P w K mg base (k+1) "is_row_for" LB :=
 D.ok W0 λ_ YQ A outer s H E hr=>by exact(Zk (ZA (BC (Zf Zr hr (Za (Zc 0) (Za Zi (Za Zi Ze)))) (BC (Zf La hr (Za (ZV (ZC 0) Zi) (Za (Zc 1) Ze))) (BD (Pr (Zf Ff hr (Za (ZV (ZC 0) Zi) Ze)) (BD (Zf Fc hr (Za (ZV (ZC 0) Zi) Ze)))))))))
theorem Vg:Zp ["works"] ["works"] (Zg Lj):=Y2
theorem Vf(T:YX K mg)(D:YU K mg "goal_of" Lj ["works"]):Callee P w K mg base (k+1) "goal_of" Ll :=
 D.ok Vg λ_ YQ A outer s H E hr=>by exact(Zk (ZA (ZV (ZC 0) Zi)))
theorem Wv:Zp ["works","crowd"] ["works","crowd"] (Zg Iq):=Y2
theorem VH(T:YX K mg)(Ku:Callee P w K mg base k "goal_of" Ll)(D:YU K mg "is_there" Iq ["works","crowd"]):Callee P w K mg base (k+1) "is_there" Li :=
 D.ok Wv λ_ YQ A outer s H E hr=>by exact(Zk (ZA (CC T.n_all rfl (BN (B0 rfl rfl (N:=["state","works","crowd"]) (Bz (sc:=Zg Iq) (XN:=["works","crowd"])) (Bt (Zc 1)) (λ_ _ _ _ _=>BB) (λ_ _ _ _ _=>(Rv (Zc 0) (A0 (Zf Ku hr (Za (Zc 1) Ze))))))))))
theorem Xg:Zp ["works","part","step"] ["works","part","step"] (Zg Lx):=Y2
theorem Xf(T:YX K mg)(Ff:Callee P w K mg base k "is_done" GI)(K9:Callee P w K mg base k "is_there" Li)(Zm:Callee P w K mg base k "is_number" Zv)(Dg:Callee P w K mg base k "can_be_done" Ew)(ZB:Callee P w K mg base k "deeds_of" ZP)(D:YU K mg "may_be_taken" Lx ["works","part","step"]):Callee P w K mg base (k+1) "may_be_taken" LN :=
 D.ok Xg λ_ YQ A outer s H E hr=>by
  exact(Zt (Z2 (ZD (Zf Ff hr (Za (Zc 2) Ze))) (Zk (ZA (Zf K9 hr (Za (Zc 0) (Za (Zc 1) Ze))))) ZG)
  (Zk (ZA (BC (Zf Zm hr (Za (ZV (ZC 2) Zi) (Za Zi (Za (CF DA (AS T.n_len (A0 (Zf ZB hr (Za (Zc 0) Ze)))) Zi) Ze)))) (BD (Zf Dg hr (Za (Zc 0) (Za (Zc 1) (Za (ZV (ZC 2) Zi) Ze)))))))))
theorem IH:Zp ["place","backward","current"] ["place"] (Zg LA):=Y2
theorem WY(T:YX K mg)(PL:B5 P w K mg base k)(D:YU K mg "seen_up_to" LA ["place"]):Callee P w K mg base (k+1) "seen_up_to" GG :=
 D.ok IH λ_ YQ A outer s H E hr=>by
  exact(Zt (El 1 IH.nd (HY Ze))
  (Zt (Bu 2 IH.nd (Zc 0))
  (Zt (Oj 100000 rfl (Bg Pa (Zc 2) JY) (Zt (U2 1 (DF PL 1 (Zc 2)))
  (Zk (Bu 2 IH.nd (DF PL 0 (Zc 2))))))
  (Zk (Rz 1 (ZA (T4 T.n_tuple T.n_reversed rfl (Zc 1))))))))
theorem OW:Zp ["works","place","step"] ["works","place"] (Zg Lw):=Y2
theorem Xe(T:YX K mg)(Ly:Callee P w K mg base k "is_row_for" LB)(Lu:Callee P w K mg base k "may_be_taken" LN)(Eu:Callee P w K mg base k "seen_up_to" GG)(PL:B5 P w K mg base k)(D:YU K mg "checked_step" Lw ["works","place"]):Callee P w K mg base (k+1) "checked_step" LM :=
 D.ok OW λ_ YQ A outer s H E hr=>by
  exact(Zt (Z2 (ZF (ZD (Zf Ly hr (Za (DF PL 3 (Zc 1)) (Za (DF PL 1 (Zc 1)) Ze))))) (Zk ZQ) ZG)
  (Zt (Bu 2 OW.nd (ZV (A0 (DF PL 3 (Zc 1))) Zi))
  (Zt (Z2 (ZF (ZD (Zf Lu hr (Za (Zc 0) (Za (DF PL 2 (Zc 1)) (Za (Zc 2) Ze)))))) (Zk ZQ) ZG)
  (Zk (ZA (Zc 2))))))
theorem Ve:Zp ["works","looks","state"] ["works","looks","state"] (Zg Iu):=Y2
theorem Vd(T:YX K mg)(ZU:Callee P w K mg base k "looks_of" Cc)(D:YU K mg "seen_in" Iu ["works","looks","state"]):Callee P w K mg base (k+1) "seen_in" Lk :=
 D.ok Ve λ_ YQ A outer s H E hr=>by exact(Zk (ZA (Lo T.n_tuple (BN (B0 rfl rfl (N:=["look","works","looks","state"]) (Bz (sc:=Zg Iu) (XN:=["works","looks","state"])) (Bt (Zc 1)) (λ_ _ _ _ _=>BB) (λ_ _ _ _ _=>(ZV (A0 (ZV (A0 (Zf ZU hr (Za (Zc 1) Ze))) (Zc 0))) (Zc 3))))))))
noncomputable abbrev KI:mI:=["works","looks","crowd","found","state"]
theorem Kt:Zp KI ["works","looks","crowd"] (Zg Ie):=Y2
theorem UD(T:YX K mg)(Ks:Callee P w K mg base k "seen_in" Lk)(D:YU K mg "parted" Ie ["works","looks","crowd"]):Callee P w K mg base (k+1) "parted" GA :=
 D.ok Kt λ_ YQ A outer s H E hr=>by
  have hu:=JJ hr;exact(Zt (El 3 Kt.nd Rx)
  (Zt (HX 4 Kt.nd rfl rfl (Bt (Zc 2)) (Zk (SO hu 3 (Zf Ks hr (Za (Zc 0) (Za (Zc 1) (Za (Zc 4) Ze)))) (Zc 4) ⟨rfl,rfl,rfl,rfl⟩)))
  (Zk (ZA (Gh (B0 rfl rfl (N:="seen" :: KI) (Bz (sc:=Zg Ie) (XN:=KI)) (Bt (Gh (OC T.n_sorted rfl (ZC 3)))) (λ_ _ _ _ _=>BB) (λ_ _ _ _ _=>(AZ (Za (Zc 0) (Za (Lo T.n_tuple (Rw hu 4 (Zc 0))) Ze))))))))))
noncomputable abbrev KY:mI:=["works","looks","crowd","plan","ahead","rows"]
theorem IE:Zp KY ["works","looks","crowd","plan","ahead"] (Zg GD):=Y2
theorem WV(T:YX K mg)(Fh:Callee P w K mg base k "parted" GA)(Zr:Callee P w K mg base k "is_row" Zz)(Eu:Callee P w K mg base k "seen_up_to" GG)(BI:Ec P w K mg base k 46)(Fn:ax K "places_in" "places_in" GD f fd)(hm:mg "places_in"=Z (.ref f))(hb:Binds K fd ["works","looks","crowd","plan","ahead"] []):Zl P w K mg base (k+1) "places_in" DQ :=
 ZW Fn IE hm hb λYQ A outer s H E hr=>by
  exact(ZJ JP (Bu 5 IE.nd (Zf Fh hr (Za (Zc 0) (Za (Zc 1) (Za (Zc 2) Ze)))))
  (Zy (A6 (ZF (ZD (Zf Zr hr (Za (Zc 3) (Za (AS T.n_len (ZC 5)) (Za (AS T.n_len (ZC 5)) Ze)))))) (Zy (Ui BI hr (Zf Eu hr (Za (Zc 4) Ze)))) A7)))
theorem VZ(T:YX K mg)(Fh:Callee P w K mg base k "parted" GA)(Zr:Callee P w K mg base k "is_row" Zz)(Eu:Callee P w K mg base k "seen_up_to" GG)(PL:B5 P w K mg base k)(D:YU K mg "places_in" GD ["works","looks","crowd","plan","ahead"]):Callee P w K mg base (k+1) "places_in" IJ :=
 D.ok IE λ_ YQ A outer s H E hr=>by
  exact(Zt (Bu 5 IE.nd (Zf Fh hr (Za (Zc 0) (Za (Zc 1) (Za (Zc 2) Ze)))))
  (Zt (Z2 (ZF (ZD (Zf Zr hr (Za (Zc 3) (Za (AS T.n_len (ZC 5)) (Za (AS T.n_len (ZC 5)) Ze)))))) (Zk ZQ) ZG)
  (Zk (ZA (Gh (OB rfl rfl (N:="told" :: "row" :: KY) (Bz (sc:=Zg GD) (XN:=KY)) (Nm T.n_zip (Zc 5) (Zc 3)) (λ_ _ _ _ _=>BB) (λ_ _ _ _ _=>(SN PL hr (Za (Zc 6) (Za (ZV (ZC 0) Zi) (Za (ZV (ZC 0) Zi) (Za (Zc 1) Ze))))))))))))
theorem VG:Zp ["works"] ["works"] (Zg Ld):=Y2
theorem VF(T:YX K mg)(D:YU K mg "begin_of" Ld ["works"]):Callee P w K mg base (k+1) "begin_of" CH :=
 D.ok VG λ_ YQ A outer s H E hr=>by exact(Zk (ZA (ZV (ZC 0) Zi)))
theorem Gy:Zp ["works","crowd","deed","leads","found","state","target"] ["works","crowd","deed"] (Zg KP):=Y2
theorem UC(T:YX K mg)(ZB:Callee P w K mg base k "deeds_of" ZP)(D:YU K mg "led_to" KP ["works","crowd","deed"]):Callee P w K mg base (k+1) "led_to" KR :=
 D.ok Gy λ_ YQ A outer s H E hr=>by
  have hu:=JJ hr;exact(Zt (Bu 3 Gy.nd (ZV (A0 (Zf ZB hr (Za (Zc 0) Ze))) (Zc 2)))
  (Zt (El 4 Gy.nd JR)
  (Zt (HX 5 Gy.nd rfl rfl (Bt (Zc 1)) (Zk (HX 6 Gy.nd rfl rfl (Bt (ZV (ZC 3) (Zc 5))) (Zk (Np hu 4 (Zc 6) DK)))))
  (Zk (ZA (Lo T.n_tuple (BN (OC T.n_sorted rfl (ZC 4)))))))))
theorem ZM:Zp ["works","looks","plan","depths","waiting","place","step","deed","behind"] ["works","looks","plan"] (Zg IM):=Y2
theorem Xo(T:YX K mg)(Z7:Callee P w K mg base k "begin_of" CH)(DQ:Zl P w K mg base k "places_in" DQ)(Fn:ax K "depths_in_plan" "depths_in_plan" IM f fd)(hm:mg "depths_in_plan"=Z (.ref f))(hb:Binds K fd ["works","looks","plan"] []):Zl P w K mg base (k+1) "depths_in_plan" ZE :=
 ZW Fn ZM hm hb λYQ A outer s H E hr=>by
  exact(ZJ JP (El 3 ZM.nd JR)
  (Zy (NF 4 ZM.nd (M1 (M1 (N0 Zx.pass DQ hr (Za (Zc 0) (Za (Zc 1) (Za (Zf Z7 hr (Za (Zc 0) Ze)) (Za (Zc 2) (Za JY Ze)))))) T.n_reversed boot_reversed) T.n_list J4))))
theorem Xt(T:YX K mg)(Ls:Callee P w K mg base k "checked_step" LM)(Fc:Callee P w K mg base k "is_do" GB)(Ij:Callee P w K mg base k "places_in" IJ)(Z7:Callee P w K mg base k "begin_of" CH)(KL:Callee P w K mg base k "led_to" KR)(PL:B5 P w K mg base k)(D:YU K mg "depths_in_plan" IM ["works","looks","plan"]):Callee P w K mg base (k+1) "depths_in_plan" LL :=
 D.ok ZM λ_ YQ A outer s H E hr=>by
  have hu:=JJ hr;exact(Zt (El 3 ZM.nd JR)
  (Zt (El 4 ZM.nd (Nl T.n_list T.n_reversed rfl (Zf Ij hr (Za (Zc 0) (Za (Zc 1) (Za (Zf Z7 hr (Za (Zc 0) Ze)) (Za (Zc 2) (Za JY Ze))))))))
  (Zt (Oj Ms rfl (Bg ie (AS T.n_len (ZC 4)) Zi) (Zt (Ru 5 4 ZM.nd)
  (Zt (Bu 6 ZM.nd (Zf Ls hr (Za (Zc 0) (Za (Zc 5) Ze))))
  (Zk (Z2 (ZD (Zf Fc hr (Za (Zc 6) Ze))) (Zt (Bu 7 ZM.nd (ZV (ZC 6) Zi))
  (Zt (Np hu 3 (Zc 7) (Ry T.n_max rfl (Sj hu 3 (Zc 7) Zi ⟨rfl,rfl,rfl,rfl⟩) (DF PL 4 (Zc 5))))
  (Zt (Bu 8 ZM.nd (Zf Ij hr (Za (Zc 0) (Za (Zc 1) (Za (Zf KL hr (Za (Zc 0) (Za (DF PL 2 (Zc 5)) (Za (Zc 7) Ze)))) (Za (ZV (ZC 6) Zi) (Za (Zc 5) Ze)))))))
  (Zk (U1 4 (BN (Nl T.n_list T.n_reversed rfl (Zc 8)))))))) ZG)))))
  (Zk (Si PL 3)))))
theorem OF:Zp ["works","looks","plan","depths"] ["works","looks","plan"] (Zg Kx):=Y2
theorem VA(T:YX K mg)(ZI:Callee P w K mg base k "checked" Z3)(Fl:Callee P w K mg base k "checked_looks" GK)(Zn:Zl P w K mg base k "checked" Zn)(Zw:Zl P w K mg base k "checked_looks" Zw)(ZE:Zl P w K mg base k "depths_in_plan" ZE)(Fn:ax K "deepest" "deepest" Kx f fd)(hm:mg "deepest"=Z (.ref f))(hb:Binds K fd ["works","looks","plan"] []):Zl P w K mg base (k+1) "deepest" DS :=
 ZW Fn OF hm hb λYQ A outer s H E hr=>by
  exact(ZJ (Be Zx.pass Zn hr (Za (Zc 0) Ze)) (Ce (Zf ZI hr (Za (Zc 0) Ze)))
  (ZJ (Be Zx.pass Zw hr (Za (Zc 0) (Za (Zc 1) Ze))) (Ce (Zf Fl hr (Za (Zc 0) (Za (Zc 1) Ze))))
  (Zy (NF 3 OF.nd (N0 Zx.pass ZE hr (Za (Zc 0) (Za (Zc 1) (Za (Zc 2) Ze))))))))
noncomputable abbrev GH:mI:=["works","state","picks"]
theorem OP:Zp GH ["works","state","picks"] (Zg Fm):=Y2
theorem WS(T:YX K mg)(Zm:Callee P w K mg base k "is_number" Zv)(Z7:Callee P w K mg base k "begin_of" CH)(ZX:Callee P w K mg base k "states_of" CI)(Fn:ax K "check_run" "check_run" Fm f fd)(hm:mg "check_run"=Z (.ref f))(hb:Binds K fd ["works","state","picks"] []):Zl P w K mg base (k+1) "check_run" DR :=
 ZW Fn OP hm hb λYQ A outer s H E hr=>by
  exact(ZJ (A6 (Cu (Cz (ZF (ZD (Zf Zm hr (Za (Zc 1) (Za Zi (Za (CF DA (Zf ZX hr (Za (Zc 0) Ze)) Zi) Ze)))))) (CD (KS (Zc 1) (A0 (Zf Z7 hr (Za (Zc 0) Ze))))))) (Zy (CJ Zx rfl T.x_BadRun (Za BO Ze))) A7) (Z2 (Cu (Cz (ZF (ZD (Zf Zm hr (Za (Zc 1) (Za Zi (Za (CF DA (Zf ZX hr (Za (Zc 0) Ze)) Zi) Ze)))))) (CD (KS (Zc 1) (A0 (Zf Z7 hr (Za (Zc 0) Ze))))))) (Zk ZQ) ZG)
  (Zy (A6 (Cu (Cz (ZF (ZD (OI T.n_isinstance T.n_list (Zc 2)))) (CD (ZF (ZD (CC T.n_all rfl (BN (Pq (B0 rfl rfl (N:="pick" :: GH) (Bz (sc:=Zg Fm) (XN:=GH)) (Bt (Zc 2)) (λ_ _ _ _ _=>BB) (λ_ _ _ _ _=>(Zf Zm hr (Za (Zc 0) (Za Zi (Za (Df T.c_MOST_PICK) Ze)))))))))))))) (Zy (CJ Zx rfl T.x_BadRun (Za BO Ze))) A7)))
theorem VY(T:YX K mg)(Zm:Callee P w K mg base k "is_number" Zv)(Z7:Callee P w K mg base k "begin_of" CH)(ZX:Callee P w K mg base k "states_of" CI)(D:YU K mg "check_run" Fm ["works","state","picks"]):Callee P w K mg base (k+1) "check_run" We :=
 D.ok OP λ_ YQ A outer s H E hr=>by
  exact(Zt (Z2 (Cu (Cz (ZF (ZD (Zf Zm hr (Za (Zc 1) (Za Zi (Za (CF DA (Zf ZX hr (Za (Zc 0) Ze)) Zi) Ze)))))) (CD (KS (Zc 1) (A0 (Zf Z7 hr (Za (Zc 0) Ze))))))) (Zk ZQ) ZG)
  (Zk (Z2 (Cu (Cz (ZF (ZD (OI T.n_isinstance T.n_list (Zc 2)))) (CD (ZF (ZD (CC T.n_all rfl (BN (B0 rfl rfl (N:="pick" :: GH) (Bz (sc:=Zg Fm) (XN:=GH)) (Bt (Zc 2)) (λ_ _ _ _ _=>BB) (λ_ _ _ _ _=>(Zf Zm hr (Za (Zc 0) (Za Zi (Za (Df T.c_MOST_PICK) Ze))))))))))))) (Zk ZQ) ZG)))
theorem Sh:Zp ["works","looks","plan","state","picks","told","step","leads","turn","pick"] ["works","looks","plan","state","picks"] (Zg JX):=Y2
theorem Ta(T:YX K mg)(ZI:Callee P w K mg base k "checked" Z3)(Fl:Callee P w K mg base k "checked_looks" GK)(LJ:Callee P w K mg base k "depths_in_plan" LL)(Zn:Zl P w K mg base k "checked" Zn)(Zw:Zl P w K mg base k "checked_looks" Zw)(ZE:Zl P w K mg base k "depths_in_plan" ZE)(DR:Zl P w K mg base k "check_run" DR)(Fn:ax K "run" "run" JX f fd)(hm:mg "run"=Z (.ref f))(hb:Binds K fd ["works","looks","plan","state","picks"] []):Zl P w K mg base (k+1) "run" DD :=
 ZW Fn Sh hm hb λYQ A outer s H E hr=>by
  exact(ZJ (Be Zx.pass Zn hr (Za (Zc 0) Ze)) (Ce (Zf ZI hr (Za (Zc 0) Ze)))
  (ZJ (Be Zx.pass Zw hr (Za (Zc 0) (Za (Zc 1) Ze))) (Ce (Zf Fl hr (Za (Zc 0) (Za (Zc 1) Ze))))
  (ZJ (Be Zx.pass ZE hr (Za (Zc 0) (Za (Zc 1) (Za (Zc 2) Ze)))) (Ce (Zf LJ hr (Za (Zc 0) (Za (Zc 1) (Za (Zc 2) Ze)))))
  (Zy (Be Zx.pass DR hr (Za (Zc 0) (Za (Zc 3) (Za (Zc 4) Ze))))))))
theorem Xd:Zp ["thing","many"] ["thing","many"] (Zg Iw):=Y2
theorem Xc(T:YX K mg)(Zr:Callee P w K mg base k "is_row" Zz)(Zm:Callee P w K mg base k "is_number" Zv)(D:YU K mg "is_price_row" Iw ["thing","many"]):Callee P w K mg base (k+1) "is_price_row" Et :=
 D.ok Xd λ_ YQ A outer s H E hr=>by exact(Zk (ZA (BC (Zf Zr hr (Za (Zc 0) (Za (Zc 1) (Za (Zc 1) Ze)))) (BD (CC T.n_all rfl (BN (B0 rfl rfl (N:=["price","thing","many"]) (Bz (sc:=Zg Iw) (XN:=["thing","many"])) (Bt (Zc 0)) (λ_ _ _ _ _=>BB) (λ_ _ _ _ _=>(Zf Zm hr (Za (Zc 0) (Za (Df T.c_LEAST_PRICE) (Za (Df T.c_MOST_PRICE) Ze))))))))))))
theorem O1:Zp ["works","prices"] ["works","prices"] (Zg IK):=Y2
theorem Xn(T:YX K mg)(Zr:Callee P w K mg base k "is_row" Zz)(DN:Callee P w K mg base k "is_price_row" Et)(ZB:Callee P w K mg base k "deeds_of" ZP)(ZU:Callee P w K mg base k "looks_of" Cc)(Fn:ax K "checked_prices" "checked_prices" IK f fd)(hm:mg "checked_prices"=Z (.ref f))(hb:Binds K fd ["works","prices"] []):Zl P w K mg base (k+1) "checked_prices" Z9 :=
 ZW Fn O1 hm hb λYQ A outer s H E hr=>by
  exact(ZJ (A6 (ZF (ZD (Zf Zr hr (Za (Zc 1) (Za Zi (Za Zi Ze)))))) (Zy (CJ Zx rfl T.x_BadPrices (Za BO Ze))) A7) (Z2 (ZF (ZD (Zf Zr hr (Za (Zc 1) (Za Zi (Za Zi Ze)))))) (Zk ZQ) ZG)
  (Zy (A6 (Cu (Cz (ZF (ZD (Zf DN hr (Za (ZV (ZC 1) Zi) (Za (AS T.n_len (A0 (Zf ZB hr (Za (Zc 0) Ze)))) Ze))))) (CD (ZF (ZD (Zf DN hr (Za (ZV (ZC 1) Zi) (Za (AS T.n_len (A0 (Zf ZU hr (Za (Zc 0) Ze)))) Ze)))))))) (Zy (CJ Zx rfl T.x_BadPrices (Za BO Ze))) A7)))
theorem Xs(T:YX K mg)(Zr:Callee P w K mg base k "is_row" Zz)(DN:Callee P w K mg base k "is_price_row" Et)(ZB:Callee P w K mg base k "deeds_of" ZP)(ZU:Callee P w K mg base k "looks_of" Cc)(D:YU K mg "checked_prices" IK ["works","prices"]):Callee P w K mg base (k+1) "checked_prices" W7 :=
 D.ok O1 λ_ YQ A outer s H E hr=>by
  exact(Zt (Z2 (ZF (ZD (Zf Zr hr (Za (Zc 1) (Za Zi (Za Zi Ze)))))) (Zk ZQ) ZG)
  (Zt (Z2 (Cu (Cz (ZF (ZD (Zf DN hr (Za (ZV (ZC 1) Zi) (Za (AS T.n_len (A0 (Zf ZB hr (Za (Zc 0) Ze)))) Ze))))) (CD (ZF (ZD (Zf DN hr (Za (ZV (ZC 1) Zi) (Za (AS T.n_len (A0 (Zf ZU hr (Za (Zc 0) Ze)))) Ze)))))))) (Zk ZQ) ZG)
  (Zk (ZA (Zc 1)))))
theorem VE:Zp ["works","prices","costs"] ["works","prices"] (Zg Lc):=Y2
theorem Wr(T:YX K mg)(ZI:Callee P w K mg base k "checked" Z3)(Zn:Zl P w K mg base k "checked" Zn)(Z9:Zl P w K mg base k "checked_prices" Z9)(Fn:ax K "cheapest" "cheapest" Lc f fd)(hm:mg "cheapest"=Z (.ref f))(hb:Binds K fd ["works","prices"] []):Zl P w K mg base (k+1) "cheapest" DO :=
 ZW Fn VE hm hb λYQ A outer s H E hr=>by
  exact(ZJ (Be Zx.pass Zn hr (Za (Zc 0) Ze)) (Ce (Zf ZI hr (Za (Zc 0) Ze)))
  (Zy (Be Zx.pass Z9 hr (Za (Zc 0) (Za (Zc 1) Ze)))))
theorem OU:Zp ["_law_way","_law_works"] ["_law_way"] (Zg Lq):=Y2
theorem Xm(T:YX K mg)(Z8:Zl P w K mg base k "weakest_within" Z8)(Zn:Zl P w K mg base k "checked" Zn)(DI:Zl P w K mg base k "fewest" DI)(DJ:Zl P w K mg base k "doable" DJ)(DH:Zl P w K mg base k "after" DH)(DS:Zl P w K mg base k "deepest" DS)(DD:Zl P w K mg base k "run" DD)(DO:Zl P w K mg base k "cheapest" DO)(Fn:ax K "_law_deed_of" "_law_deed_of" Lq f fd)(hm:mg "_law_deed_of"=Z (.ref f))(hb:Binds K fd ["_law_way"] []):Zl P w K mg base (k+1) "_law_deed_of" DL :=
 ZW Fn OU hm hb λYQ A outer s H E hr=>by
  exact(ZJ JP (Bu 1 OU.nd (AZ (Za Zi (Za (AZ (Za (AZ (Za (AZ (Za Zi Ze)) Ze)) Ze)) (Za (AZ Ze) (Za (AZ (Za Zi Ze)) (Za (AZ (Za Zi Ze)) Ze)))))))
  (ZJ (A6 (Bg (bx hr) (Zc 0) Zi) (Zy (DC Zx.pass Zn hr (Za (AZ Ze) Ze))) A7) (Z2 (Bg (bx hr) (Zc 0) Zi) (Zk ZQ) ZG)
  (ZJ (A6 (Bg (bx hr) (Zc 0) Zi) (Zy (DC Zx.pass DI hr (Za (Zc 1) (Za (AZ (Za Zi Ze)) Ze)))) A7) (Z2 (Bg (bx hr) (Zc 0) Zi) (Zk ZQ) ZG)
  (ZJ (A6 (Bg (bx hr) (Zc 0) Zi) (Zy (DC Zx.pass DJ hr (Za (Zc 1) (Za (AZ Ze) Ze)))) A7) (Z2 (Bg (bx hr) (Zc 0) Zi) (Zk ZQ) ZG)
  (ZJ (A6 (Bg (bx hr) (Zc 0) Zi) (Zy (DC Zx.pass DH hr (Za (Zc 1) (Za (AZ (Za Zi Ze)) (Za Zi Ze))))) A7) (Z2 (Bg (bx hr) (Zc 0) Zi) (Zk ZQ) ZG)
  (ZJ (A6 (Bg (bx hr) (Zc 0) Zi) (Zy (DC Zx.pass DS hr (Za (Zc 1) (Za (AZ Ze) (Za (AZ Ze) Ze))))) A7) (Z2 (Bg (bx hr) (Zc 0) Zi) (Zk ZQ) ZG)
  (ZJ (A6 (Bg (bx hr) (Zc 0) Zi) (Zy (DC Zx.pass DD hr (Za (Zc 1) (Za (AZ Ze) (Za (AZ (Za (AZ (Za (AZ Ze) (Za (AZ (Za BO Ze)) Ze))) Ze)) (Za Zi (Za (Gh (HY Ze)) Ze))))))) A7) (Z2 (Bg (bx hr) (Zc 0) Zi) (Zk ZQ) ZG)
  (ZJ (A6 (Bg (bx hr) (Zc 0) Zi) (Zy (DC Zx.pass DO hr (Za (Zc 1) (Za (AZ Ze) Ze)))) A7) (Z2 (Bg (bx hr) (Zc 0) Zi) (Zk ZQ) ZG)
  (Zy (DC Zx.pass Z8 hr (Za (Zc 1) (Za RA Ze))))))))))))
theorem LG:Zp ["_law_way","_law_some","e"] ["_law_way"] (Zg Lv):=Y2
theorem Xb(T:YX K mg)(DL:Zl P w K mg base k "_law_deed_of" DL)(D:YU K mg "_law_kinds_of" Lv ["_law_way"]):Callee P w K mg base (k+1) "_law_kinds_of" Iz :=
 D.ok LG λ_ YQ A outer s H E hr=>by
  exact(Zt (El 1 LG.nd (HY Ze))
  (SM (i:=1) (j:=2) (y1:=["BadWorks","BadLooks","BadCrowd","BadDeed"]) (y2:=["BadPlan","BadRun","BadPrices"]) (y3:=["BadNumber"]) T.q (.cons (.cons (.cons (.cons .nil)))) (.cons (.cons (.cons .nil))) (.cons .nil) (by decide) rfl rfl LG.nd (λpn Eh E0 hp=>(Zy (Be hp DL hr (Za (Zc 0) Ze)))) T.n_isinstance (λy hy=>by rcases Ak.mp hy with rfl|hy;exact⟨rfl,by decide⟩;rcases Ak.mp hy with rfl|hy;exact⟨rfl,by decide⟩;rcases Ak.mp hy with rfl|hy;exact⟨rfl,by decide⟩;rcases Ak.mp hy with rfl|hy;exact⟨rfl,by decide⟩;rcases Ak.mp hy with rfl|hy;exact⟨rfl,by decide⟩;rcases Ak.mp hy with rfl|hy;exact⟨rfl,by decide⟩;rcases Ak.mp hy with rfl|hy;exact⟨rfl,by decide⟩;rcases Ak.mp hy with rfl|hy;exact⟨rfl,by decide⟩;cases hy) (by decide)))
noncomputable abbrev JU:mI:=["_law_script","_law_way"]
theorem NM:Zp JU ["_law_script"] (Zg DE):=Y2
theorem Sg(T:YX K mg)(K8:Callee P w K mg base k "_law_cell" DP)(Lr:Callee P w K mg base k "_law_kinds_of" Iz)(Fn:ax K "law" "law" DE f fd):AK P w K mg base bf (k+1) f fd ["_law_script"] (spD K 1 Ei) :=
 NH Fn NM λYQ A outer s H E hr=>by
  exact(Zt (Bu 1 NM.nd (CF iw (Zf K8 hr (Za (Zc 0) (Za Zi Ze))) Zi))
  (Zk (ZA (Gk (bx hr) (Zf Lr hr (Za (Zc 1) Ze)) (Gh (B0 rfl rfl (N:="_law_k" :: JU) (Bz (sc:=Zg DE) (XN:=JU)) (U3 T.n_range Zi) (λ_ _ _ _ _=>BB) (λ_ _ _ _ _=>(Gk (bx hr) (Zc 0) (Zc 2)))))))))
noncomputable def jO(K:Ad)(t:Nat)(cs:mE)(F:Hp)(a:Addr):Prop :=
 (t=9/\∃C,AN K Ar "Place"=Z (Z (.ref C))/\bc K C F cs a)\/(t=10/\cm F cs a)
noncomputable def i3:List (Addr×Str):=[]
@[reducible] noncomputable def eB(K:Ad):FX where
 tl:=i3
 fv:=jO K
 sw:=λhF aR h=>by
  rcases h with h|h
  .exact Ah (⟨h.1,let ⟨C,e,q⟩:=h.2;⟨C,e,q.sw hF aR⟩⟩)
  .exact Af ((⟨h.1,h.2.sw hF aR⟩))
 drop:=λh=>by
  rcases h with h|h
  .exact Ah (⟨h.1,let ⟨C,e,q⟩:=h.2;⟨C,e,q.drop⟩⟩)
  .exact Af ((⟨h.1,h.2.drop⟩))
 mono:=λh s=>by
  rcases h with h|h
  .exact Ah (⟨h.1,let ⟨C,e,q⟩:=h.2;⟨C,e,q.mono s⟩⟩)
  .exact Af ((⟨h.1,h.2.mono s⟩))
theorem XJ{st:Stmt}{oc:Value}{od an:Option Addr}{bO:Array (Option Value)}{kV aH pm YQ ct:Value}(X:K.In h)(G:h.Ns Ar mg)(a:AN K Ar x=Z (Z (.ref f)))(l:K.lookup f=Z ⟨oc,od,.func (BE x x (B9 st) (Bm st) (Zg st) .none kV aH pm an YQ ct),bO⟩)(c:D3 K YQ x=Y)(kp:B3 K (.ref f)=Y)(b:∀(kV aH pm:Value) (an:Option Addr) (YQ ct:Value) (us:mH),BX us=ps.length->bindArgs (BE x x (B9 st) (Bm st) (Zg st) .none kV aH pm an YQ ct) ⟨us,[]⟩=pure (ps.zip us)):YU K mg x st ps :=
 ⟨f,_,Eg l c kp,Bb X G a,(Eg l c kp).binds b⟩
end
structure Ds(K:Ad)(mg:mF):Prop where
 Ym:YU K mg "_law_cell" Lb ["_law_script","_law_k"]
 Ys:YU K mg "is_number" K5 ["thing","least","most"]
 Yr:YU K mg "is_rising" K4 ["thing","many"]
 Yl:YU K mg "is_crowd" Lg ["thing","many"]
 X6:YU K mg "is_row" KQ ["thing","least","most"]
 Yd:YU K mg "is_deed" Io ["thing","many"]
 Yq:YU K mg "are_deeds" Il ["thing","many"]
 Yc:YU K mg "is_look" Im ["thing","many"]
 Yp:YU K mg "are_looks" Ik ["thing","many"]
 Yo:YU K mg "are_works" K3 ["thing"]
 Yz:YU K mg "checked" Iv ["works"]
 YC:YU K mg "weakest_within" LK ["works","most"]
 Yk:YU K mg "looks_of" Le ["works"]
 YH:YU K mg "checked_looks" IC ["works","looks"]
 X5:YU K mg "fewest" KN ["works","looks"]
 Yn:YU K mg "states_of" K2 ["works"]
 YG:YU K mg "checked_crowd" IB ["works","crowd"]
 X4:YU K mg "doable" KO ["works","crowd"]
 Yj:YU K mg "deeds_of" Lf ["works"]
 YB:YU K mg "can_be_done" II ["works","crowd","deed"]
 YF:YU K mg "checked_deed" Iy ["works","crowd","deed"]
 XZ:YU K mg "after" Km ["works","crowd","deed"]
 Yi:YU K mg "is_sight" Ip ["thing","seen"]
 Yb:YU K mg "is_word" KA ["thing","word"]
 Ya:YU K mg "is_done" Kz ["step"]
 XY:YU K mg "is_do" Kl ["step"]
 Yt:YU K mg "is_row_for" Lz ["row","seen"]
 X9:YU K mg "goal_of" Lj ["works"]
 Yh:YU K mg "is_there" Iq ["works","crowd"]
 Yy:YU K mg "may_be_taken" Lx ["works","part","step"]
 Yu:YU K mg "seen_up_to" LA ["place"]
 Yx:YU K mg "checked_step" Lw ["works","place"]
 X8:YU K mg "seen_in" Iu ["works","looks","state"]
 X3:YU K mg "parted" Ie ["works","looks","crowd"]
 YE:YU K mg "places_in" GD ["works","looks","crowd","plan","ahead"]
 Yg:YU K mg "begin_of" Ld ["works"]
 X2:YU K mg "led_to" KP ["works","crowd","deed"]
 YJ:YU K mg "depths_in_plan" IM ["works","looks","plan"]
 X7:YU K mg "deepest" Kx ["works","looks","plan"]
 YD:YU K mg "check_run" Fm ["works","state","picks"]
 XO:YU K mg "run" JX ["works","looks","plan","state","picks"]
 Yw:YU K mg "is_price_row" Iw ["thing","many"]
 YI:YU K mg "checked_prices" IK ["works","prices"]
 Yf:YU K mg "cheapest" Lc ["works","prices"]
 YA:YU K mg "_law_deed_of" Lq ["_law_way"]
 Yv:YU K mg "_law_kinds_of" Lv ["_law_way"]
 pl:jJ K mg JL
 bp:JC K mg JV
section
variable[FX]{P:Program}{w:World}{K:Ad}{mg:mF}{base:Heap}{k:Nat}
theorem XH(T:YX K mg)(hV:∀t cs F a,FX.fv t cs F a↔jO K t cs F a)(hTL:FX.tl=i3)(Dd:Ds K mg)(kin:K.In base){f:Addr}{fd:FuncData}(Fn:ax K "law" "law" DE f fd):AK P w K mg base bf 10 f fd ["_law_script"] (spD K 1 Ei):=by
 have PL0:B5 P w K mg base 2:=by
  obtain⟨C,f,fd,b8,hm,hc,hn,M,Fi,hb⟩:=Dd.pl.ex;refine⟨C,λcs F a=>(hV 9 cs F a).trans ⟨λz=>?_,λz=>Ah ⟨rfl,C,b8,z⟩⟩,λcs F a=>(hV 10 cs F a).trans ⟨λz=>?_,λz=>Af (⟨rfl,z⟩)⟩,hc,hn,hm,f,fd,1,by decide,M,Qe hc hn Fi,hb⟩
  .rcases z with⟨_,C2,e,z⟩|⟨e,_⟩
   .rw[b8]at e
    cases e;exact z
   .exact absurd e (by decide)
  .rcases z with⟨e,_⟩|⟨_,z⟩
   .exact absurd e (by decide)
   .exact z
 have BI0:Ec P w K mg base 2 46:=Tv kin Dd.bp λC C0 fI fd h1 h2 h4 h5 h8 h9 fO=>QU h2 (λC2 e=>by rw[h1]at e;cases e;exact RM kin h4) h8 h9 fO h5;have K8:Callee P w K mg base 1 _ _:=WE T Dd.Ym;have Zm:Callee P w K mg base 1 _ _:=V8 T Dd.Ys;have ZN:Callee P w K mg base 2 _ _:=V7 T (YT Zm) Dd.Yr;have Dh:Callee P w K mg base 3 _ _:=WC T (YT ZN) Dd.Yl;have Zr:Callee P w K mg base 1 _ _:=UH T Dd.X6;have Kw:Callee P w K mg base 3 _ _:=VQ T (YT Zr) (YT ZN) Dd.Yd;have K1:Callee P w K mg base 4 _ _:=V5 T (YT Zr) (YT Kw) Dd.Yq;have Kv:Callee P w K mg base 2 _ _:=VO T (YT Zr) (YT Zm) Dd.Yc;have K0:Callee P w K mg base 3 _ _:=V3 T (YT Zr) (YT Kv) Dd.Yp;have Fe:Callee P w K mg base 5 _ _:=V2 T (YT Dh) (YT ZN) (YT Zr) (YT Zm) (YT K1) (YT K0) Dd.Yo;have ZI:Callee P w K mg base 6 _ _:=Vl T (YT Fe) Dd.Yz;have Zn:Zl P w K mg base 6 "checked" Zn:=by obtain⟨f,fd,F,m,b⟩:=Dd.Yz.ex;exact VJ T (YT Fe) F m b
 have Z8:Zl P w K mg base 7 "weakest_within" Z8:=by obtain⟨f,fd,F,m,b⟩:=Dd.YC.ex;exact Xp T (YT ZI) (YT Zm) (Zn.mono (by decide)) F m b
 have ZU:Callee P w K mg base 1 _ _:=WA T Dd.Yk;have Fl:Callee P w K mg base 3 _ _:=W6 T (YT ZN) (YT ZU) Dd.YH;have Zw:Zl P w K mg base 3 "checked_looks" Zw:=by obtain⟨f,fd,F,m,b⟩:=Dd.YH.ex;exact Xa T (YT ZN) (YT ZU) F m b
 have DI:Zl P w K mg base 7 "fewest" DI:=by obtain⟨f,fd,F,m,b⟩:=Dd.X5.ex;exact U6 T (YT ZI) (Zn.mono (by decide)) (Zw.mono (by decide)) F m b
 have ZX:Callee P w K mg base 1 _ _:=V0 T Dd.Yn;have LH:Callee P w K mg base 4 _ _:=W5 T (YT Dh) (YT ZX) Dd.YG;have ZH:Zl P w K mg base 4 "checked_crowd" ZH:=by obtain⟨f,fd,F,m,b⟩:=Dd.YG.ex;exact Xr T (YT Dh) (YT ZX) F m b
 have DJ:Zl P w K mg base 7 "doable" DJ:=by obtain⟨f,fd,F,m,b⟩:=Dd.X4.ex;exact U7 T (YT ZI) (Zn.mono (by decide)) (ZH.mono (by decide)) F m b
 have ZB:Callee P w K mg base 1 _ _:=Wy T Dd.Yj;have Dg:Callee P w K mg base 2 _ _:=WL T (YT ZB) Dd.YB;have XU:Callee P w K mg base 3 _ _:=Xh T (YT Zm) (YT Dg) (YT ZB) Dd.YF;have DM:Zl P w K mg base 3 "checked_deed" DM:=by obtain⟨f,fd,F,m,b⟩:=Dd.YF.ex;exact W3 T (YT Zm) (YT Dg) (YT ZB) F m b
 have DH:Zl P w K mg base 7 "after" DH:=by obtain⟨f,fd,F,m,b⟩:=Dd.XZ.ex;exact UR T (YT ZI) (YT LH) (Zn.mono (by decide)) (ZH.mono (by decide)) (DM.mono (by decide)) F m b
 have La:Callee P w K mg base 2 _ _:=Ww T (YT Zr) (YT Zm) Dd.Yi;have Fg:Callee P w K mg base 1 _ _:=Vj T Dd.Yb;have Ff:Callee P w K mg base 2 _ _:=Vh T (YT Zr) (YT Fg) Dd.Ya;have Fc:Callee P w K mg base 2 _ _:=TV T (YT Zr) (YT Fg) Dd.XY;have Ly:Callee P w K mg base 3 _ _:=WZ T (YT Zr) (YT La) (YT Ff) (YT Fc) Dd.Yt;have Ku:Callee P w K mg base 1 _ _:=Vf T Dd.X9;have K9:Callee P w K mg base 2 _ _:=VH T (YT Ku) Dd.Yh;have Lu:Callee P w K mg base 3 _ _:=Xf T (YT Ff) (YT K9) (YT Zm) (YT Dg) (YT ZB) Dd.Yy;have Eu:Callee P w K mg base 3 _ _:=WY T (PL0.mono (by decide)) Dd.Yu;have Ls:Callee P w K mg base 4 _ _:=Xe T (YT Ly) (YT Lu) (YT Eu) (PL0.mono (by decide)) Dd.Yx;have Ks:Callee P w K mg base 2 _ _:=Vd T (YT ZU) Dd.X8;have Fh:Callee P w K mg base 3 _ _:=UD T (YT Ks) Dd.X3;have Ij:Callee P w K mg base 4 _ _:=VZ T (YT Fh) (YT Zr) (YT Eu) (PL0.mono (by decide)) Dd.YE;have DQ:Zl P w K mg base 4 "places_in" DQ:=by obtain⟨f,fd,F,m,b⟩:=Dd.YE.ex;exact WV T (YT Fh) (YT Zr) (YT Eu) (BI0.mono (by decide)) F m b
 have Z7:Callee P w K mg base 1 _ _:=VF T Dd.Yg;have KL:Callee P w K mg base 2 _ _:=UC T (YT ZB) Dd.X2;have LJ:Callee P w K mg base 5 _ _:=Xt T (YT Ls) (YT Fc) (YT Ij) (YT Z7) (YT KL) (PL0.mono (by decide)) Dd.YJ;have ZE:Zl P w K mg base 5 "depths_in_plan" ZE:=by obtain⟨f,fd,F,m,b⟩:=Dd.YJ.ex;exact Xo T (YT Z7) (DQ.mono (by decide)) F m b
 have DS:Zl P w K mg base 7 "deepest" DS:=by obtain⟨f,fd,F,m,b⟩:=Dd.X7.ex;exact VA T (YT ZI) (YT Fl) (Zn.mono (by decide)) (Zw.mono (by decide)) (ZE.mono (by decide)) F m b
 have XM:Callee P w K mg base 2 _ _:=VY T (YT Zm) (YT Z7) (YT ZX) Dd.YD;have DR:Zl P w K mg base 2 "check_run" DR:=by obtain⟨f,fd,F,m,b⟩:=Dd.YD.ex;exact WS T (YT Zm) (YT Z7) (YT ZX) F m b
 have DD:Zl P w K mg base 7 "run" DD:=by obtain⟨f,fd,F,m,b⟩:=Dd.XO.ex;exact Ta T (YT ZI) (YT Fl) (YT LJ) (Zn.mono (by decide)) (Zw.mono (by decide)) (ZE.mono (by decide)) (DR.mono (by decide)) F m b
 have DN:Callee P w K mg base 2 _ _:=Xc T (YT Zr) (YT Zm) Dd.Yw;have X0:Callee P w K mg base 3 _ _:=Xs T (YT Zr) (YT DN) (YT ZB) (YT ZU) Dd.YI;have Z9:Zl P w K mg base 3 "checked_prices" Z9:=by obtain⟨f,fd,F,m,b⟩:=Dd.YI.ex;exact Xn T (YT Zr) (YT DN) (YT ZB) (YT ZU) F m b
 have DO:Zl P w K mg base 7 "cheapest" DO:=by obtain⟨f,fd,F,m,b⟩:=Dd.Yf.ex;exact Wr T (YT ZI) (Zn.mono (by decide)) (Z9.mono (by decide)) F m b
 have DL:Zl P w K mg base 8 "_law_deed_of" DL:=by obtain⟨f,fd,F,m,b⟩:=Dd.YA.ex;exact Xm T (Z8.mono (by decide)) (Zn.mono (by decide)) (DI.mono (by decide)) (DJ.mono (by decide)) (DH.mono (by decide)) (DS.mono (by decide)) (DD.mono (by decide)) (DO.mono (by decide)) F m b
 have Lr:Callee P w K mg base 9 _ _:=Xb T (DL.mono (by decide)) Dd.Yv;exact Sg (k:=9) T (YT K8) (YT Lr) Fn
end
theorem iW{l:Jb}{w:World}{K:Ad}{mg:mF}{fa f4:Addr}{kf ma:Option Addr}{fg:Array (Option Value)}{kg kj lZ ka jG l5:Value}(X:K.In h)(G:h.Ns Ar mg)(lb:mg "law"=Z (.ref fa))(T:YX K mg)(Dd:Ds K mg)(a4:AN K Ar "law"=Z (Z (.ref f4)))(l4:K.lookup f4=Z ⟨kg,kf,.func (BE "law" "law" (B9 DE) (Bm DE) (Zg DE) .none kj lZ ka ma jG l5),fg⟩)(c4:D3 K jG "law"=Y)(k4:B3 K (.ref f4)=Y):∃fd:FuncData,(∀(s:Shared) (v:Value),BindsTo s fd ⟨[v],[]⟩ [("_law_script",v)])/\∀base:Heap,K.In base->base.Ns Ar mg->BMod base mg->AK l.prog w K mg base bf 10 fa fd ["_law_script"] (@spD (eB K) K 1 Ei):=by
 have e:=lb.symm.trans (Bb X G a4);cases e;have lQ:FX:=aj;exact⟨_,λs v=>.of_eq rfl,λbase kin _ bm=>@XH (eB K) _ _ _ _ _ T (λ_ _ _ _=>Iff.rfl) rfl Dd kin _ _ (Eg (st:=DE) l4 c4 k4)⟩
theorem mj{l:Jb}{q:Program}{aW:mI}{XP:mF->Heap->Prop}{YP:World->Heap->Prop}{d:DefRec}{K:Params->Ad}(hn:l.most=Z 63)(er:d.params.defaults=[])(ON:∀ns:mB,BX ns<=63->Ei [.list (HM.Y0 ns)]=Z (.bool Y))(hY:∀(w:World) (h:Heap),YP w h->(K w.params).In h)(gW:∀(w:World) (h:Heap),YP w h->∀q∈([]:List (Addr×Addr)),h.get? q.2=Z (G6 #[]))(hT:∀(w:World),∀q∈([]:List (Addr×Addr)),GU (K w.params) q.1 q.2=Y/\(K w.params).lookup q.2=U)
  (F:∀(w:World) (mg:mF) (fa:Addr) (h:Heap),(K w.params).In h->h.Ns Ar mg->mg d.name=Z (.ref fa) ->
   ∃fd:FuncData,(∀(s:Shared) (u:Value),BindsTo s fd ⟨[u],[]⟩ [("_law_script",u)])/\∀base:Heap,(K w.params).In base->base.Ns Ar mg->BMod base mg->AK l.prog w (K w.params) mg base bf 10 fa fd ["_law_script"] (@spD (eB (K w.params)) (K w.params) 1 Ei)):
  PySem.W.WalkO q aW XP YP l.row.toRowW d [] (λf vs=>PySem.call f vs) :=
 RZ (n:=63) (k:=10) (x:="_law_script") (sp:=λw=>@spD (eB (K w.params)) (K w.params) 1 Ei) (tabs:=[]) hn (by decide) er ⟨rfl,by decide,by decide,rfl⟩ hY gW hT F λw H a ns hl hO hS=>@XG (eB (K w.params)) _ _ _ _ _ _ hO (λT q h=>by exact absurd (show(T,q)∈([]:List (Addr×Str)) from h) (by simp)) hS (ON ns hl)
section
variable{P:Program}{w:World}{K:Ad}{mg:mF}{base:Heap}{k:Nat}
noncomputable abbrev XC{K:Ad}(_:K.In h)(mg:mF):Prop:=Ds K mg
noncomputable abbrev Xz{K:Ad}(_:K.In h)(mg:mF):Prop:=YX K mg
theorem iV{mg:mF}{n:Str}{v:Value}{k:Int}(h:mg n=Z v)(e:∃t,v=.int k t):∃t,mg n=Z (.int k t):=by obtain⟨t,rfl⟩:=e;exact⟨t,h⟩
theorem u1{P:mH->Prop}(h:∀a0,P [a0]):∀us:mH,BX us=1->P us
 |[a0],_=>h a0
theorem u2{P:mH->Prop}(h:∀a0 a1,P [a0,a1]):∀us:mH,BX us=2->P us
 |[a0,a1],_=>h a0 a1
theorem u3{P:mH->Prop}(h:∀a0 a1 a2,P [a0,a1,a2]):∀us:mH,BX us=3->P us
 |[a0,a1,a2],_=>h a0 a1 a2
theorem u5{P:mH->Prop}(h:∀a0 a1 a2 a3 a4,P [a0,a1,a2,a3,a4]):∀us:mH,BX us=5->P us
 |[a0,a1,a2,a3,a4],_=>h a0 a1 a2 a3 a4
end
end HT
namespace PySem.W.Fast
theorem tw10004693340013372799:True:=⟨⟩
theorem tw1013786777699556453:True:=⟨⟩
theorem tw10202154515390574772:True:=⟨⟩
theorem tw10225028254318719790:True:=⟨⟩
theorem tw1036282280349531103:True:=⟨⟩
theorem tw10373779573961402681:True:=⟨⟩
theorem tw10498237572900688064:True:=⟨⟩
theorem tw10648689830956181398:True:=⟨⟩
theorem tw10702777037010667920:True:=⟨⟩
theorem tw10815260150012218779:True:=⟨⟩
theorem tw10830842956524334258:True:=⟨⟩
theorem tw10924191399560159378:True:=⟨⟩
theorem tw11162848694628493738:True:=⟨⟩
theorem tw11171852592462975633:True:=⟨⟩
theorem tw11226404727528828854:True:=⟨⟩
theorem tw1123727348253424932:True:=⟨⟩
theorem tw11296554985488948634:True:=⟨⟩
theorem tw11313719620829518031:True:=⟨⟩
theorem tw11329939825857007733:True:=⟨⟩
theorem tw11341881848519102775:True:=⟨⟩
theorem tw1134710657846470081:True:=⟨⟩
theorem tw1143001043872536604:True:=⟨⟩
theorem tw11460529022894055755:True:=⟨⟩
theorem tw11573212630283308426:True:=⟨⟩
theorem tw1167856718065864676:True:=⟨⟩
theorem tw11848311848143637075:True:=⟨⟩
theorem tw11967753859127340439:True:=⟨⟩
theorem tw12055350663343664240:True:=⟨⟩
theorem tw12081832901192414576:True:=⟨⟩
theorem tw12161475487771951813:True:=⟨⟩
theorem tw12178311737310357803:True:=⟨⟩
theorem tw12225529048306025593:True:=⟨⟩
theorem tw12491804872708027999:True:=⟨⟩
theorem tw12581336569852295422:True:=⟨⟩
theorem tw12595975625387395079:True:=⟨⟩
theorem tw12673883481005390490:True:=⟨⟩
theorem tw12692364917619448995:True:=⟨⟩
theorem tw12720166802645559021:True:=⟨⟩
theorem tw12736734204389274349:True:=⟨⟩
theorem tw13374847424542087576:True:=⟨⟩
theorem tw13415841990738716602:True:=⟨⟩
theorem tw13446212527840903625:True:=⟨⟩
theorem tw13543252050780767756:True:=⟨⟩
theorem tw13576660340702213892:True:=⟨⟩
theorem tw13604817284094528185:True:=⟨⟩
theorem tw13734441174903758624:True:=⟨⟩
theorem tw1377098186892480478:True:=⟨⟩
theorem tw13919736103165157947:True:=⟨⟩
theorem tw13955007144979660359:True:=⟨⟩
theorem tw13961285399447921604:True:=⟨⟩
theorem tw14058802456909699382:True:=⟨⟩
theorem tw14117895389551757715:True:=⟨⟩
theorem tw14175377121038303460:True:=⟨⟩
theorem tw14278149404752057209:True:=⟨⟩
theorem tw14305640068908408200:True:=⟨⟩
theorem tw14476875671009949165:True:=⟨⟩
theorem tw14489178190612711260:True:=⟨⟩
theorem tw1455041543406628830:True:=⟨⟩
theorem tw14711863672023341055:True:=⟨⟩
theorem tw14857908884422527011:True:=⟨⟩
theorem tw14993766829008255415:True:=⟨⟩
theorem tw15127271551614320034:True:=⟨⟩
theorem tw15135100989443098434:True:=⟨⟩
theorem tw15233622376162891846:True:=⟨⟩
theorem tw15289875918128723987:True:=⟨⟩
theorem tw15296405257598668479:True:=⟨⟩
theorem tw15377198840652014158:True:=⟨⟩
theorem tw15432343970290867574:True:=⟨⟩
theorem tw15556427469664073574:True:=⟨⟩
theorem tw15622690699031388310:True:=⟨⟩
theorem tw15722241563552846513:True:=⟨⟩
theorem tw15731947501312323560:True:=⟨⟩
theorem tw15895206754096388308:True:=⟨⟩
theorem tw16102488578959259082:True:=⟨⟩
theorem tw16121629699390256542:True:=⟨⟩
theorem tw16221021681139574102:True:=⟨⟩
theorem tw16295367697365269167:True:=⟨⟩
theorem tw16337956208426338916:True:=⟨⟩
theorem tw16341614431956649770:True:=⟨⟩
theorem tw16662365680898793586:True:=⟨⟩
theorem tw16717904722050589904:True:=⟨⟩
theorem tw16783593749790128227:True:=⟨⟩
theorem tw16915525810912920833:True:=⟨⟩
theorem tw17051032710854261834:True:=⟨⟩
theorem tw17098483294830679524:True:=⟨⟩
theorem tw17199529433689869653:True:=⟨⟩
theorem tw17227416661272151913:True:=⟨⟩
theorem tw17243584780584043085:True:=⟨⟩
theorem tw17264975053348447235:True:=⟨⟩
theorem tw17270330343247236090:True:=⟨⟩
theorem tw17307027637316344212:True:=⟨⟩
theorem tw17316083381909735713:True:=⟨⟩
theorem tw17323722977907926649:True:=⟨⟩
theorem tw17398699222073425058:True:=⟨⟩
theorem tw17441064723046911629:True:=⟨⟩
theorem tw17443082907701531994:True:=⟨⟩
theorem tw17469309843821662174:True:=⟨⟩
theorem tw1750547753768191223:True:=⟨⟩
theorem tw17520766066574835169:True:=⟨⟩
theorem tw17600876243294602138:True:=⟨⟩
theorem tw1779369785212964651:True:=⟨⟩
theorem tw17819619713318455640:True:=⟨⟩
theorem tw17841323560945575134:True:=⟨⟩
theorem tw17860290114334863187:True:=⟨⟩
theorem tw17898904805096194476:True:=⟨⟩
theorem tw17979330840497316514:True:=⟨⟩
theorem tw17992396899817539438:True:=⟨⟩
theorem tw18029040260998474893:True:=⟨⟩
theorem tw18166806567538115144:True:=⟨⟩
theorem tw18237924860808377432:True:=⟨⟩
theorem tw18242359784780350013:True:=⟨⟩
theorem tw1882595244095010223:True:=⟨⟩
theorem tw2031659910063373286:True:=⟨⟩
theorem tw2068045725806331098:True:=⟨⟩
theorem tw2149204236688994832:True:=⟨⟩
theorem tw2191838745048037874:True:=⟨⟩
theorem tw2422825923507817359:True:=⟨⟩
theorem tw2463370223392092902:True:=⟨⟩
theorem tw2470696164687698056:True:=⟨⟩
theorem tw2617484617389262767:True:=⟨⟩
theorem tw2719024981120162164:True:=⟨⟩
theorem tw2797760044559764045:True:=⟨⟩
theorem tw2859411864864509988:True:=⟨⟩
theorem tw2861070725653084926:True:=⟨⟩
theorem tw2868476319735912975:True:=⟨⟩
theorem tw2932437232886937945:True:=⟨⟩
theorem tw2984402607292672261:True:=⟨⟩
theorem tw2993849504960180220:True:=⟨⟩
theorem tw3025244192656773481:True:=⟨⟩
theorem tw3076860503460362918:True:=⟨⟩
theorem tw3161664596553942115:True:=⟨⟩
theorem tw3206929201466482229:True:=⟨⟩
theorem tw3223724177768610418:True:=⟨⟩
theorem tw3240759105623165638:True:=⟨⟩
theorem tw3263209159690573452:True:=⟨⟩
theorem tw3353524351566476774:True:=⟨⟩
theorem tw3394981292232479551:True:=⟨⟩
theorem tw3405130088913392811:True:=⟨⟩
theorem tw351098363497414463:True:=⟨⟩
theorem tw3626632977201508619:True:=⟨⟩
theorem tw3685626926175674814:True:=⟨⟩
theorem tw3771029912450680469:True:=⟨⟩
theorem tw386749334926362271:True:=⟨⟩
theorem tw3936648871903562378:True:=⟨⟩
theorem tw3950552153320266429:True:=⟨⟩
theorem tw3973994856091059442:True:=⟨⟩
theorem tw4036864088275842323:True:=⟨⟩
theorem tw4062009130535386248:True:=⟨⟩
theorem tw4189797440804923652:True:=⟨⟩
theorem tw4325905771034814269:True:=⟨⟩
theorem tw4450553918494441496:True:=⟨⟩
theorem tw4493471673139212519:True:=⟨⟩
theorem tw4542688220836025042:True:=⟨⟩
theorem tw4553028355969551762:True:=⟨⟩
theorem tw4580089064586755768:True:=⟨⟩
theorem tw4770418552311229696:True:=⟨⟩
theorem tw4827345368724213780:True:=⟨⟩
theorem tw4839400996065945396:True:=⟨⟩
theorem tw486685931775729703:True:=⟨⟩
theorem tw4882458283287088908:True:=⟨⟩
theorem tw5056449332325593424:True:=⟨⟩
theorem tw5082921518921104561:True:=⟨⟩
theorem tw524338981543147242:True:=⟨⟩
theorem tw5337946334888619476:True:=⟨⟩
theorem tw5458986928340245432:True:=⟨⟩
theorem tw5582956942859181989:True:=⟨⟩
theorem tw5742642194245882625:True:=⟨⟩
theorem tw5792892203784331589:True:=⟨⟩
theorem tw5824919269173129403:True:=⟨⟩
theorem tw6141531330766065739:True:=⟨⟩
theorem tw6210995456951223407:True:=⟨⟩
theorem tw6351910219349112090:True:=⟨⟩
theorem tw6429474865200795642:True:=⟨⟩
theorem tw647465026215282442:True:=⟨⟩
theorem tw6487909439701086353:True:=⟨⟩
theorem tw6612614092224830547:True:=⟨⟩
theorem tw6620243761758715763:True:=⟨⟩
theorem tw6634326630196170329:True:=⟨⟩
theorem tw6798190978384904953:True:=⟨⟩
theorem tw6832833559320676360:True:=⟨⟩
theorem tw6837701462908099773:True:=⟨⟩
theorem tw6839153087483397902:True:=⟨⟩
theorem tw7007384970374239056:True:=⟨⟩
theorem tw7138609899377761371:True:=⟨⟩
theorem tw7144555368780319566:True:=⟨⟩
theorem tw7217113033788215369:True:=⟨⟩
theorem tw7232600349398535583:True:=⟨⟩
theorem tw72664797674354986:True:=⟨⟩
theorem tw7280626820999517789:True:=⟨⟩
theorem tw7480484317457607599:True:=⟨⟩
theorem tw7494913337367368293:True:=⟨⟩
theorem tw7495233285323403719:True:=⟨⟩
theorem tw7529489731034502185:True:=⟨⟩
theorem tw7649938092094061345:True:=⟨⟩
theorem tw7655555170957892153:True:=⟨⟩
theorem tw7681135608212513216:True:=⟨⟩
theorem tw7705058034874024856:True:=⟨⟩
theorem tw7718345260027927553:True:=⟨⟩
theorem tw7795896237144750894:True:=⟨⟩
theorem tw7848257376364779836:True:=⟨⟩
theorem tw7891393525928906399:True:=⟨⟩
theorem tw801397011273748110:True:=⟨⟩
theorem tw8024265211861139626:True:=⟨⟩
theorem tw8189120267544168084:True:=⟨⟩
theorem tw8271277306024625673:True:=⟨⟩
theorem tw828240026038681210:True:=⟨⟩
theorem tw8349948636164564114:True:=⟨⟩
theorem tw8415800357718531720:True:=⟨⟩
theorem tw8469244204876437940:True:=⟨⟩
theorem tw8494830499379236191:True:=⟨⟩
theorem tw8523177119880906324:True:=⟨⟩
theorem tw8532692561522719418:True:=⟨⟩
theorem tw8600555471042857715:True:=⟨⟩
theorem tw8601314093140007495:True:=⟨⟩
theorem tw861661142656879459:True:=⟨⟩
theorem tw8626039870499749290:True:=⟨⟩
theorem tw8632953951214408825:True:=⟨⟩
theorem tw8745050849264987204:True:=⟨⟩
theorem tw8814967290221140429:True:=⟨⟩
theorem tw8867534024196509109:True:=⟨⟩
theorem tw8907647619987533336:True:=⟨⟩
theorem tw9066263149116252177:True:=⟨⟩
theorem tw9084028318476090361:True:=⟨⟩
theorem tw9287513454371670091:True:=⟨⟩
theorem tw9348431115508417044:True:=⟨⟩
theorem tw9386949844356209145:True:=⟨⟩
theorem tw9405031056858863207:True:=⟨⟩
theorem tw9428597557108476179:True:=⟨⟩
theorem tw9471645482369901395:True:=⟨⟩
theorem tw9639671608783366929:True:=⟨⟩
theorem tw9640192652879678892:True:=⟨⟩
theorem tw9741945033129701794:True:=⟨⟩
theorem tw9861724120464742030:True:=⟨⟩
end PySem.W.Fast
open PySem PySem.W PyProof.Rows
set_option maxRecDepth 100000 in
set_option maxHeartbeats 0 in
theorem PySem.Challenge.cw_halfseen_k32_refusals_stand_apart_holds : PySem.Challenge.rw_halfseen_k32_refusals_stand_apart.Holds := by
 w_on;o_law;k_head;(case hw=>w_witness2)
 k_fill
 refine HT.mj (l:=PySem.Challenge.rw_halfseen_k32_refusals_stand_apart) rfl rfl HG32.ON (λw h mq=>PySem.W.km_in_of mq) (λ_ _ _ q hq=>absurd hq (by simp)) (λ_ q hq=>absurd hq (by simp)) ?F
 case F =>
  intro w mg fa h KX G cY;have lQ:HP.FX:=HP.aj;have T:HT.Xz KX mg:=by
   refine⟨?_,?_,?_,?_,?_,?_,?_,?_,?_,?_,?_,?_,?_,?_,?_,?_,?_,?_,?_,?_,?_,?_,?_,?_,?_,?_,?_,?_,?_,?_⟩
   all_goals first
    |(refine PySem.W.mg_none_of KX G ?z;(case z=>k_is))
    |(refine' HT.iV (Bb KX G ?z) ?e;(case z=>k_is);(case e=>exact⟨_,rfl⟩))
    |(refine' HP.XD KX G ?a ?b ?c ?d ?e;(case a=>k_is);(case b=>k_is);(case c=>k_exc);(case d=>kernel_rfl);(case e=>kernel_rfl))
    |(refine' HP.X1 KX G ?a0 ?a1 ?a2 ?a3 ?a4 ?a5 ?a6 ?a7 ?a8 ?c;(case a0=>k_is);(case a1=>k_is);(case a2=>k_is);(case a3=>k_is);(case a4=>k_is);(case a5=>k_is);(case a6=>k_is);(case a7=>k_is);(case a8=>k_is);(case c=>kernel_rfl))
  have Dd:HT.XC KX mg:=by
   refine⟨?_,?_,?_,?_,?_,?_,?_,?_,?_,?_,?_,?_,?_,?_,?_,?_,?_,?_,?_,?_,?_,?_,?_,?_,?_,?_,?_,?_,?_,?_,?_,?_,?_,?_,?_,?_,?_,?_,?_,?_,?_,?_,?_,?_,?_,?_,?_,?_⟩
   all_goals first
    |(refine' HT.XJ KX G ?a ?l ?c ?k ?b;(case a=>k_is);(case l=>k_is);(case c=>k_is);(case k=>k_is);(case b=>first|exact λ_ _ _ _ _ _=>HT.u1 λ_=>rfl|exact λ_ _ _ _ _ _=>HT.u2 λ_ _=>rfl|exact λ_ _ _ _ _ _=>HT.u3 λ_ _ _=>rfl|exact λ_ _ _ _ _ _=>HT.u5 λ_ _ _ _ _=>rfl))
    |(refine' HP.XQ KX G ?aC ?a1 ?i1 ?l ?c ?k ?pg ?hd ?po ?sa ?mk ?kc ?n0 ?n1 ?n2 ?n3 ?n4 ?b;(case aC=>k_is);(case a1=>k_is);(case i1=>k_is);(case l=>k_is);(case c=>k_is);(case k=>k_is);(case pg=>k_is);(case hd=>k_is);(case po=>k_is);(case sa=>k_is);(case mk=>k_is);(case kc=>k_is);(case n0=>k_is);(case n1=>k_is);(case n2=>k_is);(case n3=>k_is);(case n4=>k_is);(case b=>exact λ_ _ _ _ _ _=>HT.u5 λ_ _ _ _ _=>rfl))
    |(refine' HP.XX KX G ?aC ?a0 ?a1 ?i1 ?l ?c ?k ?e1 ?s1 ?s4 ?s5 ?s6 ?z1 ?z2 ?z3 ?b;(case aC=>k_is);(case a0=>k_is);(case a1=>k_is);(case i1=>k_is);(case l=>k_is);(case c=>k_is);(case k=>k_is);(case e1=>kernel_rfl);(case s1=>kernel_rfl);(case s4=>kernel_rfl);(case s5=>kernel_rfl);(case s6=>kernel_rfl);(case z1=>kernel_rfl);(case z2=>kernel_rfl);(case z3=>kernel_rfl);(case b=>exact λ_ _ _ _ _ _=>HT.u2 λ_ _=>rfl))
  refine' HT.iW KX G cY T Dd ?a4 ?l4 ?c4 ?k4
  (case a4=>k_is);(case l4=>k_is);(case c4=>k_is);(case k4=>k_is)