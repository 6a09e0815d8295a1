import PyProof.Rows.All
import Wide.All
import OpenK.AllK
import Wide.FinOn
import Lean
import PyProof.EqAt
import PyProof.EqKinds
import PyProof.TupleCall
import PyProof.P3Statements
import PyProof.P3Eq
import PyProof.NeData
import PyProof.IsiPairs
import PyProof.IsiHeapPairs
import KE.LcSums
import PyProof.IsiNone
import PyProof.DictRoadsH
import PyProof.Rows.SetFrom
import PyProof.DictWalks
import PyProof.Rows.MinMaxN
import PyProof.Rows.SumAny
import PyProof.WalkInts
import PyProof.Draws
import PyProof.EnumMake
import PyProof.TupleIter
import PySem.Challenge.RW_halfseen_k18_luck
set_option Elab.async false
set_option linter.all false
set_option maxRecDepth 100000
set_option bootstrap.genMatcherCode false
open Option renaming some->Z,none->Z_
open Bool renaming true->Aa,false->Ab
open PySem renaming wpAny_bind->Ac,wpAny_pure->Ad,starEach->Ah,mainGlobals->Bg,wpAny_holding->B4,sizeLine_eq->BO,bootBuiltins->Ce,codeAny_builtin->Dj,wpAny_newObj_type->D2,compareOp->BP,behindInMarks->Di,wpAny_call_entry->Ep,wpAny_mono->Cu,wpAny_truthy_bool->EX,sysModules->CK,wpAny_setState_of->FE,mem_of_lookup->Gz,foldedSetIterable->Gx,codeAny_mono->Ek,lookup_relabel_local->JF,plainId_quiet->FH,wpAny_typeNameOfWhole_keyiter->N9,swapsWith->DU,wpAny_Call_Name_kw->JD,wpAny_passesOwn->HS,wpAny_ite_split->HR,attributeBase->GB,wpAny_typeNameOf_keyiter->Od,tupleKind_room_in1->Lo,wpAny_askSetting->Lj,sliceBounds->HC,putSet_of->Gq,assignEach->HI,wpAny_setField->Lr,wpAny_seqItems->Lq,wpAny_tryCatch->Lp,wpAny_pyIter_list->N4,wpAny_dictEntries->N3,wpAny_storeSet_of->NZ,ofAClassStatement->N7,keywordEach->JB,binaryOp->Gr,tupleKind->HB,wpAny_execs_nil->Nu,letOwnedTupleGo->Nt,wpAny_newFunctionEnv->Sb,intKind_is->Jn,wpAny_setEntries_of->R8,wpAny_runValue->NJ,wpAny_fieldsOf->NI,firstArgMember->NH,carriedByValue->NC,codeAmong->Jq,wpAny_attempt->Ny,wpAny_newList->NO,setSearchFrom->NN,wpAny_pyIter_slot->Sk,builtinsNs->Le,wpAny_call->Ld,call_meets->Lc,backToKw->Jm,setAddHashed->Nc,wpAny_isInstance->RR,wpAny_forIn_list->RP,wpAny_specialOf->RM,codeAny_of_tree->RY,pickOrder->Lf,wpAny_dictEpoch->RX,wpAny_updateSeq->RW,subscripted->Nj,wpAny_of_eq->Ni,unsupported->Nh,wpAny_letGo->Ng,hashByValue->Nf
open List renaming length_map->Af,mem_cons_self->An,mem_cons_of_mem->Ao,map_cons->Ak,mem_map->Aj,range->Ag,getElem?_eq_getElem->AN,all_eq_true->Au,getElem?_eq_some_iff->A1,length_append->AB,length_cons->Ay,mem_range->As,mem_singleton->AG,getElem?_map->AE,any_eq_true->AA,size_toArray->AL,mem_cons->Ax,map_map->Av,mem_of_getElem?->Bf,mem_filter->A9,mem_append->A8,mem_append_right->B6,map_append->Br,getElem?_set_ne->Cg,replicate->Bs,append_nil->BK,mem_filterMap->Cf,getElem?_append_right->D4,getElem?_cons_succ->DH,getElem?_append_left->Eo,length->Bx,find?_cons->Ct,length_range->C1,length_replicate->DY,pairwise_cons->Dg,filterMap_cons->DE,getElem?_set_self->En,nodup_cons->CG,mem_append_left->Er,length_take->DG,getD_eq_getElem?_getD->GH,mem_flatMap->D1,length_set->DZ,map_congr_left->FK,append_assoc->EW,all_cons->DF,foldl_cons->Eu,nodup_nil->Es,getD->Cq,length_singleton->HQ,min?_eq_some_iff->HN,length_filter_le->HL,getElem_mem->FD,filter_cons->FA,contains_eq_mem->HK,nodup_append->Gw,replicate_succ->HJ,any_cons->EN,lookup_cons->Gu,getElem?_eq_none->JC,mem_of_find?_eq_some->Lx,getElem_of_mem->JE,length_drop->HW,map_nil->FG,min?_eq_none_iff->Ly,flatten_cons->JI,pairwise_map->JH,getElem?_replicate->Ob,getElem?_cons_zero->Oa,nil_append->Jz,pairwise_lt_range->NT,eq_nil_of_length_eq_zero->So,flatMap_cons->Ll,set_getElem_self->NS,mergeSort_perm->NQ,length_pos_iff->NP,exists_mem_of_ne_nil->Sw,pairwise_mergeSort->Sq,find?_append->N2,find?_isSome->N6,filter_eq_nil_iff->Sx,map->Gp,not_mem_nil->Nx,contains_iff_mem->Sd,set_set->Li,mem_of_mem_take->Sa,find?_some->Nl,getElem?_range->R9,filter_eq_self->R7,ne_nil_of_mem->Sf,map_take->NA,map_drop->Nz,nodup_iff_pairwise_ne->YM,exists_cons_of_ne_nil->YL,foldl_append->RT,drop_eq_getElem_cons->Yj,pairwise_iff_getElem->Yi,getElem?_zip_eq_some->Yh,getElem?_take_of_lt->Yg,set_eq_of_length_le->Yf,cons_append->RQ,find?_range_eq_some->Yd,flatMap_nil->RO,length_filterMap_le->Yc,filter_cons_of_pos->Ya,filter_cons_of_neg->X9,of_mem_zip->RN,max?_eq_some_iff->Yp,dropLast_eq_take->Yo,take_append_drop->Yn,max?_eq_none_iff->Ym,all_nil->RK
open Option renaming map_eq_some_iff->Al,isSome_iff_exists->Dp,isSome_map->EV,map->DV,isSome->Jr,bind_eq_some_iff->Sr
open PySem.W renaming Frag->Ae,fnOf->Dh,keepIn->Et,codeHdIn->FC,nsIn->ER,codeIn->GD,tabObj->Jv,envX->JA,mg_of->Lu,kla_obj->Np,methodObj->Sm,OpenLaw->RV,cellsFrom_some->Yw,codeHd_of_K->X8,callWith_K->X5,FnAt->RL
open PySem.Heap renaming get?_push_of_some->Ar,lt_size->Aq,get?_push_size->AS,get?_update_self->Em,get?_update_other->HZ,SameBut->El,size_push->Fz,get?_push_ne->NW,size_update->Nv
open PySem.SetTable renaming below->Am,insertAt->AK,bits->AW,runEnd->B0,leap->B3,Probe->C3,insertAt_perm->FL,turns->D3,toList_insertAt->LB,tooFull->HU,fill->GG,fits->Ju,sizeAbove->N5,layClean->N0,fresh->NL,grown->RU,slot->R5,laid->R4
open Nat renaming le_refl->Ai,ne_of_lt->Aw,lt_of_lt_of_le->BC,zero_le->Bw,le_trans->BY,lt_irrefl->EO,le_of_lt->ET,lt_trans->ES,lt_succ_of_lt->HX,lt_succ_self->HV,le_of_not_lt->JG,not_lt_zero->Jw,le_of_lt_succ->Lm,ne_of_gt->HD,pow_le_pow_right->NR,blt_eq->HE,le_of_eq->Lh,succ_pos->Lg,add_right_comm->Sg,lt_trichotomy->Si,min_le_left->RZ,mod_lt->Nk
open Bool renaming and_eq_true->AJ,false_eq_true->BR,false_ne_true->C2,or_eq_true->Dl,eq_iff_iff->Jx,not_true->Jt,true_and->Js,and_false->Ls,not_false->NK,false_or->NB,and_self->R3
open Array renaming length_toList->A2,getElem?_toList->B5,getElem?_eq_getElem->EU,getElem?_eq_some_iff->GI,getD->CJ,toList_push->FF,getD_eq_getD_getElem?->N8,getElem?_eq_none->Sz,replicate->Nn,perm_iff_toList_perm->YC,toList_inj->RS,toList_filterMap->Yv,mem_toList_iff->Yz
open Or renaming inr->Ap,inl->AD
open PySem.F renaming called_set->Cw,plain_min_loop->HY,plainAttrs_list->LA,plain_list_iadd->NV,slot_list_append->Sv,type_list_append->Su,entry_min_loop->Sy,slot_dict_setdefault->YB,plain_proto_collect->YG,sub_list_frozenset->YD,entry_type_call->Yb,typeCall_set_1->Yu,entry_set_init->Yt,plain_set_new->Ys,slot_set_iter->Yr,sub_list_set->YA
open List.Nodup renaming length_le_of_subset->FJ
open PySem.Value renaming ref->A6,none->Bl,int->CZ,type->Fy
open PySem.PyData renaming int->Bq,eqv->BQ,tuple->Cv,bool->Dm,canLayAll0->Ln,depthAll->Nm,eqvAll->NM
open PySem.Around renaming under_plainId->DX,frames_deeper->Yl
open PySem.Heap.SameBut renaming update->DW,refl->Sl
open Option.some renaming inj->C0
open Classical renaming byContradiction->FI
open Ne renaming symm->A7
open False renaming elim->BZ
open PySem.Obj renaming putSet->CI,data_mapFields->Gy,mapSeq->HH,isFreed_of_fields->Se,cls_mapFields->Sj,mapFields->R0
open PySem.SetTable.probe renaming go->Gv
open Sum renaming inl->Cd,inr->HA
open PyProof.Rows.KeyOrd renaming kle_of_not_klt->Lz,kle_refl->Jy,kle_of_klt->NX,kle_trans->Nw,kle_antisymm->Yy
open PySem.Paired renaming length->GC
open PySem.NameKind renaming free->GA
open PySem.Builtin.List renaming listTooLong->Oe,listLengthHint->YH,listExtendWith->YF
open PySem.Str renaming ofString->GF
open PySem.Builtin.Range renaming rangeSize->Oc,small->Yx
open PySem.SetTable.layClean renaming free->NU
open PySem.Calls renaming call_function_entry->Sn,callWith_builtin->SA,spliced_cons->Sh,Name_function_global->YE,evalArgs_plain->Yk
open List.Pairwise renaming imp_of_mem->Ss
open True renaming intro->HF
open PySem.SetTable.below renaming go->N1
open Int renaming toNat_natCast->NY,toNat_of_nonneg->R6
open Function renaming comp->Lw
open ForInStep renaming yield->Nr
open PyProof.Rows renaming entry_list_sort->Nq,slot_list_sort->NG,args_list_sort->ND,callWith_type1->YI,sortedHeap->Lb
open PySem.Builtin.Frozenset renaming updateFrom->YK
open PySem.Builtin.Dict_items renaming ownsTuple->YJ
open PySem.Expr renaming Call->Jo
open PySem.Builtin.Tuple renaming tupleExact->Ye
open PySem.Builtin.Dict renaming showsAll->Yq
open PySem.Walks renaming list->Nd
open PySem.Shared renaming TypeIs->R1
open PySem.SeqAt.EqAt renaming int_str->X7,str_int->X6
noncomputable section
namespace L2
open PySem PySem.Spec PyProof.Rows
abbrev pU:=Sum Int Str
def GR:pU->Value->Bool
 | .inl k,v=>Value.isInt k v
 | .inr x,v=>Value.isStrOf x v
def Y6(w:World):pU->Int
 | .inl k=>hashInt k
 | .inr x=>hashStr w x
theorem EM:∀{k:pU} {v:Value},GR k v=Aa->(∃i t,k=Cd i/\v=CZ i t)\/(∃x t,k=HA x/\v=Value.str x t)
 | .inl i,v,h=>by obtain⟨t,e⟩:=Value.isInt_shape (k:=i) (v:=v) h;exact .inl ⟨i,t,rfl,e⟩
 | .inr x,v,h=>by obtain⟨t,e⟩:=Value.isStrOf_shape (x:=x) (v:=v) h;exact .inr ⟨x,t,rfl,e⟩
theorem iF(i:Int)(t:Tok):GR (.inl i) (.int i t)=Aa:=by simp[GR,Value.isInt]
theorem i9(x:Str)(t:Tok):GR (.inr x) (.str x t)=Aa:=by simp[GR,Value.isStrOf]
theorem c6(a b:Int):decide ((Cd a:pU)=Cd b)=(a==b):=by
 by_cases e:a=b
 .subst e;simp
 .have h:¬(Cd a:pU)=Cd b:=λq=>e (Sum.inl.inj q)
  rw[decide_eq_false h];exact(beq_eq_false_iff_ne.mpr e).symm
theorem bx(a b:Str):decide ((HA a:pU)=HA b)=decide (a=b):=by
 by_cases e:a=b
 .subst e;simp
 .have h:¬(HA a:pU)=HA b:=λq=>e (Sum.inr.inj q)
  rw[decide_eq_false h,decide_eq_false e]
theorem aL(a:Int)(b:Str):decide ((Cd a:pU)=HA b)=Ab:=decide_eq_false (λq=>nomatch q)
theorem aY(a:Str)(b:Int):decide ((HA a:pU)=Cd b)=Ab:=decide_eq_false (λq=>nomatch q)
def BN(prog:Program)(w:World):PySem.KeyKind prog w pU where
 is:=GR
 hash:=Y6 w
 inj:=λv a b ha hb=>by
  rcases EM ha with⟨i,t,rfl,rfl⟩|⟨x,t,rfl,rfl⟩
  .rcases EM hb with⟨j,u,rfl,e⟩|⟨y,u,rfl,e⟩
   .injection e with e1 _;rw[e1]
   .exact nomatch e
  .rcases EM hb with⟨j,u,rfl,e⟩|⟨y,u,rfl,e⟩
   .exact nomatch e
   .injection e with e1 _;rw[e1]
 byValue:=λk v h=>by rcases EM h with⟨i,t,rfl,rfl⟩|⟨x,t,rfl,rfl⟩<;>rfl
 pyHash:=λhv h=>by
  rcases EM hv with⟨i,t,rfl,rfl⟩|⟨x,t,rfl,rfl⟩
  .exact wpAny_pyHash_int h
  .exact wpAny_pyHash_str h
 eqBool:=λhu hv h=>by
  rcases EM hu with⟨i,t,rfl,rfl⟩|⟨x,t,rfl,rfl⟩
  .rcases EM hv with⟨j,u,rfl,rfl⟩|⟨y,u,rfl,rfl⟩
   .rw[c6]at h;exact wpAny_eqBool_int h
   .rw[aL]at h;exact X7 i t y u _ _ _ _ h
  .rcases EM hv with⟨j,u,rfl,rfl⟩|⟨y,u,rfl,rfl⟩
   .rw[aY]at h;exact X6 x t j u _ _ _ _ h
   .rw[bx]at h;exact wpAny_eqBool_str h
 «strs»:=λk x t v h=>by
  rcases EM h with⟨i,u,rfl,e⟩|⟨y,u,rfl,e⟩
  .exact nomatch e
  .injection e with e1 _
   subst e1;cases v<;>rfl
theorem jr(prog:Program)(w:World)(k:pU)(v:Value):(BN prog w).is k v=GR k v:=rfl
theorem kN(prog:Program)(w:World)(i:Int)(t:Tok):(BN prog w).is (.inl i) (.int i t)=Aa:=iF i t
theorem kK(prog:Program)(w:World)(x:Str)(t:Tok):(BN prog w).is (.inr x) (.str x t)=Aa:=i9 x t
section
variable{a b:Addr}{o:HO}{h:Heap}{H:Hp}
inductive V where
 |non|bl (b:Bool)|int (i:Int)|str (x:Str)|byt (b:Array UInt8)|flt (b:UInt64)|ref (a:Addr)|ty (n:String)
 deriving DecidableEq
def RelV:V->Value->Prop
 | .non,u=>u=Bl
 | .bl b,u=>u=Value.bool b
 | .int i,u=>∃t,u=CZ i t
 | .str x,u=>∃t,u=Value.str x t
 | .byt b,u=>∃t,u=Value.bytes b t
 | .flt b,u=>∃t,u=Value.float b t
 | .ref a,u=>u=A6 a
 | .ty n,u=>u=Fy n
abbrev pQ:List V->List Value->Prop:=Paired RelV
theorem pQ.length{xs:List V}{us:List Value}(r:pQ xs us):xs.length=us.length:=GC r
theorem pQ.get:∀{xs:List V} {us:List Value} {i:Nat} {x:V},pQ xs us->xs[i]?=Z x->∃u,us[i]?=Z u/\RelV x u
 |_,_,_,_,.nil,e=>by simp at e
 |_,_,0,_,.cons r _,e=>by simp at e;subst e;exact⟨_,rfl,r⟩
 |_,_,i+1,x,.cons _ t,e=>by obtain⟨u,h1,h2⟩:=pQ.get (i:=i) (x:=x) t (by simpa using e);exact⟨u,by simpa using h1,h2⟩
theorem pQ.set{x:V}{u:Value}(r:RelV x u):∀{xs:List V} {us:List Value} (i:Nat),pQ xs us->pQ (xs.set i x) (us.set i u)
 |_,_,_,.nil=>.nil
 |_,_,0,.cons _ t=>.cons r t
 |_,_,i+1,.cons q t=>.cons q (pQ.set r i t)
theorem pQ.append:∀{xs ys:List V} {us ws:List Value},pQ xs us->pQ ys ws->pQ (xs++ys) (us++ws)
 |_,_,_,_,.nil,s=>s
 |_,_,_,_,.cons r t,s=>.cons r (pQ.append t s)
theorem pQ.take:∀{xs:List V} {us:List Value} (n:Nat),pQ xs us->pQ (xs.take n) (us.take n)
 |_,_,0,_=>.nil
 |_,_,_+1,.nil=>.nil
 |_,_,n+1,.cons r t=>.cons r (pQ.take n t)
theorem pQ.drop:∀{xs:List V} {us:List Value} (n:Nat),pQ xs us->pQ (xs.drop n) (us.drop n)
 |_,_,0,r=>r
 |_,_,_+1,.nil=>.nil
 |_,_,n+1,.cons _ t=>pQ.drop n t
def EB:Option V->Option Value->Prop
 |some v,Z u=>RelV v u
 |none,Z_=>True
 |_,_=>False
def KV{κ:Type}:List (κ×V)->List (κ×Value)->Prop:=Paired λ(p:κ×V) (q:κ×Value)=>p.1=q.1/\RelV p.2 q.2
def kV:pU->V
 | .inl i=>.int i
 | .inr x=>.str x
inductive HO where
 |lst (xs:List V)
 |tup (xs:List V)
 |dK (kvs:List (pU×V))|dT (kvs:List (List pU×V))
 |set (S:Int->Bool) (n:Nat)
 |ins (C dx:Addr) (fs:List (Str×V))
 |own (x:Addr)
 |xd (fs:List (Str×V))
 |met (f x:Addr)
 |rng (lo hi:Int)
 |frz (o:Obj) (u:HO)
 |tbl (ps:Array Value)
 |ext (φ:Heap->Prop)
abbrev Hp:=Addr->Option HO
def upd(H:Hp)(a:Addr)(o:HO):Hp:=λb=>if b=a then Z o else H b
theorem ZD:upd H a o a=Z o:=by unfold upd;rw[if_pos rfl]
theorem ZA(h:b≠a):upd H a o b=H b:=by unfold upd;rw[if_neg h]
theorem SY{u:HO}(h:H a=Z o)(h':H b=Z u)(d:o≠u):a≠b:=by intro e;subst e;rw[h]at h';exact d (C0 h')
theorem CW(h:H a=Z o)(h':H b=Z_):a≠b:=by intro e;subst e;rw[h]at h';cases h'
section
variable(P:Program)(w:World)
def ZT(H:Hp)(h:Heap)(a:Addr):HO->Prop
 | .lst xs=>xs.length<=sizeLine/\∃(pO:List Value) (n:Nat),pQ xs pO/\h.get? a=Z {cls:=.type "list",data:=.seq pO.toArray n}
 | .tup xs=>xs.length<=sizeLine/\∃pO:List Value,pQ xs pO/\IsTup h a pO.toArray
 | .dK kvs=>kvs.length<=sizeLine/\(a==CK)=Ab/\∃vs,KV kvs vs/\h.DictOf (BN P w) a vs
 | .dT kvs=>kvs.length<=sizeLine/\(a==CK)=Ab/\∃xs:List (List pU×Addr×Value),
   Paired (λ(p:List pU×V) (q:List pU×Addr×Value)=>p.1=q.1/\H q.2.1=Z (.tup (p.1.map kV))/\RelV p.2 q.2.2) kvs xs /\
   ∃o es ep,h.get? a=Z o/\o.ExactDict/\o.data=.dict es ep/\es.toList=xs.map (entryOfKey (HB (BN P w)))/\(xs.map (·.1)).Nodup
 | .set S n=>h.SetOf (intKind P w) a S n
 | .ins C dx fs=>H dx=Z (.own a)/\fs.length<=1000/\dx≠a/\h.get? a=Z (PySem.W.instObj C dx) /\
   ∃mA,h.Ns1 dx mA/\(∀f,EB (fs.lookup f) (mA f))/\PySem.Within mA (fs.map (·.1))
 | .own _=>∃o,h.get? a=Z o
 | .xd fs=>∃mA,h.Ns1 a mA/\∀f,EB (fs.lookup f) (mA f)
 | .rng lo hi=>∃t u v,h.get? a=Z {cls:=.type "range",data:=.fields #[.int lo t,.int hi u,.int 1 v]}
 | .frz o u=>h.get? a=Z o/\ZT H h a u
 | .tbl ps=>h.get? a=Z {cls:=.none,data:=.fields ps}
 | .met f x=>h.get? a=Z (Sm (.ref f) (.ref x))
 | .ext φ=>φ h/\(∃o,h.get? a=Z o)/\∀h1 h2:Heap,φ h1->(∀o,h1.get? a=Z o->h2.get? a=Z o)->φ h2
def qE(H:Hp)(h:Heap):Prop:=∀a o,H a=Z o->ZT P w H h a o
end
section
variable{P:Program}{w:World}{H H':Hp}{h h':Heap}{a:Addr}{o:HO}
theorem ZT.lt(x:ZT P w H h a o):a<h.objs.size:=by
 cases o with
 |lst xs=>obtain⟨_,_,_,_,e⟩:=x;exact Aq e
 |tup xs=>obtain⟨_,_,_,p⟩:=x;exact p.lt
 |dK kvs=>obtain⟨_,_,_,_,o,_,_,e,_⟩:=x;exact Aq e
 |dT kvs=>obtain⟨_,_,_,_,o,_,_,e,_⟩:=x;exact Aq e
 |set S n=>obtain⟨o,_,_,_,e,_⟩:=x;exact Aq e
 |ins C dx fs=>obtain⟨_,_,_,e,_⟩:=x;exact Aq e
 |own y=>obtain⟨_,e⟩:=x;exact Aq e
 |xd fs=>obtain⟨_,⟨_,_,_,e,_⟩,_⟩:=x;exact Aq e
 |rng lo hi=>obtain⟨_,_,_,e⟩:=x;exact Aq e
 |frz ob u=>obtain⟨e,_⟩:=x;exact Aq e
 |tbl ps=>exact Aq (show h.get? a=Z _ from x)
 |met f y=>exact Aq (show h.get? a=Z _ from x)
 |ext φ=>obtain⟨_,⟨_,e⟩,_⟩:=x;exact Aq e
theorem Paired.mapP{α β:Type}{F G:α->β->Prop}:∀{l₁:List α} {l₂:List β},Paired F l₁ l₂->(∀a b,F a b->G a b)->Paired G l₁ l₂
 |_,_,.nil,_=>.nil
 |_,_,.cons r t,f=>.cons (f _ _ r) (Paired.mapP t f)
theorem ZT.stay(x:ZT P w H h a o)(k:∀b u,(b=a\/H b=Z (.own a))->h.get? b=Z u->h'.get? b=Z u)(ho:∀b,H b=Z (.own a)->H' b=Z (.own a))(ht:∀b xs,H b=Z (.tup xs)->H' b=Z (.tup xs)):ZT P w H' h' a o:=by
 induction o with
 |lst xs=>obtain⟨z,pO,n,r,e⟩:=x;exact⟨z,pO,n,r,k _ _ (.inl rfl) e⟩
 |tup xs=>obtain⟨z,pO,r,ob,e,c⟩:=x;exact⟨z,pO,r,ob,k _ _ (.inl rfl) e,c⟩
 |dK kvs=>obtain⟨z,y,vs,r,ob,es,ep,e,c⟩:=x;exact⟨z,y,vs,r,ob,es,ep,k _ _ (.inl rfl) e,c⟩
 |dT kvs=>obtain⟨z,y,xs,r,ob,es,ep,e,c⟩:=x;exact⟨z,y,xs,Paired.mapP r λp q z=>⟨z.1,ht _ _ z.2.1,z.2.2⟩,ob,es,ep,k _ _ (.inl rfl) e,c⟩
 |set S n=>obtain⟨ob,es,ep,t,e,c⟩:=x;exact⟨ob,es,ep,t,k _ _ (.inl rfl) e,c⟩
 |ins C dx fs=>obtain⟨d,z,ne,e,mA,⟨od,es,ep,e2,c⟩,r⟩:=x;exact⟨ho _ d,z,ne,k _ _ (.inl rfl) e,mA,⟨od,es,ep,k _ _ (.inr d) e2,c⟩,r⟩
 |own y=>obtain⟨ob,e⟩:=x;exact⟨ob,k _ _ (.inl rfl) e⟩
 |xd fs=>obtain⟨mA,⟨od,es,ep,e,c⟩,r⟩:=x;exact⟨mA,⟨od,es,ep,k _ _ (.inl rfl) e,c⟩,r⟩
 |rng lo hi=>obtain⟨t,u,v,e⟩:=x;exact⟨t,u,v,k _ _ (.inl rfl) e⟩
 |frz ob u ih=>obtain⟨e,q⟩:=x;exact⟨k _ _ (.inl rfl) e,ih q⟩
 |tbl ps=>have e:h.get? a=Z {cls:=.none,data:=.fields ps}:=x;show h'.get? a=Z {cls:=.none,data:=.fields ps};exact k a _ (.inl rfl) e
 |met f y=>have e:h.get? a=Z (Sm (.ref f) (.ref y)):=x;show h'.get? a=Z (Sm (.ref f) (.ref y));exact k a _ (.inl rfl) e
 |ext φ=>obtain⟨p,⟨o,e⟩,st⟩:=x;exact⟨st _ _ p λo q=>k _ _ (.inl rfl) q,⟨o,k _ _ (.inl rfl) e⟩,st⟩
theorem qE.lt(x:qE P w H h)(e:H a=Z o):a<h.objs.size:=(x a o e).lt
theorem qE.fresh(x:qE P w H h)(e:h.objs.size<=a):H a=Z_:=by
 cases q:H a with
 |none=>rfl
 |some u=>exact absurd (BC (x.lt q) e) (EO _)
theorem qE.kept(x:qE P w H h)(k:∀b u,h.get? b=Z u->h'.get? b=Z u):qE P w H h':=λa o e=>(x a o e).stay (λb u _ q=>k b u q) (λ_ q=>q) λ_ _ q=>q
theorem qE.laid(x:qE P w H h)(k:∀b u,h.get? b=Z u->h'.get? b=Z u)(hp:h.objs.size<=a)(new:ZT P w (upd H a o) h' a o):qE P w (upd H a o) h':=λb u e=>by
 have hn:=x.fresh hp
 by_cases hb:b=a
 .subst hb;rw[ZD]at e;cases e;exact new
 .rw[ZA hb]at e
  exact(x b u e).stay (λc v _ q=>k c v q) (λc q=>by rw[ZA (CW q hn)];exact q) λc xs q=>by rw[ZA (CW q hn)];exact q
end
def Rd(H:Hp)(a:Addr)(u:HO):Prop:=H a=Z u\/∃o,H a=Z (.frz o u)
theorem Rd.ok{P:Program}{w:World}{H:Hp}{h:Heap}{a:Addr}{u:HO}(r:Rd H a u)(x:qE P w H h):ZT P w H h a u:=by
 rcases r with r|⟨o,r⟩
 .exact x a u r
 .obtain⟨_,q⟩:=x a _ r
  exact q
def xC:Option HO->Prop
 |some (.lst _)=>True
 |some (.dK _)=>True
 |some (.dT _)=>True
 |some (.set _ _)=>True
 |some (.ins _ _ _)=>True
 |some (.ext _)=>True
 |_=>False
section
variable{P:Program}{w:World}{H:Hp}{h h':Heap}{x e:Addr}{o':HO}
theorem qE.write(ok:qE P w H h)(mu:xC (H x))(he:e=x\/H e=Z (.own x))(k:∀b u,b≠e->h.get? b=Z u->h'.get? b=Z u)(wH:∃u,h'.get? e=Z u)(new:ZT P w (upd H x o') h' x o'):qE P w (upd H x o') h':=λb u q=>by
 have xH:∀c y,H c=Z (.own y)->c≠x:=λc y r z=>by subst z;rw[r]at mu;exact mu
 have zR:∀c xs,H c=Z (.tup xs)->c≠x:=λc xs r z=>by subst z;rw[r]at mu;exact mu
 by_cases hb:b=x
 .subst hb;rw[ZD]at q;cases q;exact new
 .rw[ZA hb]at q
  by_cases hbe:b=e
  .have q':H b=Z (.own x):=by
    rcases he with z|z
    .exact absurd (hbe.trans z) hb
    .rw[hbe];exact z
   rw[q]at q';cases q';obtain⟨v,hv⟩:=wH;exact⟨v,by rw[hbe];exact hv⟩
  .refine(ok b u q).stay (λc v hc r=>k c v ?_ r) (λc r=>by rw[ZA (xH c b r)];exact r) λc xs r=>by rw[ZA (zR c xs r)];exact r
   rcases hc with rfl|hc
   .exact hbe
   .rintro rfl
    rcases he with z|z
    .exact xH c b hc z
    .rw[hc]at z;cases z;exact hb rfl
end
structure Un(fs ex:List Addr)(H H':Hp)(h h':Heap):Prop where
 keep:∀b o,h.get? b=Z o->H b=Z_->b∉fs->b∉ex->h'.get? b=Z o
 slot:∀b o,h.get? b=Z o->H b=Z_->b∈fs->b∉ex->∃sl,h'.get? b=Z {o with slots:=sl}
 free:∀b o,h.get? b=Z o->H b=Z_->b∉ex->H' b=Z_
 there:∀b o,h.get? b=Z o->b∉ex->∃o',h'.get? b=Z o'
 tups:∀b xs,H b=Z (.tup xs)->H' b=Z (.tup xs)
 frzs:∀b o u,H b=Z (.frz o u)->H' b=Z (.frz o u)
 tbls:∀b ps,H b=Z (.tbl ps)->∃more,H' b=Z (.tbl (ps++more))
section
variable{fs fs' ex ex':List Addr}{H H1 H2:Hp}{h h1 h2 h':Heap}{a x e:Addr}{o:HO}
theorem Un.any(u:Un fs ex H H1 h h1){ob:Obj}(q:h.get? b=Z ob)(n:H b=Z_)(hx:b∉ex):∃sl,h1.get? b=Z {ob with slots:=sl}:=by
 by_cases hb:b∈fs
 .exact u.slot b ob q n hb hx
 .exact⟨ob.slots,u.keep b ob q n hb hx⟩
theorem Un.kept(k:∀b u,h.get? b=Z u->h'.get? b=Z u):Un fs ex H H h h' :=
 ⟨λb ob q _ _ _=>k b ob q,λb ob q _ _ _=>⟨ob.slots,k b ob q⟩,λ_ _ _ n _=>n,λb ob q _=>⟨ob,k b ob q⟩,λ_ _ q=>q,λ_ _ _ q=>q,λ_ ps q=>⟨#[],by rw[q];simp⟩⟩
theorem Un.refl:Un fs ex H H h h:=Un.kept λ_ _ q=>q
theorem Un.laid(k:∀b u,h.get? b=Z u->h'.get? b=Z u)(hp:h.objs.size<=a)(hn:H a=Z_):Un fs ex H (upd H a o) h h' where
 keep:=λb u q _ _ _=>k b u q
 slot:=λb u q _ _ _=>⟨u.slots,k b u q⟩
 free:=λb u q n _=>by rw[ZA (Aw (BC (Aq q) hp))];exact n
 there:=λb u q _=>⟨u,k b u q⟩
 tups:=λb xs q=>by rw[ZA (CW q hn)];exact q
 frzs:=λb u xs q=>by rw[ZA (CW q hn)];exact q
 tbls:=λb ps q=>⟨#[],by rw[ZA (CW q hn),q];simp⟩
theorem Un.write(mu:xC (H x))(he:e=x\/H e=Z (.own x))(k:∀b u,b≠e->h.get? b=Z u->h'.get? b=Z u)(wH:∃u,h'.get? e=Z u):Un fs ex H (upd H x o) h h':=by
 have hx:∀b,H b=Z_->b≠x:=λb n z=>by subst z;rw[n]at mu;exact mu
 have hb:∀b,H b=Z_->b≠e:=λb n z=>by
  subst z;rcases he with r|r
  .exact hx b n r
  .rw[n]at r;cases r
 have hm:∀b u,H b=Z u->¬xC (Z u)->b≠x:=λb u q nm z=>by subst z;rw[q]at mu;exact nm mu
 refine⟨λb u q n _ _=>k b u (hb b n) q,λb u q n _ _=>⟨u.slots,k b u (hb b n) q⟩,λb u q n _=>by rw[ZA (hx b n)];exact n,λb u q _=>?_,
  λb xs q=>by rw[ZA (hm b _ q λz=>z)];exact q,λb u xs q=>by rw[ZA (hm b _ q λz=>z)];exact q,λb ps q=>⟨#[],by rw[ZA (hm b _ q λz=>z),q];simp⟩⟩
 by_cases hbe:b=e
 .subst hbe;exact wH
 .exact⟨u,k b u hbe q⟩
end
def xZ(h:Heap)(H:Hp):List Addr:=(Ag h.objs.size).filter λa=>(H a).isSome
def EA(h:Heap)(H:Hp):Heap:=PySem.W.hideAll h (xZ h H)
theorem jG(h:Heap)(H:Hp):(EA h H).objs.size=h.objs.size:=PySem.W.hideAll_size _ _
theorem fL{o:Obj}(e:h.get? b=Z o)(n:H b=Z_):(EA h H).get? b=Z o :=
 PySem.W.hideAll_get _ e λhm=>by have q:(H b).isSome=Aa:=(A9.mp hm).2;rw[n]at q;simp at q
theorem di{o:Obj}(e:(EA h H).get? b=Z o):h.get? b=Z o/\H b=Z_:=by
 have e':h.get? b=Z o:=PySem.W.of_hideAll (xZ h H) e;refine⟨e',?_⟩;cases q:H b with
 |none=>rfl
 |some x=>have hm:b∈xZ h H:=A9.mpr ⟨As.mpr (Aq e'),by simp[q]⟩;have z:(EA h H).get? b=Z_:=PySem.W.hideAll_none (xZ h H) hm;rw[z]at e;cases e
end
section
variable{A:Around}{ch:List Addr}{i t':Nat}{x:Str}{u:Value}{E:Value->Shared->Prop}
structure Mod(K:Ae)(mg:Str->Option Value)(base:Heap):Prop where
 kin:K.In base
 glob:base.Ns Bg mg
 blt:∃mb,base.Ns Le mb/\∀x:Str,x ≠ "__name__"->mb x=Ce x
 nolimit:base.NoLimit
structure Cx where
 prog:Program
 w:World
 K:Ae
 mg:Str->Option Value
 base:Heap
 A:Around
 N:List Str
 s₀:Shared
 H₀:Hp
 env:Env
 outer:List Env
 stack:List Env
 ex:List Addr
 fn:Str->Bool
 calm:Bool
 pn:List (Addr×Obj)
 xe:Value->Shared->Prop
def tp(l:List Env):List Addr:=l.filterMap (·.frame)
abbrev Cx.fs(X:Cx):List Addr:=tp X.outer
def so(sc:Scope)(x:Str):Prop:=sc.names.lookup x=Z .local\/sc.names.lookup x=Z .cell\/sc.names.lookup x=Z .free
def Loc(sc:Scope)(x:Str):Prop:=sc.names.lookup x=Z .local\/sc.names.lookup x=Z .cell
def Look(env:Env)(h:Heap)(m:Str->Option Value)(x:Str)(u:Value):Prop :=
 (env.kindOf x=Z .local/\m x=Z u)\/((env.kindOf x=Z .cell\/env.kindOf x=Z .free)/\∃c,env.cells.lookup x=Z c/\h.IsCell c (Z u))
structure Cx.Ok(X:Cx):Prop where
 mod:Mod X.K X.mg X.base
 kind:X.env.scope.kind=.function
 glob:X.env.globals=Bg
 blt:X.env.builtins=Le
 above:X.s₀.heap.objs.size<=X.env.locals
 inj:∀x y c,X.env.cells.lookup x=Z c->X.env.cells.lookup y=Z c->x=y
 has:∀x,(X.env.kindOf x=Z .cell\/X.env.kindOf x=Z .free)->∃c,X.env.cells.lookup x=Z c
 cab:∀x c,X.fn x=Aa->X.env.cells.lookup x=Z c->X.s₀.heap.objs.size<=c
 hd:X.calm=Aa->X.A.handled=Z_
 frames:X.A.frames=Z X.stack
 stk:X.stack=X.outer\/(X.stack=X.env::X.outer/\X.env.frame=Z X.env.locals)
 exf:∀b∈X.ex,b≠X.env.locals/\∀x c,X.env.cells.lookup x=Z c->c≠b
 bs:∀b o,X.base.get? b=Z o->X.s₀.heap.get? b=Z o/\X.H₀ b=Z_
 bsz:X.base.objs.size<=X.s₀.heap.objs.size
 noex:∀b o,X.base.get? b=Z o->b∉X.ex
 exfs:∀b∈X.ex,b∉X.fs
 funs:X.s₀.heap.FunFrames X.base X.outer
 frf:∀b∈X.fs,X.H₀ b=Z_
structure Inv(X:Cx)(pM:List (Addr×Obj))(J:List (Option V))(H:Hp)(s:Shared):Prop where
 ok:X.Ok
 os:s.os=X.s₀.os
 bare:AllBare s.gens
 base:Un X.fs X.ex X.H₀ H X.s₀.heap s.heap
 loc:∃m,s.heap.Ns X.env.locals m/\∀(i:Nat) (x:Str) (v:V),X.N[i]?=Z x->J[i]?=Z (Z v)->so X.env.scope x->∃u,RelV v u/\Look X.env s.heap m x u
 cell:∀x c,X.env.cells.lookup x=Z c->∃v,s.heap.IsCell c v
 free:H X.env.locals=Z_
 freeC:∀x c,X.env.cells.lookup x=Z c->H c=Z_
 pin:∀p∈X.pn++pM,s.heap.get? p.1=Z p.2/\H p.1=Z_/\p.1≠X.env.locals/\p.1∉X.fs/\∀v,p.2.data≠.cell v
 hok:qE X.prog X.w H s.heap
 len:J.length=X.N.length
section
variable{X:Cx}{pM:List (Addr×Obj)}{J:List (Option V)}{H H':Hp}{s:Shared}{h':Heap}
theorem Cx.Ok.nofr(ok:X.Ok){b:Addr}{o:Obj}(e:X.base.get? b=Z o):b∉X.fs:=λhb=>by have:=(ok.funs.mem hb).1;rw[e]at this;cases this
theorem Inv.bs(I:Inv X pM J H s):∀b o,X.base.get? b=Z o->s.heap.get? b=Z o/\H b=Z_:=λb o e=>⟨I.base.keep b o (I.ok.bs b o e).1 (I.ok.bs b o e).2 (I.ok.nofr e) (I.ok.noex b o e),I.base.free b o (I.ok.bs b o e).1 (I.ok.bs b o e).2 (I.ok.noex b o e)⟩
theorem Inv.bk(I:Inv X pM J H s):∀b o,X.base.get? b=Z o->s.heap.get? b=Z o:=λb o e=>(I.bs b o e).1
theorem Inv.mod(I:Inv X pM J H s):Mod X.K X.mg X.base:=I.ok.mod
theorem Inv.kIn(I:Inv X pM J H s):X.K.In s.heap:=I.ok.mod.kin.keeps I.bk
theorem Inv.lt(I:Inv X pM J H s):X.env.locals<s.heap.objs.size:=let ⟨_,hn,_⟩:=I.loc;hn.lt
theorem Inv.sz(I:Inv X pM J H s):X.s₀.heap.objs.size<=s.heap.objs.size:=BY I.ok.above (ET I.lt)
theorem Inv.nofs(I:Inv X pM J H s){a:Addr}(h:s.heap.objs.size<=a):a∉X.fs:=λhb=>by obtain⟨_,o,ho,_⟩:=I.ok.funs.mem hb;exact absurd (BC (Aq ho) (BY I.sz h)) (EO _)
theorem Inv.cne(I:Inv X pM J H s):∀x c,X.env.cells.lookup x=Z c->c≠X.env.locals:=λx c e z=>by obtain⟨v,o,ho,hd⟩:=I.cell x c e;obtain⟨m,⟨o',es,ep,ho',hd',_⟩,_⟩:=I.loc;rw[z,ho']at ho;cases ho;rw[hd']at hd;cases hd
theorem Inv.funs(I:Inv X pM J H s):s.heap.FunFrames X.base X.outer:=by
 have all:∀(l:List Env),(∀b∈tp l,b∈X.fs)->X.s₀.heap.FunFrames X.base l->s.heap.FunFrames X.base l:=by
  intro l
  induction l with
  |nil=>intro _ _;trivial
  |cons env r ih=>intro hs hl;obtain⟨hk,⟨L,o,hf,hn,ho,hd⟩,hr⟩:=hl;have hL:L∈X.fs:=hs L (by unfold tp;rw[DE,hf];exact An);obtain⟨sl,e⟩:=I.base.slot L o ho (I.ok.frf L hL) hL λz=>I.ok.exfs L z hL;exact⟨hk,⟨L,_,hf,hn,e,hd⟩,ih (λb hb=>hs b (by unfold tp;rw[DE,hf];exact Ao _ hb)) hr⟩
 exact all X.outer (λ_ hb=>hb) I.ok.funs
theorem Inv.stack(I:Inv X pM J H s):s.heap.FunFrames X.base X.stack:=by
 rcases I.ok.stk with e|⟨e,hf⟩
 .rw[e];exact I.funs
 .rw[e]
  obtain⟨m,hn,_⟩:=I.loc;refine .cons (by rw[I.ok.kind];decide) hf hn ?_ I.funs;exact Heap.get?_none_of_le (BY I.ok.bsz I.ok.above)
theorem Inv.stkSub(I:Inv X pM J H s):∀b∈tp X.stack,b∈X.env.locals::X.fs:=λb hb=>by
 rcases I.ok.stk with e|⟨e,hf⟩
 .rw[e]at hb;exact Ao _ hb
 .rw[e]at hb
  unfold tp at hb;rw[DE,hf]at hb;exact hb
theorem Inv.stkFree(I:Inv X pM J H s):∀b∈tp X.stack,H b=Z_:=λb hb=>by
 rcases Ax.mp (I.stkSub b hb)with e|hb
 .rw[e];exact I.free
 .obtain⟨_,o,ho,_⟩:=I.ok.funs.mem hb
  exact I.base.free b o ho (I.ok.frf b hb) λz=>I.ok.exfs b z hb
theorem Inv.step{g':Array GenState}{t':Nat}{d':Drawn}{ch:List Addr}(I:Inv X pM J H s)(uS:∀b∈ch,(b∈X.ex\/X.s₀.heap.objs.size<=b)/\b≠X.env.locals/\(∀x c,X.env.cells.lookup x=Z c->c≠b)/\∀p∈X.pn++pM,p.1≠b)(keep:∀b o,b≠X.env.locals->b∉X.fs->b∉ch->s.heap.get? b=Z o->H b=Z_->h'.get? b=Z o)(slot:∀b o,b≠X.env.locals->b∈X.fs->b∉ch->s.heap.get? b=Z o->H b=Z_->∃sl,h'.get? b=Z {o with slots:=sl})(free:∀b o,b∉ch->s.heap.get? b=Z o->H b=Z_->H' b=Z_)(there:∀b o,b∉ch->s.heap.get? b=Z o->∃o',h'.get? b=Z o')(tups:∀b xs,H b=Z (.tup xs)->H' b=Z (.tup xs))(frzs:∀b o u,H b=Z (.frz o u)->H' b=Z (.frz o u))(tbls:∀b ps,H b=Z (.tbl ps)->∃more,H' b=Z (.tbl (ps++more)))(ns:∀m,s.heap.Ns X.env.locals m->h'.Ns X.env.locals m)(hok:qE X.prog X.w H' h')(hg:AllBare g'):Inv X pM J H' {s with heap:=h',gens:=g',drawn:=d',toks:=t'}:=by
 have w5:∀b o,X.s₀.heap.get? b=Z o->b≠X.env.locals:=λb o e=>Aw (BC (Aq e) I.ok.above);have vZ:∀b o,X.s₀.heap.get? b=Z o->b∉X.ex->b∉ch:=λb o e hx hb=>by
  rcases(uS b hb).1 with z|z
  .exact hx z
  .exact absurd (BC (Aq e) z) (EO _)
 have vU:∀x c,X.env.cells.lookup x=Z c->∀v,s.heap.IsCell c v->h'.IsCell c v:=λx c e v ⟨o,ho,hd⟩=>by
  have w6:c∉ch:=λz=>(uS c z).2.2.1 x c e rfl
  by_cases hc:c∈X.fs
  .obtain⟨sl,q⟩:=slot c o (I.cne x c e) hc w6 ho (I.freeC x c e)
   exact⟨_,q,hd⟩
  .exact⟨o,keep c o (I.cne x c e) hc w6 ho (I.freeC x c e),hd⟩
 refine⟨I.ok,I.os,hg,⟨λb o e n hb hx=>?_,λb o e n hb hx=>?_,λb o e n hx=>?_,λb o e hx=>?_,λb xs e=>tups b xs (I.base.tups b xs e),λb o xs e=>frzs b o xs (I.base.frzs b o xs e),λb ps e=>?_⟩,?_,λx c e=>?_,?_,λx c e=>?_,λp hp=>?_,hok,I.len⟩
 .exact keep b o (w5 b o e) hb (vZ b o e hx) (I.base.keep b o e n hb hx) (I.base.free b o e n hx)
 .obtain⟨sl,e1⟩:=I.base.slot b o e n hb hx
  obtain⟨sl',e2⟩:=slot b _ (w5 b o e) hb (vZ b o e hx) e1 (I.base.free b o e n hx);exact⟨sl',e2⟩
 .obtain⟨o',e1⟩:=I.base.there b o e hx
  exact free b o' (vZ b o e hx) e1 (I.base.free b o e n hx)
 .obtain⟨o',e1⟩:=I.base.there b o e hx
  exact there b o' (vZ b o e hx) e1
 .obtain⟨m1,e1⟩:=I.base.tbls b ps e
  obtain⟨m2,e2⟩:=tbls b _ e1;exact⟨m1++m2,by rw[e2,Array.append_assoc]⟩
 .obtain⟨m,hn,hl⟩:=I.loc
  refine⟨m,ns m hn,λi x v e1 e2 e3=>?_⟩;obtain⟨u,r,l⟩:=hl i x v e1 e2 e3;refine⟨u,r,?_⟩;rcases l with l|⟨k,c,e,z⟩
  .exact .inl l
  .exact .inr ⟨k,c,e,vU x c e _ z⟩
 .obtain⟨v,z⟩:=I.cell x c e
  exact⟨v,vU x c e v z⟩
 .obtain⟨m,⟨o,_,_,ho,_⟩,_⟩:=I.loc
  exact free _ o (λz=>(uS _ z).2.1 rfl) ho I.free
 .obtain⟨v,o,ho,hd⟩:=I.cell x c e
  exact free c o (λz=>(uS c z).2.2.1 x c e rfl) ho (I.freeC x c e)
 .obtain⟨e,n,ne,nf,d⟩:=I.pin p hp
  have w6:p.1∉ch:=λz=>(uS p.1 z).2.2.2 p hp rfl;exact⟨keep p.1 p.2 ne nf w6 e n,free p.1 p.2 w6 e n,ne,nf,d⟩
theorem Inv.un(I:Inv X pM J H s)(u:Un X.fs [] H H' s.heap h')(hok:qE X.prog X.w H' h'):Inv X pM J H' {s with heap:=h',toks:=t'}:=by obtain⟨m,⟨o,es,ep,ho,r⟩,_⟩:=id I.loc;obtain⟨sl,hL⟩:=u.any ho I.free (by simp);exact I.step (g':=s.gens) (d':=s.drawn) (ch:=[]) (λ_ z=>nomatch z) (λb o _ hb _ e n=>u.keep b o e n hb (by simp)) (λb o _ hb _ e n=>u.slot b o e n hb (by simp)) (λb o _ e n=>u.free b o e n (by simp)) (λb o _ e=>u.there b o e (by simp)) u.tups u.frzs u.tbls (λm' hm=>by obtain⟨o',es',ep',ho',r'⟩:=hm;rw[ho]at ho';cases ho';exact⟨_,es',ep',hL,r'⟩) hok I.bare
theorem Inv.call{g':Array GenState}{d':Drawn}(I:Inv X pM J H s)(u:Un (tp X.stack) ch H H' s.heap h')(hok:qE X.prog X.w H' h')(hg:AllBare g')(uS:∀b∈ch,(b∈X.ex\/X.s₀.heap.objs.size<=b)/\b≠X.env.locals/\(∀x c,X.env.cells.lookup x=Z c->c≠b)/\∀p∈X.pn++pM,p.1≠b):Inv X pM J H' {s with heap:=h',gens:=g',drawn:=d',toks:=t'}:=by
 obtain⟨m,⟨o,es,ep,ho,r⟩,_⟩:=id I.loc;obtain⟨sl,hL⟩:=u.any ho I.free λz=>(uS _ z).2.1 rfl;exact I.step (ch:=ch) uS (λb o hL hb hc e n=>u.keep b o e n (λz=>(Ax.mp (I.stkSub b z)).elim hL hb) hc) (λb o _ _ hc e n=>u.any e n hc) (λb o hc e n=>u.free b o e n hc) (λb o hc e=>u.there b o e hc) u.tups u.frzs u.tbls (λm' hm=>by obtain⟨o',es',ep',ho',r'⟩:=hm;rw[ho]at ho';cases ho';exact⟨_,es',ep',hL,r'⟩) hok hg
theorem Inv.turned{it:Addr}(I:Inv X pM J H s)(k:∀b o,b≠it->s.heap.get? b=Z o->h'.get? b=Z o)(hn:H it=Z_)(hL:it≠X.env.locals)(h1:it∈X.ex\/X.s₀.heap.objs.size<=it)(h2:∀x c,X.env.cells.lookup x=Z c->c≠it)(h3:∀p∈X.pn++pM,p.1≠it):Inv X pM J H {s with heap:=h',toks:=t'}:=by
 have nit:∀b u,H b=Z u->b≠it:=λb u e z=>by rw[z,hn]at e;cases e
 refine I.step (g':=s.gens) (d':=s.drawn) (ch:=[it]) (λb hb=>?_) (λb o _ _ hc e _=>k b o (λz=>hc (by simp[z])) e) (λb o _ _ hc e _=>⟨o.slots,k b o (λz=>hc (by simp[z])) e⟩) (λ_ _ _ _ n=>n)
  (λb o hc e=>⟨o,k b o (λz=>hc (by simp[z])) e⟩) (λ_ _ e=>e) (λ_ _ _ e=>e) (λb ps e=>⟨#[],by rw[e];simp⟩) (λm hm=>?_) (λb u e=>?_) I.bare
 .have e:b=it:=by simpa using hb
  subst e;exact⟨h1,hL,h2,h3⟩
 .obtain⟨o,es,ep,ho,r⟩:=hm
  exact⟨o,es,ep,k _ o (A7 hL) ho,r⟩
 .refine(I.hok b u e).stay (λc v hc q=>k c v ?_ q) (λ_ q=>q) λ_ _ q=>q
  rcases hc with z|z
  .rw[z];exact nit b u e
  .exact nit c _ z
theorem Inv.tok(I:Inv X pM J H s)(t:Nat):Inv X pM J H {s with toks:=t}:=I.un (h':=s.heap) (t':=t) Un.refl I.hok
theorem Inv.kept{t':Nat}(I:Inv X pM J H s)(k:∀b u,s.heap.get? b=Z u->h'.get? b=Z u):Inv X pM J H {s with heap:=h',toks:=t'}:=I.un (Un.kept k) (I.hok.kept k)
theorem Inv.laid{a:Addr}{o:HO}{t':Nat}(I:Inv X pM J H s)(k:∀b u,s.heap.get? b=Z u->h'.get? b=Z u)(hp:s.heap.objs.size<=a)(new:ZT X.prog X.w (upd H a o) h' a o):Inv X pM J (upd H a o) {s with heap:=h',toks:=t'}:=I.un (Un.laid k hp (I.hok.fresh hp)) (I.hok.laid k hp new)
theorem Inv.write{x e:Addr}{o:HO}{t':Nat}(I:Inv X pM J H s)(mu:xC (H x))(he:e=x\/H e=Z (.own x))(k:∀b u,b≠e->s.heap.get? b=Z u->h'.get? b=Z u)(wH:∃u,h'.get? e=Z u)(new:ZT X.prog X.w (upd H x o) h' x o):Inv X pM J (upd H x o) {s with heap:=h',toks:=t'}:=I.un (Un.write mu he k wH) (I.hok.write mu he k wH new)
theorem Inv.weak{σ':List (Option V)}(I:Inv X pM J H s)(hl:σ'.length=J.length)(w:∀(i:Nat) v,σ'[i]?=Z (Z v)->J[i]?=Z (Z v)):Inv X pM σ' H s :=
 ⟨I.ok,I.os,I.bare,I.base,let ⟨m,hn,hl'⟩:=I.loc;⟨m,hn,λi x v e1 e2 e3=>hl' i x v e1 (w i v e2) e3⟩,I.cell,I.free,I.freeC,I.pin,I.hok,hl.trans I.len⟩
theorem Inv.pins_of{pins':List (Addr×Obj)}(I:Inv X pM J H s)(h:∀p∈pins',s.heap.get? p.1=Z p.2/\H p.1=Z_/\p.1≠X.env.locals/\p.1∉X.fs/\∀v,p.2.data≠.cell v):Inv X pins' J H s :=
 ⟨I.ok,I.os,I.bare,I.base,I.loc,I.cell,I.free,I.freeC,λp hp=>(A8.mp hp).elim (λz=>I.pin p (Er _ z)) (h p),I.hok,I.len⟩
theorem Ve{N:List Str}(hN:N.Nodup){j:Nat}(a:N[i]?=Z x)(b:N[j]?=Z x):i=j:=by obtain⟨h1,e1⟩:=A1.mp a;obtain⟨h2,e2⟩:=A1.mp b;exact(List.getElem_inj hN).mp (e1.trans e2.symm)
theorem V0{M:Model}{v:V}{Q:Unit->Shared->Prop}(I:Inv X pM J H s)(hN:X.N.Nodup)(hi:X.N[i]?=Z x)(hx:Loc X.env.scope x)(r:RelV v u)(h:∀s',Inv X pM (J.set i (Z v)) H s'->(∃a,El a s.heap s'.heap/\(a=X.env.locals\/X.env.cells.lookup x=Z a))->Q () s')(hf:X.fn x=Aa\/X.env.scope.names.lookup x=Z .local:=by first|exact .inl rfl|exact .inr rfl|assumption):wpAny M A (storeName X.env x u) Q E s:=by
 obtain⟨m,hn,hl⟩:=id I.loc;have hcls:(X.env.scope.kind==.class||(X.env.scope.kind==.module&&X.env.locals != X.env.globals))=Ab:=by rw[I.ok.kind];rfl
 have hiσ:i<J.length:=by rw[I.len];exact(A1.mp hi).1
 have cne:=I.cne;have sr:∀{a:Addr} {h':Heap},(∃o,s.heap.get? a=Z o/\H a=Z_)->El a s.heap h'->qE X.prog X.w H h':=λ{a h'} ha hs b ob e=>by
  obtain⟨_,_,qX⟩:=ha;refine(I.hok b ob e).stay (λc w' hc q=>(hs.2 c ?_).trans q) (λ_ q=>q) λ_ _ q=>q
  rintro rfl
  rcases hc with rfl|hc
  .rw[qX]at e;cases e
  .rw[qX]at hc;cases hc
 rcases hx with hk|hk
 .refine wpAny_storeName_local hk hn (λh' hn' hs=>?_) hcls
  obtain⟨oL,_,_,tj,_⟩:=id hn;refine h _ ⟨I.ok,I.os,I.bare,⟨λb o e n hb hx=>?_,λb o e n hb hx=>?_,I.base.free,λb o e hx=>?_,I.base.tups,I.base.frzs,I.base.tbls⟩,⟨_,hn',λj y v' e1 e2 e3=>?_⟩,λy c e=>?_,I.free,I.freeC,λp hp=>?_,sr ⟨oL,tj,I.free⟩ hs,by simpa using I.len⟩ ⟨_,hs,.inl rfl⟩
  .exact(hs.2 b (Aw (BC (Aq e) I.ok.above))).trans (I.base.keep b o e n hb hx)
  .obtain⟨sl,e1⟩:=I.base.slot b o e n hb hx
   exact⟨sl,(hs.2 b (Aw (BC (Aq e) I.ok.above))).trans e1⟩
  .obtain⟨o',e1⟩:=I.base.there b o e hx
   exact⟨o',(hs.2 b (Aw (BC (Aq e) I.ok.above))).trans e1⟩
  .by_cases hj:j=i
   .subst hj
    rw[hi]at e1;cases e1;rw[En hiσ]at e2;cases e2;exact⟨u,r,.inl ⟨hk,by simp⟩⟩
   .rw[Cg (A7 hj)]at e2
    obtain⟨u',r',q⟩:=hl j y v' e1 e2 e3;refine⟨u',r',?_⟩;rcases q with⟨k,e⟩|⟨k,c,e,z⟩
    .refine .inl ⟨k,?_⟩
     have:y≠x:=λe=>hj (Ve hN e1 (e▸hi));simp[this,e]
    .exact .inr ⟨k,c,e,z.sameBut hs (cne y c e)⟩
  .obtain⟨w',z⟩:=I.cell y c e
   exact⟨w',z.sameBut hs (cne y c e)⟩
  .obtain⟨e,n,ne,nf,d⟩:=I.pin p hp
   exact⟨(hs.2 p.1 ne).trans e,n,ne,nf,d⟩
 .have zj:X.fn x=Aa:=by
   rcases hf with z|z
   .exact z
   .rw[z]at hk;cases hk
  obtain⟨c,hc⟩:=I.ok.has x (.inl hk);obtain⟨w',z⟩:=I.cell x c hc;refine wpAny_storeName_cell I.ok.kind hk hc z (λh' hc' hs=>?_);obtain⟨oc,hoc,hocd⟩:=id z;refine h {s with heap:=h'} ⟨I.ok,I.os,I.bare,⟨λb o e n hb hx=>?_,λb o e n hb hx=>?_,I.base.free,λb o e hx=>?_,I.base.tups,I.base.frzs,I.base.tbls⟩,⟨m,hn.sameBut hs (A7 (cne x c hc)),λj y v' e1 e2 e3=>?_⟩,λy c' e=>?_,I.free,I.freeC,λp hp=>?_,sr ⟨oc,hoc,I.freeC x c hc⟩ hs,by simpa using I.len⟩ ⟨c,hs,.inr hc⟩
  .exact(hs.2 b (Aw (BC (Aq e) (I.ok.cab x c zj hc)))).trans (I.base.keep b o e n hb hx)
  .obtain⟨sl,e1⟩:=I.base.slot b o e n hb hx
   exact⟨sl,(hs.2 b (Aw (BC (Aq e) (I.ok.cab x c zj hc)))).trans e1⟩
  .obtain⟨o',e1⟩:=I.base.there b o e hx
   exact⟨o',(hs.2 b (Aw (BC (Aq e) (I.ok.cab x c zj hc)))).trans e1⟩
  .by_cases hj:j=i
   .subst hj
    rw[hi]at e1;cases e1;rw[En hiσ]at e2;cases e2;exact⟨u,r,.inr ⟨.inl hk,c,hc,hc'⟩⟩
   .rw[Cg (A7 hj)]at e2
    obtain⟨u',r',q⟩:=hl j y v' e1 e2 e3;refine⟨u',r',?_⟩;rcases q with q|⟨k,c',e,z'⟩
    .exact .inl q
    .refine .inr ⟨k,c',e,z'.sameBut hs ?_⟩
     rintro rfl
     exact hj (Ve hN e1 (I.ok.inj _ _ _ e hc▸hi))
  .by_cases uT:c'=c
   .subst uT;exact⟨_,hc'⟩
   .obtain⟨w2,z2⟩:=I.cell y c' e
    exact⟨w2,z2.sameBut hs uT⟩
  .obtain⟨e,n,ne,nf,d⟩:=I.pin p hp
   refine⟨(hs.2 p.1 ?_).trans e,n,ne,nf,d⟩;intro q;rw[q,hoc]at e;have q':oc=p.2:=C0 e;exact d w' (by rw[<-q'];exact hocd)
theorem UO{M:Model}{v:V}{Q:Unit->Shared->Prop}(I:Inv X pM J H s)(hN:X.N.Nodup)(hi:X.N[i]?=Z x)(hx:Loc X.env.scope x)(r:RelV v u)(h:∀s',Inv X pM (J.set i (Z v)) H s'->Q () s')(hf:X.fn x=Aa\/X.env.scope.names.lookup x=Z .local:=by first|exact .inl rfl|exact .inr rfl|assumption):wpAny M A (storeName X.env x u) Q E s :=
 V0 I hN hi hx r (λs' I' _=>h s' I') hf
theorem Inv.call'{s':Shared}(I:Inv X pM J H s)(ho:s'.os=s.os)(u:Un (tp X.stack) ch H H' s.heap s'.heap)(hok:qE X.prog X.w H' s'.heap)(hg:AllBare s'.gens)(uS:∀b∈ch,(b∈X.ex\/X.s₀.heap.objs.size<=b)/\b≠X.env.locals/\(∀x c,X.env.cells.lookup x=Z c->c≠b)/\∀p∈X.pn++pM,p.1≠b):Inv X pM J H' s':=by
 obtain⟨h',g',d',t',o'⟩:=s';have e:o'=s.os:=ho;subst e;exact I.call (g':=g') (t':=t') (d':=d') u hok hg uS
end
abbrev XK:=Value->Option Addr->Hp->Prop
abbrev St:=List (Option V)
abbrev VK:=V->Hp->Prop
abbrev TE:=St->Hp->VK->Prop
abbrev TT:=St->Hp->(Bool->Hp->Prop)->Prop
abbrev TA:=St->Hp->(List V->Hp->Prop)->Prop
structure t8 where
 nx:St->Hp->Prop
 rt:VK
 bk:St->Hp->Prop:=λ_ _=>False
 ct:St->Hp->Prop:=λ_ _=>False
abbrev TS:=t8->St->Hp->Prop
inductive EP(X:Cx)(pM:List (Addr×Obj))(J:St)(Q:VK)(u:Value)(s':Shared):Prop
 |mk (v:V) (H':Hp) (I:Inv X pM J H' s') (r:RelV v u) (q:Q v H'):EP X pM J Q u s'
inductive TP(X:Cx)(pM:List (Addr×Obj))(J:St)(Q:Bool->Hp->Prop)(b:Bool)(s':Shared):Prop
 |mk (H':Hp) (I:Inv X pM J H' s') (q:Q b H'):TP X pM J Q b s'
inductive AP(X:Cx)(pM:List (Addr×Obj))(J:St)(Q:List V->Hp->Prop)(us:List Value)(s':Shared):Prop
 |mk (vs:List V) (H':Hp) (I:Inv X pM J H' s') (r:pQ vs us) (q:Q vs H'):AP X pM J Q us s'
inductive yF(X:Cx)(pM:List (Addr×Obj))(N:St->Hp->Prop)(s':Shared):Prop
 |mk (σ':St) (H':Hp) (I:Inv X pM σ' H' s') (q:N σ' H'):yF X pM N s'
inductive SPr(X:Cx)(pM:List (Addr×Obj))(R:V->Hp->Prop)(u:Value)(s':Shared):Prop
 |mk (v:V) (σ':St) (H':Hp) (I:Inv X pM σ' H' s') (r:RelV v u) (q:R v H'):SPr X pM R u s'
def SP(X:Cx)(pM:List (Addr×Obj))(D:t8)(f:Flow)(s':Shared):Prop :=
 match f with
 | .next=>yF X pM D.nx s'
 | .brk=>yF X pM D.bk s'
 | .cont=>yF X pM D.ct s'
 | .ret u=>SPr X pM D.rt u s'
def PE(X:Cx)(e:Expr)(t:TE):Prop :=
 ∀(pM:List (Addr×Obj)) (s:Shared) (J:St) (H:Hp) (Q:VK),Inv X pM J H s->t J H Q->wpAny (model X.prog X.w) X.A (eval e X.env) (EP X pM J Q) X.xe s
def PT(X:Cx)(e:Expr)(t:TT):Prop :=
 ∀(pM:List (Addr×Obj)) (s:Shared) (J:St) (H:Hp) (Q:Bool->Hp->Prop),Inv X pM J H s->t J H Q->wpAny (model X.prog X.w) X.A (isTrue e X.env (eval e X.env)) (TP X pM J Q) X.xe s
def PW(X:Cx)(e:Expr)(t:TT):Prop :=
 ∀(qG:Sem Value) (pM:List (Addr×Obj)) (s:Shared) (J:St) (H:Hp) (Q:Bool->Hp->Prop),Inv X pM J H s->t J H Q->wpAny (model X.prog X.w) X.A (isTrue e X.env qG) (TP X pM J Q) X.xe s
theorem PW.pt{X:Cx}{e:Expr}{t:TT}(h:PW X e t):PT X e t:=h _
def PA(X:Cx)(es:List Expr)(t:TA):Prop :=
 ∀(pos:Pos) (pM:List (Addr×Obj)) (s:Shared) (J:St) (H:Hp) (Q:List V->Hp->Prop),Inv X pM J H s->t J H Q->wpAny (model X.prog X.w) X.A (spliced (backTo pos (Ah es X.env))) (AP X pM J Q) X.xe s
def PS(X:Cx)(st:Stmt)(t:TS):Prop :=
 ∀(pM:List (Addr×Obj)) (s:Shared) (J:St) (H:Hp) (D:t8),Inv X pM J H s->t D J H->wpAny (model X.prog X.w) X.A (exec st X.env) (SP X pM D) X.xe s
def rH(X:Cx)(st:List Stmt)(t:TS):Prop :=
 ∀(pM:List (Addr×Obj)) (s:Shared) (J:St) (H:Hp) (D:t8),Inv X pM J H s->t D J H->wpAny (model X.prog X.w) X.A (execs st X.env) (SP X pM D) X.xe s
theorem pW{α:Type}{t:Sem α}{Q Q':α->Shared->Prop}{M:Model}{s:Shared}(h:wpAny M A t Q E s)(hQ:∀a s,Q a s->Q' a s):wpAny M A t Q' E s:=Cu h hQ λ_ _ x=>x
end
section
variable{H:Hp}{pM:List (Addr×Obj)}{pos:Pos}{s:Shared}{J:St}{x:Str}{u:Value}{E Q:Value->Shared->Prop}
section
variable{X:Cx}
def ae(i:Nat):TE:=λJ H Q=>∃v,J[i]?=Z (Z v)/\Q v H
noncomputable def tC (v:V):TE:=λ_ H Q=>Q v H
theorem CT{i:Nat}(hN:X.N[i]?=Z x)(hv:so X.env.scope x)(hd:(x==("__debug__":Str))=Ab:=by decide)(qw:(x==("__classdict__":Str))=Ab:=by decide):PE X (.Name x pos) (ae i):=by
 intro pM s J H Q I h;obtain⟨v,e,h⟩:=h;obtain⟨m,hn,hl⟩:=I.loc;obtain⟨u,r,l⟩:=hl i x v hN e hv;have qC:EP X pM J Q u s:=⟨v,H,I,r,h⟩;rcases l with⟨hk,hm⟩|⟨hk,c,hc,sQ⟩
 .exact wpAny_Name (wpAny_loadName_local I.ok.kind hk hn hm qC) hd
 .rcases hk with hk|hk
  .exact wpAny_Name (wpAny_loadName_cell I.ok.kind hk hc sQ qC) hd
  .exact wpAny_Name (wpAny_loadName_free I.ok.kind hk hc sQ qC qw) hd
theorem Tq{i j pos}:PE X (.Constant (.int i) j pos) (tC (.int i)):=λ_ _ _ H _ I h=>wpAny_Constant_int ⟨.int i,H,I.tok _,⟨_,rfl⟩,h⟩
theorem bK{b j pos}:PE X (.Constant (.bool b) j pos) (tC (.bl b)):=λ_ _ _ H _ I h=>Constant_bool ⟨.bl b,H,I,rfl,h⟩
theorem TH{j pos}:PE X (.Constant .none j pos) (tC .non):=λ_ _ _ H _ I h=>Constant_none ⟨.non,H,I,rfl,h⟩
def Gl(X:Cx)(x:Str):Prop:=X.env.kindOf x=Z .globalImplicit
theorem O6(I:Inv X pM J H s)(hg:Gl X x)(hm:X.mg x=Z u)(h:Q u s)(hd:(x==("__debug__":Str))=Ab:=by decide):wpAny (model X.prog X.w) X.A (eval (.Name x pos) X.env) Q E s :=
 YE I.ok.kind hg (Calls.loadGlobal_global (by rw[I.ok.glob];exact I.mod.glob.keeps I.bk) hm h) hd
theorem J2(I:Inv X pM J H s)(hg:Gl X x)(hm:X.mg x=Z_)(hv:Ce x=Z u)(h:Q u s)(hn:x ≠ "__name__":=by decide)(hd:(x==("__debug__":Str))=Ab:=by decide):wpAny (model X.prog X.w) X.A (eval (.Name x pos) X.env) Q E s:=by
 obtain⟨mb,h1,h2⟩:=I.mod.blt;exact YE I.ok.kind hg (Calls.loadGlobal_builtin (by rw[I.ok.glob];exact I.mod.glob.keeps I.bk) hm (by rw[I.ok.blt];exact h1.keeps I.bk) ((h2 x hn).trans hv) h) hd
theorem Um{v:V}(hg:Gl X x)(hm:X.mg x=Z u)(r:RelV v u)(hd:(x==("__debug__":Str))=Ab:=by decide):PE X (.Name x pos) (tC v) :=
 λ_ _ _ H _ I h=>O6 I hg hm ⟨v,H,I,r,h⟩ hd
theorem eR{v:V}(hg:Gl X x)(hm:X.mg x=Z_)(hv:Ce x=Z u)(r:RelV v u)(hn:x ≠ "__name__":=by decide)(hd:(x==("__debug__":Str))=Ab:=by decide):PE X (.Name x pos) (tC v) :=
 λ_ _ _ H _ I h=>J2 I hg hm hv ⟨v,H,I,r,h⟩ hn hd
variable{a b:Expr}{ta tb:TE}{pos:Pos}
def PC(X:Cx)(op:CmpOp)(a b:Expr)(t:TE):Prop :=
 ∀(pM:List (Addr×Obj)) (s:Shared) (J:St) (H:Hp) (Q:VK),Inv X pM J H s->t J H Q ->
  wpAny (model X.prog X.w) X.A (eval a X.env) (λv s₁=>wpAny (model X.prog X.w) X.A (eval b X.env) (λu s₂=>wpAny (model X.prog X.w) X.A (BP op v u) (EP X pM J Q) X.xe s₂) X.xe s₁) X.xe s
theorem PU(b:Expr){op:CmpOp}(h:op≠.In)(h2:op≠.NotIn):Di op b=Ab:=by
 have e1:(op==CmpOp.In)=Ab:=by cases op<;>first|rfl|exact absurd rfl h
 have e2:(op==CmpOp.NotIn)=Ab:=by cases op<;>first|rfl|exact absurd rfl h2
 cases b<;>simp[Di,e1,e2]
def tB(t:TE):TT:=λJ H Q=>t J H λx H1=>∃c,x=.bl c/\Q c H1
theorem ON{op:CmpOp}{t:TE}(h:PC X op a b t)(h1:Di op b=Ab:=by first|exact PU _ (by decide) (by decide)|rfl):PT X (.Compare a [op] [b] pos) (tB t):=by intro pM s J H Q I hw;refine wpAny_isTrue_Compare1 (pW (h pM s J H _ I hw) λv s1 h1=>pW h1 λu s2 h2=>pW h2 λc s3 ⟨x,H1,I1,r1,q1⟩=>?_) h1;obtain⟨d,rfl,q⟩:=q1;cases r1;exact EX ⟨H1,I1,q⟩
theorem cS{e:Expr}{t:TE}(h:PE X e t)(he:∀qG,isTrue e X.env qG=(do let v <-qG;standAt e.pos;holding [v] (truthy v)):=by intro _;rfl):PT X e (tB t):=by intro pM s J H Q I hw;refine isTrue_plain (pW (h pM s J H _ I hw) λv s1 ⟨x,H1,I1,r1,q1⟩=>?_) (he _);obtain⟨d,rfl,q⟩:=q1;cases r1;exact EX ⟨H1,I1,q⟩
variable{tA tB':TT}{rest:List Expr}
def E9(t u:TT):TT:=λJ H Q=>t J H λc H1=>if c=Aa then u J H1 Q else Q Ab H1
def wW(t u:TT):TT:=λJ H Q=>t J H λc H1=>if c=Aa then Q Aa H1 else u J H1 Q
def D8(t:TT):TT:=λJ H Q=>t J H λc H1=>Q (!c) H1
theorem dH(ha:PT X a tA):PW X (.BoolOp .And [a] pos) tA:=by
 intro wh pM s J H Q I h;refine isTrue_and (pW (ha pM s J H Q I h) λc s1 e=>?_);cases c with
 |true=>exact isTrue_and_nil e
 |false=>exact e
theorem cY(ha:PT X a tA):PW X (.BoolOp .Or [a] pos) tA:=by
 intro wh pM s J H Q I h;refine isTrue_or (pW (ha pM s J H Q I h) λc s1 e=>?_);cases c with
 |false=>exact isTrue_or_nil e
 |true=>exact e
theorem Tr(ha:PT X a tA)(hb:PW X (.BoolOp .And (b::rest) pos) tB'):PW X (.BoolOp .And (a::b::rest) pos) (E9 tA tB'):=by
 intro wh pM s J H Q I h;refine isTrue_and (pW (ha pM s J H _ I h) λc s1 ⟨H1,I1,q1⟩=>?_);cases c with
 |true=>exact hb wh pM s1 J H1 Q I1 q1
 |false=>exact⟨H1,I1,q1⟩
theorem S3(ha:PT X a tA)(hb:PW X (.BoolOp .Or (b::rest) pos) tB'):PW X (.BoolOp .Or (a::b::rest) pos) (wW tA tB'):=by
 intro wh pM s J H Q I h;refine isTrue_or (pW (ha pM s J H _ I h) λc s1 ⟨H1,I1,q1⟩=>?_);cases c with
 |true=>exact⟨H1,I1,q1⟩
 |false=>exact hb wh pM s1 J H1 Q I1 q1
theorem cT(ha:PT X a tA):PT X (.UnaryOp .Not a pos) (D8 tA):=by intro pM s J H Q I h;exact isTrue_not (pW (ha pM s J H (λc H1=>Q (!c) H1) I h) λ_ _ ⟨H',I',q'⟩=>⟨H',I',q'⟩)
def YT(ta tb:TE):TE:=λJ H Q=>ta J H λx H1=>∃c,x=.bl c/\if c=Aa then tb J H1 Q else Q (.bl Ab) H1
def af(ta tb:TE):TE:=λJ H Q=>ta J H λx H1=>∃c,x=.bl c/\if c=Aa then Q (.bl Aa) H1 else tb J H1 Q
def ba(ta:TE):TE:=λJ H Q=>ta J H λx H1=>∃c,x=.bl c/\Q (.bl (!c)) H1
theorem cD{op}{t:TE}(h:PE X a t):PE X (.BoolOp op [a] pos) t:=λpM s J H Q I hw=>BoolOp_one (h pM s J H Q I hw)
theorem Tj(ha:PE X a ta)(hb:PE X (.BoolOp .And (b::rest) pos) tb):PE X (.BoolOp .And (a::b::rest) pos) (YT ta tb):=by
 intro pM s J H Q I h;refine BoolOp_and (pW (ha pM s J H _ I h) λv s1 ⟨x,H1,I1,r1,q1⟩=>?_);obtain⟨c,rfl,q1⟩:=q1;cases r1;refine EX ?_;cases c with
 |true=>exact hb pM s1 J H1 Q I1 q1
 |false=>exact⟨.bl Ab,H1,I1,rfl,q1⟩
theorem S6(ha:PE X a ta)(hb:PE X (.BoolOp .Or (b::rest) pos) tb):PE X (.BoolOp .Or (a::b::rest) pos) (af ta tb):=by
 intro pM s J H Q I h;refine BoolOp_or (pW (ha pM s J H _ I h) λv s1 ⟨x,H1,I1,r1,q1⟩=>?_);obtain⟨c,rfl,q1⟩:=q1;cases r1;refine EX ?_;cases c with
 |false=>exact hb pM s1 J H1 Q I1 q1
 |true=>exact⟨.bl Aa,H1,I1,rfl,q1⟩
theorem aS(ha:PE X a ta):PE X (.UnaryOp .Not a pos) (ba ta):=by intro pM s J H Q I h;refine UnaryOp_ (pW (ha pM s J H _ I h) λv s1 ⟨x,H1,I1,r1,q1⟩=>?_);obtain⟨c,rfl,q1⟩:=q1;cases r1;exact not_of (EX ⟨.bl (!c),H1,I1,rfl,q1⟩)
def tIf(t:TT)(ta tb:TE):TE:=λJ H Q=>t J H λc H1=>if c=Aa then ta J H1 Q else tb J H1 Q
theorem U5{c:Expr}(hc:PT X c tA)(ha:PE X a ta)(hb:PE X b tb):PE X (.IfExp c a b pos) (tIf tA ta tb):=by
 intro pM s J H Q I h;refine wpAny_IfExp (pW (hc pM s J H _ I h) λd s1 ⟨H1,I1,q1⟩=>?_);cases d with
 |true=>exact ha pM s1 J H1 Q I1 q1
 |false=>exact hb pM s1 J H1 Q I1 q1
end
end
section
variable{X:Cx}{c tg:Expr}{H:Hp}{pM:List (Addr×Obj)}{es:List Expr}{i:Nat}{P:Program}{K:Ae}{s:Shared}{J:St}{x:Str}{u:Value}{E:Value->Shared->Prop}
def qD(K:Ae)(H:Hp)(a:Addr)(xs:List V):Prop :=
 Rd H a (.lst xs) \/
  ∃(o:Obj) (pO:Array Value) (n:Nat),K.lookup a=Z o/\o.cls=.type "list"/\o.dict=Z_/\o.data=.seq pO n/\pO.size<=sizeLine/\pQ xs pO.toList
def rM(K:Ae)(H:Hp)(a:Addr)(xs:List V):Prop :=
 Rd H a (.tup xs) \/
  ∃(o:Obj) (pO:Array Value) (n:Nat),K.lookup a=Z o/\o.cls=.type "tuple"/\o.data=.seq pO n/\pO.size<=sizeLine/\pQ xs pO.toList
def ak:Value->Option V
 | .none=>Z .non
 | .bool b=>Z (.bl b)
 | .int i _=>Z (.int i)
 | .str x _=>Z (.str x)
 | .bytes b _=>Z (.byt b)
 | .float b _=>Z (.flt b)
 | .ref a=>Z (.ref a)
 | .type n=>Z (.ty n)
 |_=>Z_
theorem RelV.abs{x:V}(r:RelV x u):ak u=Z x:=by
 cases x with
 |non=>cases r;rfl
 |bl _=>cases r;rfl
 |int _=>obtain⟨t,rfl⟩:=r;rfl
 |str _=>obtain⟨t,rfl⟩:=r;rfl
 |byt _=>obtain⟨t,rfl⟩:=r;rfl
 |flt _=>obtain⟨t,rfl⟩:=r;rfl
 |ref _=>cases r;rfl
 |ty _=>cases r;rfl
theorem RelV.inj{x y:V}{u:Value}(r:RelV x u)(q:RelV y u):x=y:=C0 (r.abs.symm.trans q.abs)
theorem pQ.inj:∀{xs ys:List V} {us:List Value},pQ xs us->pQ ys us->xs=ys
 |_,_,_,.nil,.nil=>rfl
 |_,_,_,.cons r t,.cons r' t'=>by rw[r.inj r',pQ.inj t t']
section
variable{X:Cx}{pM:List (Addr×Obj)}{J:St}{H:Hp}{s:Shared}{a:Addr}{xs ys:List V}
theorem qD.of(h:H a=Z (.lst xs)):qD K H a xs:=.inl (.inl h)
theorem rM.of(h:H a=Z (.tup xs)):rM K H a xs:=.inl (.inl h)
theorem Inv.list(I:Inv X pM J H s)(h:qD X.K H a xs):∃pO:List Value,pQ xs pO/\PlainL s.heap a pO.toArray/\xs.length<=sizeLine:=by
 rcases h with h|⟨o,pO,n,hk,hc,hd,hs,hz,r⟩
 .obtain⟨z,pO,n,r,e⟩:=h.ok I.hok
  exact⟨pO,r,⟨_,n,e,rfl,rfl,rfl⟩,z⟩
 .refine⟨pO.toList,r,⟨o,n,I.kIn a o hk,hc,hd,by simpa using hs⟩,?_⟩
  have e:=r.length;simp only[A2]at e;omega
theorem Inv.tuple(I:Inv X pM J H s)(h:rM X.K H a xs):∃pO:List Value,pQ xs pO/\IsTup s.heap a pO.toArray/\xs.length<=sizeLine:=by
 rcases h with h|⟨o,pO,n,hk,hc,hs,hz,r⟩
 .obtain⟨z,pO,r,p⟩:=h.ok I.hok
  exact⟨pO,r,p,z⟩
 .refine⟨pO.toList,r,⟨o,I.kIn a o hk,hc,n,by simpa using hs⟩,?_⟩
  have e:=r.length;simp only[A2]at e;omega
theorem Inv.list_inj(I:Inv X pM J H s)(h:qD X.K H a xs)(h':qD X.K H a ys):xs=ys:=by
 obtain⟨pO,r,⟨o,n,e,_,_,d⟩,_⟩:=I.list h;obtain⟨its',r',⟨o',n',e',_,_,d'⟩,_⟩:=I.list h';rw[e]at e';cases e';rw[d]at d';injection d' with d1 _
 have:pO=its':=by simpa using congrArg Array.toList d1
 subst this;exact r.inj r'
theorem Inv.tuple_inj(I:Inv X pM J H s)(h:rM X.K H a xs)(h':rM X.K H a ys):xs=ys:=by
 obtain⟨pO,r,⟨o,e,_,n,d⟩,_⟩:=I.tuple h;obtain⟨its',r',⟨o',e',_,n',d'⟩,_⟩:=I.tuple h';rw[e]at e';cases e';rw[d]at d';injection d' with d1 _
 have:pO=its':=by simpa using congrArg Array.toList d1
 subst this;exact r.inj r'
end
abbrev Cx.wish(X:Cx)(E:Value->Shared->Prop):Cx:={X with xe:=E}
abbrev Cx.nox(X:Cx):Cx:=X.wish λ_ _=>False
theorem Cx.Ok.wish{X:Cx}(ok:X.Ok)(E:Value->Shared->Prop):(X.wish E).Ok :=
 ⟨ok.mod,ok.kind,ok.glob,ok.blt,ok.above,ok.inj,ok.has,ok.cab,ok.hd,ok.frames,ok.stk,ok.exf,ok.bs,ok.bsz,ok.noex,ok.exfs,ok.funs,ok.frf⟩
theorem Cx.Ok.unwish(ok:(X.wish E).Ok):X.Ok :=
 ⟨ok.mod,ok.kind,ok.glob,ok.blt,ok.above,ok.inj,ok.has,ok.cab,ok.hd,ok.frames,ok.stk,ok.exf,ok.bs,ok.bsz,ok.noex,ok.exfs,ok.funs,ok.frf⟩
section
variable{X:Cx}{pM:List (Addr×Obj)}{J:St}{H:Hp}{s:Shared}{E:Value->Shared->Prop}
theorem Inv.wish(I:Inv X pM J H s)(E:Value->Shared->Prop):Inv (X.wish E) pM J H s:=⟨I.ok.wish E,I.os,I.bare,I.base,I.loc,I.cell,I.free,I.freeC,I.pin,I.hok,I.len⟩
theorem Inv.unwish(I:Inv (X.wish E) pM J H s):Inv X pM J H s:=⟨I.ok.unwish,I.os,I.bare,I.base,I.loc,I.cell,I.free,I.freeC,I.pin,I.hok,I.len⟩
theorem SP.unwish{D:t8}{f:Flow}{s':Shared}(h:SP (X.wish E) pM D f s'):SP X pM D f s':=by
 cases f with
 |next=>obtain⟨σ',H',I,q⟩:=h;exact⟨σ',H',I.unwish,q⟩
 |brk=>obtain⟨σ',H',I,q⟩:=h;exact⟨σ',H',I.unwish,q⟩
 |cont=>obtain⟨σ',H',I,q⟩:=h;exact⟨σ',H',I.unwish,q⟩
 |ret u=>obtain⟨v,σ',H',I,r,q⟩:=h;exact⟨v,σ',H',I.unwish,r,q⟩
theorem rH.nox{st:List Stmt}{t:TS}(h:rH X.nox st t):rH X st t:=λpM s J H D I hw=>Cu (h pM s J H D (I.wish _) hw) (λ_ _ q=>q.unwish) λ_ _ z=>BZ z
end
section
variable{X:Cx}{st:Stmt}{rest:List Stmt}{t u:TS}{e:Expr}{te:TE}{pos:Pos}
noncomputable def Y5:TS:=λD J H=>D.nx J H
noncomputable def aD (t u:TS):TS:=λD J H=>t {D with nx:=u D} J H
theorem dJ:rH X [] Y5:=λ_ _ J H _ I h=>Nu ⟨J,H,I,h⟩
theorem Mf(h1:PS X st t)(h2:rH X rest u):rH X (st::rest) (aD t u):=by
 intro pM s J H D I h;refine wpAny_execs_cons (pW (h1 pM s J H {D with nx:=u D} I h) λf s1 q=>?_);cases f with
 |next=>obtain⟨σ',H',I',q⟩:=q;exact h2 pM s1 σ' H' D I' q
 |ret v=>exact q
 |brk=>exact q
 |cont=>exact q
theorem UA(h1:PS X st t):rH X [st] t:=by
 intro pM s J H D I h;refine wpAny_execs_cons (pW (h1 pM s J H D I h) λf s1 q=>?_);cases f with
 |next=>exact Nu q
 |ret v=>exact q
 |brk=>exact q
 |cont=>exact q
theorem Inv.quiet(I:Inv X pM J H s):interactive X.env=Ab:=by simp[interactive,I.ok.kind]
def YX(te:TE):TS:=λD J H=>te J H λ_ H1=>D.nx J H1
theorem Kd(he:PE X e te)(hs:DU e Z_ pos.line X.env=pure Ab:=by rfl):PS X (.Expr e pos) (YX te):=by intro pM s J H D I h;exact wpAny_Expr_any (pW (he pM s J H _ I h) λv s1 ⟨x,H1,I1,r1,q1⟩=>⟨J,H1,I1,q1⟩) I.quiet hs
def ai(te:TE):TS:=λD J H=>te J H D.rt
theorem OH(he:PE X e te):PS X (.Return (Z e) pos) (ai te):=by intro pM s J H D I h;exact wpAny_Return_some (pW (he pM s J H _ I h) λv s1 ⟨x,H1,I1,r1,q1⟩=>⟨x,J,H1,I1,r1,q1⟩)
def ag(c:TT)(t u:TS):TS:=λD J H=>c J H λb H1=>if b=Aa then t D J H1 else u D J H1
theorem Te{a b:List Stmt}{tc:TT}(hc:PT X c tc)(ha:rH X a t)(hb:rH X b u):PS X (.If c a b pos) (ag tc t u):=by
 intro pM s J H D I h;refine wpAny_If (pW (hc pM s J H _ I h) λd s1 ⟨H1,I1,q1⟩=>?_);cases d with
 |true=>exact ha pM s1 J H1 D I1 q1
 |false=>exact hb pM s1 J H1 D I1 q1
def cP:TS:=λ_ _ _=>False
theorem Ml{vo:List Stmt}:rH X vo cP:=λ_ _ _ _ _ _ h=>h.elim
end
abbrev TG:=V->St->Hp->(St->Hp->Prop)->Prop
abbrev wm:=List V->St->Hp->(St->Hp->Prop)->Prop
def PG(X:Cx)(rC:Expr)(t:TG):Prop :=
 ∀(pM:List (Addr×Obj)) (s:Shared) (J:St) (H:Hp) (v:V) (u:Value) (Q:St->Hp->Prop),Inv X pM J H s->RelV v u->t v J H Q ->
  wpAny (model X.prog X.w) X.A (assign rC X.env u) (λ_ s'=>∃σ' H',Inv X pM σ' H' s'/\Q σ' H') X.xe s
def yI(X:Cx)(ts:List Expr)(t:wm):Prop :=
 ∀(pM:List (Addr×Obj)) (s:Shared) (J:St) (H:Hp) (vs:List V) (us:List Value) (Q:St->Hp->Prop),Inv X pM J H s->pQ vs us->t vs J H Q ->
  wpAny (model X.prog X.w) X.A (assignInOrder ((HI ts X.env).map (·.2)) us) (λ_ s'=>∃σ' H',Inv X pM σ' H' s'/\Q σ' H') X.xe s
abbrev Om:=V->V->V->Hp->(Hp->Prop)->Prop
def SH(X:Cx)(t:Om):Prop :=
 ∀(pM:List (Addr×Obj)) (s:Shared) (J:St) (H:Hp) (o i v:V) (ov iv u:Value) (Q:Hp->Prop),Inv X pM J H s->RelV o ov->RelV i iv->RelV v u->t o i v H Q ->
  wpAny (model X.prog X.w) X.A (setItem ov iv u) (λ_ s'=>∃H',Inv X pM J H' s'/\Q H') X.xe s
section
variable{X:Cx}{pos:Pos}
def SX(i:Nat):TG:=λv J H Q=>Q (J.set i (Z v)) H
theorem L5(hN:X.N.Nodup)(hi:X.N[i]?=Z x)(hx:Loc X.env.scope x)(hf:X.fn x=Aa\/X.env.scope.names.lookup x=Z .local:=by first|exact .inl rfl|exact .inr rfl|assumption):PG X (.Name x pos) (SX i):=by intro pM s J H v u Q I r h;exact wpAny_assign_Name (UO I hN hi hx r (λs' I'=>⟨_,H,I',h⟩) hf)
def aF:wm:=λvs J H Q=>vs=[]/\Q J H
def Y3(t:TG)(u:wm):wm:=λvs J H Q=>∃v r,vs=v::r/\t v J H λσ' H'=>u r σ' H' Q
theorem dy:yI X [] aF:=by intro pM s J H vs us Q I r h;obtain⟨e,h⟩:=h;subst e;cases r;exact assignInOrder_nil ⟨J,H,I,h⟩
theorem Vl{e:Expr}{t:TG}{u:wm}(h1:PG X e t)(h2:yI X es u)(hs:(HI (e::es) X.env).map (·.2)=assign e X.env::(HI es X.env).map (·.2):=by rfl):yI X (e::es) (Y3 t u):=by
 intro pM s J H vs us Q I r h;obtain⟨v,vr,e1,h⟩:=h;subst e1;cases r with
 |cons r rr=>rw[hs];refine assignInOrder_cons (pW (h1 pM s J H _ _ _ I r h) λ_ s1 ⟨σ1,H1,I1,q1⟩=>?_);exact h2 pM s1 σ1 H1 _ _ Q I1 rr q1
def YO(K:Ae)(n:Nat)(t:wm):TG:=λv J H Q=>∃a xs,v=.ref a/\rM K H a xs/\xs.length=n/\t xs J H Q
theorem c5{k:Nat}{t:wm}{n:Nat}(hc:X.calm=Aa)(h:yI X es t)(hn:(HI es X.env).length=n:=by rfl)(sS:(HI es X.env).findIdx? (·.1)=Z_:=by rfl):PG X (.Tuple es k pos) (YO X.K n t):=by
 intro pM s J H v u Q I r hw;obtain⟨a,xs,e1,hq,hl,hw⟩:=hw;subst e1;cases r;obtain⟨pO,rv,ht,hz⟩:=I.tuple hq;refine assign_Tuple_tuple (I.ok.hd hc) ht (by simp[hn,<-hl,rv.length]) sS λh' hx=>?_;have I1:Inv X pM J H {s with heap:=h'}:=I.kept (t':=s.toks) λb o e=>hx b o (Aw (Aq e)) e;exact h pM _ J H xs _ Q I1 (by simpa using rv) hw
def JR(to ti:TE)(t:Om):TG:=λv J H Q=>to J H λo H1=>ti J H1 λi H2=>t o i v H2 λH3=>Q J H3
theorem aN{o i:Expr}{to ti:TE}{t:Om}(ho:PE X o to)(hi:PE X i ti)(hs:SH X t)
  (ha:∀v,assign (.Subscript o i pos) X.env v=(do
   let ov <-holding [v] (eval o X.env)
   let iv <-holding [v,ov] (eval i X.env)
   standAt pos
   holding [v,ov,iv] (setItem ov iv v)
   release [v,ov,iv] []):=by intro _;rfl):PG X (.Subscript o i pos) (JR to ti t):=by
 intro pM s J H v u Q I r h;rw[ha];refine Ac (B4 (pW (ho pM s J H _ I h) λov s1 ⟨x,H1,I1,r1,q1⟩=>?_));refine Ac (B4 (pW (hi pM s1 J H1 _ I1 q1) λiv s2 ⟨y,H2,I2,r2,q2⟩=>?_));refine Ac (wpAny_standAt (Ac (B4 (pW (hs pM s2 J H2 x y v ov iv u _ I2 r1 r2 r q2) λ_ s3 ⟨H3,I3,q3⟩=>?_))));exact wpAny_release ⟨J,H3,I3,q3⟩
def SQ(te:TE)(g:TG):TS:=λD J H=>te J H λx H1=>g x J H1 D.nx
theorem aU{e:Expr}{te:TE}{g:TG}(he:PE X e te)(hg:PG X tg g)(hs:swapsWithSole [tg] e pos.line X.env=pure Ab:=by rfl)(hw:swappedStores [tg] e X.env=pure Z_:=by rfl)(h1:(HI [tg] X.env).map (·.2)=[assign tg X.env]:=by rfl):PS X (.Assign [tg] e pos) (SQ te g):=by
 intro pM s J H D I h;refine wpAny_Assign_stores (pW (he pM s J H _ I h) λv s1 ⟨x,H1,I1,r1,q1⟩=>?_) hs hw;rw[h1];exact pW (hg pM s1 J H1 x v _ I1 r1 q1) λ_ s2 ⟨σ',H',I',q'⟩=>⟨σ',H',I',q'⟩
theorem OS{e:Expr}{te:TE}{pos':Pos}(hN:X.N.Nodup)(hi:X.N[i]?=Z x)(hx:Loc X.env.scope x)(he:PE X e te)(hs:DU e (Z (.Name x pos')) pos.line X.env=pure Ab:=by rfl)(hf:X.fn x=Aa\/X.env.scope.names.lookup x=Z .local:=by first|exact .inl rfl|exact .inr rfl|assumption):PS X (.Assign [.Name x pos'] e pos) (SQ te (SX i)):=by
 intro pM s J H D I h;refine wpAny_Assign_Name (pW (he pM s J H _ I h) λv s1 ⟨y,H1,I1,r1,q1⟩=>?_) hs;exact UO I1 hN hi hx r1 (λs2 I2=>⟨_,H1,I2,q1⟩) hf
end
section
variable{X:Cx}{pos:Pos}
def cC(c:TT)(tb:TS):TS:=λD J H=>∃W:Nat->St->Hp->Prop,(∃m,W m J H)/\∀m J H,W m J H ->
 c J H λb H1=>if b=Aa then ∃N:St->Hp->Prop,(∀σ' H',N σ' H'->∃m',m'<m/\W m' σ' H')/\tb {D with nx:=N,ct:=N,bk:=D.nx} J H1 else D.nx J H1
theorem gO{body:List Stmt}{tc:TT}{tb:TS}(hp:PassesOwn (model X.prog X.w) X.A X.env X.xe)(hc:PT X c tc)(hb:rH X body tb):PS X (.While c body [] pos) (cC tc tb):=by
 intro pM s J H D I h;obtain⟨W,⟨m0,w0⟩,ur⟩:=h;refine wpAny_While (codeAny_whileLoop (λn s'=>∃σ' H',Inv X pM σ' H' s'/\W n σ' H') ?_ m0 ⟨J,H,I,w0⟩)
 rintro n s1 ⟨σ1,H1,I1,w1⟩
 refine HS hp (pW (hc pM s1 σ1 H1 _ I1 (ur n σ1 H1 w1)) λb s2 ⟨H2,I2,q2⟩=>?_);cases b with
 |true =>
  obtain⟨N,hN,q2⟩:=q2;rw[if_pos rfl];refine HS hp (pW (hb pM s2 σ1 H2 _ I2 q2) λf s3 q3=>?_);cases f with
  |next=>obtain⟨σ3,H3,I3,n3⟩:=q3;obtain⟨m',hm,w3⟩:=hN σ3 H3 n3;exact⟨m',hm,σ3,H3,I3,w3⟩
  |cont=>obtain⟨σ3,H3,I3,n3⟩:=q3;obtain⟨m',hm,w3⟩:=hN σ3 H3 n3;exact⟨m',hm,σ3,H3,I3,w3⟩
  |brk=>exact q3
  |ret v=>exact q3
 |false=>rw[if_neg C2];exact Nu ⟨σ1,H2,I2,q2⟩
end
structure It where
 go:Nat->Hp->Prop
 yld:Nat->Hp->V->Hp->Prop
 stop:Nat->Hp->Prop
def D5(X:Cx)(pM:List (Addr×Obj))(H:Hp)(b:Addr):Prop :=
 H b=Z_/\b≠X.env.locals/\b∉X.fs/\(b∈X.ex\/X.s₀.heap.objs.size<=b)/\(∀x c,X.env.cells.lookup x=Z c->c≠b)/\∀p∈X.pn++pM,p.1≠b
theorem Inv.fpOk{H':Hp}{b:Addr}(I:Inv X pM J H s)(hb:s.heap.objs.size<=b)(hn:H' b=Z_):D5 X pM H' b:=by
 refine⟨hn,HD (BC I.lt hb),I.nofs hb,.inr (BY I.sz hb),λx c e z=>?_,λp hp z=>?_⟩
 .obtain⟨v,q⟩:=I.cell x c e
  exact absurd (BC q.lt (by rw[z];exact hb)) (EO _)
 .exact absurd (BC (Aq (I.pin p hp).1) (by rw[z];exact hb)) (EO _)
structure t7(P:Program)(w:World)(K:Ae)(tg:Expr)(zZ:It)(fp:List Addr)(it:Addr)(tn:Nat->Heap->Prop):Prop where
 mem:it∈fp
 obj:∀i h,tn i h->∀b∈fp,∃o,h.get? b=Z o/\∀v,o.data≠.cell v
 keep:∀i h h',tn i h->(∀b∈fp,∀o,h.get? b=Z o->h'.get? b=Z o)->tn i h'
 item:∀(X:Cx),X.prog=P->X.w=w->X.K=K->X.calm=Aa->∀(i:Nat) (pM:List (Addr×Obj)) (s:Shared) (J:St) (H:Hp) (E:Value->Shared->Prop),Inv X pM J H s->(∀b∈fp,D5 X pM H b)->tn i s.heap->zZ.go i H ->
  wpAny (model P w) X.A (pyNext (.ref it)) (λr s1=>∃u,r=Z u /\
   wpAny (model P w) X.A (Nt tg (.ref it) u) (λ_ s2=>∃x H',Inv X pM J H' s2/\RelV x u/\zZ.yld i H x H'/\tn (i+1) s2.heap/\∀b∈fp,H' b=Z_) E s1) E s
 done:∀(X:Cx),X.prog=P->X.w=w->X.K=K->X.calm=Aa->∀(i:Nat) (pM:List (Addr×Obj)) (s:Shared) (J:St) (H:Hp) (E:Value->Shared->Prop),Inv X pM J H s->(∀b∈fp,D5 X pM H b)->tn i s.heap->zZ.stop i H ->
  wpAny (model P w) X.A (pyNext (.ref it)) (λr s1=>r=Z_/\Inv X pM J H s1) E s
 self:∀(A:Around) (i:Nat) (s:Shared) (Q:Value->Shared->Prop) (E:Value->Shared->Prop),tn i s.heap->Q (.ref it) s->wpAny (model P w) A (pyIter (.ref it)) Q E s
abbrev TI:=St->Hp->(It->Hp->Prop)->Prop
def PIE(X:Cx)(pM:List (Addr×Obj))(J:St)(tg:Expr)(R:It->Hp->Prop)(yh:Value)(s2:Shared):Prop :=
 ∃(it:Addr) (fp:List Addr) (tn:Nat->Heap->Prop) (zZ:It) (H':Hp),yh=.ref it/\Inv X pM J H' s2/\t7 X.prog X.w X.K tg zZ fp it tn/\tn 0 s2.heap/\(∀b∈fp,D5 X pM H' b)/\R zZ H'
def PI(X:Cx)(tg iter:Expr)(wi:TI):Prop :=
 ∀(pM:List (Addr×Obj)) (s:Shared) (J:St) (H:Hp) (R:It->Hp->Prop),Inv X pM J H s->wi J H R ->
  wpAny (model X.prog X.w) X.A (eval iter X.env) (λv s1=>wpAny (model X.prog X.w) X.A (pyIter v) (PIE X pM J tg R) X.xe s1) X.xe s
theorem LM{M:Model}{A:Around}{it:Addr}{o:Obj}{n:String}{vs:Array Value}{Q:Unit->Shared->Prop}(ho:s.heap.get? it=Z o)(hc:o.cls=.type n)(hd:o.data=.fields vs)(hn:["enumerate","zip","dict_itemiterator","dict_reverseitemiterator","odict_iterator","itertools.zip_longest","itertools.pairwise"].contains n=Ab)(hQ:Q () s):wpAny M A (Nt tg (.ref it) u) Q E s:=by
  unfold Nt
  cases tg<;>first
    | exact Ad hQ
    | (cases u<;>first
        | exact Ad hQ
        | (refine Ac (wpAny_load ho ?_)
           rw [hc, hd]
           show wpAny M A (if (["enumerate", "zip", "dict_itemiterator", "dict_reverseitemiterator", "odict_iterator", "itertools.zip_longest", "itertools.pairwise"].contains n && vs[0]? == Z (rawInt _)) = Aa then _ else _) Q E s
           rw [if_neg (by intro h; rw [hn, Bool.false_and] at h; cases h)]
           exact Ad hQ))
def zG(K:Ae)(a:Addr):It :=
 ⟨λi H=>∃xs x,qD K H a xs/\xs[i]?=Z x,λi H x H'=>H'=H/\∀xs,qD K H a xs->xs[i]?=Z x,λi H=>∃xs,qD K H a xs/\xs.length<=i⟩
def yJ(K:Ae)(a:Addr):It :=
 ⟨λi H=>∃xs x,rM K H a xs/\xs[i]?=Z x,λi H x H'=>H'=H/\∀xs,rM K H a xs->xs[i]?=Z x,λi H=>∃xs,rM K H a xs/\xs.length<=i⟩
def yK(lo:Int)(n:Nat):It:=⟨λi _=>i<n,λi H x H'=>H'=H/\x=.int (lo+i),λi _=>n<=i⟩
theorem i4{w:World}(a it:Addr):t7 P w K tg (zG K a) [it] it (λi h=>h.IsListIter it a i) where
 mem:=by simp
 obj:=λi h st b hb=>by
  have e:b=it:=by simpa using hb
  subst e;obtain⟨o,e,c,d⟩:=st;exact⟨o,e,λv z=>by rw[d]at z;cases z⟩
 keep:=λi h h' st k=>st.at λo e=>k it (by simp) o e
 item:=by intro X hP hw hK hc i pM s J H E I hf st hg;subst hP hw hK;obtain⟨xs,x,hq,hx⟩:=hg;obtain⟨pO,rv,p,hz⟩:=I.list hq;obtain⟨u,hu,ru⟩:=rv.get hx;obtain⟨f0,f1,f2,f3,f4,f5⟩:=hf it (by simp);refine wpAny_pyNext_list_item st p.isList (x:=u) (by simpa using hu) λh' st' sb=>?_;have I1:Inv X pM J H {s with heap:=h'}:=I.turned (t':=s.toks) (λb o hb e=>(sb.2 b hb).trans e) f0 f1 f3 f4 f5;obtain⟨o,e,c,d⟩:=id st';exact⟨u,rfl,LM (s:={s with heap:=h'}) e c d (by decide) ⟨x,H,I1,ru,⟨rfl,λys hy=>by rw[I.list_inj hy hq];exact hx⟩,st',λb hb=>(hf b hb).1⟩⟩
 done:=by intro X hP hw hK hc i pM s J H E I hf st hg;subst hP hw hK;obtain⟨xs,hq,hx⟩:=hg;obtain⟨pO,rv,p,hz⟩:=I.list hq;obtain⟨f0,f1,f2,f3,f4,f5⟩:=hf it (by simp);have hl:=rv.length;exact wpAny_pyNext_list_end (I.ok.hd hc) st p.isList (by simp;omega) λh' eb=>⟨rfl,I.turned (t':=s.toks) (λb o hb e=>eb b o hb e) f0 f1 f3 f4 f5⟩
 self:=λ_ _ _ _ _ st h=>wpAny_pyIter_listiter st h
theorem kj{w:World}(a it:Addr):t7 P w K tg (yJ K a) [it] it (λi h=>h.IsTupleIter it a i) where
 mem:=by simp
 obj:=λi h st b hb=>by
  have e:b=it:=by simpa using hb
  subst e;obtain⟨o,e,c,d⟩:=st;exact⟨o,e,λv z=>by rw[d]at z;cases z⟩
 keep:=λi h h' st k=>st.at λo e=>k it (by simp) o e
 item:=by intro X hP hw hK hc i pM s J H E I hf st hg;subst hP hw hK;obtain⟨xs,x,hq,hx⟩:=hg;obtain⟨pO,rv,p,hz⟩:=I.tuple hq;obtain⟨u,hu,ru⟩:=rv.get hx;obtain⟨f0,f1,f2,f3,f4,f5⟩:=hf it (by simp);refine wpAny_pyNext_tuple_item st (show s.heap.IsTuple a pO.toArray from p) (x:=u) (by simpa using hu) λh' st' sb=>?_;have I1:Inv X pM J H {s with heap:=h'}:=I.turned (t':=s.toks) (λb o hb e=>(sb.2 b hb).trans e) f0 f1 f3 f4 f5;obtain⟨o,e,c,d⟩:=id st';exact⟨u,rfl,LM (s:={s with heap:=h'}) e c d (by decide) ⟨x,H,I1,ru,⟨rfl,λys hy=>by rw[I.tuple_inj hy hq];exact hx⟩,st',λb hb=>(hf b hb).1⟩⟩
 done:=by intro X hP hw hK hc i pM s J H E I hf st hg;subst hP hw hK;obtain⟨xs,hq,hx⟩:=hg;obtain⟨pO,rv,p,hz⟩:=I.tuple hq;obtain⟨f0,f1,f2,f3,f4,f5⟩:=hf it (by simp);have hl:=rv.length;exact wpAny_pyNext_tuple_end (I.ok.hd hc) st (show s.heap.IsTuple a pO.toArray from p) (by simp;omega) λh' eb=>⟨rfl,I.turned (t':=s.toks) (λb o hb e=>eb b o hb e) f0 f1 f3 f4 f5⟩
 self:=λ_ _ _ _ _ st h=>wpAny_pyIter_tupleiter st h
theorem kg{w:World}(it:Addr)(lo:Int)(n:Nat):t7 P w K tg (yK lo n) [it] it (λi h=>IsRangeIter h it (lo+(i:Nat)*1) ((n:Int)-(i:Nat)) 1) where
 mem:=by simp
 obj:=λi h st b hb=>by
  have e:b=it:=by simpa using hb
  subst e;exact⟨_,st,λv z=>by have z':Data.fields _=Data.cell v:=z;cases z'⟩
 keep:=λi h h' st k=>k it (by simp) _ st
 item:=by intro X hP hw hK hc i pM s J H E I hf st hg;subst hP hw hK;obtain⟨f0,f1,f2,f3,f4,f5⟩:=hf it (by simp);have W:=Walks.range (prog:=X.prog) (w:=X.w) (I.ok.hd hc) it lo 1 n;refine W.item i s _ _ hg st λv h' tk hv st' kk=>?_;obtain⟨t,rfl⟩:=hv;have I1:Inv X pM J H {s with heap:=h',toks:=tk}:=I.turned (λb o hb e=>kk b o (by simpa using hb) e) f0 f1 f3 f4 f5;refine⟨_,rfl,LM (s:={s with heap:=h',toks:=tk}) (n:="range_iterator") st' rfl rfl (by decide) ⟨.int (lo+i),H,I1,⟨t,?_⟩,⟨rfl,rfl⟩,st',λb hb=>(hf b hb).1⟩⟩;rw[Int.mul_one]
 done:=by intro X hP hw hK hc i pM s J H E I hf st hg;subst hP hw hK;obtain⟨f0,f1,f2,f3,f4,f5⟩:=hf it (by simp);exact wpAny_pyNext_range_end (I.ok.hd hc) st (by have:n<=i:=hg;omega) λh' eb=>⟨rfl,I.turned (t':=s.toks) (λb o hb e=>eb b o hb e) f0 f1 f3 f4 f5⟩
 self:=λ_ _ _ _ _ st h=>wpAny_pyIter_rangeiter st h
end
section
variable{h:Heap}{H:Hp}{pM:List (Addr×Obj)}{fp:List Addr}{pos:Pos}{s:Shared}{J:St}
section
variable{X:Cx}{tg:Expr}
theorem hU{R:It->Hp->Prop}{E:Value->Shared->Prop}{lo hi:Int}{t u v:Tok}{tk:Nat}(I:Inv X pM J H s)(h1:-(2 ^ 62)<=lo)(h2:lo<2 ^ 62)(h3:-(2 ^ 62)<=hi)(h4:hi<2 ^ 62)(q:R (yK lo (hi-lo).toNat) H):wpAny (model X.prog X.w) X.A (pyIter (.ref s.heap.objs.size)) (PIE X pM J tg R) E {s with heap:=s.heap.push {cls:=.type "range",data:=.fields #[.int lo t,.int hi u,.int 1 v]},toks:=tk}:=by
 refine wpAny_pyIter_range (IsRange.new ..) (small_one h1 h2 h3 h4) ?_;have I1:Inv X pM J H {s with heap:=s.heap.push {cls:=.type "range",data:=.fields #[.int lo t,.int hi u,.int 1 v]},toks:=tk}:=I.kept λb o e=>Ar _ e;refine⟨(s.heap.push {cls:=.type "range",data:=.fields #[.int lo t,.int hi u,.int 1 v]}).objs.size,[(s.heap.push {cls:=.type "range",data:=.fields #[.int lo t,.int hi u,.int 1 v]}).objs.size],_,_,H,rfl,
  I1.kept (t':=tk) λb o e=>Ar _ e,kg _ lo (hi-lo).toNat,?_,λb hb=>?_,q⟩
 .have e1:lo+((0:Nat):Int)*1=lo:=by simp
  have e2:(((hi-lo).toNat:Nat):Int)-((0:Nat):Int)=Oc lo hi 1:=by rw[rangeSize_one];split<;>omega
  show IsRangeIter _ _ (lo+((0:Nat):Int)*1) ((((hi-lo).toNat:Nat):Int)-((0:Nat):Int)) 1;rw[e1,e2];exact AS _ rfl
 .have e:b=(s.heap.push {cls:=.type "range",data:=.fields #[.int lo t,.int hi u,.int 1 v]}).objs.size:=by simpa using hb
  subst e;exact I1.fpOk (Ai _) (I1.hok.fresh (Ai _))
def DA(ta:TA):TI:=λJ H R=>ta J H λvs H1=>∃j:Int,vs=[.int j]/\-(2 ^ 62)<=j/\j<2 ^ 62/\R (yK 0 j.toNat) H1
theorem jR{a:Expr}{ta:TA}{p:Pos}(hg:Gl X "range")(hm:X.mg "range"=Z_)(ha:PA X [a] ta)(hs:Ah [a] X.env=[(Ab,eval a X.env)]:=by rfl):PI X tg (.Call (.Name "range" p) [a] [] pos) (DA ta):=by
 intro pM s J H R I h;refine Call_ (J2 I hg hm boot_range (YI (pW (ha pos pM s J H _ I h) λus s1 ⟨vs,H1,I1,r1,q1⟩=>?_) hs rfl));obtain⟨j,e,q1,q2,q⟩:=q1;subst e;cases r1 with
 |cons r rr=>cases rr;obtain⟨t,rfl⟩:=r;exact call_range_1 (hU I1 (by omega) (by omega) q1 q2 (by simpa using q))
def ax(wi:TI)(g:TG)(tb:TS):TS:=λD J H=>wi J H λzZ H1=>∃W:Nat->Nat->St->Hp->Prop,(∃m,W 0 m J H1)/\∀i m J H,W i m J H ->
 (zZ.stop i H/\D.nx J H)\/(zZ.go i H/\∃N:St->Hp->Prop,(∀σ' H',N σ' H'->∃m',m'<m/\W (i+1) m' σ' H')/\∀x H',zZ.yld i H x H'->g x J H' λσ2 H2=>tb {D with nx:=N,ct:=N,bk:=D.nx} σ2 H2)
def J7(fp:List Addr)(h:Heap):List (Addr×Obj):=fp.filterMap λb=>(h.get? b).map λo=>(b,o)
theorem Mz{b:Addr}{o:Obj}(hb:b∈fp)(e:h.get? b=Z o):(b,o)∈J7 fp h:=Cf.mpr ⟨b,hb,by rw[e];rfl⟩
theorem iC{p:Addr×Obj}(hp:p∈J7 fp h):p.1∈fp/\h.get? p.1=Z p.2:=by
 obtain⟨b,hb,e⟩:=Cf.mp hp;cases q:h.get? b with
 |none=>rw[q]at e;cases e
 |some o=>rw[q]at e;have e':(b,o)=p:=C0 e;subst e';exact⟨hb,q⟩
theorem Inv.pinned(I:Inv X pM J H s)(hf:∀b∈fp,D5 X pM H b)(ho:∀b∈fp,∃o,s.heap.get? b=Z o/\∀v,o.data≠.cell v):Inv X (pM++J7 fp s.heap) J H s :=
 I.pins_of λp hp=>(A8.mp hp).elim (λz=>I.pin p (B6 _ z)) λz=>by obtain⟨hb,e⟩:=iC z;obtain⟨f0,f1,f2,_⟩:=hf p.1 hb;obtain⟨o,e',d⟩:=ho p.1 hb;rw[e]at e';cases e';exact⟨e,f0,f1,f2,d⟩
theorem Inv.unpinned{pl:List (Addr×Obj)}(I:Inv X (pM++pl) J H s):Inv X pM J H s:=I.pins_of λp hp=>I.pin p (B6 _ (Er _ hp))
theorem cF{iter:Expr}{body:List Stmt}{wi:TI}{g:TG}{tb:TS}(hp:PassesOwn (model X.prog X.w) X.A X.env X.xe)(hc:X.calm=Aa)(hi:PI X tg iter wi)(hg:PG X tg g)(hb:rH X body tb)(hs:∀x,Gx iter X.env x=pure x:=by intro _;rfl):PS X (.For tg iter body [] pos) (ax wi g tb):=by
 intro pM s J H D I h;refine wpAny_For (pW (hi pM s J H _ I h) λv s1 h1=>pW h1 λyh s2 h2=>?_) hs;obtain⟨it,fp,tn,zZ,H2,e,I2,T,vX,f2,W,⟨m0,w0⟩,ur⟩:=h2;subst e;have tH:∀{H':Hp},(∀b∈fp,H' b=Z_)->∀b∈fp,D5 X pM H' b:=λhn b hb=>⟨hn b hb,(f2 b hb).2⟩;refine codeAny_forLoop_any (λn s'=>∃i σ' H',Inv X pM σ' H' s'/\tn i s'.heap/\(∀b∈fp,H' b=Z_)/\W i n σ' H') ?_ m0 ⟨0,J,H2,I2,vX,λb hb=>(f2 b hb).1,w0⟩
 rintro n s3 ⟨i,σ3,H3,I3,st3,fr3,w3⟩
 rcases ur i n σ3 H3 w3 with⟨stop,qn⟩|⟨go,N,hN,step⟩
 .refine HS hp (pW (T.done X rfl rfl rfl hc i pM s3 σ3 H3 X.xe I3 (tH fr3) st3 stop) λr s4 ⟨hr,I4⟩=>?_)
  subst hr;exact Nu ⟨σ3,H3,I4,qn⟩
 .refine HS hp (pW (T.item X rfl rfl rfl hc i pM s3 σ3 H3 X.xe I3 (tH fr3) st3 go) λr s4 ⟨u,hr,h4⟩=>?_)
  subst hr;refine HS hp (pW h4 λ_ s5 ⟨x,H5,I5,r5,y5,st5,fr5⟩=>?_);have I5':=I5.pinned (tH fr5) (T.obj _ _ st5);refine HS hp (pW (hg _ s5 σ3 H5 x u _ I5' r5 (step x H5 y5)) λ_ s6 ⟨σ6,H6,I6,q6⟩=>?_);refine HS hp (pW (hb _ s6 σ6 H6 _ I6 q6) λf s7 q7=>?_);have again:∀{σ7:St} {H7:Hp},Inv X (pM++J7 fp s5.heap) σ7 H7 s7->N σ7 H7->∃m,m<n/\∃i σ' H',Inv X pM σ' H' s7/\tn i s7.heap/\(∀b∈fp,H' b=Z_)/\W i m σ' H':=λ{σ7 H7} I7 n7=>by obtain⟨m',hm,w7⟩:=hN σ7 H7 n7;refine⟨m',hm,i+1,σ7,H7,I7.unpinned,T.keep _ _ _ st5 λb hb o e=>(I7.pin (b,o) (B6 _ (B6 _ (Mz hb e)))).1,λb hb=>?_,w7⟩;obtain⟨o,e,d⟩:=T.obj _ _ st5 b hb;exact(I7.pin (b,o) (B6 _ (B6 _ (Mz hb e)))).2.1
  cases f with
  |next=>obtain⟨σ7,H7,I7,n7⟩:=q7;exact again I7 n7
  |cont=>obtain⟨σ7,H7,I7,n7⟩:=q7;exact again I7 n7
  |brk=>obtain⟨σ7,H7,I7,q7⟩:=q7;exact⟨σ7,H7,I7.unpinned,q7⟩
  |ret v=>obtain⟨x7,σ7,H7,I7,r7,q7⟩:=q7;exact⟨x7,σ7,H7,I7.unpinned,r7,q7⟩
end
end
section
variable{H:Hp}{g:Int->Int->Int}{pM:List (Addr×Obj)}{us:List Value}{s:Shared}{J:St}{x:V}
abbrev R2:=V->V->Hp->VK->Prop
def rj(X:Cx)(f:Value->Value->Sem Value)(r:R2):Prop :=
 ∀(pM:List (Addr×Obj)) (s:Shared) (J:St) (H:Hp) (x y:V) (v u:Value) (Q:VK),Inv X pM J H s->RelV x v->RelV y u->r x y H Q ->
  wpAny (model X.prog X.w) X.A (f v u) (EP X pM J Q) X.xe s
def Be(X:Cx)(f:Value)(r:List V->Hp->VK->Prop):Prop :=
 ∀(pM:List (Addr×Obj)) (s:Shared) (J:St) (H:Hp) (xs:List V) (us:List Value) (Q:VK),Inv X pM J H s->pQ xs us->r xs H Q ->
  wpAny (model X.prog X.w) X.A (call f us) (EP X pM J Q) X.xe s
def aA(X:Cx)(r:V->Hp->(Bool->Hp->Prop)->Prop):Prop :=
 ∀(pM:List (Addr×Obj)) (s:Shared) (J:St) (H:Hp) (x:V) (v:Value) (Q:Bool->Hp->Prop),Inv X pM J H s->RelV x v->r x H Q ->
  wpAny (model X.prog X.w) X.A (truthy v) (TP X pM J Q) X.xe s
def wX(r:R2)(ta tb:TE):TE:=λJ H Q=>ta J H λx H1=>tb J H1 λy H2=>r x y H2 Q
def rI(C:Int->Int->Prop)(g:Int->Int->V):R2:=λx y H Q=>∃i j,x=.int i/\y=.int j/\C i j/\Q (g i j) H
def vw(g:Int->Int->V):R2:=λx y H Q=>∃i j,x=.int i/\y=.int j/\Q (g i j) H
section
variable{X:Cx}{a b c:Expr}{ta tb tc:TE}{pos:Pos}
theorem Oi(ha:PE X a ta)(hb:PE X b tb){R:V->V->Hp->Prop}(I:Inv X pM J H s)(h:ta J H λx H1=>tb J H1 λy H2=>R x y H2){Q:Value->Shared->Prop}{f:Value->Value->Sem Value}(hf:∀v u s2 x y H2,Inv X pM J H2 s2->RelV x v->RelV y u->R x y H2->wpAny (model X.prog X.w) X.A (f v u) Q X.xe s2):wpAny (model X.prog X.w) X.A (eval a X.env) (λv s₁=>wpAny (model X.prog X.w) X.A (eval b X.env) (λu s₂=>wpAny (model X.prog X.w) X.A (f v u) Q X.xe s₂) X.xe s₁) X.xe s:=by
 refine pW (ha pM s J H _ I h) λv s1 ⟨x,H1,I1,r1,q1⟩=>?_;refine pW (hb pM s1 J H1 _ I1 q1) λu s2 ⟨y,H2,I2,r2,q2⟩=>?_;exact hf v u s2 x y H2 I2 r1 r2 q2
theorem OB{op:Operator}{r:R2}(ho:rj X (Gr op) r)(ha:PE X a ta)(hb:PE X b tb):PE X (.BinOp a op b pos) (wX r ta tb):=by intro pM s J H Q I h;exact wpAny_BinOp (Oi ha hb I h λv u s2 x y H2 I2 rx ry q=>ho pM s2 J H2 x y v u Q I2 rx ry q)
theorem opI{f:Value->Value->Sem Value}{C:Int->Int->Prop}(rule:∀(i j:Int) (t u:Tok) (s:Shared) (Q:Value->Shared->Prop) (E:Value->Shared->Prop),C i j->Q (.int (g i j) s.toks) {s with toks:=s.toks+1}->wpAny (model X.prog X.w) X.A (f (.int i t) (.int j u)) Q E s):rj X f (rI C λi j=>.int (g i j)):=by
 intro pM s J H x y v u Q I rx ry h;obtain⟨i,j,rfl,rfl,hc,q⟩:=h;obtain⟨t,rfl⟩:=rx;obtain⟨t',rfl⟩:=ry;exact rule i j t t' s _ _ hc ⟨.int (g i j),H,I.tok _,⟨_,rfl⟩,q⟩
theorem SN{f:Value->Value->Sem Value}(rule:∀(i j:Int) (t u:Tok) (s:Shared) (Q:Value->Shared->Prop) (E:Value->Shared->Prop),Q (.int (g i j) s.toks) {s with toks:=s.toks+1}->wpAny (model X.prog X.w) X.A (f (.int i t) (.int j u)) Q E s):rj X f (vw λi j=>.int (g i j)):=by
 intro pM s J H x y v u Q I rx ry h;obtain⟨i,j,rfl,rfl,q⟩:=h;obtain⟨t,rfl⟩:=rx;obtain⟨t',rfl⟩:=ry;exact rule i j t t' s _ _ ⟨.int (g i j),H,I.tok _,⟨_,rfl⟩,q⟩
theorem Oq{f:Value->Value->Sem Value}{g:Int->Int->Bool}(rule:∀(i j:Int) (t u:Tok) (s:Shared) (Q:Value->Shared->Prop) (E:Value->Shared->Prop),Q (.bool (g i j)) s->wpAny (model X.prog X.w) X.A (f (.int i t) (.int j u)) Q E s):rj X f (vw λi j=>.bl (g i j)):=by
 intro pM s J H x y v u Q I rx ry h;obtain⟨i,j,rfl,rfl,q⟩:=h;obtain⟨t,rfl⟩:=rx;obtain⟨t',rfl⟩:=ry;exact rule i j t t' s _ _ ⟨.bl (g i j),H,I,rfl,q⟩
def LG(i j:Int):Prop:=(-(2 ^ 64)<i/\i<2 ^ 64)\/(-(2 ^ 64)<j/\j<2 ^ 64)
theorem LG.ok{i j:Int}(h:LG i j):IntMulOk i j:=by
 rcases h with⟨h1,h2⟩|⟨h1,h2⟩
 .exact .of_left (intBits_le_64 h1 h2)
 .exact .of_right (intBits_le_64 h1 h2)
theorem bo:rj X (Gr .Add) (vw λi j=>.int (i+j)):=SN λ_ _ _ _ _ _ _ q=>add_int q
theorem aI:rj X (Gr .Sub) (vw λi j=>.int (i-j)):=SN λ_ _ _ _ _ _ _ q=>sub_int q
theorem aW:rj X (Gr .Mult) (rI LG λi j=>.int (i*j)):=opI λ_ _ _ _ _ _ _ hc q=>mul_int q hc.ok
theorem bT:rj X (Gr .Mod) (rI (λ_ j=>0<j) λi j=>.int (i%j)):=opI λi j _ _ _ _ _ hc q=>by have h1:(0:Int)<j:=hc;exact mod_int' (by omega) (by rw[Int.fmod_eq_emod_of_nonneg i (by omega)];exact q)
end
section
variable{X:Cx}{a b c:Expr}{ta tb tc:TE}{pos:Pos}
theorem Tu{Q:VK}{k k':Bool}(I:Inv X pM J H s)(q:Q (.bl k) H)(e:k=k'):EP X pM J Q (.bool k') s:=by subst e;exact⟨.bl k,H,I,rfl,q⟩
theorem YU:rj X (BP .Lt) (vw λi j=>.bl (decide (i<j))):=Oq λ_ _ _ _ _ _ _ q=>lt_int q
theorem bN:rj X (BP .LtE) (vw λi j=>.bl (decide (i<=j))):=Oq λ_ _ _ _ _ _ _ q=>le_int q
theorem bG:rj X (BP .Gt) (vw λi j=>.bl (decide (j<i))):=Oq λ_ _ _ _ _ _ _ q=>gt_int q
theorem aK:rj X (BP .Is) (λx y H Q=>y=.non/\Q (.bl (decide (x=.non))) H):=by
 intro pM s J H x y v u Q I rx ry h;obtain⟨rfl,q⟩:=h;cases ry;refine is_none_gen (Tu I q ?_);cases x<;>first
  |(cases rx;rfl)
  |(obtain⟨t,rfl⟩:=rx;rfl)
theorem d5:rj X (BP .IsNot) (λx y H Q=>y=.non/\Q (.bl (!decide (x=.non))) H):=by
 intro pM s J H x y v u Q I rx ry h;obtain⟨rfl,q⟩:=h;cases ry;refine isnot_none_gen (Tu I q ?_);cases x<;>first
  |(cases rx;rfl)
  |(obtain⟨t,rfl⟩:=rx;rfl)
theorem Uc{op:CmpOp}{r:R2}(ho:rj X (BP op) r)(ha:PE X a ta)(hb:PE X b tb)(hm:Di op b=Ab):PE X (.Compare a [op] [b] pos) (wX r ta tb):=by intro pM s J H Q I h;exact wpAny_Compare1 (Oi ha hb I h λv u s2 x y H2 I2 rx ry q=>ho pM s2 J H2 x y v u Q I2 rx ry q) hm
def bJ(t:TE):TT:=λJ H Q=>t J H λx H'=>∃k,x=.bl k/\Q k H'
theorem Ph{op:CmpOp}{r:R2}(ho:rj X (BP op) r)(ha:PE X a ta)(hb:PE X b tb)(hm:Di op b=Ab):PT X (.Compare a [op] [b] pos) (bJ (wX r ta tb)):=by intro pM s J H Q I h;refine wpAny_isTrue_Compare1 (pW (ha pM s J H _ I h) λv s1 ⟨x,H1,I1,r1,q1⟩=>pW (hb pM s1 J H1 _ I1 q1) λu s2 ⟨y,H2,I2,r2,q2⟩=>pW (ho pM s2 J H2 x y v u _ I2 r1 r2 q2) λc s3 ⟨z,H3,I3,r3,k,e,q3⟩=>?_) hm;subst e;cases r3;exact EX ⟨H3,I3,q3⟩
def cO(r r':R2)(ta tb tc:TE):TE:=λJ H Q=>ta J H λx H1=>tb J H1 λy H2=>r x y H2 λz H3=>∃k,z=.bl k /\
 (if k=Aa then tc J H3 λw' H4=>r' y w' H4 Q else Q (.bl Ab) H3)
theorem UP{op op':CmpOp}{r r':R2}(ho:rj X (BP op) r)(ho':rj X (BP op') r')(ha:PE X a ta)(hb:PE X b tb)(hc:PE X c tc)(hm:lastMarks [op,op'] [b,c]=Ab:=by with_unfolding_all rfl):PE X (.Compare a [op,op'] [b,c] pos) (cO r r' ta tb tc):=by
 intro pM s J H Q I h;refine Compare_chain (pW (ha pM s J H _ I h) λv s1 ⟨x,H1,I1,r1,q1⟩=>chain_link (pW (hb pM s1 J H1 _ I1 q1) λu s2 ⟨y,H2,I2,r2,q2⟩=>pW (ho pM s2 J H2 x y v u _ I2 r1 r2 q2) λd s3 ⟨z,H3,I3,r3,k,e,q3⟩=>?_)) hm;subst e;cases r3;refine EX ?_;cases k with
 |false=>exact ite_ff ⟨.bl Ab,H3,I3,rfl,q3⟩
 |true=>exact ite_tt (chain_last (pW (hc pM s3 J H3 _ I3 q3) λw' s4 ⟨z',H4,I4,r4,q4⟩=>ho' pM s4 J H4 y z' u w' Q I4 r2 r4 q4))
def SM(K:Ae)(x:V)(H:Hp)(k:Bool):Prop :=
 match x with
 | .non=>k=Ab
 | .bl b=>k=b
 | .int i=>k=(i != 0)
 | .str y=>y.length<=sizeLine/\k=((y.length:Int) != 0)
 | .byt y=>y.size<=sizeLine/\k=((y.size:Int) != 0)
 | .ref p=>(∃xs,qD K H p xs/\k=!xs.isEmpty)\/(∃xs,rM K H p xs/\k=!xs.isEmpty)\/∃kvs,H p=Z (.dK kvs)/\k=!kvs.isEmpty
 |_=>False
theorem kl{κ:Type}{kvs:List (κ×V)}{vs:List (κ×Value)}(r:KV kvs vs):(!vs.isEmpty)=!kvs.isEmpty:=by cases r<;>rfl
theorem Wt{xs:List V}{pO:List Value}(r:pQ xs pO):(!pO.toArray.isEmpty)=!xs.isEmpty:=by cases r<;>simp
theorem Iq:(sizeLine:Nat)<2 ^ 63:=by rw[BO];decide
theorem cJ:aA X (λx H Q=>∃k,SM X.K x H k/\Q k H):=by
 intro pM s J H x v Q I rx h;obtain⟨k,e,q⟩:=h;have hl:=Iq;have hs:sizeLine=16777216:=BO;cases x with
 |non=>cases rx;have e':k=Ab:=e;subst e';exact truthy_none ⟨H,I,q⟩
 |bl b=>cases rx;have e':k=b:=e;subst e';exact EX ⟨H,I,q⟩
 |int i=>obtain⟨t,rfl⟩:=rx;have e':k=(i != 0):=e;subst e';exact PySem.P.truthy_int ⟨H,I,q⟩
 |str y=>obtain⟨t,rfl⟩:=rx;obtain⟨hy,e'⟩:y.length<=sizeLine/\k=((y.length:Int) != 0):=e;subst e';exact PySem.P.truthy_str (by omega) ⟨H,I.tok _,q⟩
 |byt y=>obtain⟨t,rfl⟩:=rx;obtain⟨hy,e'⟩:y.size<=sizeLine/\k=((y.size:Int) != 0):=e;subst e';exact PySem.W.truthy_bytes (by omega) ⟨H,I.tok _,q⟩
 |ref p =>
  cases rx;have e':(∃xs,qD X.K H p xs/\k=!xs.isEmpty)\/(∃xs,rM X.K H p xs/\k=!xs.isEmpty)\/∃kvs,H p=Z (.dK kvs)/\k=!kvs.isEmpty:=e;rcases e' with⟨xs,hx,e'⟩|⟨xs,hx,e'⟩|⟨kvs,hx,e'⟩
  .subst e'
   obtain⟨pO,r,pl,hz⟩:=I.list hx;have pP:=r.length;exact wpAny_truthy_list pl.isList (by simp only[AL];omega) ⟨H,I.tok _,by rw[Wt r];exact q⟩
  .subst e'
   obtain⟨pO,r,pl,hz⟩:=I.tuple hx;have pP:=r.length;exact truthy_tuple pl (by simp only[AL];omega) ⟨H,I.tok _,by rw[Wt r];exact q⟩
  .subst e'
   obtain⟨hz,hS,vs,r,m⟩:kvs.length<=sizeLine/\(p==CK)=Ab/\∃vs,KV kvs vs/\s.heap.DictOf (BN X.prog X.w) p vs:=I.hok p _ hx;have pP:kvs.length=vs.length:=GC r;exact wpAny_truthy_dict hS m (by omega) ⟨H,I.tok _,by rw[kl r];exact q⟩
 |_=>exact(show False from e).elim
theorem gm(ha:PE X a ta)(he:∀qG,isTrue a X.env qG=(do let v <-qG;standAt a.pos;holding [v] (truthy v))):PT X a (λJ H Q=>ta J H λx H'=>∃k,SM X.K x H' k/\Q k H'):=by
 intro pM s J H Q I h;exact isTrue_plain (pW (ha pM s J H _ I h) λv s1 ⟨x,H1,I1,r1,q1⟩=>cJ pM s1 J H1 x v Q I1 r1 q1) (he _)
theorem vals1(r:pQ [x] us):∃u,us=[u]/\RelV x u:=by
 cases r with
 |cons r1 r2=>cases r2;exact⟨_,rfl,r1⟩
theorem vals2{y:V}(r:pQ [x,y] us):∃u w',us=[u,w']/\RelV x u/\RelV y w':=by
 cases r with
 |cons r1 r2 =>
  cases r2 with
  |cons r3 r4=>cases r4;exact⟨_,_,rfl,r1,r3⟩
theorem ja(hc:X.calm=Aa):Be X (.builtin "max") (λxs H Q=>∃i j,xs=[.int i,.int j]/\Q (.int (if j > i then j else i)) H):=by
 intro pM s J H xs us Q I r h;obtain⟨i,j,rfl,q⟩:=h;obtain⟨u,w',rfl,⟨t,rfl⟩,⟨t',rfl⟩⟩:=vals2 r;refine max_two_ints (I.ok.hd hc) λh' tk k=>⟨_,H,I.kept k,?_,q⟩
 by_cases hj:j > i
 .rw[if_pos hj,if_pos hj];exact⟨_,rfl⟩
 .rw[if_neg hj,if_neg hj];exact⟨_,rfl⟩
theorem i8(hc:X.calm=Aa):Be X (.builtin "min") (λxs H Q=>∃i j,xs=[.int i,.int j]/\Q (.int (if j<i then j else i)) H):=by
 intro pM s J H xs us Q I r h;obtain⟨i,j,rfl,q⟩:=h;obtain⟨u,w',rfl,⟨t,rfl⟩,⟨t',rfl⟩⟩:=vals2 r;refine min_two_ints (I.ok.hd hc) λh' tk k=>⟨_,H,I.kept k,?_,q⟩
 by_cases hj:j<i
 .rw[if_pos hj,if_pos hj];exact⟨_,rfl⟩
 .rw[if_neg hj,if_neg hj];exact⟨_,rfl⟩
theorem VX:Be X (.type "int") (λxs H Q=>(∃i,xs=[.int i]/\Q (.int i) H)\/∃k,xs=[.bl k]/\Q (.int (if k then 1 else 0)) H):=by
 intro pM s J H xs us Q I r h;rcases h with⟨i,rfl,q⟩|⟨k,rfl,q⟩
 .obtain⟨u,rfl,t,rfl⟩:=vals1 r
  exact call_int_int ⟨.int i,H,I,⟨_,rfl⟩,q⟩
 .obtain⟨u,rfl,r1⟩:=vals1 r
  cases r1;exact call_int_bool ⟨.int (if k then 1 else 0),H,I.tok _,⟨_,rfl⟩,q⟩
end
end
theorem EB.some_of{v:V}{o:Option Value}(r:EB (Z v) o):∃u,o=Z u/\RelV v u:=by
 cases o with
 |none=>exact(show False from r).elim
 |some u=>exact⟨u,rfl,r⟩
section
variable{f:Addr}{base:Heap}{H:Hp}{ps:List Str}{vs:List V}{us:List Value}{P:Program}{K:Ae}{scope:Scope}{s:Shared}{qual:Str}{mg:Str->Option Value}
structure Z9(k:Nat)(A:Around):Prop where
 hd:A.handled=Z_
 dp:A.depth+3*k+5<recursionLimit
 un:A.units+16*k+200<cLine
theorem Z9.mono{j k:Nat}{A:Around}(r:Z9 k A)(h:j<=k):Z9 j A:=⟨r.hd,by have:=r.dp;omega,by have:=r.un;omega⟩
theorem Z9.deeper{k:Nat}{A:Around}(r:Z9 (k+1) A)(env:Env):Z9 k (A.deeper env) :=
 ⟨r.hd,by have:=r.dp;show A.depth+1+3*k+5<_;omega,by have:=r.un;show A.units+3+16*k+200<_;omega⟩
theorem Z9.depth{k:Nat}{A:Around}(r:Z9 k A):A.depth<recursionLimit:=by have:=r.dp;omega
theorem Z9.units{k:Nat}{A:Around}(r:Z9 k A):A.units+64<cLine:=by have:=r.un;omega
def Y7:TA:=λ_ H Q=>Q [] H
def YS(ta:TE)(tr:TA):TA:=λJ H Q=>ta J H λx H1=>tr J H1 λxs H2=>Q (x::xs) H2
section
variable{X:Cx}{e:Expr}{es:List Expr}{te:TE}{t:TA}{pos:Pos}
theorem Cm:PA X [] Y7:=λ_ _ _ _ H Q I h=>Calls.spliced_nil ⟨[],H,I,.nil,h⟩
theorem Z8(ha:PE X e te)(hr:PA X es t)(hs:Ah (e::es) X.env=(Ab,eval e X.env)::Ah es X.env:=by rfl):PA X (e::es) (YS te t):=by intro pos pM s J H Q I h;rw[hs];show wpAny _ _ (spliced ((Ab,eval e X.env)::backTo pos (Ah es X.env))) _ _ s;refine Sh (pW (ha pM s J H _ I h) λu s1 ⟨x,H1,I1,r1,q1⟩=>?_);exact pW (hr pos pM s1 J H1 _ I1 q1) λus s2 ⟨xs,H2,I2,r2,q2⟩=>⟨x::xs,H2,I2,.cons r1 r2,q2⟩
def YQ(t:TA):TE:=λJ H Q=>t J H λxs H1=>xs.length<=sizeLine/\∀p,H1 p=Z_->Q (.ref p) (upd H1 p (.tup xs))
def Io(t:TA):TE:=λJ H Q=>t J H λxs H1=>xs.length<=sizeLine/\∀p,H1 p=Z_->Q (.ref p) (upd H1 p (.lst xs))
theorem cX{x1}(h:PA X es t):PE X (.Tuple es x1 pos) (YQ t):=by intro pM s J H Q I hq;refine wpAny_Tuple_spliced (pW (h pos pM s J H _ I hq) λus s1 ⟨xs,H1,I1,r,z,q⟩=>⟨by rw[<-r.length];exact z,?_⟩);have hf:H1 s1.heap.objs.size=Z_:=I1.hok.fresh (Ai _);refine⟨.ref s1.heap.objs.size,upd H1 s1.heap.objs.size (.tup xs),I1.laid (t':=s1.toks) (λb u e=>Ar _ e) (Ai _) ?_,rfl,q _ hf⟩;exact⟨z,us,r,⟨_,AS _ rfl,rfl,_,rfl⟩⟩
theorem bp(h:PA X es t):PE X (.List es pos) (Io t):=by intro pM s J H Q I hq;refine wpAny_List_spliced (pW (h pos pM s J H _ I hq) λus s1 ⟨xs,H1,I1,r,z,q⟩=>⟨by rw[<-r.length];exact z,?_⟩);have hf:H1 s1.heap.objs.size=Z_:=I1.hok.fresh (Ai _);refine⟨.ref s1.heap.objs.size,upd H1 s1.heap.objs.size (.lst xs),I1.laid (t':=s1.toks) (λb u e=>Ar _ e) (Ai _) ?_,rfl,q _ hf⟩;exact⟨z,us,0,r,AS _ rfl⟩
end
abbrev Sp:=List V->Hp->VK->XK->Prop
abbrev va:=List Env->Hp->Shared->XK->Value->Shared->Prop
structure Dr(P:Program)(w:World)(K:Ae)(mg:Str->Option Value)(base:Heap)(A:Around)(outer:List Env)(s:Shared)(H:Hp):Prop where
 frames:A.frames=Z outer
 mod:Mod K mg base
 bs:∀b o,base.get? b=Z o->s.heap.get? b=Z o/\H b=Z_
 bsz:base.objs.size<=s.heap.objs.size
 funs:s.heap.FunFrames base outer
 frf:∀b∈tp outer,H b=Z_
 hok:qE P w H s.heap
 bare:AllBare s.gens
def CE(outer:List Env)(P:Program)(w:World)(H:Hp)(s:Shared)(Q:VK)(u:Value)(s':Shared):Prop :=
 ∃v H',s'.os=s.os/\AllBare s'.gens/\Un (tp outer) [] H H' s.heap s'.heap/\qE P w H' s'.heap/\RelV v u/\Q v H'
def CR(CX:va)(outer:List Env)(P:Program)(w:World)(H:Hp)(s:Shared)(Q:VK)(E:XK)(r:Result)(s':Shared):Prop :=
 match r with
 | .ok (.ret u)=>CE outer P w H s Q u s'
 | .ok _=>False
 | .error e=>CX outer H s E e s'
structure Ck(P:Program)(w:World)(K:Ae)(mg:Str->Option Value)(base:Heap)(CX:va)(k:Nat)(f:Addr)(fd:FuncData)(ps:List Str)(sp:Sp):Prop where
 len:∀vs H Q E,sp vs H Q E->vs.length=ps.length
 run:∀(A:Around) (outer:List Env) (s:Shared) (H:Hp) (args:Args) (us:List Value) (vs:List V) (Q:VK) (E:XK),Z9 k A->Dr P w K mg base A outer s H->BindsTo s fd args (ps.zip us)->pQ vs us->sp vs H Q E ->
  codeAny (model P w) A (.call (.ref f) args) (CR CX outer P w H s Q E) s
theorem Ck.mono{P:Program}{w:World}{K:Ae}{mg:Str->Option Value}{base:Heap}{CX:va}{j k:Nat}{f:Addr}{fd:FuncData}{ps:List Str}{sp:Sp}(F:Ck P w K mg base CX j f fd ps sp)(h:j<=k):Ck P w K mg base CX k f fd ps sp:=⟨F.len,λA outer s H args us vs Q E hr=>F.run A outer s H args us vs Q E (hr.mono h)⟩
section
variable{X:Cx}{pM:List (Addr×Obj)}{J:St}{H:Hp}{s s':Shared}
theorem Inv.env0(I:Inv X pM J H s):Dr X.prog X.w X.K X.mg X.base X.A X.stack s H :=
 ⟨I.ok.frames,I.ok.mod,I.bs,BY I.ok.bsz I.sz,I.stack,I.stkFree,I.hok,I.bare⟩
theorem Inv.after{Q:VK}{u:Value}(I:Inv X pM J H s)(h:CE X.stack X.prog X.w H s Q u s'):EP X pM J Q u s':=by obtain⟨v,H',os,bare,un,hok,r,q⟩:=h;obtain⟨hh,g,d,t,os'⟩:=s';obtain rfl:os'=s.os:=os;exact⟨v,H',I.call (h':=hh) (g':=g) (d':=d) (t':=t) (ch:=[]) un hok bare (λb z=>absurd z (by simp)),r,q⟩
end
noncomputable def Y0 (sp:Sp) (vM:List V) (E:XK) (t:TA):TE:=λJ H Q=>t J H λvs H1=>sp (vs++vM) H1 Q E
def Binds(K:Ae)(fd:FuncData)(ps:List Str)(ds:List Value):Prop :=
 ∀(s:Shared) (us:List Value),K.In s.heap->(us++ds).length=ps.length->BindsTo s fd ⟨us,[]⟩ (ps.zip (us++ds))
theorem Binds.all{fd:FuncData}(h:∀us:List Value,us.length=ps.length->bindArgs fd ⟨us,[]⟩=pure (ps.zip us)):Binds K fd ps []:=λs us _ hl=>by rw[BK]at hl ⊢;exact .of_eq (h us hl)
def tQ(CX:va)(X:Cx)(E:XK):Prop:=∀(pM:List (Addr×Obj)) (J:St) (H:Hp) (s:Shared) (e:Value) (s':Shared),Inv X pM J H s->CX X.stack H s E e s'->X.xe e s'
section
variable{X:Cx}{CX:va}{k:Nat}{f C:Addr}{fd:FuncData}{ps:List Str}{sp:Sp}{vM:List V}{ds:List Value}{E:XK}{x m:Str}{p pos sj:Pos}{e o:Expr}{es:List Expr}{ta:TE}{t:TA}
theorem bP{pM:List (Addr×Obj)}{J:St}{Q:VK}(F:Ck X.prog X.w X.K X.mg X.base CX k f fd ps sp)(hr:Z9 k X.A)(hb:Binds X.K fd ps ds)(hd:pQ vM ds)(hx:tQ CX X E)(I:Inv X pM J H s)(r:pQ vs us)(h:sp (vs++vM) H Q E):wpAny (model X.prog X.w) X.A (call (.ref f) us) (EP X pM J Q) X.xe s:=by
 have r2:pQ (vs++vM) (us++ds):=r.append hd;have hl:(us++ds).length=ps.length:=by rw[<-r2.length];exact F.len _ _ _ _ h
 refine Ld (Ek (F.run X.A X.stack s H ⟨us,[]⟩ (us++ds) (vs++vM) Q E hr I.env0 (hb s us I.kIn hl) r2 h) λr s' hq=>?_);cases r with
 |error e=>exact hx pM J H s e s' I hq
 |ok fl =>
  cases fl with
  |ret u=>exact I.after hq
  |next=>exact BZ hq
  |brk=>exact BZ hq
  |cont=>exact BZ hq
theorem Pb(F:Ck X.prog X.w X.K X.mg X.base CX k f fd ps sp)(hr:Z9 k X.A)(hg:Gl X x)(hm:X.mg x=Z (.ref f))(hk:Et X.K (.ref f)=Aa)(hb:Binds X.K fd ps ds)(hd:pQ vM ds)(hx:tQ CX X E)(ha:PA X (e::es) t)(tm:(x==("__debug__":Str))=Ab:=by decide)(he:Ah (e::es) X.env=(Ab,eval e X.env)::Ah es X.env:=by rfl)(hpl:(backTo pos (Ah es X.env)).any (·.1)=Ab:=by rfl):PE X (.Call (.Name x p) (e::es) [] pos) (Y0 sp vM E t):=by
 intro pM s J H Q I h;refine JD (O6 I hg hm ?_ tm);refine X5 (h₀:=X.base) I.ok.mod.kin hk (pW (ha pos pM s J H _ I h) λus s1 ⟨vs,H1,I1,r,q⟩=>⟨I1.kIn,?_⟩) he hpl;exact bP F hr hb hd hx I1 r q
end
structure Zv(N P:List Str)(sc:Scope):Prop where
 kind:sc.kind=.function
 co:sc.isCoroutine=Ab
 gen:sc.isGenerator=Ab
 nd:N.Nodup
 pre:N.take P.length=P
 par:∀x∈P,sc.names.lookup x=Z .local\/sc.names.lookup x=Z .cell
 nofree:∀y∈sc.names,y.2≠.free
theorem Wg{kindOf:Str->Option NameKind}{x:Str}:∀{binds:List (Str×Value)} {m:Str->Option Value},(∀v,(x,v)∉binds)->bindL kindOf binds m x=m x
 |[],_,_=>rfl
 |(n,v)::r,m,h=>by
  unfold bindL;rw[Wg λw hw=>h w (Ao _ hw)];split
  .have:x≠n:=by rintro rfl;exact h v An
   simp[this]
  .rfl
theorem V3{kindOf:Str->Option NameKind}{x:Str}:∀{binds:List (Str×Value)} {m:Str->Option Value},(∀v,(x,v)∉binds)->bindC kindOf binds m x=m x
 |[],_,_=>rfl
 |(n,v)::r,m,h=>by
  unfold bindC;rw[V3 λw hw=>h w (Ao _ hw)];split
  .rfl
  .have:x≠n:=by rintro rfl;exact h v An
   simp[this]
theorem VR{kindOf:Str->Option NameKind}{x:Str}{v:Value}:∀{P:List Str} {vs:List Value} {i:Nat} {m:Str->Option Value},P.Nodup->P[i]?=Z x->vs[i]?=Z v->kindOf x=Z .local ->bindL kindOf (P.zip vs) m x=Z v
 |[],_,_,_,_,h,_,_=>by simp at h
 |_::_,[],_,_,_,_,h,_=>by simp at h
 |p::P,w::vs,0,m,nd,h1,h2,hk=>by simp at h1 h2;subst h1;subst h2;show bindL kindOf ((p,w)::P.zip vs) m p=_;unfold bindL;rw[Wg λv hv=>(CG.mp nd).1 (RN hv).1,if_pos hk];simp
 |p::P,w::vs,i+1,m,nd,h1,h2,hk=>by show bindL kindOf ((p,w)::P.zip vs) m x=_;unfold bindL;exact VR (i:=i) (CG.mp nd).2 (by simpa using h1) (by simpa using h2) hk
theorem VT{kindOf:Str->Option NameKind}{x:Str}{v:Value}:∀{P:List Str} {vs:List Value} {i:Nat} {m:Str->Option Value},P.Nodup->P[i]?=Z x->vs[i]?=Z v->kindOf x≠Z .local ->bindC kindOf (P.zip vs) m x=Z v
 |[],_,_,_,_,h,_,_=>by simp at h
 |_::_,[],_,_,_,_,h,_=>by simp at h
 |p::P,w::vs,0,m,nd,h1,h2,hk=>by simp at h1 h2;subst h1;subst h2;show bindC kindOf ((p,w)::P.zip vs) m p=_;unfold bindC;rw[V3 λv hv=>(CG.mp nd).1 (RN hv).1,if_neg hk];simp
 |p::P,w::vs,i+1,m,nd,h1,h2,hk=>by show bindC kindOf ((p,w)::P.zip vs) m x=_;unfold bindC;exact VT (i:=i) (CG.mp nd).2 (by simpa using h1) (by simpa using h2) hk
def start(N:List Str)(vs:List V):St:=vs.map Z++Bs (N.length-vs.length) Z_
def DL(CX:va)(P:Program)(w:World)(K:Ae)(mg:Str->Option Value)(base:Heap)(N:List Str)(qual:Str)(scope:Scope)(f:Addr)(cd:Value)(A:Around)(outer:List Env)(s:Shared)(H:Hp)(E:XK):Cx where
 prog:=P
 w:=w
 K:=K
 mg:=mg
 base:=base
 A:=A.deeper (envOfC qual scope s.heap.objs.size f cd)
 N:=N
 s₀:=s
 H₀:=H
 env:=envOfC qual scope s.heap.objs.size f cd
 outer:=outer
 stack:=envOfC qual scope s.heap.objs.size f cd::outer
 ex:=[]
 calm:=Aa
 fn:=λ_=>Aa
 pn:=[]
 xe:=λe s'=>wpAny (model P w) (A.deeper (envOfC qual scope s.heap.objs.size f cd)) (leaving (envOfC qual scope s.heap.objs.size f cd) e) (λ_ s''=>CX outer H s E e s'') (λe' s''=>CX outer H s E e' s'') s'
theorem Vc{sc:Scope}{n:Nat}{x:Str}(h:sc.names.lookup x=Z .cell):∃c,(cellsFrom n sc.names []).lookup x=Z c:=by have q:=Yw sc.names n [] (.inl h);exact Dp.mp q
theorem iJ{CX:va}{w:World}{N:List Str}{cd:Value}{A:Around}{outer:List Env}{s1:Shared}{E:XK}(S:Zv N ps scope)(hd:A.handled=Z_)(e0:Dr P w K mg base A outer s H)(hl:vs.length=ps.length)(r:pQ vs us)(x:InCallC s s.heap.objs.size (bindL (envOfC qual scope s.heap.objs.size f cd).kindOf (ps.zip us) λ_=>Z_) (cellsFrom (s.heap.objs.size+1) scope.names []) (bindC (envOfC qual scope s.heap.objs.size f cd).kindOf (ps.zip us) λ_=>Z_) s1):Inv (DL CX P w K mg base N qual scope f cd A outer s H E) [] (start N vs) H s1:=by
 have hpl:ps.length<=N.length:=by have:=congrArg Bx S.pre;rw[DG]at this;omega
 obtain⟨h1,tk,rfl,hk⟩:=x.done;have uX:∀b:Addr,b∉(DL CX P w K mg base N qual scope f cd A outer s H E).ex:=λb z=>absurd (show b∈([]:List Addr) from z) (by simp);refine⟨⟨e0.mod,S.kind,rfl,rfl,Ai _,λy z c h1 h2=>?_,λy hy=>?_,λy c _ h=>?_,λ_=>hd,Yl e0.frames,.inr ⟨rfl,rfl⟩,λb z=>absurd z (uX b),e0.bs,e0.bsz,λb _ _=>uX b,λb z=>absurd z (uX b),e0.funs,e0.frf⟩,
  rfl,e0.bare,Un.kept hk,⟨_,x.toInCall.ns,λi y v h1 h2 h3=>?_⟩,λy c h=>⟨_,x.cell y c h⟩,e0.hok.fresh (Ai _),λy c h=>?_,λp hp=>absurd (show p∈([]:List (Addr×Obj)) from hp) (by simp),e0.hok.kept hk,?_⟩
 .exact name_of_addr x.apart (Gz h1) (Gz h2)
 .have hy:scope.names.lookup y=Z .cell\/scope.names.lookup y=Z .free:=hy
  rcases hy with hy|hy
  .exact Vc hy
  .exact absurd rfl (S.nofree _ (Gz hy))
 .exact ET (x.above y c (Gz h))
 .have hi:i<vs.length:=by
   unfold start at h2
   by_cases hi:i<vs.length
   .exact hi
   .rw[D4 (by simpa using hi)]at h2
    rw[Ob]at h2;split at h2<;>cases h2
  have ha:vs[i]?=Z v:=by
   unfold start at h2;rw[Eo (by simpa using hi),AE]at h2;cases e:vs[i]? with
   |none=>rw[e]at h2;cases h2
   |some a=>rw[e]at h2;cases h2;rfl
  obtain⟨u,hu,rv⟩:=r.get ha;have hp:ps[i]?=Z y:=by rw[<-S.pre,Yg (by omega)];exact h1
  have ndP:ps.Nodup:=by rw[<-S.pre];exact S.nd.sublist (List.take_sublist _ _)
  refine⟨u,rv,?_⟩;rcases S.par y (Bf hp)with k|k
  .exact .inl ⟨k,VR ndP hp hu k⟩
  .obtain⟨c,e⟩:=Vc (n:=s.heap.objs.size+1) k
   refine .inr ⟨.inl k,c,e,?_⟩;have q:=x.cell y c e;rw[VT ndP hp hu (by show scope.names.lookup y≠_;rw[k];decide)]at q;exact q
 .exact e0.hok.fresh (ET (x.above y c (Gz h)))
 .unfold start
  show _=N.length;rw[AB,Af,DY];omega
theorem S5{CX:va}{w:World}{k:Nat}{name:Str}{params:Arguments}{body:List Stmt}{dV kV qU pm pV ct oc:Value}{an od:Option Addr}{sA:Array (Option Value)}{N ps:List Str}{sp:Sp}(lk:K.lookup f=Z ⟨oc,od,.func (Dh name qual params body scope dV kV qU pm an pV ct),sA⟩)(qw:GD K pV qual=Aa)(S:Zv N ps scope)(len:∀vs H Q E,sp vs H Q E->vs.length=ps.length)
  (sR:∀(A:Around) (outer:List Env) (s:Shared) (H:Hp) (vs:List V) (Q:VK) (E:XK),Z9 k (A.deeper (envOfC qual scope s.heap.objs.size f pV))->sp vs H Q E ->
   ∃t,rH (DL CX P w K mg base N qual scope f pV A outer s H E) body t/\t {nx:=λ_ H'=>Q .non H',rt:=Q} (start N vs) H):
  Ck P w K mg base CX (k+1) f (Dh name qual params body scope dV kV qU pm an pV ct) ps sp:=by
 refine⟨len,λA outer s H args us vs Q E hr e0 hb r vB=>?_⟩;have hl:=len _ _ _ _ vB;have KX:K.In s.heap:=e0.mod.kin.keeps λb o e=>(e0.bs b o e).1;have yU:s.heap.NoLimit:=e0.mod.nolimit.keeps λb o e=>(e0.bs b o e).1;have tU:∀y∈ps.zip us,scope.names.lookup y.1=Z .local\/(scope.names.lookup y.1=Z .cell/\((cellsFrom (s.heap.objs.size+1) scope.names []).lookup y.1).isSome=Aa):=λ⟨n,v⟩ hy=>by
  rcases S.par n (RN hy).1 with q|q
  .exact .inl q
  .exact .inr ⟨q,Yw _ _ _ (.inl q)⟩
 refine codeAny_call_function hr.depth (KX _ _ lk) rfl S.co S.gen rfl (PySem.W.codeRec_of KX qw) (hb _ _ _ _ ?_);refine wpAny_newFunctionEnv_cells S.kind tU λenv he s1 x=>?_;subst he;refine⟨yU.keeps x.toInCall.keep,codeAny_func ?_⟩;obtain⟨t,ht,hq⟩:=sR A outer s H vs Q E (hr.deeper _) vB;have I:Inv (DL CX P w K mg base N qual scope f pV A outer s H E) [] (start N vs) H s1:=iJ S hr.hd e0 hl r x;refine Cu (ht [] s1 (start N vs) H _ I hq) (λfl s' hs=>?_) λe s' hs=>hs;have qC:∀{σ':St} {H':Hp} {v:V} {u:Value},Inv (DL CX P w K mg base N qual scope f pV A outer s H E) [] σ' H' s'->RelV v u->Q v H'->CE outer P w H s Q u s' :=
  λ{σ' H' v u} zZ rv q=>⟨v,H',zZ.os,zZ.bare,zZ.base,zZ.hok,rv,q⟩
 cases fl with
 |ret u=>obtain⟨v,σ',H',zZ,rv,q⟩:=hs;exact qC zZ rv q
 |next=>obtain⟨σ',H',zZ,q⟩:=hs;exact qC (v:=V.non) (u:=Bl) zZ rfl q
 |brk=>obtain⟨_,_,_,q⟩:=hs;exact BZ q
 |cont=>obtain⟨_,_,_,q⟩:=hs;exact BZ q
end
section
variable{X:Cx}{x:Str}{p pos:Pos}{e:Expr}{es:List Expr}{t:TA}{id T:String}{r:List V->Hp->VK->Prop}
def tCB(r:List V->Hp->VK->Prop)(t:TA):TE:=λJ H Q=>t J H λvs H1=>r vs H1 Q
theorem Fh(hc:Be X (.builtin id) r)(hg:Gl X x)(hm:X.mg x=Z_)(hv:Ce x=Z (.builtin id))(ha:PA X (e::es) t)(hn:x ≠ "__name__":=by decide)(tm:(x==("__debug__":Str))=Ab:=by decide)(he:Ah (e::es) X.env=(Ab,eval e X.env)::Ah es X.env:=by rfl)(hpl:(backTo pos (Ah es X.env)).any (·.1)=Ab:=by rfl):PE X (.Call (.Name x p) (e::es) [] pos) (tCB r t):=by
 intro pM s J H Q I h;refine JD (J2 I hg hm hv ?_ hn tm);exact PyProof.Rows.callWith_builtin1 (pW (ha pos pM s J H _ I h) λus s1 ⟨vs,H1,I1,r1,q1⟩=>hc pM s1 J H1 vs us Q I1 r1 q1) he hpl
theorem Gf(hc:Be X (.type T) r)(hg:Gl X x)(hm:X.mg x=Z_)(hv:Ce x=Z (.type T))(ha:PA X (e::es) t)(hn:x ≠ "__name__":=by decide)(tm:(x==("__debug__":Str))=Ab:=by decide)(he:Ah (e::es) X.env=(Ab,eval e X.env)::Ah es X.env:=by rfl)(hpl:(backTo pos (Ah es X.env)).any (·.1)=Ab:=by rfl):PE X (.Call (.Name x p) (e::es) [] pos) (tCB r t):=by
 intro pM s J H Q I h;refine JD (J2 I hg hm hv ?_ hn tm);exact YI (pW (ha pos pM s J H _ I h) λus s1 ⟨vs,H1,I1,r1,q1⟩=>hc pM s1 J H1 vs us Q I1 r1 q1) he hpl
end
end L2
namespace HT
set_option maxHeartbeats 8000000
open PySem PyProof.Rows
section
open PySem.SeqAt
open PySem.MeetsSeq PySem.MeetsSeq2 PySem.MeetsSeq3
end
section
variable{prog:Program}{w:World}{A:Around}{E:Value->Shared->Prop}{s:Shared}
def wY(n d:Nat):Option Int->Nat
 |none=>d
 |some v=>if v<0 then(v+(n:Int)).toNat else min v.toNat n
end
end HT
namespace L2
open PySem PySem.Spec PyProof.Rows
abbrev TO:=St->Hp->(Option Int->Hp->Prop)->Prop
def PO(X:Cx)(e:Option Expr)(t:TO):Prop :=
 ∀(pM:List (Addr×Obj)) (s:Shared) (J:St) (H:Hp) (Q:Option Int->Hp->Prop),Inv X pM J H s->t J H Q ->
  wpAny (model X.prog X.w) X.A (evalPart e X.env) (λu s'=>∃o H',Inv X pM J H' s'/\IsPart u o/\Q o H') X.xe s
def dG:TO:=λ_ H Q=>Q Z_ H
def Y4(t:TE):TO:=λJ H Q=>t J H λx H1=>∃i,x=.int i/\Q (Z i) H1
section
variable{X:Cx}{e:Expr}{te:TE}{lo hi:Option Expr}{tl th:TO}{pos p2:Pos}
theorem fV:PO X Z_ dG:=by intro pM s J H Q I h;rw[evalPart_none];exact Ad ⟨Z_,H,I,.none,h⟩
theorem dD(h:PE X e te):PO X (Z e) (Y4 te):=by intro pM s J H Q I hw;rw[evalPart_some];refine pW (h pM s J H _ I hw) λu s1 ⟨x,H1,I1,r1,q1⟩=>?_;obtain⟨i,rfl,q⟩:=q1;obtain⟨t,rfl⟩:=r1;exact⟨Z i,H1,I1,.int i t,q⟩
def SlR(X:Cx)(r:V->Option Int->Option Int->Hp->VK->Prop):Prop :=
 ∀(pM:List (Addr×Obj)) (s:Shared) (J:St) (H:Hp) (x:V) (v vl vu:Value) (lo hi:Option Int) (sl:Addr) (Q:VK),Inv X pM J H s->RelV x v->s.heap.IsSliceOf sl vl vu .none->IsPart vl lo->IsPart vu hi->r x lo hi H Q ->
  ∃T id,typeLookup (.type T) "__getitem__"=pure (Z (.builtin id))/\s.TypeIs v T/\wpAny (model X.prog X.w) X.A (getItem v (.ref sl)) (EP X pM J Q) X.xe s
def tSl(r:V->Option Int->Option Int->Hp->VK->Prop)(te:TE)(tl th:TO):TE:=λJ H Q=>te J H λx H1=>tl J H1 λl H2=>th J H2 λu H3=>r x l u H3 Q
theorem fu{r:V->Option Int->Option Int->Hp->VK->Prop}(hr:SlR X r)(he:PE X e te)(hl:PO X lo tl)(hu:PO X hi th):PE X (.Subscript e (.Slice lo hi Z_ p2) pos) (tSl r te tl th):=by intro pM s J H Q I h;refine Subscript_ (pW (he pM s J H _ I h) λv s1 ⟨x,H1,I1,r1,q1⟩=>?_);refine wpAny_Slice (pW (hl pM s1 J H1 _ I1 q1) λvl s2 ⟨l,H2,I2,pl,q2⟩=>pW (hu pM s2 J H2 _ I2 q2) λvu s3 ⟨u,H3,I3,pu,q3⟩=>?_);rw[evalPart_none];refine Ad ?_;have I4:Inv X pM J H3 {s3 with heap:=s3.heap.push {cls:=.type "slice",data:=.fields #[vl,vu,.none]}}:=I3.kept (t':=s3.toks) λb ob q=>Ar _ q;obtain⟨T,id,hT,ht,hg⟩:=hr pM {s3 with heap:=s3.heap.push {cls:=.type "slice",data:=.fields #[vl,vu,.none]}} J H3 x v vl vu l u s3.heap.objs.size Q I4 r1 (Heap.IsSliceOf.new ..) pl pu q3;show wpAny (model X.prog X.w) X.A (subscriptTail e (.Slice lo hi Z_ p2) v (.ref s3.heap.objs.size)) (EP X pM J Q) X.xe {s3 with heap:=s3.heap.push {cls:=.type "slice",data:=.fields #[vl,vu,.none]}};exact tail_any (ops:=[.ref s3.heap.objs.size,v]) ht hT hg (by with_unfolding_all rfl)
def JN(xs:List V)(lo hi:Option Int):List V:=(xs.drop (HT.wY xs.length 0 lo)).take (HT.wY xs.length xs.length hi-HT.wY xs.length 0 lo)
theorem kY(xs:List V)(lo hi:Option Int):(JN xs lo hi).length<=xs.length:=by unfold JN;rw[DG,HW];omega
end
section
variable{H:Hp}{i:Int}{pM:List (Addr×Obj)}{n:Nat}{s:Shared}{J:St}{x y:V}{u:Value}
def ub(n:Nat)(i:Int):Option Nat:=if 0<=i then(if i<n then Z i.toNat else Z_)else if -(n:Int)<=i then Z (i+n).toNat else Z_
def wj{α:Type}(xs:List α)(i:Int):Option α:=(ub xs.length i).bind λj=>xs[j]?
theorem Uo{j:Nat}(h:ub n i=Z j):seqIndex? i n=Z j/\j<n/\-(n:Int)<=i/\i<n:=by
 unfold ub at h
 by_cases h0:0<=i
 .rw[if_pos h0]at h
  by_cases h1:i<n
  .rw[if_pos h1]at h
   have e:i.toNat=j:=C0 h;exact⟨by rw[seqIndex_of h0 h1,e],by omega,by omega,h1⟩
  .rw[if_neg h1]at h;cases h
 .rw[if_neg h0]at h
  by_cases h1:-(n:Int)<=i
  .rw[if_pos h1]at h
   have e:(i+n).toNat=j:=C0 h;exact⟨by rw[seqIndex_neg (by omega) h1,e],by omega,h1,by omega⟩
  .rw[if_neg h1]at h;cases h
theorem Pd{α:Type}{xs:List α}{v:α}(h:wj xs i=Z v):∃j,seqIndex? i xs.length=Z j/\xs[j]?=Z v/\j<xs.length/\-(xs.length:Int)<=i/\i<xs.length:=by
 unfold wj at h;cases e:ub xs.length i with
 |none=>rw[e]at h;cases h
 |some j=>rw[e]at h;obtain⟨h1,h2,h3,h4⟩:=Uo e;exact⟨j,h1,h,h2,h3,h4⟩
def UG(b:Expr):Prop:=∀o i,Nj b Ab o i=operate [o,i] (getItem o i)
def u9(X:Cx)(r:R2):Prop :=
 ∀(value qH:Expr) (pM:List (Addr×Obj)) (s:Shared) (J:St) (H:Hp) (x y:V) (v u:Value) (Q:VK),Inv X pM J H s->RelV x v->RelV y u->r x y H Q ->
  Nj qH Ab v u=operate [v,u] (getItem v u)->wpAny (model X.prog X.w) X.A (subscriptTail value qH v u) (EP X pM J Q) X.xe s
def MtR(X:Cx)(id:String)(r:V->List V->Hp->VK->Prop):Prop :=
 ∀(pM:List (Addr×Obj)) (s:Shared) (J:St) (H:Hp) (x:V) (xs:List V) (v:Value) (us:List Value) (Q:VK),Inv X pM J H s->RelV x v->pQ xs us->r x xs H Q ->
  wpAny (model X.prog X.w) X.A (call (.builtin id) (v::us)) (EP X pM J Q) X.xe s
section
variable{X:Cx}{a b:Expr}{ta tb:TE}{pos:Pos}
theorem u9.or{r r':R2}(h:u9 X r)(h':u9 X r'):u9 X (λx y H Q=>r x y H Q\/r' x y H Q):=by
 intro value qH pM s J H x y v u Q I rx ry q hs;rcases q with q|q
 .exact h value qH pM s J H x y v u Q I rx ry q hs
 .exact h' value qH pM s J H x y v u Q I rx ry q hs
theorem YW{r:R2}(hr:u9 X r)(ha:PE X a ta)(hb:PE X b tb)(hs:UG b):PE X (.Subscript a b pos) (wX r ta tb):=by intro pM s J H Q I h;exact Subscript_ (Oi ha hb I h λv u s2 x y H2 I2 rx ry q=>hr a b pM s2 J H2 x y v u Q I2 rx ry q (hs _ _))
def SJ(K:Ae):R2:=λx y H Q=>∃p xs i v,x=.ref p/\y=.int i/\qD K H p xs/\wj xs i=Z v/\Q v H
def SG(K:Ae):R2:=λx y H Q=>∃p xs i v,x=.ref p/\y=.int i/\rM K H p xs/\wj xs i=Z v/\Q v H
def SE:R2:=λx y H Q=>∃z i c,x=.str z/\y=.int i/\z.length<=sizeLine/\wj z.cps.toList i=Z c/\Q (.str ⟨#[c]⟩) H
theorem cx:u9 X (SJ X.K):=by
 intro value qH pM s J H x y v u Q I rx ry h hs;obtain⟨p,xs,i,z,rfl,rfl,hq,he,q⟩:=h;cases rx;obtain⟨t,rfl⟩:=ry;obtain⟨pO,r,pl,hz⟩:=I.list hq;obtain⟨j,h1,h2,h3,h4,h5⟩:=Pd he;obtain⟨w,ew,rw'⟩:=r.get h2;have hl:=r.length;have hn:=Iq;have qC:EP X pM J Q w s:=⟨z,H,I,rw',q⟩
 by_cases h0:0<=i
 .have hj:i.toNat=j:=by
   rw[seqIndex_of h0 h5]at h1;exact C0 h1
  exact item_listR pl.isList h0 (by omega) (by rw[hj];simpa using ew) qC hs
 .have hj:(i+(pO.toArray.size:Int)).toNat=j:=by
   rw[seqIndex_neg (by omega) h4]at h1;rw[AL,<-hl];exact C0 h1
  exact subscriptTail_builtinR (x:=w) pl.isList.typeIs slot_list_getitem.lookup
   (wpAny_getItem_list_neg (Q:=λr s'=>r=w/\EP X pM J Q r s') pl.isList (by omega) (by rw[AL]<;>omega) (by omega) (by rw[hj];simpa using ew) ⟨rfl,qC⟩) hs
theorem aV:u9 X (SG X.K):=by
 intro value qH pM s J H x y v u Q I rx ry h hs;obtain⟨p,xs,i,z,rfl,rfl,hq,he,q⟩:=h;cases rx;obtain⟨t,rfl⟩:=ry;obtain⟨pO,r,pl,hz⟩:=I.tuple hq;obtain⟨j,h1,h2,h3,h4,h5⟩:=Pd he;obtain⟨w,ew,rw'⟩:=r.get h2;have hl:=r.length;have hn:=Iq;have qC:EP X pM J Q w s:=⟨z,H,I,rw',q⟩;exact subscriptTail_builtinR (x:=w) pl.typeIs slot_tuple_getitem.lookup
  (getItem_tuple (j:=j) (Q:=λr s'=>r=w/\EP X pM J Q r s') pl (by omega) (by omega) (by rw[AL,<-hl];exact h1) (by simpa using ew) ⟨rfl,qC⟩) hs
theorem bB:u9 X SE:=by
 intro value qH pM s J H x y v u Q I rx ry h hs;obtain⟨z,i,c,rfl,rfl,hz,he,q⟩:=h;obtain⟨t,rfl⟩:=rx;obtain⟨t',rfl⟩:=ry;obtain⟨j,h1,h2,h3,h4,h5⟩:=Pd he;have hl:z.cps.toList.length=z.length:=by simp[Str.length]
 rw[hl]at h1 h4 h5;have hn:=Iq;exact tail_any (typeIs_str s z t) slot_str_getitem.lookup (getItem_str (c:=c) (by have e1:decide (i < -(2 ^ 63:Int))=Ab:=decide_eq_false (by omega);have e2:decide (i ≥ 2 ^ 63)=Ab:=decide_eq_false (by omega);rw[e1,e2,Bool.or_false]) (by rw[h1];simpa using h2) ⟨.str ⟨#[c]⟩,H,I.tok _,⟨_,rfl⟩,q⟩) hs
def rIx(K:Ae):R2:=λx y H Q=>SJ K x y H Q\/SG K x y H Q\/SE x y H Q
theorem cI:u9 X (rIx X.K):=cx.or (aV.or bB)
theorem jk(pO:List Value)(n j:Nat)(u:Value):HH (·.setIfInBounds j u) {cls:=.type "list",data:=.seq pO.toArray n}={cls:=.type "list",data:=.seq (pO.set j u).toArray n}:=by simp[HH]
theorem Inv.lst{pM:List (Addr×Obj)}{J:St}{H:Hp}{s:Shared}{p:Addr}{xs:List V}(I:Inv X pM J H s)(h:H p=Z (.lst xs)):∃(pO:List Value) (n:Nat),pQ xs pO/\s.heap.get? p=Z {cls:=.type "list",data:=.seq pO.toArray n}/\xs.length<=sizeLine:=by
 obtain⟨z,pO,n,r,e⟩:=I.hok p _ h;exact⟨pO,n,r,e,z⟩
theorem Inv.lstUpd{p:Addr}{xs ys:List V}{pO its':List Value}{n':Nat}{f:Obj->Obj}(I:Inv X pM J H s)(h:H p=Z (.lst xs))(ho:s.heap.get? p=Z {cls:=.type "list",data:=.seq pO.toArray n})(hf:f {cls:=.type "list",data:=.seq pO.toArray n}={cls:=.type "list",data:=.seq its'.toArray n'})(r:pQ ys its')(hz:ys.length<=sizeLine)(t:Nat):Inv X pM J (upd H p (.lst ys)) {s with heap:=s.heap.update p f,toks:=t}:=by
 have e:(s.heap.update p f).get? p=Z {cls:=.type "list",data:=.seq its'.toArray n'}:=by rw[Em f ho (by rw[hf]<;>rfl),hf]
 refine I.write (x:=p) (e:=p) (by rw[h];trivial) (.inl rfl) (λb u hb q=>(HZ _ _ (A7 hb)).trans q) ⟨_,e⟩ ?_;exact⟨hz,its',n',r,e⟩
def bO:V->V->V->Hp->(Hp->Prop)->Prop:=λo i v H Q=>∃p xs k j,o=.ref p/\i=.int k/\H p=Z (.lst xs)/\ub xs.length k=Z j/\Q (upd H p (.lst (xs.set j v)))
theorem uM:SH X bO:=by
 intro pM s J H o i v ov iv u Q I ro ri rv h;obtain⟨p,xs,k,j,rfl,rfl,hp,hj,q⟩:=h;cases ro;obtain⟨t,rfl⟩:=ri;obtain⟨pO,n,r,ho,hz⟩:=I.lst hp;obtain⟨h1,h2,h3,h4⟩:=Uo hj;have hl:=r.length;have hn:=Iq;have I':Inv X pM J (upd H p (.lst (xs.set j v))) {s with heap:=s.heap.update p (HH (·.setIfInBounds j u))} :=
  I.lstUpd hp ho (jk pO n j u) (r.set rv j) (by rw[DZ];exact hz) s.toks
 by_cases h0:0<=k
 .have hk:k.toNat=j:=by
   rw[seqIndex_of h0 h4]at h1;exact C0 h1
  exact PySem.W.ki_setAt ho h0 (by omega) (by rw[AL,<-hl];exact h4) (by rw[hk];exact⟨_,I',q⟩)
 .have hk:(k+(pO.toArray.size:Int)).toNat=j:=by
   rw[seqIndex_neg (by omega) h3]at h1;rw[AL,<-hl];exact C0 h1
  exact PySem.W.ki_setBack ho (by omega) (by rw[AL,<-hl];exact h3) (by omega) (by rw[hk];exact⟨_,I',q⟩)
theorem lK(lo hi:Option Int)(n:Nat):(HC lo hi Z_ n).1=((HT.wY n 0 lo:Nat):Int)/\(HC lo hi Z_ n).2.1=((HT.wY n n hi:Nat):Int)/\(HC lo hi Z_ n).2.2=1:=by
 refine⟨?_,?_,rfl⟩
 .cases lo with
  |none=>simp[HC,HT.wY]
  |some i =>
   simp only[HC,HT.wY,Option.getD_none,show(1:Int) > 0 by decide,if_true]
   by_cases h:i<0
   .simp only[h,if_true]<;>omega
   .simp only[h,if_false]<;>omega
 .cases hi with
  |none=>simp[HC,HT.wY]
  |some i =>
   simp only[HC,HT.wY,Option.getD_none,show(1:Int) > 0 by decide,if_true]
   by_cases h:i<0
   .simp only[h,if_true]<;>omega
   .simp only[h,if_false]<;>omega
theorem mr(pO:List Value)(lo hi:Option Int):slicePick pO.toArray lo hi Z_=((pO.drop (HT.wY pO.length 0 lo)).take (HT.wY pO.length pO.length hi-HT.wY pO.length 0 lo)).toArray:=by obtain⟨h1,h2,h3⟩:=lK lo hi pO.toArray.size;unfold slicePick;rw[h1,h2,h3];simp only[sliceRange_one,pick_run,AL]<;>rfl
def YN(K:Ae):V->Option Int->Option Int->Hp->VK->Prop:=λx lo hi H Q=>∃a xs,x=.ref a/\qD K H a xs/\∀p,H p=Z_->Q (.ref p) (upd H p (.lst (JN xs lo hi)))
theorem dF:SlR X (YN X.K):=by intro pM s J H x v vl vu lo hi sl Q I rx hs pl pu h;obtain⟨a,xs,rfl,hx,q⟩:=h;cases rx;obtain⟨pO,r,ht,hz⟩:=I.list hx;have pP:=r.length;refine⟨"list",_,slot_list_getitem.lookup,ht.isList.typeIs,?_⟩;refine wpAny_getItem_list_slice ht.isList hs pl pu .none (by simp) ?_ (by rw[AL]<;>omega);rw[mr,<-pP];refine⟨.ref s.heap.objs.size,_,I.laid (t':=s.toks) (o:=.lst (JN xs lo hi)) (λb ob q=>Ar _ q) (Ai _) ?_,rfl,q _ (I.hok.fresh (Ai _))⟩;exact⟨BY (kY xs lo hi) hz,_,0,(r.drop (HT.wY xs.length 0 lo)).take (HT.wY xs.length xs.length hi-HT.wY xs.length 0 lo),AS _ rfl⟩
def Bo:V->Bool
 | .non=>Aa
 | .bl _=>Aa
 | .int _=>Aa
 | .str _=>Aa
 |_=>Ab
def vL:V->V->Bool
 | .non,.non=>Aa
 | .bl a,.bl b=>a==b
 | .bl a,.int b=>(if a then 1 else 0)==b
 | .int a,.bl b=>a==(if b then 1 else 0)
 | .int a,.int b=>a==b
 | .str a,.str b=>a==b
 |_,_=>Ab
theorem bS{A:Around}{v:Value}(ry:RelV y u)(rx:RelV x v)(fy:Bo y=Aa)(fx:Bo x=Aa):SeqAt.EqAt A s u v (vL y x):=by
 cases y with
 |non =>
  cases ry;cases x with
  |non=>cases rx;exact SeqAt.EqAt.same _
  |bl b=>cases rx;exact SeqAt.EqAt.none_bool b
  |int b=>obtain⟨t,rfl⟩:=rx;exact SeqAt.EqAt.none_int b t
  |str b=>obtain⟨t,rfl⟩:=rx;exact SeqAt.EqAt.none_str b t
  |_=>exact absurd (show Ab=Aa from fx) C2
 |bl a =>
  cases ry;cases x with
  |non=>cases rx;exact SeqAt.EqAt.bool_none a
  |bl b=>cases rx;exact SeqAt.EqAt.bool_bool a b
  |int b=>obtain⟨t,rfl⟩:=rx;exact SeqAt.EqAt.bool_int a b t
  |str b=>obtain⟨t,rfl⟩:=rx;exact SeqAt.EqAt.bool_str a b t
  |_=>exact absurd (show Ab=Aa from fx) C2
 |int a =>
  obtain⟨t',rfl⟩:=ry;cases x with
  |non=>cases rx;exact SeqAt.EqAt.int_none a t'
  |bl b=>cases rx;exact SeqAt.EqAt.int_bool a t' b
  |int b=>obtain⟨t,rfl⟩:=rx;exact SeqAt.EqAt.int_int a t' b t
  |str b=>obtain⟨t,rfl⟩:=rx;exact X7 a t' b t
  |_=>exact absurd (show Ab=Aa from fx) C2
 |str a =>
  obtain⟨t',rfl⟩:=ry;cases x with
  |non=>cases rx;exact SeqAt.EqAt.str_none a t'
  |bl b=>cases rx;exact SeqAt.EqAt.str_bool a t' b
  |int b=>obtain⟨t,rfl⟩:=rx;exact X6 a t' b t
  |str b=>obtain⟨t,rfl⟩:=rx;exact SeqAt.EqAt.str_str a t' b t
  |_=>exact absurd (show Ab=Aa from fx) C2
 |_=>exact absurd (show Ab=Aa from fy) C2
def tu(x:V)(u:Value):Bool:=match u with
 | .none=>vL .non x
 | .bool b=>vL (.bl b) x
 | .int i _=>vL (.int i) x
 | .str z _=>vL (.str z) x
 |_=>Ab
theorem TN(r:RelV y u)(f:Bo y=Aa):tu x u=vL y x:=by
 cases y with
 |non=>cases r;rfl
 |bl b=>cases r;rfl
 |int i=>obtain⟨t,rfl⟩:=r;rfl
 |str z=>obtain⟨t,rfl⟩:=r;rfl
 |_=>exact absurd (show Ab=Aa from f) C2
theorem Kc{x:V}:∀{xs:List V} {us:List Value},pQ xs us->xs.all Bo=Aa->us.any (tu x)=xs.any λy=>vL y x
 |_,_,.nil,_=>rfl
 |y::xs,u::us,.cons r t,f=>by rw[DF,AJ]at f;rw[EN,EN,TN r f.1,Kc t f.2]
theorem Kj{A:Around}{s:Shared}{x:V}{v:Value}(rx:RelV x v)(fx:Bo x=Aa):∀{xs:List V} {us:List Value},pQ xs us->xs.all Bo=Aa->∀u∈us,SeqAt.EqAt A s u v (tu x u)
 |_,_,.nil,_=>λu hu=>by cases hu
 |y::xs,u::us,.cons r t,f=>λu' hu=>by
  rw[DF,AJ]at f;rcases Ax.mp hu with rfl|hu
  .rw[TN r f.1];exact bS r rx f.1 fx
  .exact Kj rx fx t f.2 u' hu
def yk(x:V)(xs:List V):Bool:=xs.any λy=>vL y x
def yb(K:Ae)(tX:Bool):R2:=λx y H Q=>∃p xs,y=.ref p/\(qD K H p xs\/rM K H p xs)/\Bo x=Aa/\xs.all Bo=Aa/\Q (.bl (if tX then !yk x xs else yk x xs)) H
theorem jS:rj X (BP .In) (yb X.K Ab):=by
 intro pM s J H x y v u Q I rx ry h;obtain⟨p,xs,rfl,hq,fx,fs,q⟩:=h;cases ry;rcases hq with hq|hq
 .obtain⟨pO,r,pl,hz⟩:=I.list hq
  refine SeqAt.in_listAt (tu x) pl.isList (λw hw=>Kj rx fx r fs w (by simpa using hw)) ⟨.bl _,H,I,rfl,?_⟩;rw[show pO.toArray.any (tu x)=pO.any (tu x) by simp,Kc r fs];exact q
 .obtain⟨pO,r,pl,hz⟩:=I.tuple hq
  refine SeqAt.in_tupleAt (tu x) pl (λw hw=>Kj rx fx r fs w (by simpa using hw)) ⟨.bl _,H,I,rfl,?_⟩;rw[show pO.toArray.any (tu x)=pO.any (tu x) by simp,Kc r fs];exact q
theorem lE:rj X (BP .NotIn) (yb X.K Aa):=by
 intro pM s J H x y v u Q I rx ry h;obtain⟨p,xs,rfl,hq,fx,fs,q⟩:=h;cases ry;rcases hq with hq|hq
 .obtain⟨pO,r,pl,hz⟩:=I.list hq
  refine SeqAt.notIn_listAt (tu x) pl.isList (λw hw=>Kj rx fx r fs w (by simpa using hw)) ⟨.bl _,H,I,rfl,?_⟩;rw[show pO.toArray.any (tu x)=pO.any (tu x) by simp,Kc r fs];exact q
 .obtain⟨pO,r,pl,hz⟩:=I.tuple hq
  refine SeqAt.notIn_tupleAt (tu x) pl (λw hw=>Kj rx fx r fs w (by simpa using hw)) ⟨.bl _,H,I,rfl,?_⟩;rw[show pO.toArray.any (tu x)=pO.any (tu x) by simp,Kc r fs];exact q
theorem k9:Be X (.builtin "len") (λxs H Q=>∃p ys,xs=[.ref p]/\(qD X.K H p ys\/rM X.K H p ys)/\Q (.int ys.length) H):=by
 intro pM s J H xs us Q I r h;obtain⟨p,ys,rfl,hq,q⟩:=h;obtain⟨u,rfl,rx⟩:=vals1 r;cases rx;have hn:=Iq;rcases hq with hq|hq
 .obtain⟨pO,r',pl,hz⟩:=I.list hq
  have pP:=r'.length;exact Calls.call_len_list pl.isList (by simp only[AL]<;>omega) ⟨.int ys.length,H,I.tok _,⟨s.toks+1,by rw[AL,pP]⟩,q⟩
 .obtain⟨pO,r',pl,hz⟩:=I.tuple hq
  have pP:=r'.length;exact len_tuple pl (by simp only[AL]<;>omega) ⟨.int ys.length,H,I.tok _,⟨s.toks+1,by rw[AL,pP]⟩,q⟩
theorem Be.or{f:Value}{r r':List V->Hp->VK->Prop}(h:Be X f r)(h':Be X f r'):Be X f (λxs H Q=>r xs H Q\/r' xs H Q):=by
 intro pM s J H xs us Q I rs q;rcases q with q|q
 .exact h pM s J H xs us Q I rs q
 .exact h' pM s J H xs us Q I rs q
theorem lF:Be X (.type "list") (λxs H Q=>∃p ys,xs=[.ref p]/\(qD X.K H p ys\/rM X.K H p ys)/\∀l,H l=Z_->Q (.ref l) (upd H l (.lst ys))):=by
 intro pM s J H xs us Q I r h;obtain⟨p,ys,rfl,hq,q⟩:=h;obtain⟨u,rfl,rx⟩:=vals1 r;cases rx;have qC:∀(pO:List Value),pQ ys pO->ys.length<=sizeLine->∀(h':Heap) (c':Nat),(∀b o',s.heap.get? b=Z o'->h'.get? b=Z o') ->
   h'.get? s.heap.objs.size=Z {cls:=.type "list",dict:=Z_,data:=.seq pO.toArray c',slots:=#[]}->EP X pM J Q (.ref s.heap.objs.size) {s with heap:=h'}:=λpO r' hz h' c' kp e =>
  ⟨.ref s.heap.objs.size,_,I.laid (t':=s.toks) kp (Ai _) (show ZT X.prog X.w _ h' _ (.lst ys) from⟨hz,pO,c',r',e⟩),rfl,q _ (I.hok.fresh (Ai _))⟩
 rcases hq with hq|hq
 .obtain⟨pO,r',pl,hz⟩:=I.list hq
  have pP:=r'.length;obtain⟨o,ho,hc,n,hd⟩:=pl.isList;exact call_list_seq p (.inl rfl) ho hc hd (λh' c' kp e=>qC pO r' hz h' c' kp e) (by simp only[AL]<;>omega)
 .obtain⟨pO,r',pl,hz⟩:=I.tuple hq
  have pP:=r'.length;obtain⟨o,ho,hc,n,hd⟩:=pl;exact call_list_seq p (.inr rfl) ho hc hd (λh' c' kp e=>qC pO r' hz h' c' kp e) (by simp only[AL]<;>omega)
theorem mz:Be X (.type "tuple") (λxs H Q=>∃p ys,xs=[.ref p]/\((qD X.K H p ys/\∀l,H l=Z_->Q (.ref l) (upd H l (.tup ys)))\/(rM X.K H p ys/\Q (.ref p) H))):=by
 intro pM s J H xs us Q I r h;obtain⟨p,ys,rfl,h⟩:=h;obtain⟨u,rfl,rx⟩:=vals1 r;cases rx;rcases h with⟨hq,q⟩|⟨hq,q⟩
 .obtain⟨pO,r',pl,hz⟩:=I.list hq
  have pP:=r'.length;refine call_tuple_list pl.isList (λh' kp=>?_) (by simp only[AL]<;>omega);have I1:Inv X pM J H {s with heap:=h'}:=I.kept (t':=s.toks) kp;have I2:Inv X pM J (upd H h'.objs.size (.tup ys)) {s with heap:=h'.push {cls:=.type "tuple",data:=.seq pO.toArray}} :=
   I1.laid (t':=s.toks) (λb o e=>Ar _ e) (Ai _) (show ZT X.prog X.w _ _ _ (.tup ys) from⟨hz,pO,r',IsTup.new _ _⟩)
  exact⟨.ref h'.objs.size,_,I2,rfl,q _ (I1.hok.fresh (Ai _))⟩
 .obtain⟨pO,r',pl,hz⟩:=I.tuple hq
  exact call_tuple_same pl ⟨.ref p,H,I,rfl,q⟩
def xY(K:Ae)(T:String)(x:V)(H:Hp):Prop:=match x with
 | .str _=>T = "str"
 | .int _=>T = "int"
 | .ref p=>(T = "list"/\∃xs,qD K H p xs)\/(T = "tuple"/\∃o,K.lookup p=Z o/\o.cls=.type "tuple"/\o.dict=Z_) \/
   (T = "dict"/\((∃kvs,H p=Z (.dK kvs))\/∃kvs,H p=Z (.dT kvs)))\/(T = "set"/\∃S n,H p=Z (.set S n))
 |_=>False
theorem TR{T:String}{v:Value}(I:Inv X pM J H s)(r:RelV x v)(ty:xY X.K T x H):s.TypeIs v T/\∀a,v=.ref a->∃ob,s.heap.get? a=Z ob/\ob.dict=Z_:=by
 cases x with
 |str z=>obtain⟨t,rfl⟩:=r;cases(show T = "str" from ty);exact⟨typeIs_str s z t,λ_ e=>nomatch e⟩
 |int i=>obtain⟨t,rfl⟩:=r;cases(show T = "int" from ty);exact⟨typeIs_int s i t,λ_ e=>nomatch e⟩
 |ref p =>
  cases r;rcases ty with⟨rfl,xs,hq⟩|⟨rfl,o,hk,hc,hd⟩|⟨rfl,hk⟩|⟨rfl,S,n,hk⟩
  .obtain⟨pO,_,pl,_⟩:=I.list hq
   refine⟨pl.isList.typeIs,λa e=>?_⟩;cases e;obtain⟨o,n,e,c,hd,_⟩:=pl;exact⟨o,e,hd⟩
  .refine⟨⟨o,I.kIn p o hk,hc⟩,λa e=>?_⟩
   cases e;exact⟨o,I.kIn _ o hk,hd⟩
  .have z:∃o,s.heap.get? p=Z o/\o.ExactDict:=by
    rcases hk with⟨kvs,hk⟩|⟨kvs,hk⟩
    .obtain⟨_,_,_,_,o,_,_,e,ex,_⟩:=I.hok p _ hk
     exact⟨o,e,ex⟩
    .obtain⟨_,_,_,_,o,_,_,e,ex,_⟩:=I.hok p _ hk
     exact⟨o,e,ex⟩
   obtain⟨o,e,ex⟩:=z;refine⟨⟨o,e,ex.1⟩,λa e2=>?_⟩;cases e2;exact⟨o,e,ex.2.1⟩
  .obtain⟨o,_,_,_,e,ex,_⟩:=I.hok p _ hk
   refine⟨⟨o,e,ex.1⟩,λa e2=>?_⟩;cases e2;exact⟨o,e,ex.2.1⟩
 |_=>exact BZ ty
def aw(K:Ae)(T:String)(r:V->List V->Hp->VK->Prop)(to:TE):TE:=λJ H Q=>to J H λx H1=>xY K T x H1/\r x [] H1 Q
def tBM(K:Ae)(T:String)(r:V->List V->Hp->VK->Prop)(to:TE)(t:TA):TE:=λJ H Q=>to J H λx H1=>xY K T x H1/\t J H1 λxs H2=>r x xs H2 Q
variable{o e:Expr}{es:List Expr}{to:TE}{t:TA}{name:Str}{sj qS:Pos}{T id:String}{r:V->List V->Hp->VK->Prop}
theorem cM(pa:PlainAttrs T)(slot:Slot T name id)(yW:typeOf (.builtin id)=pure (.type "method_descriptor"))(hm:MtR X id r)(ho:PE X o to)(qK:GB o name X.env (eval o X.env)=eval o X.env:=by rfl)(qI:(sj.endLine==qS.line)=Aa:=by rfl):PE X (.Call (.Attribute o name sj) [] [] qS) (aw X.K T r to):=by
 intro pM s J H Q I h;refine wpAny_Call_method0_late qK qI (pW (ho pM s J H _ I h) λv s1 ⟨x,H1,I1,r1,ty,q1⟩=>?_);obtain⟨h1,h2⟩:=TR I1 r1 ty;exact⟨T,id,pa,slot,yW,h1,h2,SA rfl (PySem.evalArgs_none (hm pM s1 J H1 x [] v [] Q I1 r1 .nil q1))⟩
theorem LO(pa:PlainAttrs T)(slot:Slot T name id)(yW:typeOf (.builtin id)=pure (.type "method_descriptor"))(hm:MtR X id r)(ho:PE X o to)(ha:PA X (e::es) t)(qK:GB o name X.env (eval o X.env)=eval o X.env:=by rfl)
  (rf:((backTo qS (Ah (e::es) X.env)).all (λx=>!x.1)&&(Jm qS (JB [] X.env)).all (λx=>x.1.isSome)
   && decide ((e::es).length+([]:List Keyword).length+(if([]:List Keyword).isEmpty then 0 else 1)<30))=Aa:=by rfl)
  (qI:(sj.endLine==qS.line)=Aa:=by rfl)(hs:Ah (e::es) X.env=(Ab,eval e X.env)::Ah es X.env:=by rfl)(wC:(backTo qS (Ah es X.env)).any (·.1)=Ab:=by rfl):
  PE X (.Call (.Attribute o name sj) (e::es) [] qS) (tBM X.K T r to t):=by
 intro pM s J H Q I h;refine wpAny_Call_method_late qK rf qI rfl (pW (ho pM s J H _ I h) λv s1 ⟨x,H1,I1,r1,ty,q1⟩=>?_);obtain⟨h1,h2⟩:=TR I1 r1 ty;refine⟨T,id,pa,slot,yW,h1,h2,?_⟩;have hA:=ha qS pM s1 J H1 _ I1 q1;rw[hs]at hA ⊢;refine SA (by show(Ab||(backTo qS (Ah es X.env)).any (·.1))=Ab;rw[wC]<;>rfl) (Yk ?_);exact pW hA λus s2 ⟨vs,H2,I2,r2,q2⟩=>hm pM s2 J H2 x vs v us Q I2 r1 r2 q2
end
end
section
variable{pO:List Value}{n t':Nat}
def zF(X:Cx)(id:String)(r:V->List V->Hp->VK->Prop):Prop :=
 ∀(pM:List (Addr×Obj)) (s:Shared) (J:St) (H:Hp) (x:V) (xs:List V) (v:Value) (us:List Value) (Q:VK),Inv X pM J H s->RelV x v->pQ xs us->r x xs H Q ->
  wpAny (model X.prog X.w) X.A (call (.builtin id) (v::us)) (EP X pM J Q) X.xe s
theorem pQ.one:∀{x:V} {us:List Value},pQ [x] us->∃u,us=[u]/\RelV x u
 |_,_,.cons r .nil=>⟨_,rfl,r⟩
theorem pQ.zero:∀{us:List Value},pQ [] us->us=[]
 |_,.nil=>rfl
theorem pQ.dropLast{xs:List V}{us:List Value}(h:pQ xs us):pQ xs.dropLast us.dropLast:=by
 induction h with
 |nil=>exact .nil
 |cons r t ih =>
  cases t with
  |nil=>exact .nil
  |cons q t'=>exact .cons r ih
theorem pQ.rep{xs:List V}{us:List Value}(h:pQ xs us):∀k:Nat,pQ (Bs k xs).flatten (Bs k us).flatten
 |0=>.nil
 |k+1=>by rw[HJ,HJ,JI,JI];exact pQ.append h (pQ.rep h k)
theorem jq{α:Type}(l:List α):l.eraseIdx (l.length-1)=l.dropLast:=by
 induction l with
 |nil=>rfl
 |cons a r ih =>
  cases r with
  |nil=>rfl
  |cons b r =>
   have e:(a::b::r).length-1=((b::r).length-1)+1:=by have h1:(a::b::r).length=r.length+2:=rfl;have h2:(b::r).length=r.length+1:=rfl;omega
   rw[e,List.eraseIdx_cons_succ,ih]
   all_goals rfl
theorem foldl_rep(pO:List Value):∀(k:Nat) (acc:List Value),List.foldl (λx1 x2=>x1++x2) acc.toArray (Bs k pO.toArray)=(acc++(Bs k pO).flatten).toArray
 |0,acc=>by simp
 |k+1,acc=>by
  have e:acc.toArray++pO.toArray=(acc++pO).toArray:=by simp
  have e2:(acc++pO)++(Bs k pO).flatten=acc++(Bs (k+1) pO).flatten:=by rw[HJ,JI,EW]
  rw[<-e2,<-foldl_rep pO k (acc++pO),<-e,HJ,Eu]
section
variable{X:Cx}{pM:List (Addr×Obj)}{J:St}{H:Hp}{s:Shared}{l b:Addr}{xs ys zs:List V}
theorem Inv.lset{its':List Value}{f:Array Value->Array Value}(I:Inv X pM J H s)(hH:H l=Z (.lst xs))(e:s.heap.get? l=Z {cls:=.type "list",data:=.seq pO.toArray n})(hf:f pO.toArray=its'.toArray)(hv:pQ ys its')(hz:ys.length<=sizeLine):Inv X pM J (upd H l (.lst ys)) {s with heap:=s.heap.update l (HH f),toks:=t'}:=by
 have q:=PySem.IsL.update e f;rw[hf]at q;refine I.write (x:=l) (e:=l) (by rw[hH];exact trivial) (.inl rfl) (λb' u hb hu=>(HZ s.heap (HH f) (A7 hb)).trans hu) ⟨_,q⟩ ?_;exact⟨hz,its',_,hv,q⟩
theorem Inv.lnew(I:Inv X pM J H s)(hv:pQ ys pO)(hz:ys.length<=sizeLine):Inv X pM J (upd H s.heap.objs.size (.lst ys)) {s with heap:=s.heap.push {cls:=.type "list",data:=.seq pO.toArray},toks:=t'} :=
 I.laid (λ_ _ q=>Ar _ q) (Ai _) ⟨hz,pO,0,hv,AS _ rfl⟩
theorem Inv.fresh(I:Inv X pM J H s):H s.heap.objs.size=Z_:=I.hok.fresh (Ai _)
theorem Inv.lstM(I:Inv X pM J H s)(hH:H l=Z (.lst xs)):xs.length<=sizeLine/\∃(pO:List Value) (n:Nat),pQ xs pO/\xs.length=pO.length/\s.heap.get? l=Z {cls:=.type "list",data:=.seq pO.toArray n}:=by obtain⟨z,pO,n,r,e⟩:=I.hok l _ hH;exact⟨z,pO,n,r,r.length,e⟩
theorem VE(h:n<=sizeLine):Oe n=Ab:=by unfold Oe;exact decide_eq_false (by omega)
end
section
variable{X:Cx}
def UI:V->List V->Hp->VK->Prop:=λx vs H Q=>∃l xs y,x=.ref l/\vs=[y]/\H l=Z (.lst xs)/\xs.length<sizeLine/\Q .non (upd H l (.lst (xs++[y])))
theorem Mo:zF X "list.append" UI:=by intro pM s J H x vs v us Q I rx rv h;obtain⟨l,xs,y,rfl,rfl,hH,hz,q⟩:=h;cases rx;obtain⟨u,rfl,ru⟩:=rv.one;obtain⟨z,pO,n,r,hl,e⟩:=I.lstM hH;refine Lc F.slot_list_append ⟨_,e,rfl⟩ F.entry_list_append (F.args_list_append_2 _ _) (PySem.list_append l pO.toArray n u (by rw[AL];omega)) ⟨e,?_⟩;refine⟨.non,_,I.lset (its':=pO++[u]) hH e (by simp) (r.append (.cons ru .nil)) ?_,rfl,q⟩;rw[AB,HQ];omega
def cq:V->List V->Hp->VK->Prop:=λx vs H Q=>∃l b xs zs,x=.ref l/\vs=[.ref b]/\H l=Z (.lst xs)/\H b=Z (.lst zs)/\xs.length+zs.length<=sizeLine/\Q .non (upd H l (.lst (xs++zs)))
theorem iA:zF X "list.extend" cq:=by
 intro pM s J H x vs v us Q I rx rv h;obtain⟨l,b,xs,zs,rfl,rfl,hH,hB,hz,q⟩:=h;cases rx;obtain⟨u,rfl,ru⟩:=rv.one;cases ru;obtain⟨z,pO,n,r,hl,e⟩:=I.lstM hH;obtain⟨z2,tJ,n2,r2,sU,e2⟩:=I.lstM hB;have hsz:pO.toArray.size+tJ.toArray.size<=sizeLine:=by rw[AL,AL];omega
 have uF:¬(!pO.toArray.isEmpty&&Oe (pO.toArray.size+tJ.toArray.size))=Aa:=by rw[VE hsz,Ls];exact C2
 refine Lc F.slot_list_extend ⟨_,e,rfl⟩ F.entry_list_extend (F.args_list_extend_2 _ _)
  (AutoSeq1.list_extend_list_list_0 l pO.toArray n b tJ.toArray n2 uF (by rw[AL];omega) (by omega)) ⟨e,e2,?_⟩
 refine⟨.non,_,I.lset (its':=pO++tJ) hH e (by simp) (r.append r2) ?_,rfl,q⟩;rw[AB];omega
def av:V->List V->Hp->VK->Prop:=λx vs H Q=>∃l xs y,x=.ref l/\vs=[]/\H l=Z (.lst xs)/\xs[xs.length-1]?=Z y/\Q y (upd H l (.lst xs.dropLast))
theorem cB:zF X "list.pop" av:=by
 intro pM s J H x vs v us Q I rx rv h;obtain⟨l,xs,y,rfl,rfl,hH,hy,q⟩:=h;cases rx;have hus:=rv.zero;subst hus;obtain⟨z,pO,n,r,hl,e⟩:=I.lstM hH;obtain⟨u,hu,ru⟩:=r.get hy;have hy':pO.toArray[pO.toArray.size-1]?=Z u:=by show pO.toArray[pO.length-1]?=Z u;rw[<-B5,<-hl];exact hu
 refine Lc F.slot_list_pop ⟨_,e,rfl⟩ F.entry_list_pop (F.args_list_pop_1 _) (MeetsSeq.list_pop_last l pO.toArray n u hy' (by rw[AL];omega)) ⟨e,?_⟩;refine⟨y,_,I.lset (its':=pO.dropLast) hH e ?_ r.dropLast ?_,ru,q⟩
 .show pO.toArray.eraseIdxIfInBounds (pO.toArray.size-1)=pO.dropLast.toArray
  rw[AL,List.eraseIdxIfInBounds_toArray,jq]
 .rw[List.length_dropLast]
  omega
def ar:R2:=λx y H Q=>∃l b xs zs,x=.ref l/\y=.ref b/\H l=Z (.lst xs)/\H b=Z (.lst zs)/\xs.length+zs.length<=sizeLine/\∀p,H p=Z_->Q (.ref p) (upd H p (.lst (xs++zs)))
theorem da:rj X (Gr .Add) ar:=by
 intro pM s J H x y v u Q I rx ry h;obtain⟨l,b,xs,zs,rfl,rfl,hH,hB,hz,q⟩:=h;cases rx;cases ry;obtain⟨z,pO,n,r,hl,e⟩:=I.lstM hH;obtain⟨z2,tJ,n2,r2,sU,e2⟩:=I.lstM hB;refine PySem.P.add_list e e2 ?_ (by rw[AL,AL];omega);have ea:pO.toArray++tJ.toArray=(pO++tJ).toArray:=by simp
 rw[ea];exact⟨.ref _,_,I.lnew (t':=s.toks) (r.append r2) (by rw[AB];omega),rfl,q _ I.fresh⟩
def ay:R2:=λx y H Q=>∃l k xs,x=.ref l/\y=.int k/\H l=Z (.lst xs)/\-(2 ^ 63)<=k/\k<2 ^ 63/\xs.length*k.toNat<=sizeLine /\
 ∀p,H p=Z_->Q (.ref p) (upd H p (.lst (Bs k.toNat xs).flatten))
theorem vn{α:Type}(xs:List α)(k:Nat):(Bs k xs).flatten.length=k*xs.length:=by
 induction k with
 |zero=>simp
 |succ k ih=>rw[HJ,JI,AB,ih,Nat.succ_mul,Nat.add_comm]
theorem bR:rj X (Gr .Mult) ay:=by
 intro pM s J H x y v u Q I rx ry h;obtain⟨l,k,xs,rfl,rfl,hH,h1,h2,hz,q⟩:=h;cases rx;obtain⟨t,rfl⟩:=ry;obtain⟨z,pO,n,r,hl,e⟩:=I.lstM hH;have pP:pO.toArray.size*k.toNat<=sizeLine:=by rw[AL,<-hl];exact hz
 have t5:¬pO.toArray.size*k.toNat > (2 ^ 63-1) / 8:=by
  have:(sizeLine:Nat)<=(2 ^ 63-1) / 8:=by decide
  omega
 have sq:¬(!Builtin.List.listFitsIndex k)=Aa:=by rw[fitsIndex_both h1 h2];exact C2
 have uF:¬Oe (pO.toArray.size*k.toNat)=Aa:=by rw[VE pP];exact C2
 have vf:List.foldl (λx1 x2=>x1++x2) #[] (Bs (if pO.toArray.isEmpty=Aa then 0 else k.toNat) pO.toArray)=(Bs k.toNat pO).flatten.toArray:=by
  have f0:∀m:Nat,List.foldl (λx1 x2=>x1++x2) #[] (Bs m pO.toArray)=(Bs m pO).flatten.toArray:=λm=>by have:=foldl_rep pO m [];rw[Jz]at this;exact this
  rw[f0];cases pO with
  |nil=>simp
  |cons a r'=>rw[if_neg (by simp)]
 refine wpAny_binaryOp_repeat_ref (T:="list") (U:="int") (by decide) ⟨_,e,rfl⟩ (λs'=>typeIs_int s' k t) noFill_list_mul F.fills_int_mul F.slot_int_rmul repeat_list F.slot_int_index.lookup
  (Lc F.slot_int_rmul (typeIs_int s k t) F.entry_int_rmul (F.args_int_rmul_2 _ _) (int___rmul___int_list k t l pO.toArray n)
   ⟨e,rfl,⟨_,e,rfl⟩,Lc F.slot_list_mul ⟨_,e,rfl⟩ F.entry_list_mul (F.args_list_mul_2 _ _) (AutoListH.list___mul___list_int_3 l pO.toArray n k t sq t5 uF) ⟨e,?_⟩⟩)
 rw[vf];exact⟨.ref _,_,I.lnew (t':=s.toks) (r.rep k.toNat) (by rw[vn,Nat.mul_comm];exact hz),rfl,q _ I.fresh⟩
end
end
section
variable{a b:Addr}{X:Cx}{h':Heap}{H H':Hp}{pM:List (Addr×Obj)}{xs:List (List pU×Addr×Value)}{kvs:List (List pU×V)}{o:Option V}{pos:Pos}{P:Program}{s:Shared}{J:St}{y:V}{u:Value}{Q:Value->Shared->Prop}
section
variable{κ:Type}[DecidableEq κ]
def AR(kvs:List (κ×V))(k:κ):Option V:=(kvs.find? λkv=>decide (kv.1=k)).map (·.2)
def qz(kvs:List (κ×V))(k:κ)(v:V):List (κ×V) :=
 if(kvs.any λkv=>decide (kv.1=k))=Aa then kvs.map (λkv=>if kv.1=k then(kv.1,v)else kv)else kvs++[(k,v)]
theorem Hi{p:κ×V}{r:List (κ×V)}{k:κ}(e:p.1=k):AR (p::r) k=Z p.2:=by simp[AR,Ct,e]
theorem Hg{p:κ×V}{r:List (κ×V)}{k:κ}(e:¬p.1=k):AR (p::r) k=AR r k:=by simp[AR,Ct,e]
theorem Me(k:κ):∀kvs:List (κ×V),(kvs.any λkv=>decide (kv.1=k))=(AR kvs k).isSome
 |[]=>rfl
 |p::r=>by
  rw[EN]
  by_cases e:p.1=k
  .simp only[Hi e,decide_eq_true e,Bool.true_or,Option.isSome_some]
  .rw[Hg e,decide_eq_false e,NB];exact Me k r
theorem QK(kvs:List (κ×V))(k:κ)(v:V):(qz kvs k v).length<=kvs.length+1:=by
 unfold qz;split
 .rw[Af];omega
 .rw[AB,Ay,List.length_nil];omega
theorem EB.isSome_eq{u:Option Value}(r:EB o u):o.isSome=u.isSome:=by
 cases o with
 |none=>cases u with
  |none=>rfl
  |some _=>exact(show False from r).elim
 |some _=>cases u with
  |none=>exact(show False from r).elim
  |some _=>rfl
theorem KV.val{kvs:List (κ×V)}{vs:List (κ×Value)}(r:KV kvs vs)(k:κ):EB (AR kvs k) (valueAt vs k):=by
 unfold KV at r
 induction r with
 |nil=>exact HF
 | @cons p q ps qs h t ih =>
  obtain⟨h1,h2⟩:=h
  by_cases e:p.1=k
  .have e':q.1=k:=h1.symm.trans e
   have b:valueAt (q::qs) k=Z q.2:=by simp[valueAt,Ct,e']
   rw[Hi e,b];exact h2
  .have e':¬q.1=k:=λz=>e (h1.trans z)
   have b:valueAt (q::qs) k=valueAt qs k:=by simp[valueAt,Ct,e']
   rw[Hg e,b];exact ih
theorem KV.any{kvs:List (κ×V)}{vs:List (κ×Value)}(r:KV kvs vs)(k:κ):(kvs.any λkv=>decide (kv.1=k))=vs.any λkv=>decide (kv.1=k):=by
 unfold KV at r
 induction r with
 |nil=>rfl
 |cons h t ih=>rw[EN,EN,ih,h.1]
theorem KV.repl{kvs:List (κ×V)}{vs:List (κ×Value)}(r:KV kvs vs)(k:κ)(ry:RelV y u):KV (kvs.map λkv=>if kv.1=k then(kv.1,y)else kv) (vs.map λkv=>if kv.1=k then(kv.1,u)else kv):=by
 unfold KV at r ⊢
 induction r with
 |nil=>exact .nil
 | @cons p q ps qs h t ih =>
  rw[Ak,Ak];refine .cons ?_ ih;obtain⟨h1,h2⟩:=h
  by_cases e:p.1=k
  .rw[if_pos e,if_pos (h1.symm.trans e)];exact⟨h1,ry⟩
  .rw[if_neg e,if_neg (λz=>e (h1.trans z))];exact⟨h1,h2⟩
theorem KV.put{kvs:List (κ×V)}{vs:List (κ×Value)}(r:KV kvs vs)(k:κ)(ry:RelV y u):KV (qz kvs k y) (stored vs k u):=by
 unfold qz stored;rw[r.any k]
 by_cases e:(vs.any λkv=>decide (kv.1=k))=Aa
 .rw[if_pos e,if_pos e];exact r.repl k ry
 .rw[if_neg e,if_neg e];exact Paired.snoc r ⟨rfl,ry⟩
theorem KV.length{kvs:List (κ×V)}{vs:List (κ×Value)}(r:KV kvs vs):kvs.length=vs.length:=GC r
end
theorem Ii{w:World}{k:pU}(r:RelV (kV k) u):(BN P w).is k u=Aa:=by
 cases k with
 |inl i=>obtain⟨t,e⟩:=(show ∃t,u=CZ i t from r);subst e;exact kN P w i t
 |inr x=>obtain⟨t,e⟩:=(show ∃t,u=Value.str x t from r);subst e;exact kK P w x t
theorem Wh{P:Program}{w:World}:∀{ks:List pU} {us:List Value},pQ (ks.map kV) us->ItemsAre (BN P w) ks us
 |[],_,r=>by rw[FG]at r;cases r;exact .nil
 |k::ks,_,r=>by
  rw[Ak]at r;cases r with
  |cons h t=>exact .cons (Ii h) (Wh t)
abbrev KT(H:Hp):List (List pU×V)->List (List pU×Addr×Value)->Prop:=Paired λp q=>p.1=q.1/\H q.2.1=Z (.tup (p.1.map kV))/\RelV p.2 q.2.2
theorem KT.val(r:KT H kvs xs)(k:List pU):EB (AR kvs k) ((atKey xs k).map (·.2)):=by
 induction r with
 |nil=>exact HF
 | @cons p q ps qs h t ih =>
  obtain⟨h1,_,h2⟩:=h
  by_cases e:p.1=k
  .have e':q.1=k:=h1.symm.trans e
   have b:atKey (q::qs) k=Z q.2:=by simp[atKey,Ct,e']
   rw[Hi e,b];exact h2
  .have e':¬q.1=k:=λz=>e (h1.trans z)
   have b:atKey (q::qs) k=atKey qs k:=by simp[atKey,Ct,e']
   rw[Hg e,b];exact ih
theorem KT.repl(r:KT H kvs xs)(k:List pU)(ry:RelV y u):KT H (kvs.map λkv=>if kv.1=k then(kv.1,y)else kv) (xs.map (putAt k u)):=by
 induction r with
 |nil=>exact .nil
 | @cons p q ps qs h t ih =>
  rw[Ak,Ak];refine .cons ?_ ih;obtain⟨h1,h2,h3⟩:=h;unfold putAt
  by_cases e:p.1=k
  .rw[if_pos e,if_pos (h1.symm.trans e)];exact⟨h1,h2,ry⟩
  .rw[if_neg e,if_neg (λz=>e (h1.trans z))];exact⟨h1,h2,h3⟩
theorem KT.put(r:KT H kvs xs)(k:List pU)(hb:H b=Z (.tup (k.map kV)))(ry:RelV y u):KT H (qz kvs k y) (storedH xs k b u):=by
 have e:(kvs.any λkv=>decide (kv.1=k))=(atKey xs k).isSome:=by rw[Me,(r.val k).isSome_eq,EV]
 unfold qz storedH;rw[e]
 by_cases q:(atKey xs k).isSome=Aa
 .rw[if_pos q,if_pos q];exact r.repl k ry
 .rw[if_neg q,if_neg q];exact Paired.snoc r ⟨rfl,hb,ry⟩
theorem KT.keeps(r:KT H kvs xs)(ht:∀b ys,H b=Z (.tup ys)->H' b=Z (.tup ys)):KT H' kvs xs :=
 Paired.mapP r λ_ _ z=>⟨z.1,ht _ _ z.2.1,z.2.2⟩
section
variable{P:Program}{w:World}{H:Hp}{h:Heap}{a:Addr}
theorem JU{u:HO}(ok:qE P w H h)(e:Rd H a u):ZT P w H h a u:=e.ok ok
theorem GQ{kvs:List (pU×V)}(ok:qE P w H h)(e:Rd H a (.dK kvs)):kvs.length<=sizeLine/\(a==CK)=Ab/\∃vs,KV kvs vs/\h.DictOf (BN P w) a vs :=
 show ZT P w H h a (.dK kvs) from JU ok e
theorem Ow{kvs:List (pU×V)}(ok:qE P w H h)(e:H a=Z (.dK kvs)):kvs.length<=sizeLine/\(a==CK)=Ab/\∃vs,KV kvs vs/\h.DictOf (BN P w) a vs:=GQ ok (.inl e)
theorem Ip{ks:List pU}(ok:qE P w H h)(e:H a=Z (.tup (ks.map kV))):(HB (BN P w)).is h ks a:=by obtain⟨_,pO,r,o,h1,h2,n,h3⟩:=(show ZT P w H h a (.tup (ks.map kV)) from ok a _ e);exact⟨o,pO.toArray,n,h1,h2,h3,by simpa using Wh r⟩
theorem Im(ok:qE P w H h)(e:Rd H a (.dT kvs)):kvs.length<=sizeLine/\(a==CK)=Ab /\ ∃xs,KT H kvs xs/\h.DictOfH (HB (BN P w)) a xs:=by
 obtain⟨z,y,xs,r,o,es,ep,h1,h2,h3,h4,h5⟩:=(show ZT P w H h a (.dT kvs) from JU ok e);refine⟨z,y,xs,r,o,es,ep,h1,h2,h3,h4,λx hx=>?_,h5⟩;have all:∀{l:List (List pU×V)} {m:List (List pU×Addr×Value)},KT H l m->∀x∈m,(HB (BN P w)).is h x.1 x.2.1:=by
  intro l m q
  induction q with
  |nil=>intro x hx;exact nomatch hx
  | @cons p q ps qs hq t ih =>
   intro x hx;rcases Ax.mp hx with e|hx
   .subst e
    exact Ip ok (by rw[<-hq.1];exact hq.2.1)
   .exact ih x hx
 exact all r x hx
theorem S0(ok:qE P w H h)(e:H a=Z (.dT kvs)):kvs.length<=sizeLine/\(a==CK)=Ab /\ ∃xs,KT H kvs xs/\h.DictOfH (HB (BN P w)) a xs:=Im ok (.inl e)
end
def BV(H:Hp)(a:Addr)(y:V)(r:Option V):Prop :=
 (∃kvs k,Rd H a (.dK kvs)/\y=kV k/\r=AR kvs k)\/∃kvs k b,Rd H a (.dT kvs)/\y=.ref b/\H b=Z (.tup (k.map kV))/\r=AR kvs k
def E4(H:Hp)(a:Addr)(y v:V)(H':Hp):Prop :=
 (∃kvs k,H a=Z (.dK kvs)/\y=kV k/\kvs.length<sizeLine/\H'=upd H a (.dK (qz kvs k v))) \/
 ∃kvs k b,H a=Z (.dT kvs)/\y=.ref b/\H b=Z (.tup (k.map kV))/\kvs.length<sizeLine/\H'=upd H a (.dT (qz kvs k v))
theorem BV.k{H:Hp}{a:Addr}{kvs:List (pU×V)}{k:pU}(e:H a=Z (.dK kvs)):BV H a (kV k) (AR kvs k):=.inl ⟨kvs,k,.inl e,rfl,rfl⟩
theorem BV.t{k:List pU}(e:H a=Z (.dT kvs))(eb:H b=Z (.tup (k.map kV))):BV H a (.ref b) (AR kvs k):=.inr ⟨kvs,k,b,.inl e,rfl,eb,rfl⟩
theorem E4.k{H:Hp}{a:Addr}{kvs:List (pU×V)}{k:pU}{v:V}(e:H a=Z (.dK kvs))(hl:kvs.length<sizeLine):E4 H a (kV k) v (upd H a (.dK (qz kvs k v))):=.inl ⟨kvs,k,e,rfl,hl,rfl⟩
theorem E4.t{k:List pU}{v:V}(e:H a=Z (.dT kvs))(eb:H b=Z (.tup (k.map kV)))(hl:kvs.length<sizeLine):E4 H a (.ref b) v (upd H a (.dT (qz kvs k v))):=.inr ⟨kvs,k,b,e,rfl,eb,hl,rfl⟩
section
variable{X:Cx}{pM:List (Addr×Obj)}{J:St}{H:Hp}{s:Shared}{a:Addr}{y v:V}{u r:Value}{o:Option V}{A:Around}{E:Value->Shared->Prop}
theorem Inv.big(I:Inv X pM J H s):CK<s.heap.objs.size:=by have h:Bg<s.heap.objs.size:=(I.mod.glob.keeps I.bk).lt;exact ES (by decide) h
theorem jT(hu:A.units+1<cLine)(I:Inv X pM J H s)(g:BV H a y (Z v))(ry:RelV y u)(h:∀w' s',Inv X pM J H s'->RelV v w'->Q w' s'):wpAny (model X.prog X.w) A (getItem (.ref a) u) Q E s:=by
 rcases g with⟨kvs,k,e,ey,l⟩|⟨kvs,k,b,e,ey,eb,l⟩
 .subst ey
  obtain⟨z,hd,vs,qF,dd⟩:=GQ I.hok e;obtain⟨w',hw,rw'⟩:=EB.some_of (v:=v) (o:=valueAt vs k) (by rw[l];exact qF.val k);exact wpAny_getItem_of (Ii ry) dd.mapOf hw (h w' _ (I.tok _) rw')
 .subst ey
  cases(show u=A6 b from ry);obtain⟨z,hd,xs,qF,dd⟩:=Im I.hok e;obtain⟨w',hw,rw'⟩:=EB.some_of (v:=v) (o:=(atKey xs k).map (·.2)) (by rw[l];exact qF.val k);obtain⟨p,hp,hp2⟩:=Al.mp hw;refine wpAny_getItem_heap (Lo hu) (Ip I.hok eb) dd hp ?_;rw[hp2];exact h w' _ (I.tok _) rw'
theorem aj(hu:A.units+1<cLine)(I:Inv X pM J H s)(g:BV H a y o)(ry:RelV y u)(h:∀s',Inv X pM J H s'->Q (.bool o.isSome) s'):wpAny (model X.prog X.w) A (BP .In u (.ref a)) Q E s:=by
 rcases g with⟨kvs,k,e,ey,l⟩|⟨kvs,k,b,e,ey,eb,l⟩
 .subst ey
  obtain⟨z,hd,vs,qF,dd⟩:=GQ I.hok e;refine wpAny_in_of (Ii ry) hd dd.mapOf ?_;rw[<-(qF.val k).isSome_eq,<-l];exact h _ (I.tok _)
 .subst ey
  cases(show u=A6 b from ry);obtain⟨z,hd,xs,qF,dd⟩:=Im I.hok e;refine wpAny_in_heap (Lo hu) (Ip I.hok eb) hd dd ?_;have q:=(qF.val k).isSome_eq;rw[EV]at q;rw[<-q,<-l];exact h _ (I.tok _)
theorem cy(hu:A.units+1<cLine)(I:Inv X pM J H s)(g:BV H a y o)(ry:RelV y u)(h:∀s',Inv X pM J H s'->Q (.bool (!o.isSome)) s'):wpAny (model X.prog X.w) A (BP .NotIn u (.ref a)) Q E s:=by
 rcases g with⟨kvs,k,e,ey,l⟩|⟨kvs,k,b,e,ey,eb,l⟩
 .subst ey
  obtain⟨z,hd,vs,qF,dd⟩:=GQ I.hok e;refine wpAny_notIn_of (Ii ry) hd dd.mapOf ?_;rw[<-(qF.val k).isSome_eq,<-l];exact h _ (I.tok _)
 .subst ey
  cases(show u=A6 b from ry);obtain⟨z,hd,xs,qF,dd⟩:=Im I.hok e;refine wpAny_notIn_heap (Lo hu) (Ip I.hok eb) hd dd ?_;have q:=(qF.val k).isSome_eq;rw[EV]at q;rw[<-q,<-l];exact h _ (I.tok _)
theorem L3{t':Nat}{ob:HO}(I:Inv X pM J H s)(mu:xC (H a))(hs:El a s.heap h')(he:∃q,h'.get? a=Z q)(new:ZT X.prog X.w (upd H a ob) h' a ob):Inv X pM J (upd H a ob) {s with heap:=h',toks:=t'} :=
 I.write (x:=a) (e:=a) mu (.inl rfl) (λb q hb z=>(hs.2 b hb).trans z) he new
theorem Tz{w:World}{kvs:List (pU×V)}{vs:List (pU×Value)}(z:kvs.length<=sizeLine)(hd:(a==CK)=Ab)(qF:KV kvs vs)(dd:h'.DictOf (BN P w) a vs):ZT P w H' h' a (.dK kvs):=⟨z,hd,vs,qF,dd⟩
theorem jP{Q:Unit->Shared->Prop}(hu:A.units+1<cLine)(I:Inv X pM J H s)(g:E4 H a y v H')(ry:RelV y u)(rv:RelV v r)(h:∀s',Inv X pM J H' s'->Q () s'):wpAny (model X.prog X.w) A (setItem (.ref a) u r) Q E s:=by
 rcases g with⟨kvs,k,e,ey,l,eH⟩|⟨kvs,k,b,e,ey,eb,l,eH⟩
 .subst ey eH
  obtain⟨z,hd,vs,qF,dd⟩:=Ow I.hok e;have hz:vs.length<=sizeLine:=by rw[<-qF.length];exact z
  have hl:(qz kvs k v).length<=sizeLine:=by have:=QK kvs k v;omega
  refine wpAny_setItem_pairs (hsz:=hz) (Ii ry) dd λh' dd' hs=>h _ ?_;have he:∃q,h'.get? a=Z q:=let ⟨q,_,_,hq,_⟩:=dd';⟨q,hq⟩
  exact L3 I (by rw[e];exact HF) hs he (Tz hl hd (qF.put k rv) dd')
 .subst ey eH
  cases(show u=A6 b from ry);obtain⟨z,hd,xs,qF,dd⟩:=S0 I.hok e;have hz:xs.length<=sizeLine:=by rw[<-GC qF];exact z
  have hl:(qz kvs k v).length<=sizeLine:=by have:=QK kvs k v;omega
  refine wpAny_setItem_heap (hsz:=hz) (Lo hu) (Ip I.hok eb) dd λh' dd' hs=>h _ ?_;obtain⟨q,es,ep,hq,h2,h3,h4,_,h5⟩:=dd';refine L3 I (by rw[e];exact HF) hs ⟨q,hq⟩ ⟨hl,hd,_,(qF.put k eb rv).keeps λc ys ec=>?_,q,es,ep,hq,h2,h3,h4,h5⟩;rw[ZA (SY ec e (λz=>nomatch z))];exact ec
end
section
variable{X:Cx}{pM:List (Addr×Obj)}{J:St}{H:Hp}{s:Shared}{a:Addr}{kvs:List (pU×V)}{k:pU}{u:Value}{A:Around}{E:Value->Shared->Prop}
theorem Y1(I:Inv X pM J H s)(e:Rd H a (.dK kvs))(h:∀t s',Inv X pM J H s'->Q (.int kvs.length t) s'):wpAny (model X.prog X.w) A (call (.builtin "len") [.ref a]) Q E s:=by obtain⟨z,hd,vs,qF,dd⟩:=GQ I.hok e;refine call_len_dict hd dd (by rw[<-qF.length];rw[BO]at z;omega) ?_;rw[<-qF.length];exact h _ _ (I.tok _)
end
def JO(i:Expr):Prop:=∀ov iv,Nj i Ab ov iv=operate [ov,iv] (getItem ov iv)
theorem dM{prog:Program}{w:World}{A:Around}{E:Value->Shared->Prop}{env:Env}{value qH:Expr}{T id:String}(hl:typeLookup (.type T) "__getitem__"=pure (Z (.builtin id)))(hs:JO qH)(h:wpAny (model prog w) A (eval value env) (λo s₁=>wpAny (model prog w) A (eval qH env) (λi s₂=>s₂.TypeIs o T/\wpAny (model prog w) A (getItem o i) Q E s₂) E s₁) E s):wpAny (model prog w) A (eval (.Subscript value qH pos) env) Q E s:=by
 refine Subscript_ (Cu h (λo s₁ h₁=>Cu h₁ (λi s₂ h₂=>?_) λ_ _ x=>x) λ_ _ x=>x);obtain⟨hT,h₂⟩:=h₂;unfold subscriptTail;refine Ac ?_;rw[getitemInPython_of_ne hT.not_modules];refine Ac (RM hT hl ?_);have qC:wpAny (model prog w) A (Nj qH Ab o i) (λr s₃=>wpAny (model prog w) A (letTemporaryGo value o r >>= λ_=>pure r) Q E s₃) E s₂:=by rw[hs o i];exact wpAny_operating (Cu h₂ (λr s₃ h₃=>Ac (wpAny_letTemporaryGo (Ad h₃))) λ_ _ x=>x)
 first
  |exact Ad (Ac qC)
  |exact Ac (Ad (Ac qC))
  |exact Ac qC
theorem kX(I:Inv X pM J H s)(g:BV H a y o):s.TypeIs (.ref a) "dict":=by
 rcases g with⟨kvs,k,e,_,_⟩|⟨kvs,k,b,e,_,_,_⟩
 .obtain⟨_,_,vs,_,dd⟩:=GQ I.hok e
  exact dd.typeIs
 .obtain⟨_,_,xs,_,dd⟩:=Im I.hok e
  exact dd.typeIs
def YY(td ty:TE):TE:=λJ H Q=>td J H λx H1=>ty J H1 λy H2=>∃a v,x=.ref a/\BV H2 a y (Z v)/\Q v H2
def az(ty td:TE):TE:=λJ H Q=>ty J H λy H1=>td J H1 λx H2=>∃a o,x=.ref a/\BV H2 a y o/\Q (.bl o.isSome) H2
def d9(ty td:TE):TE:=λJ H Q=>ty J H λy H1=>td J H1 λx H2=>∃a o,x=.ref a/\BV H2 a y o/\Q (.bl (!o.isSome)) H2
def YZ(td ty tv:TE):TS:=λD J H=>tv J H λv H1=>td J H1 λx H2=>ty J H2 λy H3=>∃a H4,x=.ref a/\E4 H3 a y v H4/\D.nx J H4
section
variable{X:Cx}{o i e value:Expr}{pos pos' tpos:Pos}{td ty tv:TE}
theorem PF(hu:X.A.units+1<cLine)(ho:PE X o td)(hi:PE X i ty)(hs:JO i):PE X (.Subscript o i pos) (YY td ty):=by intro pM s J H Q I h;refine dM PySem.F.slot_dict_getitem.lookup hs (pW (ho pM s J H _ I h) λu s1 ⟨x,H1,I1,rx,q1⟩=>pW (hi pM s1 J H1 _ I1 q1) λiv s2 ⟨y,H2,I2,ry,a,v,ex,g,q2⟩=>?_);subst ex;obtain rfl:u=A6 a:=rx;exact⟨kX I2 g,jT hu I2 g ry λw' s3 I3 rw'=>⟨v,H2,I3,rw',q2⟩⟩
theorem br(hu:X.A.units+1<cLine)(hi:PE X i ty)(ho:PE X o td):PC X .In i o (az ty td):=by intro pM s J H Q I h;refine pW (hi pM s J H _ I h) λiv s1 ⟨y,H1,I1,ry,q1⟩=>pW (ho pM s1 J H1 _ I1 q1) λu s2 ⟨x,H2,I2,rx,a,ov,ex,g,q2⟩=>?_;subst ex;obtain rfl:u=A6 a:=rx;exact aj hu I2 g ry λs3 I3=>⟨.bl ov.isSome,H2,I3,rfl,q2⟩
theorem V7(hu:X.A.units+1<cLine)(hi:PE X i ty)(ho:PE X o td):PC X .NotIn i o (d9 ty td):=by intro pM s J H Q I h;refine pW (hi pM s J H _ I h) λiv s1 ⟨y,H1,I1,ry,q1⟩=>pW (ho pM s1 J H1 _ I1 q1) λu s2 ⟨x,H2,I2,rx,a,ov,ex,g,q2⟩=>?_;subst ex;obtain rfl:u=A6 a:=rx;exact cy hu I2 g ry λs3 I3=>⟨.bl (!ov.isSome),H2,I3,rfl,q2⟩
theorem Pj(hu:X.A.units+1<cLine)(ho:PE X o td)(hi:PE X i ty)(hv:PE X value tv)(hs:DU value (Z (.Subscript o i pos')) pos.line X.env=pure Ab):PS X (.Assign [.Subscript o i pos'] value pos) (YZ td ty tv):=by
 intro pM s J H D I h;refine wpAny_Assign_Subscript (pW (hv pM s J H _ I h) λr s1 ⟨v,H1,I1,rv,q1⟩=>pW (ho pM s1 J H1 _ I1 q1) λu s2 ⟨x,H2,I2,rx,q2⟩=>pW (hi pM s2 J H2 _ I2 q2) λiv s3 ⟨y,H3,I3,ry,a,H4,ex,g,q3⟩=>?_) hs;subst ex;obtain rfl:u=A6 a:=rx;exact jP hu I3 g ry rv λs4 I4=>⟨J,H4,I4,q3⟩
end
theorem VA{w:World}(h:Heap)(hb:CK<h.objs.size):ZT P w H (h.push {cls:=.type "dict",data:=.dict #[]}) h.objs.size (.dK []) :=
 ⟨Bw _,beq_eq_false_iff_ne.mpr (A7 (Aw hb)),[],.nil,Heap.DictOf.new h⟩
theorem ik{w:World}(h:Heap)(hb:CK<h.objs.size):ZT P w H (h.push {cls:=.type "dict",data:=.dict #[]}) h.objs.size (.dT []) :=
 ⟨Bw _,beq_eq_false_iff_ne.mpr (A7 (Aw hb)),[],.nil,_,#[],0,AS _ rfl,⟨rfl,rfl,rfl⟩,rfl,rfl,Es⟩
def aZ:TE:=λ_ H Q=>∀p,H p=Z_->Q (.ref p) (upd H p (.dK []))
def bQ:TE:=λ_ H Q=>∀p,H p=Z_->Q (.ref p) (upd H p (.dT []))
section
variable{X:Cx}{pos:Pos}
theorem ij:PE X (.Dict [] [] pos) aZ:=λpM s J H Q I h=>wpAny_Dict_empty ⟨.ref s.heap.objs.size,_,I.laid (a:=s.heap.objs.size) (o:=.dK []) (t':=s.toks) (λ_ _ q=>Ar _ q) (Ai _) (VA s.heap I.big),rfl,h _ (I.hok.fresh (Ai _))⟩
theorem Vr:PE X (.Dict [] [] pos) bQ:=λpM s J H Q I h=>wpAny_Dict_empty ⟨.ref s.heap.objs.size,_,I.laid (a:=s.heap.objs.size) (o:=.dT []) (t':=s.toks) (λ_ _ q=>Ar _ q) (Ai _) (ik s.heap I.big),rfl,h _ (I.hok.fresh (Ai _))⟩
end
def OY:List (TE×TE)->St->Hp->(List (V×V)->Hp->Prop)->Prop
 |[],_,H,Q=>Q [] H
 |(tk,tv)::r,J,H,Q=>tk J H λx H1=>tv J H1 λy H2=>OY r J H2 λps H3=>Q ((x,y)::ps) H3
abbrev VV:List (V×V)->List (Value×Value)->Prop:=Paired λp q=>RelV p.1 q.1/\RelV p.2 q.2
def yH(X:Cx)(pos:Pos)(sM:List (Option Expr))(rV:List Expr)(uV:List (TE×TE)):Prop :=
 ∀(pM:List (Addr×Obj)) (s:Shared) (J:St) (H:Hp) (Q:List (V×V)->Hp->Prop),Inv X pM J H s->OY uV J H Q ->
  wpAny (model X.prog X.w) X.A (evalPairs (pairTrees sM rV X.env pos)) (λvs s'=>∃ps H',Inv X pM J H' s'/\VV ps vs/\Q ps H') X.xe s
theorem eU:yH X pos [] [] []:=λpM s J H Q I h=>pairTrees_nil_walk ⟨[],H,I,.nil,h⟩
theorem ir{k v:Expr}{ks:List (Option Expr)}{vs:List Expr}{tk tv:TE}{uV:List (TE×TE)}(hk:PE X k tk)(hv:PE X v tv)(hr:yH X pos ks vs uV):yH X pos (Z k::ks) (v::vs) ((tk,tv)::uV):=λpM s J H Q I h =>
 pairTrees_cons_walk (pW (hk pM s J H _ I h) λu s1 ⟨x,H1,I1,rx,q1⟩=>pW (hv pM s1 J H1 _ I1 q1) λw2 s2 ⟨y,H2,I2,ry,q2⟩=>pW (hr pM s2 J H2 _ I2 q2) λws s3 ⟨ps,H3,I3,qF,q3⟩=>⟨(x,y)::ps,H3,I3,.cons ⟨rx,ry⟩ qF,q3⟩)
def Iz(kvs more:List (pU×V)):List (pU×V):=more.foldl (λacc kv=>qz acc kv.1 kv.2) kvs
theorem KV.merge:∀{more:List (pU×V)} {rs:List (pU×Value)} {kvs:List (pU×V)} {vs:List (pU×Value)},KV more rs->KV kvs vs->KV (Iz kvs more) (merged vs rs):=by
 intro more rs kvs vs r;unfold KV at r
 induction r generalizing kvs vs with
 |nil=>intro q;exact q
 | @cons p q ps qs h t ih =>
  intro r0;have e:KV (qz kvs p.1 p.2) (stored vs q.1 q.2):=by have:=r0.put p.1 h.2;rw[<-h.1];exact this
  exact ih e
theorem XC:∀(more kvs:List (pU×V)),(Iz kvs more).length<=kvs.length+more.length
 |[],kvs=>by show kvs.length<=kvs.length+0;omega
 |p::r,kvs=>by have h1:=XC r (qz kvs p.1 p.2);have h2:=QK kvs p.1 p.2;show(Iz (qz kvs p.1 p.2) r).length<=_;rw[Ay];omega
theorem WE{P:Program}{w:World}:∀{kvs:List (pU×V)} {ws:List (Value×Value)},VV (kvs.map λkv=>(kV kv.1,kv.2)) ws->∃rs,Carries (BN P w) ws rs/\KV kvs rs
 |[],_,r=>by rw[FG]at r;cases r;exact⟨[],HF,.nil⟩
 |p::kvs,_,r=>by
  rw[Ak]at r;cases r with
  | @cons a b as bs h t=>obtain⟨rs,c,q⟩:=WE (P:=P) (w:=w) t;obtain⟨b1,b2⟩:=b;exact⟨(p.1,b2)::rs,⟨Ii h.1,rfl,c⟩,.cons ⟨rfl,h.2⟩ q⟩
def YR(uV:List (TE×TE)):TE:=λJ H Q=>∀p,H p=Z_->OY uV J (upd H p (.dK [])) λps H2=>H2 p=Z (.dK [])/\∃kvs:List (pU×V),ps=kvs.map (λkv=>(kV kv.1,kv.2))/\kvs.length<=15/\Q (.ref p) (upd H2 p (.dK (Iz [] kvs)))
theorem eL{sM:List (Option Expr)}{rV:List Expr}{uV:List (TE×TE)}(h:yH X pos sM rV uV)(qQ:sM.all (·.isSome)=Aa)(hl:sM.length=rV.length)(h0:sM≠[])(h15:sM.length<=15):PE X (.Dict sM rV pos) (YR uV):=by
 intro pM s J H Q I q;have hn:=I.hok.fresh (Ai s.heap.objs.size);have I1:=I.laid (a:=s.heap.objs.size) (o:=.dK []) (h':=s.heap.push {cls:=.type "dict",data:=.dict #[]}) (t':=s.toks) (λ_ _ q=>Ar _ q) (Ai _) (VA s.heap I.big);refine wpAny_Dict_walk (knd:=BN X.prog X.w) qQ hl h0 h15 (pW (h pM _ J _ _ I1 (q _ hn)) λws s2 ⟨ps,H2,I2,qF,e,kvs,ep,lk,q2⟩=>?_);subst ep;obtain⟨rs,c,rk⟩:=WE (P:=X.prog) (w:=X.w) qF;obtain⟨z,hd,yM,r0,dd⟩:=Ow I2.hok e;cases r0;refine⟨rs,c,dd,λh' dd' hs=>⟨.ref s.heap.objs.size,_,?_,rfl,q2⟩⟩;have hz:(Iz [] kvs).length<=sizeLine:=by have h1:=XC kvs [];rw[List.length_nil]at h1;rw[BO];omega
 have he:∃q,h'.get? s.heap.objs.size=Z q:=let ⟨q,_,_,hq,_⟩:=dd';⟨q,hq⟩
 exact L3 I2 (by rw[e];exact HF) hs he (Tz hz hd (rk.merge .nil) dd')
structure M2(X:Cx)(o:Expr)(m:Str)(sj:Pos)(e f:Expr)(qS:Pos):Prop where
 base:GB o m X.env (eval o X.env)=eval o X.env
 few:((backTo qS (Ah [e,f] X.env)).all (λx=>!x.1)&&(Jm qS (JB [] X.env)).all (λx=>x.1.isSome)
  && decide (([e,f]:List Expr).length+([]:List Keyword).length+(if([]:List Keyword).isEmpty then 0 else 1)<30))=Aa
 line:(sj.endLine==qS.line)=Aa
 trees:backTo qS (Ah [e,f] X.env)=[(Ab,eval e X.env),(Ab,eval f X.env)]
def IsD(H:Hp)(a:Addr):Prop:=(∃kvs,Rd H a (.dK kvs))\/∃kvs,Rd H a (.dT kvs)
theorem cQ(I:Inv X pM J H s)(d:IsD H a):s.TypeIs (.ref a) "dict"/\(∀b,A6 a=.ref b->∃ob,s.heap.get? b=Z ob/\ob.dict=Z_)/\(a==CK)=Ab:=by
 rcases d with⟨kvs,e⟩|⟨kvs,e⟩
 .obtain⟨_,hd,vs,_,dd⟩:=GQ I.hok e
  refine⟨dd.typeIs,λb q=>?_,hd⟩;cases q;obtain⟨ob,_,_,h1,h2,_⟩:=dd;exact⟨ob,h1,h2.2.1⟩
 .obtain⟨_,hd,xs,_,dd⟩:=Im I.hok e
  refine⟨dd.typeIs,λb q=>?_,hd⟩;cases q;obtain⟨ob,_,_,h1,h2,_⟩:=dd;exact⟨ob,h1,h2.2.1⟩
end
end L2
namespace Att
open PySem PySem.W PySem.Calls PyProof.Rows
variable{h:Heap}{n:Nat}
theorem m5{P:Params}:∀(ns:List Int) (vs:List Value),WellAll P h vs (ns.map WData.int)->IntsAre vs ns:=by
 intro ns
 induction ns with
 |nil=>intro vs w;rw[FG]at w;cases w;exact .nil
 |cons n ns ih =>
  intro vs w;rw[Ak]at w;cases w with
  |cons a b=>cases a;exact .cons _ _ (ih _ b)
theorem iL{l:OpenLaw}(hn:l.most=Z n){P:Params}{args:List WData}{wo:List Value}(ve:l.row.toRowW.claim.pre args=Aa)(yV:WellAll P h wo args):∃a vs ns,wo=[A6 a]/\args=[WData.list (ns.map WData.int)]/\h.get? a=Z {cls:=.type "list",data:=.seq vs.toArray}/\IntsAre vs ns/\ns.length<=n:=by
 have hsh:WShape.hasAll [] args [.list .int]=Aa:=(pre_splitW ve).1;have hc:l.pre.holds [] {args:=args}=Aa:=(pre_splitW ve).2;obtain⟨d,r,rfl,h1,h2⟩:=hasAllW_cons hsh;obtain rfl:=hasAllW_nil h2;obtain⟨xs,rfl,h3⟩:=hasW_list h1;obtain⟨ns,rfl⟩:=items_int h3;have pP:ns.length<=n:=by
  unfold OpenLaw.pre at hc;have h4:(WTm.not (.lt (.lit (.int (n:Int))) (.len (.arg 0)))).holds [] {args:=[.list (ns.map .int)]}=Aa:=by have h4:=(holds_andW hc).1;rw[hn]at h4;exact h4
  have h5:=condW_of h4 (w_not (w_lt w_lit (w_len_list (w_arg rfl))));rw[Af]at h5;refine JG λq=>?_;have q':(n:Int)<((ns.length:Nat):Int):=by omega
  first
   |(rw[decide_eq_true q']at h5;exact absurd h5 (by decide))
   |(simp at h5;omega)
 cases yV with
 |cons w1 w2 =>
  cases w2;cases w1 with
  |list ho qQ=>exact⟨_,_,ns,rfl,rfl,ho,m5 ns _ qQ,pP⟩
theorem gG(l:OpenLaw)(args:List WData):l.row.toRowW.claim.post args (.bool Aa) args=Aa :=
 postW_of (r:=l.row.toRowW) (X:=(Aa==Aa))
  (show WShape.has [] (.bool Aa) .bool=Aa by first|rfl|decide|simp[WShape.has,WShape.arms,WShape.armsAll])
  (show(WTm.eq .res (.lit (.bool Aa))).value [] {args:=args,res:=Z (.bool Aa),after:=args}=Z (.bool (Aa==Aa)) from w_eq_bool (w_res rfl) w_lit) rfl
theorem oU{l:OpenLaw}{q:Program}{sk:List Str}{XP:(Str->Option Value)->Heap->Prop}{YP:World->Heap->Prop}{d:DefRec}(hn:l.most=Z n)(xp:d.params.defaults=[])
  (call:∀(w:World) (s₀ s₁:Shared) (mg mb:Str->Option Value) (fa:Addr) (o:Obj) (pm cd qU:Value) (a:Addr) (vs:List Value) (ns:List Int),
   Ground q sk [] XP w s₀ mg mb s₁.heap->YP w s₁.heap ->
   s₁.heap.get? fa=Z o->o.data=.func (docDef d.name d.params d.body d.scope pm cd qU)->s₁.heap.CodeRec cd d.name->mg d.name=Z (.ref fa) ->
   s₁.heap.get? a=Z {cls:=.type "list",data:=.seq vs.toArray}->IntsAre vs ns->ns.length<=n->s₁.gens=#[] ->
   codeAny (model l.prog w) callerA (.call (.ref fa) ⟨[.ref a],[]⟩) (λr s'=>r=.ok (.ret (.bool Aa))/\OldK s₁.heap s'.heap/\s'.os=s₁.os/\AllBare s'.gens) s₁):
  WalkO q sk XP YP l.row.toRowW d [] (λf vs=>PySem.call f vs):=by
 intro w s₀ s₁ mg mb G Y fa o pm cd qU dV kV ho hd qw hD xj hg args wo as ve hlay hrd yV hlo;obtain rfl:dV=.none:=Dflts.none hD xp;obtain rfl:kV=.none:=Dflts.noKw hD;obtain⟨a,vs,ns,rfl,rfl,wx,uG,pP⟩:=iL hn ve yV;refine enter_call (Ek (call w s₀ s₁ mg mb fa o pm cd qU a vs ns G Y ho (fd_plain hd) qw xj wx uG pP hg) λr s' hq=>?_);obtain⟨rfl,h2,h3,h4⟩:=hq;exact⟨.inl ⟨.bool Aa,.bool Aa,[],rfl,λ_=>rfl,.bool Aa,gG l _,λ_=>⟨List.Pairwise.nil,λ_ hm=>(nomatch hm)⟩⟩,h2,h3,h4⟩
end Att
namespace L2
open PySem PySem.Spec PyProof.Rows
theorem V9:∀{vs:List Value} {ns:List Int},IntsAre vs ns->pQ (ns.map V.int) vs
 |_,_,.nil=>.nil
 |_,_,.cons n t h=>.cons ⟨t,rfl⟩ (V9 h)
section
variable{f:Addr}{H H':Hp}{A:Prop}{st:Stmt}{qual x:Str}
def DN(s:Stmt):Arguments:=match s with
 | .FunctionDef _ a _ _ _ _ _ _ _ _=>a
 |_=>{posonlyargs:=[],args:=[],vararg:=Z_,kwonlyargs:=[],kw_defaults:=[],kwarg:=Z_,defaults:=[]}
def BW(s:Stmt):List Stmt:=match s with
 | .FunctionDef _ _ b _ _ _ _ _ _ _=>b
 |_=>[]
def Ze(s:Stmt):Scope:=match s with
 | .FunctionDef _ _ _ _ _ _ sc _ _ _=>sc
 |_=>{kind:=.function,names:=[],isGenerator:=Ab,isCoroutine:=Ab}
abbrev rY:va:=λ_ _ _ _ _ _=>False
abbrev E0:XK:=λ_ _ _=>False
theorem OC{X:Cx}:tQ rY X E0:=λ_ _ _ _ _ _ _ h=>h.elim
structure sL(K:Ae)(x qual:Str)(st:Stmt)(f:Addr)(fd:FuncData):Prop where
 ex:∃(oc:Value) (od:Option Addr) (kV qU pm:Value) (an:Option Addr) (pV ct:Value) (sA:Array (Option Value)),
  fd=Dh x qual (DN st) (BW st) (Ze st) .none kV qU pm an pV ct/\K.lookup f=Z ⟨oc,od,.func fd,sA⟩/\GD K pV qual=Aa
 kp:Et K (.ref f)=Aa
section
variable{P:Program}{w:World}{K:Ae}{mg:Str->Option Value}{base:Heap}
theorem sL.ok{x qual:Str}{st:Stmt}{f:Addr}{fd:FuncData}{N ps:List Str}{k:Nat}{sp:Sp}(F:sL K x qual st f fd)(S:Zv N ps (Ze st))(len:∀vs H Q E,sp vs H Q E->vs.length=ps.length)
  (sR:∀(pV:Value) (A:Around) (outer:List Env) (s:Shared) (H:Hp) (vs:List V) (Q:VK) (E:XK),Z9 k (A.deeper (envOfC qual (Ze st) s.heap.objs.size f pV))->sp vs H Q E ->
   ∃t,rH (DL rY P w K mg base N qual (Ze st) f pV A outer s H E).nox (BW st) t/\t {nx:=λ_ H'=>Q .non H',rt:=Q} (start N vs) H):Ck P w K mg base rY (k+1) f fd ps sp:=by
 obtain⟨oc,od,kV,qU,pm,an,pV,ct,sA,rfl,lk,qw⟩:=F.ex;refine S5 lk qw S len λA outer s H vs Q E hr vB=>?_;obtain⟨t,h,q⟩:=sR pV A outer s H vs Q E hr vB;exact⟨t,h.nox,q⟩
theorem sL.binds{fd:FuncData}{ps:List Str}(F:sL K x qual st f fd)(h:∀(kV qU pm:Value) (an:Option Addr) (pV ct:Value) (us:List Value),us.length=ps.length->bindArgs (Dh x qual (DN st) (BW st) (Ze st) .none kV qU pm an pV ct) ⟨us,[]⟩=pure (ps.zip us)):Binds K fd ps []:=by
 obtain⟨oc,od,kV,qU,pm,an,pV,ct,sA,rfl,lk,qw⟩:=F.ex;exact .all (h kV qU pm an pV ct)
theorem OM{oc:Value}{od an:Option Addr}{sA:Array (Option Value)}{kV qU pm pV ct:Value}(l:K.lookup f=Z ⟨oc,od,.func (Dh x qual (DN st) (BW st) (Ze st) .none kV qU pm an pV ct),sA⟩)(c:GD K pV qual=Aa)(k:Et K (.ref f)=Aa):sL K x qual st f (Dh x qual (DN st) (BW st) (Ze st) .none kV qU pm an pV ct):=⟨⟨oc,od,kV,qU,pm,an,pV,ct,sA,rfl,l,c⟩,k⟩
end
theorem D9{A:Around}{k:Nat}(hr:Z9 k A):A.units+1<cLine:=Nat.lt_of_le_of_lt (Nat.add_le_add_left (by decide:1<=64) _) hr.units
theorem GL{B:Prop}(h:B):if Ab=Aa then A else B:=by rw[if_neg C2];exact h
theorem GJ{B:Prop}(h:A):if Aa=Aa then A else B:=by rw[if_pos rfl];exact h
def Zp(H H':Hp):Prop:=∀b o,H b=Z o->H' b=Z o
theorem Zp.refl(H:Hp):Zp H H:=λ_ _ h=>h
theorem Zp.trans{H1 H2:Hp}(a:Zp H H1)(b:Zp H1 H2):Zp H H2:=λc o h=>b c o (a c o h)
theorem Zp.free(e:Zp H H'){l:Addr}(h:H' l=Option.none):H l=Option.none:=by
 cases q:H l with
 |none=>rfl
 |some o=>rw[e l o q]at h;cases h
theorem Zp.seq{K:Ae}{a:Addr}{xs:List V}(e:Zp H H')(h:qD K H a xs):qD K H' a xs:=by
 rcases h with(h|⟨o,h⟩)|h
 .exact .inl (.inl (e _ _ h))
 .exact .inl (.inr ⟨o,e _ _ h⟩)
 .exact .inr h
end
section
variable{X:Cx}
theorem jF:Be X (.builtin "len") (λxs H Q=>∃a kvs,xs=[V.ref a]/\H a=Z (.dK kvs)/\Q (.int kvs.length) H):=by intro pM s J H xs us Q I r h;obtain⟨a,kvs,rfl,ha,q⟩:=h;obtain⟨u,rfl,ru⟩:=vals1 r;cases ru;exact Y1 I (.inl ha) λt s' I'=>⟨.int kvs.length,H,I',⟨t,rfl⟩,q⟩
end
end L2
namespace HM
open PySem
abbrev D:=PyData
abbrev Ky:=Sum Int Str
inductive B where
 |pl (d:D)
 |ol (ds:List D)
 |ok (kvs:List (Ky×D))
 |ot (kvs:List (List Ky×D))
 |otl (kvs:List (List Ky×List D))
 |hd (es:List (D×D))
abbrev Env:=List (Option B)
inductive tF where
 |nx (r:Env)
 |rt (d:D)
 |bk (r:Env)
 |ct (r:Env)
abbrev EF:=Env->Option D
abbrev BF:=Env->Option B
abbrev TF:=Env->Option Bool
abbrev IF:=Env->Option (List D)
abbrev AF:=Env->Option (List D)
abbrev SF:=Env->Option tF
@[simp] def big:Nat:=1000000
@[simp] noncomputable def Za (i:Nat):EF:=λr=>match r[i]? with
 |some (Z (.pl d))=>Z d
 |_=>Z_
@[simp] noncomputable def Zo (i:Nat):BF:=λr=>match r[i]? with
 |some (Z b)=>Z b
 |_=>Z_
@[simp] noncomputable def qg (f:EF):BF:=λr=>(f r).map B.pl
def BL:Ky->D
 | .inl i=>.int i
 | .inr x=>.str x
noncomputable def Zi (kvs:List (List Ky×D)):List (D×D):=kvs.map λp=>(.tuple (p.1.map BL),p.2)
@[simp] noncomputable def frz:B->Option D
 | .pl d=>Z d
 | .ol ds=>Z (.list ds)
 | .ot kvs=>Z (.dict (Zi kvs))
 | .hd es=>Z (.dict es)
 |_=>Z_
@[simp] def tw(f:BF):EF:=λr=>(f r).bind frz
@[simp] noncomputable def eC (d:D):EF:=λ_=>Z d
@[simp] noncomputable def pT (g:D->D->Option D) (a b:EF):EF:=λr=>match a r with
 |some x=>match b r with
  |some y=>g x y
  |none=>Z_
 |none=>Z_
@[simp] noncomputable def E8 (g:Int->Int->Option D):D->D->Option D
 | .int i,.int j=>g i j
 |_,_=>Z_
def ZR(i:Int):Bool:=Nat.blt i.natAbs 18446744073709551616
@[simp] def Bb(x y:D):Option D:=E8 (λi j=>Z (.int (i+j))) x y
@[simp] def JR(x y:D):Option D:=E8 (λi j=>Z (.int (i-j))) x y
@[simp] def Ci(x y:D):Option D:=E8 (λi j=>if ZR i||ZR j then Z (.int (i*j))else Z_) x y
@[simp] def SV(x y:D):Option D:=E8 (λi j=>if 0<j then Z (.int (i%j))else Z_) x y
@[simp] def xy(x y:D):Option D:=E8 (λi j=>Z (.bool (decide (i<j)))) x y
@[simp] def we(x y:D):Option D:=E8 (λi j=>Z (.bool (decide (i<=j)))) x y
@[simp] def uf(x y:D):Option D:=E8 (λi j=>Z (.bool (decide (j<i)))) x y
def Z3(d:D):Bool:=d.canLay0&&decide (d.depth<=60)
@[simp] def ra(a b:D):Option D:=if Z3 a&&Z3 b then Z (.bool (BQ a b))else Z_
@[simp] def vK(a b:D):Option D:=if Z3 a&&Z3 b then Z (.bool (!PyData.eqv a b))else Z_
@[simp] def B8(a b:D):Option D:=match b with
 | .none=>match a with
  | .none=>Z (.bool Aa)
  |_=>Z (.bool Ab)
 |_=>Z_
@[simp] def Iw(a b:D):Option D:=match b with
 | .none=>match a with
  | .none=>Z (.bool Ab)
  |_=>Z (.bool Aa)
 |_=>Z_
@[simp] def WR(g g':D->D->Option D)(a b c:EF):EF:=λr=>match a r with
 |some x=>match b r with
  |some y=>match g x y with
   |some (.bool Aa)=>match c r with
    |some z=>g' y z
    |none=>Z_
   |some (.bool Ab)=>Z (.bool Ab)
   |_=>Z_
  |none=>Z_
 |none=>Z_
@[simp] def ig(a:EF):EF:=λr=>match a r with
 |some (.bool b)=>Z (.bool (!b))
 |_=>Z_
@[simp] def CC(a b:EF):EF:=λr=>match a r with
 |some (.bool Aa)=>b r
 |some (.bool Ab)=>Z (.bool Ab)
 |_=>Z_
@[simp] def eOr(a b:EF):EF:=λr=>match a r with
 |some (.bool Aa)=>Z (.bool Aa)
 |some (.bool Ab)=>b r
 |_=>Z_
@[simp] noncomputable def tV (a:EF):TF:=λr=>match a r with
 |some (.bool b)=>Z b
 |_=>Z_
@[simp] def D8(a:TF):TF:=λr=>(a r).map (!·)
@[simp] def E9(a b:TF):TF:=λr=>match a r with
 |some Aa=>b r
 |some Ab=>Z Ab
 |none=>Z_
@[simp] def wW(a b:TF):TF:=λr=>match a r with
 |some Aa=>Z Aa
 |some Ab=>b r
 |none=>Z_
@[simp] def yC(c:TF)(a b:EF):EF:=λr=>match c r with
 |some Aa=>a r
 |some Ab=>b r
 |none=>Z_
@[simp] noncomputable def DQ:B->Option (List D)
 | .pl (.tuple ds)=>Z ds
 | .pl (.list ds)=>Z ds
 | .ol ds=>Z ds
 |_=>Z_
def ub(n:Nat)(i:Int):Option Nat :=
 if 0<=i then(if i<n then Z i.toNat else Z_)else(if -(n:Int)<=i then Z (i+n).toNat else Z_)
noncomputable def sY (ds:List D) (i:Int):Option D:=match ub ds.length i with
 |some j=>ds[j]?
 |none=>Z_
@[simp] def qy(a:BF)(b:EF):EF:=λr=>match a r with
 |some x=>match DQ x with
  |some ds=>match b r with
   |some (.int i)=>sY ds i
   |_=>Z_
  |none=>Z_
 |none=>Z_
@[simp] def aC:B->Option Nat
 | .pl (.tuple ds)=>Z ds.length
 | .pl (.list ds)=>Z ds.length
 | .ol ds=>Z ds.length
 | .ok kvs=>Z kvs.length
 |_=>Z_
@[simp] def By(a:BF):EF:=λr=>match a r with
 |some x=>(aC x).map λ(n:Nat)=>Bq (n:Int)
 |none=>Z_
@[simp] def CF(a:BF):EF:=λr=>match a r with
 |some x=>(DQ x).map λds=>.tuple ds
 |none=>Z_
@[simp] def Mx(a:BF):BF:=λr=>match a r with
 |some x=>(DQ x).map λds=>.ol ds
 |none=>Z_
def G9:List D->Option (List Bool)
 |[]=>Z []
 | .bool b::r=>(G9 r).map (b::·)
 |_::_=>Z_
@[simp] noncomputable def Ij:B->Option (List D)
 | .pl (.list ds)=>Z ds
 | .ol ds=>Z ds
 |_=>Z_
@[simp] def Il(a:BF):EF:=λr=>match a r with
 |some x=>match Ij x with
  |some ds=>(G9 ds).map λbs=>.bool (bs.all id)
  |none=>Z_
 |none=>Z_
@[simp] def Zk:AF:=λ_=>Z []
@[simp] def Zc(a:EF)(b:AF):AF:=λr=>match a r with
 |some x=>(b r).map (x::·)
 |none=>Z_
@[simp] def E5(a:AF):EF:=λr=>(a r).map λds=>.tuple ds
@[simp] def B7(a:AF):BF:=λr=>(a r).map λds=>.ol ds
inductive Ty where
 |bool|int|str|tuple|list|dict
@[simp] noncomputable def nz:Ty->D->Bool
 | .bool,.bool _=>Aa
 | .int,.int _=>Aa
 | .int,.bool _=>Aa
 | .str,.str _=>Aa
 | .tuple,.tuple _=>Aa
 | .list,.list _=>Aa
 | .dict,.dict _=>Aa
 |_,_=>Ab
@[simp] def Iv(a:EF)(t:Ty):EF:=λr=>match a r with
 |some (.dict _)=>Z_
 |some d=>Z (.bool (nz t d))
 |none=>Z_
@[simp] def cK(x y:D):Option D:=E8 (λi j=>Z (.int (if j > i then j else i))) x y
@[simp] def bC(x y:D):Option D:=E8 (λi j=>Z (.int (if j<i then j else i))) x y
@[simp] def lG(a:EF):EF:=λr=>match a r with
 |some (.int i)=>Z (.int i)
 |some (.bool b)=>Z (.int (if b then 1 else 0))
 |_=>Z_
@[simp] def JW(a b:BF):BF:=λr=>match a r with
 |some (.ol xs)=>match b r with
  |some (.ol ys)=>if xs.length+ys.length<big then Z (.ol (xs++ys))else Z_
  |_=>Z_
 |_=>Z_
@[simp] def fz(a:BF)(b:EF):BF:=λr=>match a r with
 |some (.ol xs)=>match b r with
  |some (.int k)=>if decide (k.natAbs<1000)&&decide (xs.length<1000)then Z (.ol (Bs k.toNat xs).flatten)else Z_
  |_=>Z_
 |_=>Z_
def wY(n d:Nat):Option Int->Nat
 |none=>d
 |some v=>if v<0 then(v+(n:Int)).toNat else min v.toNat n
noncomputable def cutD (xs:List D) (lo hi:Option Int):List D:=(xs.drop (wY xs.length 0 lo)).take (wY xs.length xs.length hi-wY xs.length 0 lo)
@[simp] def TM(a:Option EF)(r:Env):Option (Option Int):=match a with
 |none=>Z Z_
 |some f=>match f r with
  |some (.int i)=>Z (Z i)
  |_=>Z_
@[simp] def gQ(a:BF)(lo hi:Option EF):BF:=λr=>match a r with
 |some x=>match Ij x with
  |some xs=>match TM lo r with
   |some l=>match TM hi r with
    |some h=>Z (.ol (cutD xs l h))
    |none=>Z_
   |none=>Z_
  |none=>Z_
 |none=>Z_
noncomputable def BM:List D->Option (List Int)
 |[]=>Z []
 | .int i::r=>(BM r).map (i::·)
 |_::_=>Z_
def Iu:List D->Option (List (List Int))
 |[]=>Z []
 | .tuple ds::r=>match BM ds with
  |some ns=>(Iu r).map (ns::·)
  |none=>Z_
 |_::_=>Z_
def lexLt:List Int->List Int->Bool
 |[],[]=>Ab
 |[],_::_=>Aa
 |_::_,[]=>Ab
 |a::r,b::q=>if a=b then lexLt r q else decide (a<b)
noncomputable def sortI (ns:List Int):List Int:=ns.mergeSort λa b=>decide (a<=b)
def BI(ts:List (List Int)):List (List Int):=ts.mergeSort λa b=>!lexLt b a
def rW(ns:List Int):List D:=ns.map λi=>Bq i
def M9(ts:List (List Int)):List D:=ts.map λt=>Cv (rW t)
def FY(ds:List D):Option (List D) :=
 if ds.length<64 then match BM ds with
  |some ns=>Z (rW (sortI ns))
  |none=>match Iu ds with
   |some ts=>if ds.length<2||ts.all (λt=>!t.isEmpty)then Z (M9 (BI ts))else Z_
   |none=>Z_
 else Z_
@[simp] noncomputable def fK:B->Option (List D)
 | .pl (.tuple ds)=>Z ds
 | .pl (.list ds)=>Z ds
 | .ol ds=>Z ds
 | .ok kvs=>Z (kvs.map λp=>BL p.1)
 | .ot kvs=>Z (kvs.map λp=>.tuple (p.1.map BL))
 | .otl kvs=>Z (kvs.map λp=>.tuple (p.1.map BL))
 |_=>Z_
@[simp] def MG(a:BF):BF:=λr=>match a r with
 |some x=>match fK x with
  |some ds=>(FY ds).map λds=>.ol ds
  |none=>Z_
 |none=>Z_
noncomputable def qA:List Int->List Int->List Int
 |acc,[]=>acc
 |acc,i::r=>if acc.contains i then qA acc r else qA (acc++[i]) r
def LF(ns:List Int):Bool:=ns.all λn=>decide (0<=n)&&decide (n<8)
@[simp] def XY(a:BF):BF:=λr=>match a r with
 |some x=>match Ij x with
  |some ds=>match BM ds with
   |some ns=>if LF ns then Z (.ol (rW (sortI (qA [] ns))))else Z_
   |none=>Z_
  |none=>Z_
 |none=>Z_
@[simp] def Zj(m:List D->Option D)(a:AF):EF:=λr=>match a r with
 |some ds=>m ds
 |none=>Z_
@[simp] def ZW(a:BF):IF:=λr=>match a r with
 |some x=>DQ x
 |none=>Z_
noncomputable def Jb (lo:Int) (n:Nat):List D:=(Ag n).map λ(k:Nat)=>Bq (lo+(k:Int))
def ua(j:Int):Bool:=Nat.blt j.natAbs 1000000
@[simp] def DA(a:EF):IF:=λr=>match a r with
 |some (.int j)=>if ua j then Z (Jb 0 j.toNat)else Z_
 |_=>Z_
@[simp] def nu(i:IF):EF:=λr=>match i r with
 |some ds=>if ds.length<big then Z (.tuple ds)else Z_
 |none=>Z_
noncomputable def Bz (c:TF) (e:EF) (r:Env):List D->Option (List D)
 |[]=>Z []
 |x::xs=>match c (Z (.pl x)::r)with
  |some Aa=>match e (Z (.pl x)::r)with
   |some y=>(Bz c e r xs).map (y::·)
   |none=>Z_
  |some Ab=>Bz c e r xs
  |none=>Z_
@[simp] def A0:TF:=λ_=>Z Aa
@[simp] def ZF(i:IF)(c:TF)(e:EF):BF:=λr=>match i r with
 |some xs=>if xs.length<big then(Bz c e r xs).map λys=>.ol ys else Z_
 |none=>Z_
@[simp] def Zw(a b:SF):SF:=λr=>match a r with
 |some (.nx r')=>b r'
 |some (.rt d)=>Z (.rt d)
 |some (.bk r')=>Z (.bk r')
 |some (.ct r')=>Z (.ct r')
 |none=>Z_
@[simp] noncomputable def Bu:SF:=λr=>Z (.nx r)
@[simp] def Vg:SF:=λ_=>Z_
@[simp] noncomputable def ZE (a:EF):SF:=λr=>(a r).map tF.rt
@[simp] def ZX(i:Nat)(a:EF):SF:=λr=>(a r).map λd=>.nx (r.set i (Z (.pl d)))
@[simp] def ZL(i:Nat)(a:BF):SF:=λr=>(a r).map λb=>.nx (r.set i (Z b))
@[simp] def QA(i:Nat)(r:Env):Env:=match r[i]? with
 |some (Z (.ol ds))=>r.set i (Z (.pl (.list ds)))
 |some (Z (.ot kvs))=>r.set i (Z (.pl (.dict (Zi kvs))))
 |_=>r
@[simp] def D7(i:Nat):SF->SF:=λa r=>a (QA i r)
@[simp] def LW(a:EF):SF:=λr=>(a r).map λ_=>.nx r
@[simp] def qY(c:TF)(a b:SF):SF:=λr=>match c r with
 |some Aa=>a r
 |some Ab=>b r
 |none=>Z_
noncomputable def Bc (i:Nat) (body:SF):List D->Env->Option tF
 |[],r=>Z (.nx r)
 |x::xs,r=>match body (r.set i (Z (.pl x)))with
  |some (.nx r')=>Bc i body xs r'
  |some (.ct r')=>Bc i body xs r'
  |some (.bk r')=>Z (.nx r')
  |some (.rt d)=>Z (.rt d)
  |none=>Z_
@[simp] def Bi(i:Nat)(it:IF)(body:SF):SF:=λr=>match it r with
 |some xs=>if xs.length<big then Bc i body xs r else Z_
 |none=>Z_
noncomputable def Cp (c:TF) (body:SF):Nat->Env->Option tF
 |0,_=>Z_
 |n+1,r=>match c r with
  |some Aa=>match body r with
   |some (.nx r')=>Cp c body n r'
   |some (.ct r')=>Cp c body n r'
   |some (.bk r')=>Z (.nx r')
   |some (.rt d)=>Z (.rt d)
   |none=>Z_
  |some Ab=>Z (.nx r)
  |none=>Z_
@[simp] def Kr(i:Nat)(a:EF):SF:=λr=>match r[i]? with
 |some (Z (.ol ds))=>match a r with
  |some d=>if ds.length<big then Z (.nx (r.set i (Z (.ol (ds++[d])))))else Z_
  |none=>Z_
 |_=>Z_
@[simp] def kn(i:Nat)(k v:EF):SF:=λr=>match v r with
 |some d=>match r[i]? with
  |some (Z (.ol ds))=>match k r with
   |some (.int n)=>match ub ds.length n with
    |some j=>Z (.nx (r.set i (Z (.ol (ds.set j d)))))
    |none=>Z_
   |_=>Z_
  |_=>Z_
 |none=>Z_
noncomputable def qj {k v:Type} [DecidableEq k] (kvs:List (k×v)) (x:k) (y:v):List (k×v) :=
 if(kvs.any λp=>decide (p.1=x))=Aa then kvs.map (λp=>if p.1=x then(p.1,y)else p)else kvs++[(x,y)]
noncomputable def Zg {k v:Type} [DecidableEq k] (kvs:List (k×v)) (x:k):Option v:=(kvs.find? λp=>decide (p.1=x)).map (·.2)
@[simp] def Ir:D->Option Ky
 | .int i=>Z (.inl i)
 | .str x=>Z (.inr x)
 |_=>Z_
def Mn:List D->Option (List Ky)
 |[]=>Z []
 |d::r=>match Ir d with
  |some k=>(Mn r).map (k::·)
  |none=>Z_
noncomputable def yO:D->Option (List Ky)
 | .tuple ds=>Mn ds
 |_=>Z_
def LS:List D->Option (List Ky)
 |[]=>Z []
 | .int i::r=>(LS r).map (Cd i::·)
 |_::_=>Z_
def Bv:D->Option (List Ky)
 | .tuple ds=>LS ds
 |_=>Z_
@[simp] def Ik(i:Nat)(k v:EF):SF:=λr=>match v r with
 |some d=>match k r with
  |some x=>match r[i]? with
   |some (Z (.ok kvs))=>match Ir x with
    |some y=>if kvs.length<big then Z (.nx (r.set i (Z (.ok (qj kvs y d)))))else Z_
    |none=>Z_
   |some (Z (.ot kvs))=>match Bv x with
    |some y=>if kvs.length<big then Z (.nx (r.set i (Z (.ot (qj kvs y d)))))else Z_
    |none=>Z_
   |_=>Z_
  |none=>Z_
 |none=>Z_
@[simp] def fDk:BF:=λ_=>Z (.ok [])
@[simp] def yB:BF:=λ_=>Z (.ot [])
@[simp] def SW:BF:=λ_=>Z (.otl [])
@[simp] def ly(k v:EF):BF:=λr=>match k r with
 |some x=>match v r with
  |some d=>match Ir x with
   |some y=>Z (.ok [(y,d)])
   |none=>Z_
  |none=>Z_
 |none=>Z_
def Ca{k v:Type}[DecidableEq k](kvs:List (k×List v))(x:k):List (k×List v):=match Zg kvs x with
 |some _=>kvs
 |none=>kvs++[(x,[])]
def C6{k v:Type}[DecidableEq k]:List (k×List v)->k->v->List (k×List v)
 |[],_,_=>[]
 |(x,ds)::r,y,d=>if x=y then(x,ds++[d])::r else(x,ds)::C6 r y d
@[simp] def lp(i:Nat)(k v:EF):SF:=λr=>match k r with
 |some x=>match r[i]? with
  |some (Z (.otl kvs))=>match Bv x with
   | some y=>if kvs.length<big then
     match v (r.set i (Z (.otl (Ca kvs y))))with
     |some d=>match Zg (Ca kvs y) y with
      |some ds=>if ds.length<big then Z (.nx (r.set i (Z (.otl (C6 (Ca kvs y) y d)))))else Z_
      |none=>Z_
     |none=>Z_
    else Z_
   |none=>Z_
  |_=>Z_
 |none=>Z_
@[simp] def mN(i:Nat)(k:EF):SF:=λr=>match k r with
 |some x=>match r[i]? with
  |some (Z (.otl kvs))=>match Bv x with
   | some y=>if kvs.length<big then
     match Zg kvs y with
     |none=>Z (.nx (r.set i (Z (.otl (kvs++[(y,[])])))))
     |some _=>Z_
    else Z_
   |none=>Z_
  |_=>Z_
 |none=>Z_
@[simp] def k5(i:Nat)(k v:EF):SF:=λr=>match k r with
 |some x=>match r[i]? with
  |some (Z (.otl kvs))=>match Bv x with
   |some y=>match v r with
    |some d=>match Zg kvs y with
     |some ds=>if ds.length<big then Z (.nx (r.set i (Z (.otl (C6 kvs y d)))))else Z_
     |none=>Z_
    |none=>Z_
   |none=>Z_
  |_=>Z_
 |none=>Z_
@[simp] def hasB(b:B)(x:D):Option Bool:=match b with
 | .ok kvs=>(Ir x).map λy=>(Zg kvs y).isSome
 | .ot kvs=>(Bv x).map λy=>(Zg kvs y).isSome
 | .otl kvs=>(Bv x).map λy=>(Zg kvs y).isSome
 |_=>Z_
@[simp] def mX(k:EF)(a:BF):EF:=λr=>match k r with
 |some x=>match a r with
  |some b=>(hasB b x).map λc=>.bool (!c)
  |none=>Z_
 |none=>Z_
@[simp] def UT(i:Nat)(k:EF):BF:=λr=>match k r with
 |some x=>match r[i]? with
  |some (Z (.ok kvs))=>match Ir x with
   |some y=>(Zg kvs y).map B.pl
   |none=>Z_
  |some (Z (.ot kvs))=>match Bv x with
   |some y=>(Zg kvs y).map B.pl
   |none=>Z_
  |some (Z (.otl kvs))=>match Bv x with
   |some y=>(Zg kvs y).map B.ol
   |none=>Z_
  |_=>Z_
 |none=>Z_
abbrev pY(t:Nat)(cs:List D):D:=.dict [(.none,.int (Int.ofNat t)),(.none,.list cs)]
@[simp] noncomputable def X3 (n:Nat) (ds:List D):Env:=ds.map (λd=>Z (B.pl d))++Bs (n-ds.length) Z_
@[simp] noncomputable def fnOf (k n:Nat) (m:SF):List D->Option D:=λds =>
 if ds.length=k then match m (X3 n ds)with
  |some (.nx _)=>Z .none
  |some (.rt d)=>Z d
  |_=>Z_
 else Z_
def Hd(c:TF)(e:EF)(r:Env):List D->Option (List D)
 |[]=>Z []
 | .tuple [x,y]::xs=>match c (Z (.pl x)::Z (.pl y)::r)with
  |some Aa=>match e (Z (.pl x)::Z (.pl y)::r)with
   |some z=>(Hd c e r xs).map (z::·)
   |none=>Z_
  |some Ab=>Hd c e r xs
  |none=>Z_
 |_=>Z_
@[simp] def Xv(i:IF)(c:TF)(e:EF):BF:=λr=>match i r with
 |some xs=>if xs.length<big then(Hd c e r xs).map λys=>.ol ys else Z_
 |none=>Z_
def JP(ds:List D)(i:Int):Option Bool:=(BM ds).map λns=>ns.contains i
@[simp] def Vu(k:EF)(a:BF):EF:=λr=>match k r with
 |some (.int i)=>match a r with
  |some b=>match DQ b with
   |some ds=>(JP ds i).map λc=>.bool c
   |none=>Z_
  |none=>Z_
 |_=>Z_
@[simp] def Xu(k:EF)(a:BF):EF:=λr=>match k r with
 |some (.int i)=>match a r with
  |some b=>match DQ b with
   |some ds=>(JP ds i).map λc=>.bool (!c)
   |none=>Z_
  |none=>Z_
 |_=>Z_
@[simp] def Io(a:BF):TF:=λr=>match a r with
 |some (.ol ds)=>Z (!ds.isEmpty)
 |_=>Z_
@[simp] def Pu(n:Nat)(c:TF)(body:SF):SF:=λr=>Cp c body n r
def OI(ds:List D)(x:D):Option Bool:=if Z3 x&&ds.all Z3 then Z (ds.any λd=>BQ d x)else Z_
@[simp] def Rp(k:EF)(a:BF):EF:=λr=>match k r with
 |some x=>match a r with
  |some b=>match DQ b with
   |some ds=>(OI ds x).map λc=>.bool (!c)
   |none=>Z_
  |none=>Z_
 |none=>Z_
noncomputable def EG:List (D×D)->Option (List (List Ky×D))
 |[]=>Z []
 |(k,v)::r=>match yO k with
  |some ks=>(EG r).map ((ks,v)::·)
  |none=>Z_
@[simp] def O8:B->Option (List (List Ky×D))
 | .ot kvs=>Z kvs
 | .pl (.dict es)=>EG es
 | .hd es=>EG es
 |_=>Z_
@[simp] def GW(k:EF)(a:BF):EF:=λr=>match k r with
 |some x=>match a r with
  |some b=>match O8 b with
   |some kvs=>(Bv x).map λy=>.bool (Zg kvs y).isSome
   |none=>Z_
  |none=>Z_
 |none=>Z_
@[simp] def KG(k:EF)(a:BF):EF:=λr=>match k r with
 |some x=>match a r with
  |some b=>match O8 b with
   |some kvs=>(Bv x).map λy=>.bool (!(Zg kvs y).isSome)
   |none=>Z_
  |none=>Z_
 |none=>Z_
@[simp] def Bp(a:BF)(k:EF):EF:=λr=>match a r with
 |some b=>match O8 b with
  |some kvs=>match k r with
   |some x=>match Bv x with
    |some y=>Zg kvs y
    |none=>Z_
   |none=>Z_
  |none=>Z_
 |none=>Z_
@[simp] def Px:D->Bool
 | .none=>Aa
 | .bool _=>Aa
 | .int _=>Aa
 | .str _=>Aa
 |_=>Ab
@[simp] def Ur(f:BF):EF:=λr=>(f r).bind frz
theorem eG(ks:List Ky):yO (.tuple (ks.map BL))=Z ks:=by
 show Mn (ks.map BL)=Z ks
 induction ks with
 |nil=>rfl
 |cons k ks ih=>show(match Ir (BL k)with|some q=>(Mn (ks.map BL)).map (q::·)|none=>Z_)=_;rw[ih];cases k<;>rfl
theorem qe(kvs:List (List Ky×D)):EG (Zi kvs)=Z kvs:=by
 induction kvs with
 |nil=>rfl
 |cons p kvs ih=>obtain⟨k,d⟩:=p;show(match yO (.tuple (k.map BL))with|some ks=>(EG (Zi kvs)).map ((ks,d)::·)|none=>Z_)=_;rw[eG,ih];rfl
@[simp] def Pw(a:BF):EF:=λr=>match a r with
 |some x=>match Ij x with
  |some ds=>match BM ds with
   |some ns=>ns.max?.map λi=>Bq i
   |none=>Z_
  |none=>Z_
 |none=>Z_
@[simp] def WX(i:Nat)(f:BF):SF:=λr=>match r[i]? with
 |some (Z (.ol ds))=>match f r with
  |some (.ol es)=>if ds.length+es.length<big then Z (.nx (r.set i (Z (.ol (ds++es)))))else Z_
  |_=>Z_
 |_=>Z_
@[simp] def eV(i j:Nat):SF:=λr=>match r[j]? with
 |some (Z (.ol ds))=>match ds[ds.length-1]? with
  |some d=>Z (.nx ((r.set j (Z (.ol ds.dropLast))).set i (Z (.pl d))))
  |none=>Z_
 |_=>Z_
@[simp] def P7(m:List D->Option D)(a:AF):BF:=λr=>match a r with
 |some ds=>match m ds with
  |some (.list ys)=>Z (.ol ys)
  |_=>Z_
 |none=>Z_
def Bj:Option B->Bool
 |some (.hd _)=>Aa
 |_=>Ab
@[simp] def FW(i:Nat)(g:SF):SF:=λr=>match r[i]? with
 | some (Z (.pl (.dict es)))=>if r.all (λq=>!Bj q)then match g (r.set i (Z (.hd es)))with
   |some (.nx r')=>match r'[i]? with
    |some (Z (.hd es'))=>if(r'.set i Z_).all (λq=>!Bj q)then Z (.nx (r'.set i (Z (.pl (.dict es')))))else Z_
    |_=>Z_
   |some (.rt d)=>Z (.rt d)
   |_=>Z_
  else Z_
 |_=>g r
@[simp] def BH(i:Nat):IF:=λr=>match r[i]? with
 |some (Z (.pl (.tuple ds)))=>Z ds
 |some (Z (.pl (.list ds)))=>Z ds
 |some (Z (.hd es))=>(EG es).map λkvs=>kvs.map λp=>.tuple (p.1.map BL)
 |_=>Z_
abbrev AP:=Nat->List D->List D->Option D
noncomputable def LU:D->Option (Nat×List D)
 | .dict [(.none,.int (Int.ofNat t)),(.none,.list cs)]=>Z (t,cs)
 |_=>Z_
@[simp] def Kp(ap:AP)(i:Nat)(a:AF):EF:=λr=>match r[i]? with
 |some (Z (.pl d))=>match LU d with
  |some (t,cs)=>match a r with
   |some ds=>ap t cs ds
   |none=>Z_
  |none=>Z_
 |_=>Z_
noncomputable def rL:Nat->D->Bool
 |_,.none=>Aa
 |_,.bool _=>Aa
 |_,.int _=>Aa
 |_,.str _=>Aa
 |n+1,.tuple ds=>ds.all (rL n)
 |n+1,.list ds=>ds.all (rL n)
 |n+1,.dict es=>es.all λp=>(match p.1 with | .none=>Ab|_=>Aa)&&rL n p.2
 |_,_=>Ab
def WM:List Nat->Env->Option (List D)
 |[],_=>Z []
 |i::is,r=>match r[i]? with
  |some (Z (.pl d))=>(WM is r).map (d::·)
  |_=>Z_
@[simp] def Xw(m:List D->Option D)(t:Nat)(is:List Nat)(a:EF):EF:=λr=>match a r with
 |some d1=>match WM is r with
  | some cs=>if cs.all (rL 20)then match m [d1,pY t cs]with
    |some d=>if rL 20 d then Z d else Z_
    |none=>Z_
   else Z_
  |none=>Z_
 |none=>Z_
def Pt(n m:Nat)(e:EF):List D->List D->Option D:=λcs ds=>if ds.length=n/\cs.length=m/\ds.all (rL 20)=Aa then e ((ds++cs).map λd=>Z (B.pl d))else Z_
@[simp] def Eb(a:BF):EF:=λr=>match a r with
 |some x=>match Ij x with
  |some ds=>match BM ds with
   |some ns=>Z (match ns.min? with|some i=>.int i|none=>.none)
   |none=>Z_
  |none=>Z_
 |none=>Z_
abbrev NF:=Env->Option (List (List Ky×D))
@[simp] def JX(a:SF)(m:NF):NF:=λr=>match a r with
 |some (.nx r')=>m r'
 |_=>Z_
@[simp] def JY(j:Nat):NF:=λr=>match r[j]? with
 |some (Z (.ot kvs))=>Z kvs
 |_=>Z_
def vQ(k n:Nat)(m:NF):List D->Option (List (List Ky×D)):=λds=>if ds.length=k then m (X3 n ds)else Z_
@[simp] def P5(m:List D->Option (List (List Ky×D)))(a:AF):BF:=λr=>match a r with
 |some ds=>match m ds with
  |some kvs=>if kvs.all (λp=>Px p.2)then Z (.ot kvs)else Z_
  |none=>Z_
 |none=>Z_
@[simp] def JS(i:Nat)(t:TF):TF:=λr=>t (QA i r)
def BB:List (List Int)->List (List Int)->List (List Int)
 |acc,[]=>acc
 |acc,x::l=>if acc.contains x then BB acc l else BB (acc++[x]) l
@[simp] def X4(a:BF):BF:=λr=>match a r with
 |some x=>match Ij x with
  |some ds=>match Iu ds with
   |some ts=>if decide ((BB [] ts).length<64)&&ts.all (λt=>!t.isEmpty)then Z (.ol (M9 (BI (BB [] ts))))else Z_
   |none=>Z_
  |none=>Z_
 |none=>Z_
end HM
namespace HP
open PySem PySem.Spec PyProof.Rows L2
variable{a b l p:Addr}{o ob u:HO}{F F' H H' H1:Hp}{vvs:List (List pU×V)}{fp':List Addr}
@[reducible] def C5(H':Hp)(b:Addr):HO->Prop
 | .tbl _=>∃ps',H' b=Z (.tbl ps')
 |o=>H' b=Z o
def AZ(H H':Hp):Prop:=∀b o,H b=Z o->C5 H' b o
theorem C5.of(h:H' b=Z o):C5 H' b o:=by cases o<;>first|exact h|exact⟨_,h⟩
theorem C5.ex(h:C5 H' b o):∃u,H' b=Z u:=by cases o<;>first|exact⟨_,h⟩|(obtain⟨ps,e⟩:=h;exact⟨_,e⟩)
theorem C5.no(h:C5 H' b o)(n:∀ps,o≠.tbl ps):H' b=Z o:=by cases o<;>first|exact h|exact absurd rfl (n _)
theorem AZ.of{H H':Hp}(s:Zp H H'):AZ H H':=λb o h=>.of (s b o h)
theorem AZ.refl(H:Hp):AZ H H:=.of (.refl H)
theorem AZ.trans{H2:Hp}(a:AZ H H1)(b:AZ H1 H2):AZ H H2:=λc o h=>by have h1:=a c o h;cases o<;>first|exact b c _ h1|(obtain⟨ps,e⟩:=h1;exact(show ∃ps',H2 c=Z (.tbl ps') from b c _ e))
theorem AZ.free(e:AZ H H')(h:H' l=Z_):H l=Z_:=by
 cases q:H l with
 |none=>rfl
 |some o=>obtain⟨u,z⟩:=(e l o q).ex;rw[h]at z;cases z
theorem AZ.back(e:AZ H H')(h:H l=Z o)(h':H' l=Z u)(n:∀ps,u≠.tbl ps):o=u:=by have z:=e l o h;cases o<;>first|(obtain⟨ps,q⟩:=z;rw[h']at q;cases q;exact absurd rfl (n _))|(have z:H' l=Z _:=z;rw[h']at z;cases z;rfl)
def CO(H:Hp):Hp:=λb=>match H b with
 |some (.tbl _)=>Z_
 |x=>x
def nt:HO->Bool
 | .tbl _=>Ab
 |_=>Aa
def rP(F:Hp):Prop:=∀b o,F b=Z o->nt o=Aa
theorem EL(h:H b=Z o)(n:nt o=Aa):CO H b=Z o:=by unfold CO;rw[h];cases o<;>first|rfl|cases n
theorem Mp(h:CO H b=Z o):H b=Z o/\nt o=Aa:=by
 unfold CO at h;split at h
 .cases h
 .rename_i n
  refine⟨h,?_⟩;cases o<;>first|rfl|exact absurd h (n _)
theorem V4:Zp (CO H) H:=λb o h=>(Mp h).1
theorem rP.drop{H:Hp}:rP (CO H):=λb o h=>(Mp h).2
theorem rP.sub(n:rP F)(s:Zp F H):Zp F (CO H):=λb o h=>EL (s b o h) (n b o h)
theorem rP.upd{F:Hp}{p:Addr}{o:HO}(n:rP F)(h:nt o=Aa):rP (upd F p o):=λb u z=>by
 by_cases hb:b=p
 .subst hb;rw[ZD]at z;cases z;exact h
 .rw[ZA hb]at z;exact n b u z
theorem AZ.ntb(s:AZ H H')(h:H b=Z o)(n:nt o=Aa):H' b=Z o:=(s b o h).no λps z=>by subst z;cases n
def Dk(vvs:List (List pU×V))(u:HO):Prop:=u=.dT vvs\/∃o,u=.frz o (.dT vvs)
def sw(a:Addr)(ob:HO)(G:Hp):Hp:=λb=>if b=a then(G a).map (λ_=>ob)else G b
class FX where
 tl:List (Addr×Str)
 fv:Nat->List PyData->Hp->Addr->Prop
 sw:∀{t:Nat} {cs:List PyData} {F:Hp} {a b:Addr} {ob:HO} {vvs:List (List pU×V)},(∀u,F a=Z u->Dk vvs u)->Dk vvs ob->fv t cs F b->fv t cs (sw a ob F) b
 drop:∀{t:Nat} {cs:List PyData} {F:Hp} {a:Addr},fv t cs F a->fv t cs (CO F) a
 mono:∀{t:Nat} {cs:List PyData} {F F':Hp} {a:Addr},fv t cs F a->Zp F F'->fv t cs F' a
variable[FX]
def A5(a:Addr)(o:Obj):HO:=.ext λh=>h.get? a=Z o
def Pz(o:Obj)(q:Str):Prop:=∃vs t,o.data=.fields vs/\vs[1]?=Z (.str q t)
def Tb(H:Hp):Prop:=∀P q,(P,q)∈FX.tl->∃ps,H P=Z (.tbl ps)/\TriplesOk ps.toList/\∀pos c,Jq pos ps.toList=Z c->∃a o,c=.ref a/\H a=Z (A5 a o)/\Pz o q
def Ie:HO->Bool
 | .lst _=>Aa
 | .dK _=>Aa
 | .dT _=>Aa
 |_=>Ab
def te:HO->Bool
 | .tbl _=>Aa
 | .ext _=>Aa
 |_=>Ab
theorem Tn(h:Ie o=Aa)(h':te o=Aa):False:=by cases o<;>simp_all [Ie,te]
theorem Tb.keep(t:Tb H)(k:∀a o,H a=Z o->te o=Aa->H' a=Z o):Tb H':=λP q hP=>by obtain⟨ps,h1,h2,h3⟩:=t P q hP;refine⟨ps,k _ _ h1 rfl,h2,λpos c hc=>?_⟩;obtain⟨a,o,e1,e2,e3⟩:=h3 pos c hc;exact⟨a,o,e1,k _ _ e2 rfl,e3⟩
theorem Dk.te{vvs:List (List pU×V)}{u:HO}(h:Dk vvs u):te u=Ab:=by rcases h with h|⟨o,h⟩<;>subst h<;>rfl
theorem Dk.ntt(h:Dk vvs u):nt u=Aa:=by rcases h with h|⟨o,h⟩<;>subst h<;>rfl
theorem Tb.sw{G:Hp}{a:Addr}{ob:HO}{vvs:List (List pU×V)}(hG:∀u,G a=Z u->Dk vvs u)(t:Tb G):Tb (HP.sw a ob G):=t.keep λb o z ht=>by
 have hb:b≠a:=λe=>by subst e;rw[(hG o z).te]at ht;cases ht
 unfold HP.sw;rw[if_neg hb];exact z
theorem Tb.unsw{G:Hp}(rn:Dk vvs ob)(t:Tb (HP.sw a ob G)):Tb G:=t.keep λb o z ht=>by
 unfold HP.sw at z;split at z
 .obtain⟨u,_,e⟩:=Al.mp z
  subst e;rw[rn.te]at ht;cases ht
 .exact z
theorem C5.cong(e:H' b=H b)(h:C5 H b o):C5 H' b o:=by unfold C5 at h ⊢;rw[e];exact h
theorem AZ.sw{H0 H:Hp}{a:Addr}{ob:HO}(s:AZ H0 H):AZ (HP.sw a ob H0) (HP.sw a ob H):=λb o z=>by
 by_cases hb:b=a
 .subst hb
  unfold HP.sw at z;rw[if_pos rfl]at z;obtain⟨u,h1,h2⟩:=Al.mp z;obtain⟨w,hw⟩:=(s _ _ h1).ex;refine .of ?_;unfold HP.sw;rw[if_pos rfl,hw,h2.symm];rfl
 .unfold HP.sw at z
  rw[if_neg hb]at z;refine(s b o z).cong ?_;unfold HP.sw;rw[if_neg hb]
theorem Tb.same(t:Tb H)(s:Zp H H'):Tb H':=t.keep λa o h _=>s a o h
theorem L0(r:Rd F a u)(s:Zp F F'):Rd F' a u:=r.imp (λh=>s _ _ h) λ⟨o,h⟩=>⟨o,s _ _ h⟩
def aE(K:Ae)(a:Addr)(vs:List V):Prop:=∃(o:Obj) (pO:Array Value) (n:Nat),K.lookup a=Z o/\o.cls=.type "tuple"/\o.data=.seq pO n/\pO.size<=sizeLine/\pQ vs pO.toList
theorem gV{K:Ae}{vs:List V}(h:rM K F a vs)(s:Zp F F'):rM K F' a vs:=h.imp (λh=>L0 h s) id
inductive Rep(K:Ae)(F:Hp):PyData->V->Prop where
 |non:Rep K F .none .non
 |bl (b:Bool):Rep K F (.bool b) (.bl b)
 |int (i:Int):Rep K F (.int i) (.int i)
 |str (x:Str):Rep K F (.str x) (.str x)
 |tupk {a:Addr} {x:Str} (h:aE K a [.str x]):Rep K F (.tuple [.str x]) (.ref a)
 |tup {a:Addr} {ds:List PyData} {vs:List V} (h:F a=Z (.tup vs)) (hl:ds.length=vs.length) (hr:∀(i:Nat) (d:PyData) (v:V),ds[i]?=Z d->vs[i]?=Z v->Rep K F d v):Rep K F (.tuple ds) (.ref a)
 |lst {a:Addr} {ds:List PyData} {vs:List V} (h:qD K F a vs) (hl:ds.length=vs.length) (hr:∀(i:Nat) (d:PyData) (v:V),ds[i]?=Z d->vs[i]?=Z v->Rep K F d v):Rep K F (.list ds) (.ref a)
 |dct {a:Addr} {es:List (PyData×PyData)} {kvs:List (List pU×PyData)} {vvs:List (List pU×V)} (h:Rd F a (.dT vvs)) (he:es=HM.Zi kvs) (hk:kvs.map (·.1)=vvs.map (·.1)) (hr:∀(i:Nat) (d:PyData) (v:V),(kvs.map (·.2))[i]?=Z d->(vvs.map (·.2))[i]?=Z v->Rep K F d v):Rep K F (.dict es) (.ref a)
 |fn {a:Addr} {t:Nat} {cs:List PyData} (h:FX.fv t cs F a):Rep K F (.dict [(.none,.int (Int.ofNat t)),(.none,.list cs)]) (.ref a)
def Zq(K:Ae)(F:Hp)(ds:List PyData)(vs:List V):Prop:=ds.length=vs.length/\∀(i:Nat) (d:PyData) (v:V),ds[i]?=Z d->vs[i]?=Z v->Rep K F d v
section
variable{K:Ae}{F F':Hp}{d:PyData}{v:V}{ds es:List PyData}{vs us:List V}
theorem Rep.mono(r:Rep K F d v)(s:Zp F F'):Rep K F' d v:=by
 induction r with
 |non=>exact .non
 |bl b=>exact .bl b
 |int i=>exact .int i
 |str x=>exact .str x
 |tup h hl _ ih=>exact .tup (s _ _ h) hl ih
 |tupk h=>exact .tupk h
 |lst h hl _ ih=>exact .lst (s.seq h) hl ih
 |dct h he hk _ ih=>exact .dct (L0 h s) he hk ih
 |fn h=>exact .fn (FX.mono h s)
theorem Rep.drop(r:Rep K F d v):Rep K (CO F) d v:=by
 induction r with
 |non=>exact .non
 |bl b=>exact .bl b
 |int i=>exact .int i
 |str x=>exact .str x
 |tup h hl _ ih=>exact .tup (EL h rfl) hl ih
 |tupk h=>exact .tupk h
 |lst h hl _ ih =>
  refine .lst ?_ hl ih;rcases h with(h|⟨o,h⟩)|h
  .exact .inl (.inl (EL h rfl))
  .exact .inl (.inr ⟨o,EL h rfl⟩)
  .exact .inr h
 |dct h he hk _ ih =>
  refine .dct ?_ he hk ih;rcases h with h|⟨o,h⟩
  .exact .inl (EL h rfl)
  .exact .inr ⟨o,EL h rfl⟩
 |fn h=>exact .fn (FX.drop h)
theorem Zq.drop'(r:Zq K F ds vs):Zq K (CO F) ds vs:=⟨r.1,λi d v h1 h2=>(r.2 i d v h1 h2).drop⟩
theorem AZ.dr(s:AZ H H'):Zp (CO H) H':=λb o h=>s.ntb (Mp h).1 (Mp h).2
theorem Rep.monoT(r:Rep K H d v)(s:AZ H H'):Rep K H' d v:=r.drop.mono s.dr
theorem Zq.mono(r:Zq K F ds vs)(s:Zp F F'):Zq K F' ds vs:=⟨r.1,λi d v h1 h2=>(r.2 i d v h1 h2).mono s⟩
theorem Zq.nil:Zq K F [] []:=⟨rfl,λi d v h=>by simp at h⟩
theorem Zq.cons(r:Rep K F d v)(q:Zq K F ds vs):Zq K F (d::ds) (v::vs) :=
 ⟨by rw[Ay,Ay,q.1],λi e u h1 h2=>by
  cases i with
  |zero=>rw[Oa]at h1 h2;cases h1;cases h2;exact r
  |succ i=>rw[DH]at h1 h2;exact q.2 i e u h1 h2⟩
theorem Zq.nil_inv(r:Zq K F [] vs):vs=[]:=So r.1.symm
theorem Zq.cons_inv(r:Zq K F (d::ds) vs):∃v us,vs=v::us/\Rep K F d v/\Zq K F ds us:=by
 cases vs with
 |nil=>exact absurd r.1 (by simp)
 |cons v us =>
  refine⟨v,us,rfl,r.2 0 d v rfl rfl,?_,λi e u h1 h2=>r.2 (i+1) e u ?_ ?_⟩
  .have:=r.1
   rw[Ay,Ay]at this;omega
  .rw[DH];exact h1
  .rw[DH];exact h2
theorem Zq.append(r:Zq K F ds vs)(q:Zq K F es us):Zq K F (ds++es) (vs++us):=by
 refine⟨by rw[AB,AB,r.1,q.1],λi e u h1 h2=>?_⟩
 by_cases hi:i<ds.length
 .rw[Eo hi]at h1
  rw[Eo (by rw[<-r.1];exact hi)]at h2;exact r.2 i e u h1 h2
 .rw[D4 (by omega)]at h1
  rw[D4 (by have:=r.1;omega),<-r.1]at h2;exact q.2 _ e u h1 h2
theorem Zq.get(r:Zq K F ds vs){i:Nat}(h:ds[i]?=Z d):∃v,vs[i]?=Z v/\Rep K F d v:=by
 have hi:i<vs.length:=by rw[<-r.1];exact(A1.mp h).1
 exact⟨vs[i],AN hi,r.2 i d _ h (AN hi)⟩
theorem Zq.drop(r:Zq K F ds vs)(n:Nat):Zq K F (ds.drop n) (vs.drop n) :=
 ⟨by rw[HW,HW,r.1],λi e u h1 h2=>by rw[List.getElem?_drop]at h1 h2;exact r.2 _ e u h1 h2⟩
theorem Zq.take(r:Zq K F ds vs)(n:Nat):Zq K F (ds.take n) (vs.take n) :=
 ⟨by rw[DG,DG,r.1],λi e u h1 h2=>by
  by_cases hi:i<n
  .rw[Yg hi]at h1 h2
   exact r.2 _ e u h1 h2
  .rw[List.getElem?_take_eq_none (by omega)]at h1
   cases h1⟩
theorem Zq.set(r:Zq K F ds vs)(q:Rep K F d v)(j:Nat):Zq K F (ds.set j d) (vs.set j v):=by
 refine⟨by rw[DZ,DZ,r.1],λi e u h1 h2=>?_⟩;have hi:i<ds.length:=by have:=(A1.mp h1).1;rwa [DZ]at this
 by_cases e1:j=i
 .subst e1
  rw[En hi]at h1;rw[En (by rw[<-r.1];exact hi)]at h2;cases h1;cases h2;exact q
 .rw[Cg e1]at h1 h2
  exact r.2 i e u h1 h2
theorem Zq.rep(r:Zq K F ds vs)(k:Nat):Zq K F (Bs k ds).flatten (Bs k vs).flatten:=by
 induction k with
 |zero=>exact Zq.nil
 |succ k ih=>rw[HJ,HJ,JI,JI];exact r.append ih
theorem Zq.one(r:Rep K F d v):Zq K F [d] [v]:=.cons r .nil
end
def vP(H:Hp)(a:Addr)(o:HO):Prop:=H a=Z_\/∃xs,o=.tup xs/\H a=Z (.tup xs)
theorem vP.back{H H':Hp}{a:Addr}{o:HO}(s:AZ H H')(f:vP H' a o):vP H a o:=by
 rcases f with f|⟨xs,e,f⟩
 .exact .inl (s.free f)
 .cases q:H a with
  |none=>exact .inl q
  |some u =>
   have:=s.back q f λ_ z=>by cases z
   subst this;exact .inr ⟨xs,e,q⟩
theorem vP.no(f:vP H a o)(h:H a=Z u)(n:∀xs,u≠.tup xs):False:=by
 rcases f with f|⟨xs,_,f⟩
 .rw[h]at f;cases f
 .rw[h]at f;cases f;exact n xs rfl
structure pZ(F H F' H':Hp):Prop where
 ff:Zp F F'
 hh:AZ H H'
 sub:Zp F' H'
 new:∀a o,F' a=Z o->F a=Z o\/vP H a o
 tab:Tb H->Tb H'
 nts:rP F->rP F'
theorem pZ.refl{F H:Hp}(s:Zp F H):pZ F H F H:=⟨Zp.refl F,AZ.refl H,s,λ_ _ h=>.inl h,id,id⟩
theorem pZ.trans{F H F1 H1 F2 H2:Hp}(a:pZ F H F1 H1)(b:pZ F1 H1 F2 H2):pZ F H F2 H2 :=
 ⟨a.ff.trans b.ff,a.hh.trans b.hh,b.sub,λx o h=>by
  rcases b.new x o h with q|q
  .exact a.new x o q
  .exact .inr (q.back a.hh),λt=>b.tab (a.tab t),λt=>b.nts (a.nts t)⟩
theorem GO(h:F p=Z_):Zp F (upd F p o):=λb q z=>by rw[ZA (CW z h)];exact z
theorem pZ.lay(e:pZ F H F' H')(h:H' p=Z_)(no:nt o=Aa:=by rfl):pZ F H (upd F' p o) (upd H' p o):=by
 have hF:F' p=Z_:=e.sub.free h;refine⟨λb q z=>?_,e.hh.trans (.of (GO h)),λb q z=>?_,λb q z=>?_,λt=>(e.tab t).same (GO h),λt=>(e.nts t).upd no⟩
 .rw[ZA (CW (e.ff b q z) hF)];exact e.ff b q z
 .by_cases hb:b=p
  .subst hb;rw[ZD]at z ⊢;exact z
  .rw[ZA hb]at z ⊢;exact e.sub b q z
 .by_cases hb:b=p
  .subst hb;exact .inr (.inl (e.hh.free h))
  .rw[ZA hb]at z;exact e.new b q z
theorem pZ.lay'(e:pZ F H F' H')(h:H' p=Z_):pZ F H F' (upd H' p o):=by refine⟨e.ff,e.hh.trans (.of (GO h)),λb q z=>?_,e.new,λt=>(e.tab t).same (GO h),e.nts⟩;rw[ZA (CW (e.sub b q z) h)];exact e.sub b q z
theorem Zp.upd'(h:F p=Z_):Zp F (upd F p o):=λb q z=>by rw[ZA (CW z h)];exact z
def BU(F H:Hp):Hp:=λa=>match H a with
 |some (.tup xs)=>Z (.tup xs)
 |_=>F a
theorem Vd{xs:List V}(h:H a=Z (.tup xs)):BU F H a=Z (.tup xs):=by unfold BU;rw[h]
theorem Fd(s:Zp F H):Zp F (BU F H):=λa o h=>by
 have:=s a o h;unfold BU;split
 .rename_i xs q
  rw[q]at this;exact this
 .exact h
theorem pZ.tups(e:pZ F H F' H'):pZ F H (BU F' H') H':=by
 have key:pZ F' H' (BU F' H') H':=by
  refine⟨Fd e.sub,AZ.refl H',λa o h=>?_,λa o h=>?_,id,λn a o h=>?_⟩
  .unfold BU at h
   split at h
   .rename_i xs q;rw[q];exact h
   .exact e.sub a o h
  .unfold BU at h
   split at h
   .rename_i xs q
    cases h;exact .inr (.inr ⟨xs,rfl,q⟩)
   .exact .inl h
  .unfold BU at h
   split at h
   .cases h;rfl
   .exact n a o h
 exact e.trans key
inductive ZZ(K:Ae)(F H:Hp):HM.B->V->List Addr->Prop where
 |pl {d:PyData} {v:V} (r:Rep K F d v):ZZ K F H (.pl d) v []
 |ol {a:Addr} {ds:List PyData} {vs:List V} (h:H a=Z (.lst vs)) (r:Zq K F ds vs):ZZ K F H (.ol ds) (.ref a) [a]
 |ok {a:Addr} {kvs:List (pU×PyData)} {vvs:List (pU×V)} (h:H a=Z (.dK vvs)) (hk:kvs.map (·.1)=vvs.map (·.1)) (r:Zq K F (kvs.map (·.2)) (vvs.map (·.2))):ZZ K F H (.ok kvs) (.ref a) [a]
 |ot {a:Addr} {kvs:List (List pU×PyData)} {vvs:List (List pU×V)} (h:H a=Z (.dT vvs)) (hk:kvs.map (·.1)=vvs.map (·.1)) (r:Zq K F (kvs.map (·.2)) (vvs.map (·.2))):ZZ K F H (.ot kvs) (.ref a) [a]
 | otl {a:Addr} {kvs:List (List pU×List PyData)} {vvs:List (List pU×V)} {ls:List Addr} (h:H a=Z (.dT vvs)) (hk:kvs.map (·.1)=vvs.map (·.1)) (hv:vvs.map (·.2)=ls.map V.ref)
   (r:∀(i:Nat) (ds:List PyData) (l:Addr),(kvs.map (·.2))[i]?=Z ds->ls[i]?=Z l->∃vs,H l=Z (.lst vs)/\Zq K F ds vs):ZZ K F H (.otl kvs) (.ref a) (a::ls)
 |hd {a:Addr} {o:Obj} {es:List (PyData×PyData)} {kvs:List (List pU×PyData)} {vvs:List (List pU×V)} (h:F a=Z (.frz o (.dT vvs))) (he:es=HM.Zi kvs) (hk:kvs.map (·.1)=vvs.map (·.1)) (r:Zq K F (kvs.map (·.2)) (vvs.map (·.2))):ZZ K F H (.hd es) (.ref a) []
 |hf {a:Addr} {t:Nat} {cs:List PyData} (h:FX.fv t cs F a):ZZ K F H (.hd [(.none,.int (Int.ofNat t)),(.none,.list cs)]) (.ref a) []
section
variable{K:Ae}{F F' H H':Hp}{b:HM.B}{v:V}{fp:List Addr}
theorem ZZ.mono(r:ZZ K F H b v fp)(s:Zp F F')(k:∀a∈fp,∀o,H a=Z o->C5 H' a o):ZZ K F' H' b v fp:=by
 cases r with
 |pl r=>exact .pl (r.mono s)
 |ol h r=>exact .ol (k _ (by simp) _ h) (r.mono s)
 |ok h hk r=>exact .ok (k _ (by simp) _ h) hk (r.mono s)
 |ot h hk r=>exact .ot (k _ (by simp) _ h) hk (r.mono s)
 |hd h he hk r=>exact .hd (s _ _ h) he hk (r.mono s)
 |hf h=>exact .hf (FX.mono h s)
 |otl h hk hv r=>refine .otl (k _ (by simp) _ h) hk hv λi ds l h1 h2=>?_;obtain⟨vs,q1,q2⟩:=r i ds l h1 h2;exact⟨vs,k l (Ao _ (Bf h2)) _ q1,q2.mono s⟩
theorem ZZ.there2(r:ZZ K F H b v fp)(h:a∈fp):∃o,H a=Z o/\Ie o=Aa:=by
 cases r with
 |pl r=>simp at h
 |hd _ _ _ _=>simp at h
 |hf _=>simp at h
 |ol q r=>simp at h;subst h;exact⟨_,q,rfl⟩
 |ok q hk r=>simp at h;subst h;exact⟨_,q,rfl⟩
 |ot q hk r=>simp at h;subst h;exact⟨_,q,rfl⟩
 | @otl a' kvs vvs ls q hk hv r =>
  rcases Ax.mp h with e|e
  .subst e;exact⟨_,q,rfl⟩
  .obtain⟨i,hi⟩:=List.getElem?_of_mem e
   have hl:kvs.length=ls.length:=by have e1:=congrArg Bx hk;have e2:=congrArg Bx hv;rw[Af,Af]at e1 e2;omega
   have hi':i<kvs.length:=by rw[hl];exact(A1.mp hi).1
   obtain⟨vs,q1,_⟩:=r i (kvs[i].2) a (by simp[hi']) hi;exact⟨_,q1,rfl⟩
theorem ZZ.there'(r:ZZ K F H b v fp)(h:a∈fp):∃o,H a=Z o/\∀xs,o≠.tup xs:=by
 cases r with
 |pl r=>simp at h
 |hd _ _ _ _=>simp at h
 |hf _=>simp at h
 |ol q r=>simp at h;subst h;exact⟨_,q,λ_ z=>by cases z⟩
 |ok q hk r=>simp at h;subst h;exact⟨_,q,λ_ z=>by cases z⟩
 |ot q hk r=>simp at h;subst h;exact⟨_,q,λ_ z=>by cases z⟩
 | @otl a' kvs vvs ls q hk hv r =>
  rcases Ax.mp h with e|e
  .subst e;exact⟨_,q,λ_ z=>by cases z⟩
  .obtain⟨i,hi⟩:=List.getElem?_of_mem e
   have hl:kvs.length=ls.length:=by have e1:=congrArg Bx hk;have e2:=congrArg Bx hv;rw[Af,Af]at e1 e2;omega
   have hi':i<kvs.length:=by rw[hl];exact(A1.mp hi).1
   obtain⟨vs,q1,_⟩:=r i (kvs[i].2) a (by simp[hi']) hi;exact⟨_,q1,λ_ z=>by cases z⟩
theorem ZZ.there(r:ZZ K F H b v fp)(h:a∈fp):∃o,H a=Z o:=let ⟨o,q,_⟩:=r.there' h;⟨o,q⟩
end
structure A4(K:Ae)(F0 H0 F H:Hp)(r:HM.Env)(J:L2.St)(fp:Nat->List Addr):Prop where
 ext:pZ F0 H0 F H
 len:r.length=J.length
 at_:∀(i:Nat) (b:HM.B),r[i]?=Z (Z b)->∃v,J[i]?=Z (Z v)/\ZZ K F H b v (fp i)
 emp:∀(i:Nat),(∀b,r[i]?≠Z (Z b))->fp i=[]
 own:∀(i:Nat) (a:Addr),a∈fp i->F a=Z_/\H0 a=Z_
 nd:∀i,(fp i).Nodup
 dis:∀(i j:Nat) (a:Addr),i≠j->a∈fp i->¬a∈fp j
 tb:Tb H0
 nt:rP F0
def At(K:Ae)(F0 H0 F H:Hp)(r:HM.Env)(J:L2.St):Prop:=∃fp,A4 K F0 H0 F H r J fp
section
variable{K:Ae}{F0 H0 F H F' H':Hp}{r:HM.Env}{J:L2.St}{fp:Nat->List Addr}{i:Nat}{b:HM.B}{v:V}{d:PyData}
theorem A4.bound(e:A4 K F0 H0 F H r J fp)(h:a∈fp i):∃b,r[i]?=Z (Z b):=by
 cases q:r[i]? with
 |none=>rw[e.emp i (λb z=>by rw[q]at z;cases z)]at h;simp at h
 |some x =>
  cases x with
  |none=>rw[e.emp i (λb z=>by rw[q]at z;cases z)]at h;simp at h
  |some b=>exact⟨b,rfl⟩
theorem A4.there'(e:A4 K F0 H0 F H r J fp){a:Addr}(h:a∈fp i):∃o,H a=Z o/\∀xs,o≠.tup xs:=by obtain⟨b,hb⟩:=e.bound h;obtain⟨v,_,q⟩:=e.at_ i b hb;exact q.there' h
theorem A4.there2(e:A4 K F0 H0 F H r J fp){a:Addr}(h:a∈fp i):∃o,H a=Z o/\Ie o=Aa:=by obtain⟨b,hb⟩:=e.bound h;obtain⟨v,_,q⟩:=e.at_ i b hb;exact q.there2 h
theorem A4.there(e:A4 K F0 H0 F H r J fp)(h:a∈fp i):∃o,H a=Z o:=let ⟨o,q,_⟩:=e.there' h;⟨o,q⟩
theorem A4.sub(e:A4 K F0 H0 F H r J fp):Zp F H:=e.ext.sub
theorem A4.grow(e:A4 K F0 H0 F H r J fp)(x:pZ F H F' H'):A4 K F0 H0 F' H' r J fp:=by
 refine⟨e.ext.trans x,e.len,λi b h=>?_,e.emp,λi a h=>⟨?_,(e.own i a h).2⟩,e.nd,e.dis,e.tb,e.nt⟩
 .obtain⟨v,h1,h2⟩:=e.at_ i b h
  exact⟨v,h1,h2.mono x.ff λa _ o q=>x.hh a o q⟩
 .cases q:F' a with
  |none=>rfl
  |some o =>
   rcases x.new a o q with z|z
   .rw[(e.own i a h).1]at z;cases z
   .obtain⟨o',h',hn⟩:=e.there' h
    exact(z.no h' hn).elim
theorem At.grow(e:At K F0 H0 F H r J)(x:pZ F H F' H'):At K F0 H0 F' H' r J:=let ⟨fp,e⟩:=e;⟨fp,e.grow x⟩
theorem At.tb(e:At K F0 H0 F H r J):Tb H:=let ⟨_,e⟩:=e;e.ext.tab e.tb
theorem At.tbx(e:At K F0 H0 F H r J)(x:pZ F H F' H'):Tb H':=x.tab e.tb
theorem At.nt(e:At K F0 H0 F H r J):rP F:=let ⟨_,e⟩:=e;e.ext.nts e.nt
theorem At.ntx(e:At K F0 H0 F H r J)(x:pZ F H F' H'):rP F':=x.nts e.nt
theorem At.nt0(e:At K F0 H0 F H r J):rP F0:=let ⟨_,e⟩:=e;e.nt
theorem At.sub(e:At K F0 H0 F H r J):Zp F H:=let ⟨_,e⟩:=e;e.ext.sub
theorem At.ext(e:At K F0 H0 F H r J):pZ F0 H0 F H:=let ⟨_,e⟩:=e;e.ext
theorem At.refl(e:At K F0 H0 F H r J):pZ F H F H:=.refl e.sub
theorem At.plain(e:At K F0 H0 F H r J)(h:r[i]?=Z (Z (.pl d))):∃v,J[i]?=Z (Z v)/\Rep K F d v:=by
 obtain⟨fp,e⟩:=e;obtain⟨v,h1,h2⟩:=e.at_ i _ h;generalize fp i=f at h2;cases h2 with
 |pl q=>exact⟨v,h1,q⟩
theorem At.any(e:At K F0 H0 F H r J)(h:r[i]?=Z (Z b)):∃v fp,J[i]?=Z (Z v)/\ZZ K F H b v fp:=by obtain⟨fp,e⟩:=e;obtain⟨v,h1,h2⟩:=e.at_ i _ h;exact⟨v,_,h1,h2⟩
theorem At.store(e:At K F0 H0 F H r J)(q:ZZ K F H b v fp')(nd:fp'.Nodup)(h1:∀a∈fp',F a=Z_/\H0 a=Z_)(h2:∀fp,A4 K F0 H0 F H r J fp->∀j a,j≠i->a∈fp j->¬a∈fp'):At K F0 H0 F H (r.set i (Z b)) (J.set i (Z v)):=by
 obtain⟨fp,e⟩:=e;have h2:=h2 fp e
 by_cases hi:i<r.length
 .refine⟨λj=>if j=i then fp' else fp j,e.ext,by rw[DZ,DZ,e.len],λj c h=>?_,λj h=>?_,λj a h=>?_,λj=>?_,λj k a vE h=>?_,e.tb,e.nt⟩
  .by_cases hj:j=i
   .subst hj
    rw[En hi]at h;cases h;refine⟨v,En (by rw[<-e.len];exact hi),?_⟩;rw[if_pos rfl];exact q
   .rw[Cg (A7 hj)]at h
    obtain⟨u,q1,q2⟩:=e.at_ j c h;refine⟨u,by rw[Cg (A7 hj)];exact q1,?_⟩;rw[if_neg hj];exact q2
  .by_cases hj:j=i
   .subst hj
    exact absurd (En hi) (h b)
   .show(if j=i then fp' else fp j)=[]
    rw[if_neg hj];exact e.emp j λc z=>h c (by rw[Cg (A7 hj)];exact z)
  .by_cases hj:j=i
   .rw[if_pos hj]at h;exact h1 a h
   .rw[if_neg hj]at h;exact e.own j a h
  .show(if j=i then fp' else fp j).Nodup
   by_cases hj:j=i
   .rw[if_pos hj];exact nd
   .rw[if_neg hj];exact e.nd j
  .show ¬a∈(if k=i then fp' else fp k)
   by_cases hj:j=i
   .rw[if_pos hj]at h
    by_cases hk:k=i
    .exact absurd (hj.trans hk.symm) vE
    .rw[if_neg hk];exact λz=>h2 k a hk z h
   .rw[if_neg hj]at h
    by_cases hk:k=i
    .rw[if_pos hk];exact h2 j a hj h
    .rw[if_neg hk];exact e.dis j k a vE h
 .have e1:r.set i (Z b)=r:=Yf (by omega)
  have e2:J.set i (Z v)=J:=Yf (by have:=e.len;omega);rw[e1,e2];exact⟨fp,e⟩
theorem At.set(e:At K F0 H0 F H r J)(q:Rep K F d v):At K F0 H0 F H (r.set i (Z (.pl d))) (J.set i (Z v)) :=
 e.store (.pl q) Es (λa h=>by simp at h) λ_ _ _ _ _ _ h=>by simp at h
theorem A4.changeW(e:A4 K F0 H0 F H r J fp)(hv:J[i]?=Z (Z v))(q:ZZ K F H' b v fp')(nd:fp'.Nodup)(h1:∀a∈fp',a∈fp i\/(F a=Z_/\H0 a=Z_/\∀j,a∉fp j))(h2:∀a o,H a=Z o->¬a∈fp i->H' a=Z o):At K F0 H0 F H' (r.set i (Z b)) J:=by
 have sF:Zp F H':=λa o z=>h2 a o (e.sub a o z) λm=>by rw[(e.own i a m).1]at z;cases z
 have sH:AZ H0 H':=λa o z=>by
  have nm:¬a∈fp i:=λm=>by rw[(e.own i a m).2]at z;cases z
  have y:=e.ext.hh a o z;cases o<;>first|exact h2 a _ y nm|(obtain⟨ps,q⟩:=y;exact⟨ps,h2 a _ q nm⟩)
 have sT:Tb H0->Tb H':=λt=>(e.ext.tab t).keep λa o z ho=>h2 a o z λm=>by obtain⟨o',q1,q2⟩:=e.there2 m;rw[z]at q1;cases q1;exact Tn q2 ho
 have e':A4 K F0 H0 F H' (r.set i Z_) (J.set i Z_) (λj=>if j=i then[]else fp j):=by
  refine⟨⟨e.ext.ff,sH,sF,e.ext.new,sT,e.ext.nts⟩,by rw[DZ,DZ,e.len],λj c h=>?_,λj h=>?_,λj a h=>?_,λj=>?_,λj k a vE h=>?_,e.tb,e.nt⟩
  .by_cases hj:j=i
   .subst hj
    by_cases hi:j<r.length
    .rw[En hi]at h;cases h
    .rw[JC (by rw[DZ];omega)]at h;cases h
   .rw[Cg (A7 hj)]at h
    obtain⟨u,q1,q2⟩:=e.at_ j c h;refine⟨u,by rw[Cg (A7 hj)];exact q1,?_⟩;rw[if_neg hj];exact q2.mono (Zp.refl F) λa ha o z=>.of (h2 a o z (e.dis j i a hj ha))
  .show(if j=i then[]else fp j)=[]
   by_cases hj:j=i
   .rw[if_pos hj]
   .rw[if_neg hj]
    exact e.emp j λc z=>h c (by rw[Cg (A7 hj)];exact z)
  .by_cases hj:j=i
   .rw[if_pos hj]at h;simp at h
   .rw[if_neg hj]at h;exact e.own j a h
  .show(if j=i then[]else fp j).Nodup
   by_cases hj:j=i
   .rw[if_pos hj];exact Es
   .rw[if_neg hj];exact e.nd j
  .show ¬a∈(if k=i then[]else fp k)
   by_cases hj:j=i
   .rw[if_pos hj]at h;simp at h
   .rw[if_neg hj]at h
    by_cases hk:k=i
    .rw[if_pos hk];simp
    .rw[if_neg hk];exact e.dis j k a vE h
 have hF:∀a∈fp',F a=Z_/\H0 a=Z_:=λa ha=>by
  rcases h1 a ha with z|z
  .exact e.own i a z
  .exact⟨z.1,z.2.1⟩
 have e2:=At.store (i:=i) ⟨_,e'⟩ q nd hF λfq eq j a hj ha z=>by
  obtain⟨c,hc⟩:=eq.bound ha;rw[Cg (A7 hj)]at hc;obtain⟨u1,s1,r1⟩:=eq.at_ j c (by rw[Cg (A7 hj)];exact hc);obtain⟨u2,s2,r2⟩:=e.at_ j c hc;rw[Cg (A7 hj),s2]at s1;cases s1;have hm:a∈fp j:=by
   have r2':=r2.mono (H':=H') (Zp.refl F) λa ha o z=>.of (h2 a o z (e.dis j i a hj ha))
   clear r2
   generalize fq j=f1 at r1 ha;generalize fp j=f2 at r2' ⊢;cases r1 with
   |pl _=>simp at ha
   |hd _ _ _ _=>simp at ha
   |hf _=>simp at ha
   |ol _ _=>cases r2' with|ol _ _=>exact ha
   |ok _ _ _=>cases r2' with|ok _ _ _=>exact ha
   |ot _ _ _=>cases r2' with|ot _ _ _=>exact ha
   |otl a1 _ v1 _ =>
    cases r2' with
    |otl a2 _ v2 _ =>
     rw[a1]at a2;cases a2;rw[v1]at v2;have:∀{l l':List Addr},l.map V.ref=l'.map V.ref->l=l':=by
      intro l
      induction l with
      |nil=>intro l' h;cases l' with|nil=>rfl|cons _ _=>simp at h
      |cons x xs ih =>
       intro l' h;cases l' with
       |nil=>simp at h
       |cons y ys =>
        rw[Ak,Ak]at h;injection h with h1 h2
        injection h1 with h1
        rw[h1,ih h2]
     rw[<-this v2];exact ha
  rcases h1 a z with w|w
  .exact e.dis j i a hj hm w
  .exact w.2.2 j hm
 rw[Li,Li]at e2;have es:J.set i (Z v)=J:=by have hi:i<J.length:=(A1.mp hv).1;have hq:J[i]=Z v:=(A1.mp hv).2;rw[<-hq];exact NS hi
 rwa [es]at e2
theorem A4.change(e:A4 K F0 H0 F H r J fp)(hv:J[i]?=Z (Z v))(q:ZZ K F H' b v fp')(nd:fp'.Nodup)(h1:∀a∈fp',a∈fp i\/H a=Z_)(h2:∀a o,H a=Z o->¬a∈fp i->H' a=Z o):At K F0 H0 F H' (r.set i (Z b)) J :=
 e.changeW hv q nd (λa ha=>(h1 a ha).imp id λz=>⟨e.sub.free z,e.ext.hh.free z,λj hj=>by obtain⟨o,ho⟩:=e.there hj;rw[z]at ho;cases ho⟩) h2
theorem At.storeNew{Hb:Hp}(e:At K F0 H0 F H r J)(hb:At K F0 H0 F' Hb r J)(sb:AZ Hb H)(q:ZZ K F H b v fp')(nd:fp'.Nodup)(h1:∀a∈fp',F a=Z_/\Hb a=Z_):At K F0 H0 F H (r.set i (Z b)) (J.set i (Z v)):=by
 refine e.store q nd (λa h=>⟨(h1 a h).1,hb.ext.hh.free (h1 a h).2⟩) λfp e1 j a hj ha z=>?_;obtain⟨fq,eb⟩:=hb;obtain⟨c,hc⟩:=e1.bound ha;obtain⟨u1,s1,r1⟩:=e1.at_ j c hc;obtain⟨u2,s2,r2⟩:=eb.at_ j c hc;rw[s2]at s1;cases s1;have hn:=(h1 a z).2;have old:∀{x:Addr} {o o':HO},Hb x=Z o->H x=Z o'->(∀ps,o'≠.tbl ps)->o=o':=λ{x o o'} h1 h2 n=>sb.back h1 h2 n;generalize fp j=f1 at r1 ha;generalize fq j=f2 at r2;cases r1 with
 |pl _=>simp at ha
 |hd _ _ _ _=>simp at ha
 |hf _=>simp at ha
 |ol k _=>cases r2 with|ol k' _=>simp at ha;subst ha;rw[hn]at k';cases k'
 |ok k _ _=>cases r2 with|ok k' _ _=>simp at ha;subst ha;rw[hn]at k';cases k'
 |ot k _ _=>cases r2 with|ot k' _ _=>simp at ha;subst ha;rw[hn]at k';cases k'
 |otl k _ v1 _ =>
  cases r2 with
  |otl k' hk' v2 r2' =>
   have eo:=old k' k λ_ z=>by cases z
   injection eo with eo
   subst eo;have v2':=v2;rw[v1]at v2;rcases Ax.mp ha with z2|z2
   .subst z2;rw[hn]at k';cases k'
   .have:V.ref a∈Gp V.ref _:=Aj.mpr ⟨a,z2,rfl⟩
    rw[v2]at this;obtain⟨a',m1,m2⟩:=Aj.mp this;injection m2 with m2
    subst m2;obtain⟨o,ho⟩:=ZZ.there (ZZ.otl k' hk' v2' r2') (Ao _ m1);rw[hn]at ho;cases ho
theorem At.rebase(e:At K F0 H0 F H r J):At K F H0 F H r J:=by obtain⟨fp,e⟩:=e;exact⟨fp,⟨Zp.refl F,e.ext.hh,e.ext.sub,λ_ _ z=>.inl z,e.ext.tab,id⟩,e.len,e.at_,e.emp,e.own,e.nd,e.dis,e.tb,e.ext.nts e.nt⟩
theorem pZ.unbase{F1:Hp}(x:pZ F0 H0 F1 H1)(y:pZ F1 H0 F H):pZ F0 H0 F H :=
 ⟨x.ff.trans y.ff,y.hh,y.sub,λa o z=>(y.new a o z).elim (λq=>x.new a o q) .inr,y.tab,λt=>y.nts (x.nts t)⟩
theorem At.unbase{F1 H1:Hp}(x:pZ F0 H0 F1 H1)(n:rP F0)(e:At K F1 H0 F H r J):At K F0 H0 F H r J:=by obtain⟨fp,e⟩:=e;exact⟨fp,x.unbase e.ext,e.len,e.at_,e.emp,e.own,e.nd,e.dis,e.tb,n⟩
theorem A4.freeze{fp:Nat->List Addr}(e:A4 K F0 H0 F H r J fp)(i:Nat){b:HM.B}{d:PyData}(hb:r[i]?=Z (Z b))(h1:J[i]?=Z (Z (.ref a)))(ud:fp i=[a])(ha:H a=Z ob)(hr:Zp F (upd F a ob)->Rep K (upd F a ob) d (.ref a))(no:HP.nt ob=Aa:=by rfl):∃F',pZ F0 H0 F' H/\Zp F F'/\At K F0 H0 F' H (r.set i (Z (.pl d))) J:=by
 have hF:F a=Z_:=(e.own i a (by rw[ud];simp)).1;have s:Zp F (upd F a ob):=Zp.upd' hF;have x:pZ F0 H0 (upd F a ob) H:=by
  refine⟨e.ext.ff.trans s,e.ext.hh,λc o z=>?_,λc o z=>?_,e.ext.tab,λt=>(e.ext.nts t).upd no⟩
  .by_cases hc:c=a
   .subst hc;rw[ZD]at z;cases z;exact ha
   .rw[ZA hc]at z;exact e.sub c o z
  .by_cases hc:c=a
   .subst hc;exact .inr (.inl (e.own i c (by rw[ud];simp)).2)
   .rw[ZA hc]at z;exact e.ext.new c o z
 refine⟨_,x,s,?_⟩;have e1:A4 K F0 H0 (upd F a ob) H (r.set i Z_) (J.set i Z_) (λj=>if j=i then[]else fp j):=by
  refine⟨x,by rw[DZ,DZ,e.len],λj c h=>?_,λj h=>?_,λj c h=>?_,λj=>?_,λj k c vE h=>?_,e.tb,e.nt⟩
  .by_cases hj:j=i
   .subst hj
    rw[En (A1.mp hb).1]at h;cases h
   .rw[Cg (A7 hj)]at h
    obtain⟨u,q1,q2⟩:=e.at_ j c h;refine⟨u,by rw[Cg (A7 hj)];exact q1,?_⟩;rw[if_neg hj];exact q2.mono s λ_ _ _ z=>.of z
  .show(if j=i then[]else fp j)=[]
   by_cases hj:j=i
   .rw[if_pos hj]
   .rw[if_neg hj]
    exact e.emp j λc z=>h c (by rw[Cg (A7 hj)];exact z)
  .by_cases hj:j=i
   .rw[if_pos hj]at h;simp at h
   .rw[if_neg hj]at h
    have zo:c≠a:=λz=>e.dis j i c hj h (by rw[ud,z];simp);exact⟨by rw[ZA zo];exact(e.own j c h).1,(e.own j c h).2⟩
  .show(if j=i then[]else fp j).Nodup
   by_cases hj:j=i
   .rw[if_pos hj];exact Es
   .rw[if_neg hj];exact e.nd j
  .show ¬c∈(if k=i then[]else fp k)
   by_cases hj:j=i
   .rw[if_pos hj]at h;simp at h
   .rw[if_neg hj]at h
    by_cases hk:k=i
    .rw[if_pos hk];simp
    .rw[if_neg hk];exact e.dis j k c vE h
 have rp:=hr s;have e2:=At.set (i:=i) ⟨_,e1⟩ rp;rw[Li,Li]at e2;have es:J.set i (Z (.ref a))=J:=by have hi:i<J.length:=(A1.mp h1).1;have hq:J[i]=Z (.ref a):=(A1.mp h1).2;rw[<-hq];exact NS hi
 rwa [es]at e2
theorem At.freeze(e:At K F0 H0 F H r J)(i:Nat):∃F',pZ F0 H0 F' H/\Zp F F'/\At K F0 H0 F' H (HM.QA i r) J:=by
 unfold HM.QA;split
 .rename_i ds hb
  obtain⟨fp,e⟩:=e;obtain⟨v,h1,h2⟩:=e.at_ i _ hb;generalize ud:fp i=f at h2;cases h2 with
  | @ol a _ vs ha q=>exact e.freeze i hb h1 ud ha λs=>.lst (.of ZD) q.1 (q.mono s).2
 .rename_i kvs hb
  obtain⟨fp,e⟩:=e;obtain⟨v,h1,h2⟩:=e.at_ i _ hb;generalize ud:fp i=f at h2;cases h2 with
  | @ot a _ vvs ha hk q=>exact e.freeze i hb h1 ud ha λs=>.dct (.inl ZD) rfl hk (q.mono s).2
 .exact⟨F,e.ext,Zp.refl F,e⟩
end
inductive sJ(K:Ae)(r:HM.Env)(J:L2.St)(H:Hp)(C:Hp->Hp->Hp->Prop):Prop
 |mk (F0 H0 F:Hp) (at_:At K F0 H0 F H r J) (k:C F0 H0 F):sJ K r J H C
end HP
namespace HP
open PySem PySem.Spec PyProof.Rows L2
variable[FX]
section
variable{X:Cx}{f:HM.AF}{r:HM.Env}{u:HM.TF}{F:Hp}{i:Int}{es rest:List Expr}{j:Nat}{g:PyData->PyData->Option PyData}{K:Ae}{x:Str}
def vW(K:Ae)(r:HM.Env)(P:Hp->Hp->Hp->V->Prop):TE:=λJ H Q=>sJ K r J H λF0 H0 F=>∀v F' H',pZ F H F' H'->P H F' H' v->Q v H'
def XE(X:Cx)(e:Expr)(f:HM.EF):Prop:=∀r d,f r=Z d->PE X e (vW X.K r λ_ F' _ v=>Rep X.K F' d v)
def XB(X:Cx)(e:Expr)(f:HM.BF):Prop:=∀r b,f r=Z b->PE X e (vW X.K r λ_ F' H' v=>∃fp,ZZ X.K F' H' b v fp)
def XF(X:Cx)(e:Expr)(f:HM.BF):Prop:=∀r b,f r=Z b->PE X e (vW X.K r λH F' H' v=>∃fp,ZZ X.K F' H' b v fp/\fp.Nodup/\∀a∈fp,F' a=Z_/\H a=Z_)
def XT(X:Cx)(e:Expr)(f:HM.TF):Prop:=∀r c,f r=Z c->PT X e λJ H Q=>sJ X.K r J H λF0 H0 F=>∀F' H',pZ F H F' H'->Q c H'
def XW(X:Cx)(e:Expr)(f:HM.TF):Prop:=∀r c,f r=Z c->PW X e λJ H Q=>sJ X.K r J H λF0 H0 F=>∀F' H',pZ F H F' H'->Q c H'
structure XA(X:Cx)(es:List Expr)(f:HM.AF):Prop where
 len:∀r ds,f r=Z ds->ds.length=es.length
 pa:∀r ds,f r=Z ds->PA X es λJ H Q=>sJ X.K r J H λF0 H0 F=>∀vs F' H',pZ F H F' H'->Zq X.K F' ds vs->Q vs H'
def vO(K:Ae)(zZ:It)(ds:List PyData)(F:Hp):Prop:=∀F' H,Zp F F'->Zp F' H ->
 (∀(i:Nat) (d:PyData),ds[i]?=Z d->zZ.go i H/\∀x H',zZ.yld i H x H'->H'=H/\Rep K (BU F' H) d x)/\zZ.stop ds.length H
def XI(X:Cx)(tg e:Expr)(f:HM.IF):Prop:=∀r ds,f r=Z ds->PI X tg e λJ H R=>sJ X.K r J H λF0 H0 F=>∀zZ F' H',pZ F H F' H'->vO X.K zZ ds F'->R zZ H'
def Y9(K:Ae)(F0 H0:Hp)(o:HM.tF)(E:t8):Prop:=match o with
 | .nx r=>∀J F H,At K F0 H0 F H r J->E.nx J H
 | .rt d=>∀v F H,pZ F0 H0 F H->Rep K F d v->E.rt v H
 | .bk r=>∀J F H,At K F0 H0 F H r J->E.bk J H
 | .ct r=>∀J F H,At K F0 H0 F H r J->E.ct J H
def x8(K:Ae)(r:HM.Env)(o:HM.tF):TS:=λE J H=>sJ K r J H λF0 H0 F=>Y9 K F0 H0 o E
def XS(X:Cx)(st:Stmt)(g:HM.SF):Prop:=∀r o,g r=Z o->PS X st (x8 X.K r o)
def um(X:Cx)(vo:List Stmt)(g:HM.SF):Prop:=∀r o,g r=Z o->rH X vo (x8 X.K r o)
theorem PE.imp{e:Expr}{t u:TE}(h:PE X e t)(hi:∀J H Q,u J H Q->t J H Q):PE X e u:=λpM s J H Q I q=>h pM s J H Q I (hi J H Q q)
theorem PT.imp{e:Expr}{t u:TT}(h:PT X e t)(hi:∀J H Q,u J H Q->t J H Q):PT X e u:=λpM s J H Q I q=>h pM s J H Q I (hi J H Q q)
theorem PW.imp{e:Expr}{t u:TT}(h:PW X e t)(hi:∀J H Q,u J H Q->t J H Q):PW X e u:=λwh pM s J H Q I q=>h wh pM s J H Q I (hi J H Q q)
theorem PA.imp{t u:TA}(h:PA X es t)(hi:∀J H Q,u J H Q->t J H Q):PA X es u:=λp pM s J H Q I q=>h p pM s J H Q I (hi J H Q q)
theorem PS.imp{st:Stmt}{t u:TS}(h:PS X st t)(hi:∀E J H,u E J H->t E J H):PS X st u:=λpM s J H E I q=>h pM s J H E I (hi E J H q)
theorem rH.imp{vo:List Stmt}{t u:TS}(h:rH X vo t)(hi:∀E J H,u E J H->t E J H):rH X vo u:=λpM s J H E I q=>h pM s J H E I (hi E J H q)
section
variable{X:Cx}{a b c e:Expr}{fa fb fc:HM.EF}{pos p:Pos}
theorem ft{i:Nat}{d:PyData}(h:HM.Za i r=Z d):r[i]?=Z (Z (.pl d)):=by
 unfold HM.Za at h;split at h
 .rename_i q;cases h;exact q
 .cases h
theorem eW{i:Nat}{d:HM.B}(h:HM.Zo i r=Z d):r[i]?=Z (Z d):=by
 unfold HM.Zo at h;split at h
 .rename_i q;cases h;exact q
 .cases h
theorem Zb(i:Nat){pos:Pos}(hN:X.N[i]?=Z x:=by rfl)(hv:so X.env.scope x:=by first|exact AD rfl|exact Ap (AD rfl)|exact Ap (Ap rfl))(hd:(x==("__debug__":Str))=Ab:=by decide)(qw:(x==("__classdict__":Str))=Ab:=by decide):XE X (.Name x pos) (HM.Za i):=by
 intro r d h;refine PE.imp (CT hN hv hd qw) λJ H Q ⟨F0,H0,F,at_,k⟩=>?_;obtain⟨v,h1,h2⟩:=at_.plain (ft h);exact⟨v,h1,k v F H at_.refl h2⟩
theorem Zr(i:Nat){pos:Pos}(hN:X.N[i]?=Z x:=by rfl)(hv:so X.env.scope x:=by first|exact AD rfl|exact Ap (AD rfl)|exact Ap (Ap rfl))(hd:(x==("__debug__":Str))=Ab:=by decide)(qw:(x==("__classdict__":Str))=Ab:=by decide):XB X (.Name x pos) (HM.Zo i):=by
 intro r d h;refine PE.imp (CT hN hv hd qw) λJ H Q ⟨F0,H0,F,at_,k⟩=>?_;obtain⟨v,fp,h1,h2⟩:=at_.any (eW h);exact⟨v,h1,k v F H at_.refl ⟨fp,h2⟩⟩
theorem Kk{v:V}{d:PyData}(h:PE X e (tC v))(r:∀F,Rep X.K F d v):XE X e (HM.eC d):=by intro r' d' h';cases h';exact PE.imp h λJ H Q ⟨F0,H0,F,at_,k⟩=>k v F H at_.refl (r F)
theorem Zm:XE X (.Constant (.int i) j pos) (HM.eC (.int i)):=Kk Tq λ_=>.int i
theorem Fi{q:Bool}:XE X (.Constant (.bool q) j pos) (HM.eC (.bool q)):=Kk bK λ_=>.bl q
theorem CS:XE X (.Constant .none j pos) (HM.eC .none):=Kk TH λ_=>.non
theorem Mc(hm:∃t,X.mg x=Z (.int i t))(hg:Gl X x:=by rfl)(hd:(x==("__debug__":Str))=Ab:=by decide):XE X (.Name x pos) (HM.eC (.int i)):=by obtain⟨t,hm⟩:=hm;exact Kk (Um hg hm (v:=.int i) ⟨t,rfl⟩ hd) λ_=>.int i
theorem cn{p':Pos}:XE X (.UnaryOp .USub (.Constant (.int i) j p') pos) (HM.eC (.int (-i))):=by intro r d h;cases h;intro pM s J H Q I q;obtain⟨F0,H0,F,at_,k⟩:=q;refine UnaryOp_ (pW (Tq pM s J H (λv H'=>v=.int i/\H'=H) I ⟨rfl,rfl⟩) λu s1 ⟨x,H1,I1,r1,e1,e2⟩=>?_);subst e1 e2;obtain⟨t,rfl⟩:=r1;exact neg_int ⟨.int (-i),H1,I1.tok _,⟨_,rfl⟩,k _ F H1 at_.refl (.int _)⟩
theorem B2(h:XE X e fa):XB X e (HM.qg fa):=by intro r b hb;obtain⟨d,h1,h2⟩:=Al.mp hb;subst h2;exact PE.imp (h r d h1) λJ H Q ⟨F0,H0,F,at_,k⟩=>⟨F0,H0,F,at_,λv F' H' x q=>k v F' H' x ⟨[],.pl q⟩⟩
theorem Ba{f:HM.BF}(h:XF X e f):XB X e f:=λr b hb=>PE.imp (h r b hb) λJ H Q ⟨F0,H0,F,at_,k⟩=>⟨F0,H0,F,at_,λv F' H' x ⟨fp,q,_⟩=>k v F' H' x ⟨fp,q⟩⟩
theorem EE{f:HM.BF}(h:XF X e f):XE X e (HM.tw f):=by
 intro r d hd;unfold HM.tw at hd;obtain⟨b,h1,h2⟩:=Sr.mp hd;refine PE.imp (h r b h1) λJ H Q ⟨F0,H0,F,at_,k⟩=>⟨F0,H0,F,at_,λv F' H' x ⟨fp,q,_,hn⟩=>?_⟩;cases q with
 |pl q=>cases h2;exact k v F' H' x q
 | @ol l ds vs hl q =>
  cases h2;have hF:F' l=Z_:=(hn l (by simp)).1;have s:Zp F' (upd F' l (.lst vs)):=Zp.upd' hF;refine k _ (upd F' l (.lst vs)) H' ⟨x.ff.trans s,x.hh,λc o z=>?_,λc o z=>?_,x.tab,λt=>(x.nts t).upd rfl⟩ (.lst (.of ZD) q.1 (q.mono s).2)
  .by_cases hc:c=l
   .subst hc;rw[ZD]at z;cases z;exact hl
   .rw[ZA hc]at z;exact x.sub c o z
  .by_cases hc:c=l
   .subst hc;exact .inr (.inl (hn c (by simp)).2)
   .rw[ZA hc]at z;exact x.new c o z
 | @ot l kvs vvs hl hk q =>
  cases h2;have hF:F' l=Z_:=(hn l (by simp)).1;have s:Zp F' (upd F' l (.dT vvs)):=Zp.upd' hF;refine k _ (upd F' l (.dT vvs)) H' ⟨x.ff.trans s,x.hh,λc o z=>?_,λc o z=>?_,x.tab,λt=>(x.nts t).upd rfl⟩ (.dct (.inl ZD) rfl hk (q.mono s).2)
  .by_cases hc:c=l
   .subst hc;rw[ZD]at z;cases z;exact hl
   .rw[ZA hc]at z;exact x.sub c o z
  .by_cases hc:c=l
   .subst hc;exact .inr (.inl (hn c (by simp)).2)
   .rw[ZA hc]at z;exact x.new c o z
 |ok _ _ _=>cases h2
 |hd h3 h4 h5 h6=>cases h2;exact k _ F' H' x (.dct (.inr ⟨_,h3⟩) h4 h5 h6.2)
 |hf h3=>cases h2;exact k _ F' H' x (.fn h3)
 |otl _ _ _ _=>cases h2
def zJ(K:Ae)(r:R2)(g:PyData->PyData->Option PyData):Prop:=∀(F H:Hp) (x y z:PyData) (v w:V) (Q:VK),Zp F H->g x y=Z z->Rep K F x v->Rep K F y w->(∀u,Rep K F z u->Q u H)->r v w H Q
structure JL(X:Cx)(op:Operator)(g:PyData->PyData->Option PyData):Prop where
 ex:∃r,rj X (Gr op) r/\zJ X.K r g
structure D6(X:Cx)(op:CmpOp)(g:PyData->PyData->Option PyData):Prop where
 ex:∃r,rj X (BP op) r/\zJ X.K r g
 n1:op≠.In
 n2:op≠.NotIn
theorem J9{d:PyData}(h:HM.pT g fa fb r=Z d):∃x y,fa r=Z x/\fb r=Z y/\g x y=Z d:=by
 unfold HM.pT at h;split at h
 .split at h
  .exact⟨_,_,by assumption,by assumption,h⟩
  .cases h
 .cases h
theorem two{x y:PyData}{P:Hp->Hp->Hp->V->Prop}{J:L2.St}{H:Hp}{Q:VK}{R:V->V->Hp->VK->Prop}(h:vW K r P J H Q)(hk:∀H F2 H2 v w,Zp F2 H2->Rep K F2 x v->Rep K F2 y w->(∀u F3 H3,pZ F2 H2 F3 H3->P H F3 H3 u->Q u H3)->AZ H H2->R v w H2 Q):wX R (vW K r λ_ F' _ v=>Rep K F' x v) (vW K r λ_ F' _ v=>Rep K F' y v) J H Q:=by
 obtain⟨F0,H0,F,at_,k⟩:=h;refine⟨F0,H0,F,at_,λv F1 H1 x1 r1=>⟨F0,H0,F1,at_.grow x1,λw F2 H2 x2 r2=>?_⟩⟩;exact hk H F2 H2 v w x2.sub (r1.mono x2.ff) r2 (λu F3 H3 x3 q=>k u F3 H3 ((x1.trans x2).trans x3) q) (x1.hh.trans x2.hh)
theorem ZH{op:Operator}(o:JL X op g)(ha:XE X a fa)(hb:XE X b fb):XE X (.BinOp a op b pos) (HM.pT g fa fb):=by intro r d h;obtain⟨x,y,h1,h2,h3⟩:=J9 h;obtain⟨R,o1,o2⟩:=o.ex;refine PE.imp (OB o1 (ha r x h1) (hb r y h2)) λJ H Q q=>?_;exact two q λ_ F2 H2 v w s r1 r2 k _=>o2 F2 H2 x y d v w Q s h3 r1 r2 λu ru=>k u F2 H2 (.refl s) ru
theorem Fg{op:CmpOp}(o:D6 X op g)(ha:XE X a fa)(hb:XE X b fb):XE X (.Compare a [op] [b] pos) (HM.pT g fa fb):=by intro r d h;obtain⟨x,y,h1,h2,h3⟩:=J9 h;obtain⟨R,o1,o2⟩:=o.ex;refine PE.imp (Uc o1 (ha r x h1) (hb r y h2) (PU _ o.n1 o.n2)) λJ H Q q=>?_;exact two q λ_ F2 H2 v w s r1 r2 k _=>o2 F2 H2 x y d v w Q s h3 r1 r2 λu ru=>k u F2 H2 (.refl s) ru
theorem GU{c:Bool}(h:HM.tV fa r=Z c):fa r=Z (.bool c):=by
 unfold HM.tV at h;split at h
 .rename_i q;cases h;exact q
 .cases h
theorem Rep.bool_inv{c:Bool}{v:V}(h:Rep K F (.bool c) v):v=.bl c:=by cases h;rfl
theorem Rep.int_inv{v:V}(h:Rep K F (.int i) v):v=.int i:=by cases h;rfl
theorem Rep.none_inv{v:V}(h:Rep K F .none v):v=.non:=by cases h;rfl
theorem BJ{op:CmpOp}(o:D6 X op g)(ha:XE X a fa)(hb:XE X b fb):XT X (.Compare a [op] [b] pos) (HM.tV (HM.pT g fa fb)):=by intro r d h;obtain⟨x,y,h1,h2,h3⟩:=J9 (GU h);obtain⟨R,o1,o2⟩:=o.ex;refine PT.imp (Ph o1 (ha r x h1) (hb r y h2) (PU _ o.n1 o.n2)) λJ H Q ⟨F0,H0,F,at_,k⟩=>?_;refine⟨F0,H0,F,at_,λv F1 H1 x1 r1=>⟨F0,H0,F1,at_.grow x1,λw F2 H2 x2 r2=>?_⟩⟩;refine o2 F2 H2 x y _ v w _ x2.sub h3 (r1.mono x2.ff) r2 λu ru=>?_;exact⟨d,ru.bool_inv,k F2 H2 (x1.trans x2)⟩
theorem Dy(h:XE X e fa)(he:∀qG,isTrue e X.env qG=(do let v <-qG;standAt e.pos;holding [v] (truthy v)):=by intro _;rfl):XT X e (HM.tV fa):=by intro r c hc;refine PT.imp (cS (h r _ (GU hc)) he) λJ H Q ⟨F0,H0,F,at_,k⟩=>?_;exact⟨F0,H0,F,at_,λv F1 H1 x1 r1=>⟨c,r1.bool_inv,k F1 H1 x1⟩⟩
theorem Ff{t:HM.TF}(h:XT X a t):XT X (.UnaryOp .Not a pos) (HM.D8 t):=by intro r c hc;obtain⟨d,h1,h2⟩:=Al.mp hc;subst h2;refine PT.imp (cT (h r d h1)) λJ H Q ⟨F0,H0,F,at_,k⟩=>?_;exact⟨F0,H0,F,at_,λF1 H1 x1=>k F1 H1 x1⟩
theorem LH{t:HM.TF}(h:XW X e t):XT X e t:=λr c hc=>(h r c hc).pt
theorem f7{t:HM.TF}(h:XT X a t):XW X (.BoolOp .And [a] pos) t:=λr c hc=>dH (h r c hc)
theorem O3{t:HM.TF}(h:XT X a t):XW X (.BoolOp .Or [a] pos) t:=λr c hc=>cY (h r c hc)
theorem Vf{e:Expr}:PW X e λ_ _ _=>False:=λ_ _ _ _ _ _ _ h=>h.elim
theorem Ki{e:Expr}:PE X e λ_ _ _=>False:=λ_ _ _ _ _ _ h=>h.elim
theorem cm{t:HM.TF}(ha:XT X a t)(hb:XW X (.BoolOp .And (b::rest) pos) u):XW X (.BoolOp .And (a::b::rest) pos) (HM.E9 t u):=by
 intro r c hc;unfold HM.E9 at hc;split at hc
 .rename_i q
  refine PW.imp (Tr (ha r Aa q) (hb r c hc)) λJ H Q ⟨F0,H0,F,at_,k⟩=>?_;exact⟨F0,H0,F,at_,λF1 H1 x1=>GJ ⟨F0,H0,F1,at_.grow x1,λF2 H2 x2=>k F2 H2 (x1.trans x2)⟩⟩
 .rename_i q
  cases hc;refine PW.imp (Tr (ha r Ab q) Vf) λJ H Q ⟨F0,H0,F,at_,k⟩=>?_;exact⟨F0,H0,F,at_,λF1 H1 x1=>GL (k F1 H1 x1)⟩
 .cases hc
theorem OA{t:HM.TF}(ha:XT X a t)(hb:XW X (.BoolOp .Or (b::rest) pos) u):XW X (.BoolOp .Or (a::b::rest) pos) (HM.wW t u):=by
 intro r c hc;unfold HM.wW at hc;split at hc
 .rename_i q
  cases hc;refine PW.imp (S3 (ha r Aa q) Vf) λJ H Q ⟨F0,H0,F,at_,k⟩=>?_;exact⟨F0,H0,F,at_,λF1 H1 x1=>GJ (k F1 H1 x1)⟩
 .rename_i q
  refine PW.imp (S3 (ha r Ab q) (hb r c hc)) λJ H Q ⟨F0,H0,F,at_,k⟩=>?_;exact⟨F0,H0,F,at_,λF1 H1 x1=>GL ⟨F0,H0,F1,at_.grow x1,λF2 H2 x2=>k F2 H2 (x1.trans x2)⟩⟩
 .cases hc
theorem Ed{op:BoolOp}(h:XE X a fa):XE X (.BoolOp op [a] pos) fa:=λr d hd=>cD (h r d hd)
theorem Ec(ha:XE X a fa)(hb:XE X (.BoolOp .And (b::rest) pos) fb):XE X (.BoolOp .And (a::b::rest) pos) (HM.CC fa fb):=by
 intro r d hd;unfold HM.CC at hd;split at hd
 .rename_i q
  refine PE.imp (Tj (ha r _ q) (hb r d hd)) λJ H Q ⟨F0,H0,F,at_,k⟩=>?_;exact⟨F0,H0,F,at_,λv F1 H1 x1 r1=>⟨Aa,r1.bool_inv,GJ ⟨F0,H0,F1,at_.grow x1,λw F2 H2 x2 r2=>k w F2 H2 (x1.trans x2) r2⟩⟩⟩
 .rename_i q
  cases hd;refine PE.imp (Tj (ha r _ q) Ki) λJ H Q ⟨F0,H0,F,at_,k⟩=>?_;exact⟨F0,H0,F,at_,λv F1 H1 x1 r1=>⟨Ab,r1.bool_inv,GL (k _ F1 H1 x1 (.bl Ab))⟩⟩
 .cases hd
theorem bj(ha:XE X a fa)(hb:XE X (.BoolOp .Or (b::rest) pos) fb):XE X (.BoolOp .Or (a::b::rest) pos) (HM.eOr fa fb):=by
 intro r d hd;unfold HM.eOr at hd;split at hd
 .rename_i q
  cases hd;refine PE.imp (S6 (ha r _ q) Ki) λJ H Q ⟨F0,H0,F,at_,k⟩=>?_;exact⟨F0,H0,F,at_,λv F1 H1 x1 r1=>⟨Aa,r1.bool_inv,GJ (k _ F1 H1 x1 (.bl Aa))⟩⟩
 .rename_i q
  refine PE.imp (S6 (ha r _ q) (hb r d hd)) λJ H Q ⟨F0,H0,F,at_,k⟩=>?_;exact⟨F0,H0,F,at_,λv F1 H1 x1 r1=>⟨Ab,r1.bool_inv,GL ⟨F0,H0,F1,at_.grow x1,λw F2 H2 x2 r2=>k w F2 H2 (x1.trans x2) r2⟩⟩⟩
 .cases hd
theorem cj(ha:XE X a fa):XE X (.UnaryOp .Not a pos) (HM.ig fa):=by
 intro r d hd;unfold HM.ig at hd;split at hd
 .rename_i c q
  cases hd;refine PE.imp (aS (ha r _ q)) λJ H Q ⟨F0,H0,F,at_,k⟩=>?_;exact⟨F0,H0,F,at_,λv F1 H1 x1 r1=>⟨c,r1.bool_inv,k _ F1 H1 x1 (.bl _)⟩⟩
 .cases hd
theorem Oz{t:HM.TF}(hc:XT X c t)(ha:XE X a fa)(hb:XE X b fb):XE X (.IfExp c a b pos) (HM.yC t fa fb):=by
 intro r d hd;unfold HM.yC at hd;split at hd
 .rename_i q
  refine PE.imp (U5 (hc r _ q) (ha r d hd) Ki) λJ H Q ⟨F0,H0,F,at_,k⟩=>?_;exact⟨F0,H0,F,at_,λF1 H1 x1=>GJ ⟨F0,H0,F1,at_.grow x1,λw F2 H2 x2 r2=>k w F2 H2 (x1.trans x2) r2⟩⟩
 .rename_i q
  refine PE.imp (U5 (hc r _ q) Ki (hb r d hd)) λJ H Q ⟨F0,H0,F,at_,k⟩=>?_;exact⟨F0,H0,F,at_,λF1 H1 x1=>GL ⟨F0,H0,F1,at_.grow x1,λw F2 H2 x2 r2=>k w F2 H2 (x1.trans x2) r2⟩⟩
 .cases hd
theorem VO{op op':CmpOp}{g':PyData->PyData->Option PyData}(o:D6 X op g)(o':D6 X op' g')(ha:XE X a fa)(hb:XE X b fb)(hc:XE X c fc)(hm:lastMarks [op,op'] [b,c]=Ab:=by with_unfolding_all rfl):XE X (.Compare a [op,op'] [b,c] pos) (HM.WR g g' fa fb fc):=by
 intro r d hd;unfold HM.WR at hd;obtain⟨R,o1,o2⟩:=o.ex;obtain⟨R',o1',o2'⟩:=o'.ex;split at hd
 .rename_i x hx
  split at hd
  .rename_i y hy
   split at hd
   .rename_i hg
    split at hd
    .rename_i z hz
     refine PE.imp (UP o1 o1' (ha r x hx) (hb r y hy) (hc r z hz) hm) λJ H Q ⟨F0,H0,F,at_,k⟩=>?_;refine⟨F0,H0,F,at_,λv F1 H1 x1 r1=>⟨F0,H0,F1,at_.grow x1,λw F2 H2 x2 r2=>?_⟩⟩;refine o2 F2 H2 x y _ v w _ x2.sub hg (r1.mono x2.ff) r2 λu ru=>?_;refine⟨Aa,ru.bool_inv,GJ ⟨F0,H0,F2,(at_.grow x1).grow x2,λw' F3 H3 x3 r3=>?_⟩⟩;exact o2' F3 H3 y z d w w' Q x3.sub hd (r2.mono x3.ff) r3 λu' ru'=>k u' F3 H3 ((x1.trans x2).trans x3) ru'
    .cases hd
   .rename_i hg
    cases hd;refine PE.imp (UP o1 o1' (ha r x hx) (hb r y hy) Ki hm) λJ H Q ⟨F0,H0,F,at_,k⟩=>?_;refine⟨F0,H0,F,at_,λv F1 H1 x1 r1=>⟨F0,H0,F1,at_.grow x1,λw F2 H2 x2 r2=>?_⟩⟩;refine o2 F2 H2 x y _ v w _ x2.sub hg (r1.mono x2.ff) r2 λu ru=>?_;exact⟨Ab,ru.bool_inv,GL (k _ F2 H2 (x1.trans x2) (.bl Ab))⟩
   .cases hd
  .cases hd
 .cases hd
theorem Zh:XA X [] HM.Zk:=by refine⟨λr ds h=>by cases h;rfl,λr ds h=>?_⟩;cases h;exact PA.imp Cm λJ H Q ⟨F0,H0,F,at_,k⟩=>k [] F H at_.refl .nil
theorem Zd(ha:XE X e fa)(hr:XA X es f)(hs:Ah (e::es) X.env=(Ab,eval e X.env)::Ah es X.env:=by rfl):XA X (e::es) (HM.Zc fa f):=by
 refine⟨λr ds h=>?_,λr ds h=>?_⟩
 .unfold HM.Zc at h
  split at h
  .obtain⟨xs,h1,h2⟩:=Al.mp h
   subst h2;rw[Ay,Ay,hr.len r xs h1]
  .cases h
 unfold HM.Zc at h;split at h
 .rename_i x hx
  obtain⟨xs,h1,h2⟩:=Al.mp h;subst h2;refine PA.imp (Z8 (ha r x hx) (hr.pa r xs h1) hs) λJ H Q ⟨F0,H0,F,at_,k⟩=>?_;exact⟨F0,H0,F,at_,λv F1 H1 x1 r1=>⟨F0,H0,F1,at_.grow x1,λvs F2 H2 x2 r2=>k (v::vs) F2 H2 (x1.trans x2) (.cons (r1.mono x2.ff) r2)⟩⟩
 .cases h
theorem FV{x1:Nat}(h:XA X es f)(hl:es.length<=100:=by exact Nat.le_of_ble_eq_true rfl):XE X (.Tuple es x1 pos) (HM.E5 f):=by
 intro r d hd;obtain⟨ds,h1,h2⟩:=Al.mp hd;subst h2;refine PE.imp (cX (h.pa r ds h1)) λJ H Q ⟨F0,H0,F,at_,k⟩=>⟨F0,H0,F,at_,λvs F1 H1 x1 r1=>⟨?_,λp hp=>?_⟩⟩
 .have e1:=h.len r ds h1
  have e2:=r1.1;have e3:(100:Nat)<=sizeLine:=by decide
  omega
 .have hF:F1 p=Z_:=x1.sub.free hp
  exact k _ (upd F1 p (.tup vs)) _ (x1.lay hp) (.tup ZD r1.1 (r1.mono (Zp.upd' hF)).2)
theorem C8(h:XA X es f)(hl:es.length<=100:=by exact Nat.le_of_ble_eq_true rfl):XF X (.List es pos) (HM.B7 f):=by
 intro r d hd;obtain⟨ds,h1,h2⟩:=Al.mp hd;subst h2;refine PE.imp (bp (h.pa r ds h1)) λJ H Q ⟨F0,H0,F,at_,k⟩=>⟨F0,H0,F,at_,λvs F1 H1 x1 r1=>⟨?_,λp hp=>?_⟩⟩
 .have e1:=h.len r ds h1
  have e2:=r1.1;have e3:(100:Nat)<=sizeLine:=by decide
  omega
 .have hF:F1 p=Z_:=x1.sub.free hp
  refine k _ F1 _ (x1.lay' hp) ⟨[p],.ol ZD r1,by simp,λa ha=>?_⟩;have:a=p:=by simpa using ha
  subst this;exact⟨hF,x1.hh.free hp⟩
end
end
section
variable{f:Addr}{fd:FuncData}{g:HM.SF}{base:Heap}{N ps:List Str}{p':Pos}{P:Program}{K:Ae}{st:Stmt}{qual x:Str}{mg:Str->Option Value}
section
variable{X:Cx}{a b c e:Expr}{fa fb fc:HM.EF}{pos p:Pos}{st:Stmt}{rest:List Stmt}{g u:HM.SF}
theorem We(h:X.xe=λ_ _=>False):PassesOwn (model X.prog X.w) X.A X.env X.xe:=by rw[h];exact PassesOwn.never
theorem BG:um X [] HM.Bu:=by intro r o h;cases h;exact rH.imp dJ λE J H ⟨F0,H0,F,at_,k⟩=>k J F H at_
theorem Zn(h:XS X st g):um X [st] g:=λr o ho=>UA (h r o ho)
theorem Zf(h1:XS X st g)(h2:um X rest u):um X (st::rest) (HM.Zw g u):=by
  intro r o h
  unfold HM.Zw at h
  split at h
  · rename_i r' q
    refine rH.imp (Mf (h1 r _ q) (h2 r' o h)) λE J H ⟨F0,H0,F,at_,k⟩=>?_
    exact⟨F0,H0,F,at_,λσ' F' H' at'=>⟨F0,H0,F',at',k⟩⟩
  all_goals first
    | cases h
      rename_i q
      refine rH.imp (Mf (h1 r _ q) Ml) λE J H ⟨F0,H0,F,at_,k⟩=>?_
      exact⟨F0,H0,F,at_,k⟩
    |cases h
theorem VN:XS X st HM.Vg:=λr o h=>nomatch h
theorem ZB(h:XE X e fa):XS X (.Return (Z e) pos) (HM.ZE fa):=by intro r o ho;obtain⟨d,h1,h2⟩:=Al.mp ho;subst h2;refine PS.imp (OH (h r d h1)) λE J H ⟨F0,H0,F,at_,k⟩=>?_;exact⟨F0,H0,F,at_,λv F' H' x q=>k v F' H' (at_.ext.trans x) q⟩
theorem Mb(h:XE X e fa)(hs:DU e Z_ pos.line X.env=pure Ab:=by rfl):XS X (.Expr e pos) (HM.LW fa):=by intro r o ho;obtain⟨d,h1,h2⟩:=Al.mp ho;subst h2;refine PS.imp (Kd (h r d h1) hs) λE J H ⟨F0,H0,F,at_,k⟩=>?_;exact⟨F0,H0,F,at_,λv F' H' x q=>k J F' H' (at_.grow x)⟩
theorem BD{t:HM.TF}{sa sb:List Stmt}(hc:XT X c t)(ha:um X sa g)(hb:um X sb u):XS X (.If c sa sb pos) (HM.qY t g u):=by
 intro r o ho;unfold HM.qY at ho;split at ho
 .rename_i q
  refine PS.imp (Te (hc r _ q) (ha r o ho) Ml) λE J H ⟨F0,H0,F,at_,k⟩=>?_;exact⟨F0,H0,F,at_,λF' H' x=>GJ ⟨F0,H0,F',at_.grow x,k⟩⟩
 .rename_i q
  refine PS.imp (Te (hc r _ q) Ml (hb r o ho)) λE J H ⟨F0,H0,F,at_,k⟩=>?_;exact⟨F0,H0,F,at_,λF' H' x=>GL ⟨F0,H0,F',at_.grow x,k⟩⟩
 .cases ho
theorem FU(i:Nat)(h:XS X st g):XS X st (HM.D7 i g):=by intro r o ho;refine PS.imp (h (HM.QA i r) o ho) λE J H ⟨F0,H0,F,at_,k⟩=>?_;obtain⟨F',_,_,a'⟩:=at_.freeze i;exact⟨F0,H0,F',a',k⟩
theorem ZP(i:Nat)(hN:X.N.Nodup)(h:XE X e fa)(hi:X.N[i]?=Z x:=by rfl)(hx:Loc X.env.scope x:=by first|exact AD rfl|exact Ap rfl)(hs:DU e (Z (.Name x p')) pos.line X.env=pure Ab:=by rfl)(hf:X.fn x=Aa\/X.env.scope.names.lookup x=Z .local:=by first|exact .inl rfl|exact .inr rfl):XS X (.Assign [.Name x p'] e pos) (HM.ZX i fa):=by
 intro r o ho;obtain⟨d,h1,h2⟩:=Al.mp ho;subst h2;refine PS.imp (OS hN hi hx (h r d h1) hs hf) λE J H ⟨F0,H0,F,at_,k⟩=>?_;exact⟨F0,H0,F,at_,λv F' H' x q=>k _ F' H' ((at_.grow x).set q)⟩
theorem Z7(i:Nat){f:HM.BF}(hN:X.N.Nodup)(h:XF X e f)(hi:X.N[i]?=Z x:=by rfl)(hx:Loc X.env.scope x:=by first|exact AD rfl|exact Ap rfl)(hs:DU e (Z (.Name x p')) pos.line X.env=pure Ab:=by rfl)(hf:X.fn x=Aa\/X.env.scope.names.lookup x=Z .local:=by first|exact .inl rfl|exact .inr rfl):XS X (.Assign [.Name x p'] e pos) (HM.ZL i f):=by
 intro r o ho;obtain⟨d,h1,h2⟩:=Al.mp ho;subst h2;refine PS.imp (OS hN hi hx (h r d h1) hs hf) λE J H ⟨F0,H0,F,at_,k⟩=>?_;exact⟨F0,H0,F,at_,λv F' H' x ⟨fp,q,nd,hn⟩=>k _ F' H' ((at_.grow x).storeNew at_ x.hh q nd hn)⟩
theorem CU(i:Nat){iter:Expr}{body:List Stmt}{fi:HM.IF}(hN:X.N.Nodup)(tY:X.xe=λ_ _=>False)(hc:X.calm=Aa)(hi:XI X (.Name x p') iter fi)(hb:um X body g)(zf:X.N[i]?=Z x:=by rfl)(hx:Loc X.env.scope x:=by first|exact AD rfl|exact Ap rfl)(hf:X.fn x=Aa\/X.env.scope.names.lookup x=Z .local:=by first|exact .inl rfl|exact .inr rfl)(hs:∀x,Gx iter X.env x=pure x:=by intro _;rfl):XS X (.For (.Name x p') iter body [] pos) (HM.Bi i fi g):=by
 intro r o ho;unfold HM.Bi at ho;split at ho
 .rename_i ds qh
  split at ho
  .rename_i si
   have pb:rH X body (λE J H=>∃r o,g r=Z o/\x8 X.K r o E J H):=λpM s J H E I ⟨r,o,h1,h2⟩=>hb r o h1 pM s J H E I h2;refine PS.imp (cF (We tY) hc (hi r ds qh) (L5 hN zf hx hf) pb hs) λE J H ⟨F0,H0,F,at_,k⟩=>?_;refine⟨F0,H0,F,at_,λzZ F1 H1 x1 it=>?_⟩;refine⟨λn m J H=>∃F r,At X.K F0 H0 F H r J/\Zp F1 F/\n+m=ds.length/\HM.Bc i g (ds.drop n) r=Z o,⟨ds.length,F1,r,at_.grow x1,Zp.refl _,by omega,ho⟩,?_⟩
   rintro n m J H ⟨F2,r2,rT,s2,hn,go⟩
   obtain⟨yj,yi⟩:=it F2 H s2 rT.sub;cases m with
   |zero =>
    have e:n=ds.length:=by omega
    subst e;rw[List.drop_length]at go;cases go;exact .inl ⟨yi,k J F2 H rT⟩
   |succ m =>
    have ql:n<ds.length:=by omega
    rw[Yj ql]at go;obtain⟨j1,j2⟩:=yj n ds[n] (AN ql);refine .inr ⟨j1,λσ' H'=>∃F r,At X.K F0 H0 F H' r σ'/\Zp F1 F/\HM.Bc i g (ds.drop (n+1)) r=Z o,λσ' H' ⟨F,r,a1,a2,a3⟩=>⟨m,by omega,F,r,a1,a2,by omega,a3⟩,λy H' hy=>?_⟩;obtain⟨e1,ry⟩:=j2 y H' hy;subst e1;obtain⟨F3,sg,s3,ry⟩:∃F3,At X.K F0 H0 F3 H' r2 J/\Zp F1 F3/\Rep X.K F3 ds[n] y:=⟨_,rT.grow rT.refl.tups,s2.trans (Fd rT.sub),ry⟩;have a3:=sg.set (i:=i) ry;have a4:=a3.rebase;unfold HM.Bc at go;split at go
    .rename_i r' hr
     exact⟨_,_,hr,F3,H0,F3,a4,λσ' F' H' a'=>⟨F',r',a'.unbase sg.ext sg.nt0,s3.trans a'.ext.ff,go⟩⟩
    .rename_i r' hr
     exact⟨_,_,hr,F3,H0,F3,a4,λσ' F' H' a'=>⟨F',r',a'.unbase sg.ext sg.nt0,s3.trans a'.ext.ff,go⟩⟩
    .rename_i r' hr
     cases go;exact⟨_,_,hr,F3,H0,F3,a4,λσ' F' H' a'=>k σ' F' H' (a'.unbase sg.ext sg.nt0)⟩
    .rename_i d hr
     cases go;exact⟨_,_,hr,F3,H0,F3,a4,λv F' H' x q=>k v F' H' (sg.ext.unbase x) q⟩
    .cases go
  .cases ho
 .cases ho
end
def spD(K:Ae)(n:Nat)(M:List PyData->Option PyData):Sp:=λvs H Q _=>∃F ds d,vs.length=n/\Zp F H/\Tb H/\rP F/\Zq K F ds vs/\M ds=Z d/\∀v F' H',pZ F H F' H'->Rep K F' d v->Q v H'
structure Callee(P:Program)(w:World)(K:Ae)(mg:Str->Option Value)(base:Heap)(k:Nat)(x:Str)(M:List PyData->Option PyData):Prop where
 ex:∃f fd ps,(∀ds d,M ds=Z d->ds.length=ps.length)/\Ck P w K mg base rY k f fd ps (spD K ps.length M)/\mg x=Z (.ref f)/\Et K (.ref f)=Aa/\Binds K fd ps []
theorem Callee.mono{P:Program}{w:World}{K:Ae}{mg:Str->Option Value}{base:Heap}{j k:Nat}{x:Str}{M:List PyData->Option PyData}(C:Callee P w K mg base j x M)(h:j<=k):Callee P w K mg base k x M:=by obtain⟨f,fd,ps,l,F,r⟩:=C.ex;exact⟨f,fd,ps,l,F.mono h,r⟩
section
variable{X:Cx}{pos p:Pos}{e:Expr}{es:List Expr}{f:HM.AF}
theorem Zl{k:Nat}{M:List PyData->Option PyData}(C:Callee X.prog X.w X.K X.mg X.base k x M)(hr:Z9 k X.A)(ha:XA X (e::es) f)(hg:Gl X x:=by rfl)(tm:(x==("__debug__":Str))=Ab:=by decide)(he:Ah (e::es) X.env=(Ab,eval e X.env)::Ah es X.env:=by rfl)(hpl:(backTo pos (Ah es X.env)).any (·.1)=Ab:=by rfl):XE X (.Call (.Name x p) (e::es) [] pos) (HM.Zj M f):=by
 intro r d hd;unfold HM.Zj at hd;split at hd
 .rename_i ds qh
  obtain⟨fa,fd,ps,hl,F,hm,hk,hb⟩:=C.ex;refine PE.imp (Pb (E:=E0) F hr hg hm hk hb .nil OC (ha.pa r ds qh) tm he hpl) λJ H Q ⟨F0,H0,F1,at_,k⟩=>?_;refine⟨F0,H0,F1,at_,λvs F' H' x q=>?_⟩;show spD X.K ps.length M (vs++[]) H' Q E0;rw[BK];exact⟨F',ds,d,by rw[<-q.1];exact hl ds d hd,x.sub,at_.tbx x,at_.ntx x,q,hd,λv F2 H2 x2 q2=>k v F2 H2 (x.trans x2) q2⟩
 .cases hd
end
theorem Kn{F H:Hp}{ds:List PyData}{vs:List V}(s:Zp F H)(tb:Tb H)(nt:rP F)(q:Zq K F ds vs)(hl:ds.length<=N.length):At K F H F H (HM.X3 N.length ds) (L2.start N vs):=by
 have hv:=q.1;refine⟨λ_=>[],.refl s,?_,λi b h=>?_,λ_ _=>rfl,λi a h=>by simp at h,λ_=>Es,λi j a _ h=>by simp at h,tb,nt⟩
 .unfold HM.X3 L2.start
  rw[AB,AB,Af,Af,DY,DY,hv]
 .unfold HM.X3 at h
  by_cases hi:i<ds.length
  .rw[Eo (by rw[Af];exact hi),AE,AN hi]at h
   cases h;obtain⟨v,h1,h2⟩:=q.get (AN hi);refine⟨v,?_,.pl h2⟩;unfold L2.start;rw[Eo (by rw[Af,<-hv];exact hi),AE,h1];rfl
  .rw[D4 (by rw[Af];omega),Ob]at h
   split at h<;>cases h
theorem T4{w:World}{k:Nat}(Fn:sL K x qual st f fd)(S:Zv N ps (Ze st))(body:∀(pV:Value) (A:Around) (outer:List Env) (s:Shared) (H:Hp) (E:XK),Z9 k (A.deeper (envOfC qual (Ze st) s.heap.objs.size f pV))->um (DL rY P w K mg base N qual (Ze st) f pV A outer s H E).nox (BW st) g):Ck P w K mg base rY (k+1) f fd ps (spD K ps.length (HM.fnOf ps.length N.length g)):=by
 have hpl:ps.length<=N.length:=by have:=congrArg Bx S.pre;rw[DG]at this;omega
 refine Fn.ok S (λvs H Q E h=>?_) (λpV A outer s H vs Q E hr h=>?_)
 .obtain⟨_,_,_,h,_⟩:=h
  exact h
 .obtain⟨F,ds,d,hl,sub,tb,nt,q,hM,kk⟩:=h
  unfold HM.fnOf at hM;split at hM
  .rename_i qh
   have a0:=Kn (N:=N) sub tb nt q (by omega);split at hM
   .rename_i r hr'
    cases hM;exact⟨_,body pV A outer s H E hr _ _ hr',F,H,F,a0,λJ F' H' a'=>kk .non F' H' a'.ext .non⟩
   .rename_i d' hr'
    cases hM;exact⟨_,body pV A outer s H E hr _ _ hr',F,H,F,a0,λv F' H' x q=>kk v F' H' x q⟩
   .cases hM
  .cases hM
theorem gF{w:World}{k:Nat}(Fn:sL K x qual st f fd)(S:Zv N ps (Ze st))(hm:mg x=Z (.ref f))(hb:Binds K fd ps [])(body:∀(pV:Value) (A:Around) (outer:List Env) (s:Shared) (H:Hp) (E:XK),Z9 k (A.deeper (envOfC qual (Ze st) s.heap.objs.size f pV))->um (DL rY P w K mg base N qual (Ze st) f pV A outer s H E).nox (BW st) g):Callee P w K mg base (k+1) x (HM.fnOf ps.length N.length g):=by
 refine⟨f,fd,ps,λds d h=>?_,T4 Fn S body,hm,Fn.kp,hb⟩;unfold HM.fnOf at h;split at h
 .assumption
 .cases h
end
section
variable{q:HM.B}{F H:Hp}{ds:List PyData}{K:Ae}
section
variable{X:Cx}{a b c e:Expr}{fa fb fc:HM.EF}{pos p:Pos}
theorem Kl{h:Int->Int->Option PyData}{x y z:PyData}(e:HM.E8 h x y=Z z):∃i j,x=.int i/\y=.int j/\h i j=Z z:=by
 unfold HM.E8 at e;split at e
 .exact⟨_,_,rfl,rfl,e⟩
 .cases e
theorem JJ{g:Int->Int->V}{h:Int->Int->PyData}(hr:∀F i j,Rep K F (h i j) (g i j)):zJ K (vw g) (HM.E8 λi j=>Z (h i j)):=by intro F H x y z v w Q s e r1 r2 k;obtain⟨i,j,rfl,rfl,e⟩:=Kl e;cases e;exact⟨i,j,r1.int_inv,r2.int_inv,k _ (hr F i j)⟩
theorem Bm:JL X .Add HM.Bb:=⟨_,bo,JJ λ_ _ _=>.int _⟩
theorem Og:JL X .Sub HM.JR:=⟨_,aI,JJ λ_ _ _=>.int _⟩
theorem Dt:JL X .Mult HM.Ci:=by
 refine⟨_,aW,λF H x y z v w Q s e r1 r2 k=>?_⟩;obtain⟨i,j,rfl,rfl,e'⟩:=Kl e;split at e'
 .rename_i hs
  cases e';refine⟨i,j,r1.int_inv,r2.int_inv,?_,k _ (.int _)⟩;unfold HM.ZR at hs;rw[Dl,HE,HE]at hs;unfold LG;omega
 .cases e'
theorem xG:JL X .Mod HM.SV:=by
 refine⟨_,bT,λF H x y z v w Q s e r1 r2 k=>?_⟩;obtain⟨i,j,rfl,rfl,e'⟩:=Kl e;split at e'
 .rename_i hs
  cases e';exact⟨i,j,r1.int_inv,r2.int_inv,hs,k _ (.int _)⟩
 .cases e'
theorem yD:D6 X .Lt HM.xy:=⟨⟨_,YU,JJ λ_ _ _=>.bl _⟩,by decide,by decide⟩
theorem xB:D6 X .LtE HM.we:=⟨⟨_,bN,JJ λ_ _ _=>.bl _⟩,by decide,by decide⟩
theorem wN:D6 X .Gt HM.uf:=⟨⟨_,bG,JJ λ_ _ _=>.bl _⟩,by decide,by decide⟩
theorem Rep.non_iff{d:PyData}{v:V}(h:Rep K F d v):decide (v=.non)=match d with | .none=>Aa|_=>Ab:=by cases h<;>first|rfl|exact decide_eq_false (λz=>nomatch z)
theorem GP:D6 X .Is HM.B8:=by
 refine⟨⟨_,aK,λF H x y z v w Q s e r1 r2 k=>?_⟩,by decide,by decide⟩;unfold HM.B8 at e;split at e
 .refine⟨r2.none_inv,k _ ?_⟩
  rw[r1.non_iff];split at e
  .cases e;exact .bl _
  .rename_i hx
   cases e;cases x<;>first|exact .bl _|exact absurd rfl hx
 .cases e
theorem OD:D6 X .IsNot HM.Iw:=by
 refine⟨⟨_,d5,λF H x y z v w Q s e r1 r2 k=>?_⟩,by decide,by decide⟩;unfold HM.Iw at e;split at e
 .refine⟨r2.none_inv,k _ ?_⟩
  rw[r1.non_iff];split at e
  .cases e;exact .bl _
  .rename_i hx
   cases e;cases x<;>first|exact .bl _|exact absurd rfl hx
 .cases e
theorem Q1{h:Heap}:∀{ds:List PyData} {us:List Value},ds.length=us.length->(∀(i:Nat) d u,ds[i]?=Z d->us[i]?=Z u->∃as,Reads h u d as)->∃as,ReadsAll h us ds as
 |[],[],_,_=>⟨[],.nil⟩
 |[],_::_,hl,_=>by simp at hl
 |_::_,[],hl,_=>by simp at hl
 |d::ds,u::us,hl,k=>by obtain⟨as,h1⟩:=k 0 d u rfl rfl;obtain⟨bs,h2⟩:=Q1 (ds:=ds) (us:=us) (by simpa using hl) λi d u e1 e2=>k (i+1) d u (by simpa using e1) (by simpa using e2);exact⟨_,.cons h1 h2⟩
theorem Uq:∀{ds:List PyData},Ln ds=Aa->∀{i:Nat} {d:PyData},ds[i]?=Z d->d.canLay0=Aa
 |[],_,i,d,e=>by simp at e
 |x::ds,h,i,d,e=>by
  have h':(x.canLay0&&Ln ds)=Aa:=h;rw[AJ]at h';cases i with
  |zero=>rw[Oa]at e;cases e;exact h'.1
  |succ i=>rw[DH]at e;exact Uq h'.2 e
theorem U7(h:Ln ds=Aa){i:Nat}{d:PyData}(e:ds[i]?=Z d):d.canLay0=Aa:=Uq h e
theorem Rep.reads{pM:List (Addr×Obj)}{s:Shared}{J:L2.St}{d:PyData}{v:V}(I:Inv X pM J H s)(sub:Zp F H)(r:Rep X.K F d v):d.canLay0=Aa->∀u,RelV v u->∃as,Reads s.heap u d as:=by
 induction r with
 |non=>intro _ u ru;cases ru;exact⟨[],.none⟩
 |bl b=>intro _ u ru;cases ru;exact⟨[],.bool b⟩
 |int i=>intro _ u ru;obtain⟨t,rfl⟩:=ru;exact⟨[],.int i t⟩
 |str x=>intro _ u ru;obtain⟨t,rfl⟩:=ru;exact⟨[],.str x t⟩
 |dct _ _ _ _ _=>intro z;cases z
 |fn _=>intro z;cases z
 | @tupk a x h=>intro z u ru;cases ru;obtain⟨pO,rv,⟨o,ho,hc,n,hd⟩,_⟩:=I.tuple (.inr h);obtain⟨u,rfl,t,rfl⟩:=rv.one;exact⟨_,.tuple ho hc hd (by simpa using ReadsAll.cons (.str x t) .nil)⟩
 | @tup a ds vs h hl _ ih =>
  intro z u ru;cases ru;obtain⟨pO,rv,⟨o,ho,hc,n,hd⟩,_⟩:=I.tuple (.of (sub _ _ h));obtain⟨as,hr⟩:=Q1 (h:=s.heap) (ds:=ds) (us:=pO) (hl.trans rv.length) λi d u e1 e2=>by
   have hi:i<vs.length:=by rw[<-hl];exact(A1.mp e1).1
   obtain⟨u',q1,q2⟩:=rv.get (AN hi);rw[e2]at q1;cases q1;exact ih i d _ e1 (AN hi) (U7 z e1) u q2
  exact⟨_,.tuple ho hc hd (by simpa using hr)⟩
 | @lst a ds vs h hl _ ih =>
  intro z u ru;cases ru;obtain⟨pO,rv,⟨o,n,ho,hc,_,hd⟩,_⟩:=I.list (sub.seq h);obtain⟨as,hr⟩:=Q1 (h:=s.heap) (ds:=ds) (us:=pO) (hl.trans rv.length) λi d u e1 e2=>by
   have hi:i<vs.length:=by rw[<-hl];exact(A1.mp e1).1
   obtain⟨u',q1,q2⟩:=rv.get (AN hi);rw[e2]at q1;cases q1;exact ih i d _ e1 (AN hi) (U7 z e1) u q2
  exact⟨_,.list ho hc hd (by simpa using hr)⟩
def SU(K:Ae)(tX:Bool):R2:=λv w H Q=>∃F x y,Zp F H/\Rep K F x v/\Rep K F y w/\HM.Z3 x=Aa/\HM.Z3 y=Aa/\Q (.bl (if tX then !PyData.eqv x y else BQ x y)) H
theorem IK{d:PyData}(h:HM.Z3 d=Aa):d.canLay0=Aa/\d.depth<=60:=by unfold HM.Z3 at h;simpa using h
theorem bM{k:Nat}(hr:Z9 k X.A):rj X (BP .Eq) (SU X.K Ab):=by intro pM s J H v w u u' Q I r1 r2 ⟨F,x,y,sub,q1,q2,p1,p2,q⟩;obtain⟨a1,a2⟩:=IK p1;obtain⟨b1,b2⟩:=IK p2;obtain⟨as,h1⟩:=q1.reads I sub a1 u r1;obtain⟨bs,h2⟩:=q2.reads I sub b1 u' r2;refine PySem.SeqAt.eqOverData X.prog X.w X.A X.xe s u u' x y as bs _ h1 h2 a1 b1 ?_ ⟨.bl _,H,I,rfl,q⟩;have:=hr.un;have:min x.depth y.depth<=60:=BY (RZ _ _) a2;omega
theorem bH{k:Nat}(hr:Z9 k X.A):rj X (BP .NotEq) (SU X.K Aa):=by intro pM s J H v w u u' Q I r1 r2 ⟨F,x,y,sub,q1,q2,p1,p2,q⟩;obtain⟨a1,a2⟩:=IK p1;obtain⟨b1,b2⟩:=IK p2;obtain⟨as,h1⟩:=q1.reads I sub a1 u r1;obtain⟨bs,h2⟩:=q2.reads I sub b1 u' r2;refine PySem.SeqAt.neOverData X.prog X.w X.A X.xe s u u' x y as bs _ h1 h2 a1 b1 ?_ ⟨.bl _,H,I,rfl,q⟩;have:=hr.un;have:min x.depth y.depth<=60:=BY (RZ _ _) a2;omega
theorem u6{k:Nat}(hr:Z9 k X.A):D6 X .Eq HM.ra:=by
 refine⟨⟨_,bM hr,λF H x y z v w Q s e r1 r2 k=>?_⟩,by decide,by decide⟩;unfold HM.ra at e;split at e
 .rename_i hp
  cases e;rw[AJ]at hp;exact⟨F,x,y,s,r1,r2,hp.1,hp.2,k _ (.bl _)⟩
 .cases e
theorem cNe{k:Nat}(hr:Z9 k X.A):D6 X .NotEq HM.vK:=by
 refine⟨⟨_,bH hr,λF H x y z v w Q s e r1 r2 k=>?_⟩,by decide,by decide⟩;unfold HM.vK at e;split at e
 .rename_i hp
  cases e;rw[AJ]at hp;exact⟨F,x,y,s,r1,r2,hp.1,hp.2,k _ (.bl _)⟩
 .cases e
theorem Ko{v:V}{fp:List Addr}(sub:Zp F H)(r:ZZ K F H q v fp)(h:HM.DQ q=Z ds):∃a vs,v=.ref a/\(qD K H a vs\/rM K H a vs)/\Zq K F ds vs:=by
 cases r with
 |pl r =>
  cases r with
  |tup h1 h2 h3=>cases h;exact⟨_,_,rfl,.inr (.of (sub _ _ h1)),h2,h3⟩
  | @tupk a x h1=>cases h;exact⟨_,_,rfl,.inr (.inr h1),.one (.str x)⟩
  |lst h1 h2 h3=>cases h;exact⟨_,_,rfl,.inl (sub.seq h1),h2,h3⟩
  |dct _ _ _ _=>cases h
  |fn _=>cases h
  |non=>cases h
  |bl _=>cases h
  |int _=>cases h
  |str _=>cases h
 |ol h1 r=>cases h;exact⟨_,_,rfl,.inl (.of h1),r⟩
 |ok _ _ _=>cases h
 |hd _ _ _ _=>cases h
 |hf _=>cases h
 |ot _ _ _=>cases h
 |otl _ _ _ _=>cases h
theorem cp{vs:List V}{i:Int}{d:PyData}(r:Zq K F ds vs)(h:HM.sY ds i=Z d):∃v,wj vs i=Z v/\Rep K F d v:=by
 unfold HM.sY at h;split at h
 .rename_i j hj
  obtain⟨v,h1,h2⟩:=r.get h;refine⟨v,?_,h2⟩;unfold wj;rw[<-r.1,show ub ds.length i=Z j from hj];exact h1
 .cases h
theorem Z0{fb':HM.BF}(ha:XB X a fb')(hb:XE X b fb)(hs:UG b:=by intro _ _;rfl):XE X (.Subscript a b pos) (HM.qy fb' fb):=by
 intro r d h;unfold HM.qy at h;split at h
 .rename_i x hx
  split at h
  .rename_i ds qh
   split at h
   .rename_i i hi
    refine PE.imp (YW cI (ha r x hx) (hb r _ hi) hs) λJ H Q ⟨F0,H0,F,at_,k⟩=>?_;refine⟨F0,H0,F,at_,λv F1 H1 x1 ⟨fp,r1⟩=>⟨F0,H0,F1,at_.grow x1,λw F2 H2 x2 r2=>?_⟩⟩;obtain⟨l,vs,e1,hq,rs⟩:=Ko x2.sub (r1.mono x2.ff λ_ _ _ z=>x2.hh _ _ z) qh;obtain⟨u,hu,ru⟩:=cp rs h;have qC:=k u F2 H2 (x1.trans x2) ru;rcases hq with hq|hq
    .exact .inl ⟨l,vs,i,u,e1,r2.int_inv,hq,hu,qC⟩
    .exact .inr (.inl ⟨l,vs,i,u,e1,r2.int_inv,hq,hu,qC⟩)
   .cases h
  .cases h
 .cases h
def PAB(X:Cx)(e:Expr)(r:HM.Env)(q:HM.B):Prop:=PA X [e] λJ H Q=>sJ X.K r J H λF0 H0 F=>∀v fp F' H',pZ F H F' H'->ZZ X.K F' H' q v fp->Q [v] H'
theorem Fc{f:HM.BF}{r:HM.Env}(ha:XB X e f)(h:f r=Z q)(hs:Ah [e] X.env=[(Ab,eval e X.env)]:=by rfl):PAB X e r q:=by refine PA.imp (Z8 (ha r q h) Cm hs) λJ H Q ⟨F0,H0,F,at_,k⟩=>?_;exact⟨F0,H0,F,at_,λv F1 H1 x1 ⟨fp,r1⟩=>k v fp F1 H1 x1 r1⟩
end
end
theorem aG:Ce "all"=Z (.builtin "all"):=by decide +kernel
theorem cA:Ce "len"=Z (.builtin "len"):=by decide +kernel
theorem Tx:Ce "max"=Z (.builtin "max"):=by decide +kernel
theorem TK:Ce "min"=Z (.builtin "min"):=by decide +kernel
theorem P6:Ce "sorted"=Z (.builtin "sorted"):=by decide +kernel
theorem mB:Ce "isinstance"=Z (.builtin "isinstance"):=by decide +kernel
theorem OG:Ce "int"=Z (.type "int"):=by decide +kernel
theorem eE:Ce "bool"=Z (.type "bool"):=by decide +kernel
theorem du:Ce "list"=Z (.type "list"):=by decide +kernel
theorem PR:Ce "tuple"=Z (.type "tuple"):=by decide +kernel
theorem Ti:Ce "set"=Z (.type "set"):=by decide +kernel
section
variable{X:Cx}{a b c e:Expr}{fa fb fc:HM.EF}{pos p:Pos}{f:HM.BF}
theorem C7(hm:X.mg "len"=Z_)(ha:XB X a f)(hg:Gl X "len":=by rfl)(hs:Ah [a] X.env=[(Ab,eval a X.env)]:=by rfl):XE X (.Call (.Name "len" p) [a] [] pos) (HM.By f):=by
 intro r d h;unfold HM.By at h;split at h
 .rename_i x hx
  obtain⟨n,h1,h2⟩:=Al.mp h;subst h2;refine PE.imp (Fh (k9.or jF) hg hm cA (Fc ha hx hs) (he:=hs)) λJ H Q ⟨F0,H0,F,at_,k⟩=>?_;refine⟨F0,H0,F,at_,λv fp F1 H1 x1 r1=>?_⟩;have qC:=λ(m:Nat) (e:m=n)=>k (.int m) F1 H1 x1 (by rw[e];exact .int _);cases r1 with
  |pl q =>
   cases q with
   |tup q1 q2 q3=>cases h1;exact .inl ⟨_,_,rfl,.inr (.of (x1.sub _ _ q1)),qC _ q2.symm⟩
   |tupk q1=>cases h1;exact .inl ⟨_,_,rfl,.inr (.inr q1),qC _ rfl⟩
   |lst q1 q2 q3=>cases h1;exact .inl ⟨_,_,rfl,.inl (x1.sub.seq q1),qC _ q2.symm⟩
   |dct _ _ _ _=>cases h1
   |fn _=>cases h1
   |non=>cases h1
   |bl _=>cases h1
   |int _=>cases h1
   |str _=>cases h1
  |ol q1 q2=>cases h1;exact .inl ⟨_,_,rfl,.inl (.of q1),qC _ q2.1.symm⟩
  |ok q1 q2 q3=>cases h1;refine .inr ⟨_,_,rfl,q1,qC _ ?_⟩;have:=congrArg Bx q2;rw[Af,Af]at this;exact this.symm
  |ot _ _ _=>cases h1
  |otl _ _ _ _=>cases h1
  |hd _ _ _ _=>cases h1
  |hf _=>cases h1
 .cases h
theorem Z6(hm:X.mg "tuple"=Z_)(ha:XB X a f)(hg:Gl X "tuple":=by rfl)(hs:Ah [a] X.env=[(Ab,eval a X.env)]:=by rfl):XE X (.Call (.Name "tuple" p) [a] [] pos) (HM.CF f):=by
 intro r d h;unfold HM.CF at h;split at h
 .rename_i x hx
  obtain⟨ds,h1,h2⟩:=Al.mp h;subst h2;refine PE.imp (Gf mz hg hm PR (Fc ha hx hs) (he:=hs)) λJ H Q ⟨F0,H0,F,at_,k⟩=>?_;refine⟨F0,H0,F,at_,λv fp F1 H1 x1 r1=>?_⟩;have new:∀(vs:List V),Zq X.K F1 ds vs->∀l,H1 l=Z_->Q (.ref l) (upd H1 l (.tup vs)):=λvs q l hl=>k _ (upd F1 l (.tup vs)) _ (x1.lay hl) (.tup ZD q.1 (q.mono (Zp.upd' (x1.sub.free hl))).2);cases r1 with
  |pl q =>
   cases q with
   |tup q1 q2 q3=>cases h1;exact⟨_,_,rfl,.inr ⟨.of (x1.sub _ _ q1),k _ F1 H1 x1 (.tup q1 q2 q3)⟩⟩
   |tupk q1=>cases h1;exact⟨_,_,rfl,.inr ⟨.inr q1,k _ F1 H1 x1 (.tupk q1)⟩⟩
   |lst q1 q2 q3=>cases h1;exact⟨_,_,rfl,.inl ⟨x1.sub.seq q1,new _ ⟨q2,q3⟩⟩⟩
   |dct _ _ _ _=>cases h1
   |fn _=>cases h1
   |non=>cases h1
   |bl _=>cases h1
   |int _=>cases h1
   |str _=>cases h1
  |ol q1 q2=>cases h1;exact⟨_,_,rfl,.inl ⟨.of q1,new _ q2⟩⟩
  |ok _ _ _=>cases h1
  |ot _ _ _=>cases h1
  |otl _ _ _ _=>cases h1
  |hd _ _ _ _=>cases h1
  |hf _=>cases h1
 .cases h
theorem Hh{K:Ae}{F H F1 H1:Hp}{ds:List PyData}{vs:List V}{l:Addr}{P:V->Hp->Hp->Prop}(x1:pZ F H F1 H1)(q:Zq K F1 ds vs)(hl:H1 l=Z_)(k:∀v F' H',pZ F H F' H'->(∃fp,ZZ K F' H' (.ol ds) v fp/\fp.Nodup/\∀a∈fp,F' a=Z_/\H a=Z_)->P v F' H'):P (.ref l) F1 (upd H1 l (.lst vs)):=by
 refine k _ F1 _ (x1.lay' hl) ⟨[l],.ol ZD q,by simp,λa ha=>?_⟩;have:a=l:=by simpa using ha
 subst this;exact⟨x1.sub.free hl,x1.hh.free hl⟩
theorem Mw(hm:X.mg "list"=Z_)(ha:XB X a f)(hg:Gl X "list":=by rfl)(hs:Ah [a] X.env=[(Ab,eval a X.env)]:=by rfl):XF X (.Call (.Name "list" p) [a] [] pos) (HM.Mx f):=by
 intro r d h;unfold HM.Mx at h;split at h
 .rename_i x hx
  obtain⟨ds,h1,h2⟩:=Al.mp h;subst h2;refine PE.imp (Gf lF hg hm du (Fc ha hx hs) (he:=hs)) λJ H Q ⟨F0,H0,F,at_,k⟩=>?_;refine⟨F0,H0,F,at_,λv fp F1 H1 x1 r1=>?_⟩;obtain⟨l,vs,e1,hq,rs⟩:=Ko x1.sub r1 h1;subst e1;exact⟨l,vs,rfl,hq,λl' hl'=>Hh (P:=λv _ H'=>Q v H') x1 rs hl' k⟩
 .cases h
theorem Wx{K:Ae}{F:Hp}:∀{ds:List PyData} {vs:List V} {bs:List Bool},HM.G9 ds=Z bs->Zq K F ds vs->vs=bs.map V.bl
 |[],vs,bs,h,r=>by cases h;exact r.nil_inv
 |d::ds,vs,bs,h,r=>by
  obtain⟨v,us,rfl,r1,r2⟩:=r.cons_inv;cases d with
  |bool b=>obtain⟨bs',h1,h2⟩:=Al.mp h;subst h2;rw[r1.bool_inv,Wx h1 r2];rfl
  |none=>cases h
  |int _=>cases h
  |str _=>cases h
  |list _=>cases h
  |tuple _=>cases h
  |dict _=>cases h
end
section
variable{p2:Pos}
section
variable{X:Cx}{a b c e:Expr}{fa fb fc:HM.EF}{pos p:Pos}{f:HM.BF}
theorem kS:∀{bs:List Bool} {us:List Value},pQ (bs.map V.bl) us->LSm.BoolsAre us bs:=by
 intro bs
 induction bs with
 |nil=>intro us r;rw[FG]at r;cases r;exact .nil
 |cons b bs ih =>
  intro us r;rw[Ak]at r;cases r with
  |cons r1 r2=>cases r1;exact .cons b (ih r2)
theorem cZ{A:Around}{s:Shared}{l:Addr}{vs:List Value}{bs:List Bool}{dflt:Bool}(hh:A.handled=Z_)(hl:s.heap.IsList l vs.toArray)(hb:LSm.BoolsAre vs bs){E:Value->Shared->Prop}{Q:Value->Shared->Prop}{prog:Program}{w:World}(h:∀it fp wr (P:Nat->Value->Prop) St,Walks prog w A it fp wr vs.length P St->St 0 (s.heap.push {cls:=.type "list_iterator",data:=.fields #[.ref l,rawInt 0]})->TruthOf prog w A P (λi=>(bs[i]?).getD dflt)->wr=[s.heap.objs.size]->it=s.heap.objs.size->Q (.ref it) {s with heap:=s.heap.push {cls:=.type "list_iterator",data:=.fields #[.ref l,rawInt 0]}}):wpAny (model prog w) A (pyIter (.ref l)) Q E s:=by
 have ql:l<s.heap.objs.size:=let ⟨_,e,_⟩:=hl;Aq e
 refine N4 hl ?_;have W:=Nd (prog:=prog) (w:=w) hh s.heap.objs.size l (Aw ql) vs.toArray;rw[AL]at W;refine h _ _ _ _ _ W ⟨⟨_,AS _ rfl,rfl,rfl⟩,hl.push _⟩ (λi v s' Q' E' hP hQ=>?_) rfl rfl;obtain⟨b,e,rfl⟩:=hb.get i v (by simpa using hP);simp only[e,Option.getD_some]at hQ;exact EX hQ
theorem iQ(hc:X.calm=Aa):Be X (.builtin "all") (λxs H Q=>∃(p:Addr) (bs:List Bool),xs=[.ref p]/\qD X.K H p (bs.map V.bl)/\Q (.bl (bs.all id)) H):=by intro pM s J H xs us Q I r h;obtain⟨p,bs,rfl,hq,q⟩:=h;obtain⟨u,rfl,rx⟩:=vals1 r;cases rx;obtain⟨pO,rv,pl,hz⟩:=I.list hq;have hb:=kS rv;refine call_all_walk (cZ (dflt:=Aa) (A:=X.A.in1) (I.ok.hd hc) pl.isList hb λit fp wr P St W st tr e1 e2=>?_);subst e1 e2;refine⟨_,_,_,_,P,St,_,rfl,W,st,tr,λh' tk hk=>?_⟩;rw[hb.length,LSm.range_all bs];exact⟨.bl _,H,I.kept (LSm.kept_iter hk),rfl,q⟩
theorem Hf{K:Ae}{F H:Hp}{q:HM.B}{v:V}{fp:List Addr}{ds:List PyData}(sub:Zp F H)(r:ZZ K F H q v fp)(h:HM.Ij q=Z ds):∃a vs,v=.ref a/\qD K H a vs/\Zq K F ds vs:=by
 cases r with
 |pl r =>
  cases r with
  |lst h1 h2 h3=>cases h;exact⟨_,_,rfl,sub.seq h1,h2,h3⟩
  |dct _ _ _ _=>cases h
  |fn _=>cases h
  |tupk _=>cases h
  |tup _ _ _=>cases h
  |non=>cases h
  |bl _=>cases h
  |int _=>cases h
  |str _=>cases h
 |ol h1 r=>cases h;exact⟨_,_,rfl,.of h1,r⟩
 |ok _ _ _=>cases h
 |hd _ _ _ _=>cases h
 |hf _=>cases h
 |ot _ _ _=>cases h
 |otl _ _ _ _=>cases h
theorem IB(hm:X.mg "all"=Z_)(hc:X.calm=Aa)(ha:XB X a f)(hg:Gl X "all":=by rfl)(hs:Ah [a] X.env=[(Ab,eval a X.env)]:=by rfl):XE X (.Call (.Name "all" p) [a] [] pos) (HM.Il f):=by
 intro r d h;unfold HM.Il at h;split at h
 .rename_i x hx
  split at h
  .rename_i ds qh
   obtain⟨bs,h1,h2⟩:=Al.mp h;subst h2;refine PE.imp (Fh (iQ hc) hg hm aG (Fc ha hx hs) (he:=hs)) λJ H Q ⟨F0,H0,F,at_,k⟩=>?_;refine⟨F0,H0,F,at_,λv fp F1 H1 x1 r1=>?_⟩;obtain⟨l,vs,e1,hq,rs⟩:=Hf x1.sub r1 qh;rw[Wx h1 rs]at hq;exact⟨l,bs,by rw[e1],hq,k _ F1 H1 x1 (.bl _)⟩
  .cases h
 .cases h
theorem OZ{tR:String}{t:HM.Ty}(hr:∀(s:Shared) (d:PyData) (v:V) (u:Value) (Q:Value->Shared->Prop),RelV v u->(∃(K:Ae) (F:Hp),Rep K F d v)->(∀es,d≠.dict es)->(∀x,v=.ref x->∃o,s.heap.get? x=Z o/\((∃ds,d=.tuple ds/\o.cls=.type "tuple")\/(∃ds,d=.list ds/\o.cls=.type "list")\/∃ds,d=.dict ds/\o.cls=.type "dict")) ->
   (∀tk,Q (.bool (HM.nz t d)) {s with toks:=tk})->wpAny (model X.prog X.w) X.A (call (.builtin "isinstance") [u,.type tR]) Q X.xe s):
  Be X (.builtin "isinstance") (λxs H Q=>∃F d v,xs=[v,.ty tR]/\Zp F H/\Rep X.K F d v/\(∀es,d≠.dict es)/\Q (.bl (HM.nz t d)) H):=by
 intro pM s J H xs us Q I r h;obtain⟨F,d,v,rfl,sub,rp,nd,q⟩:=h;obtain⟨u,u',rfl,ru,ru'⟩:=vals2 r;cases(show u'=Fy tR from ru');refine hr s d v u _ ru ⟨_,_,rp⟩ nd (λx e=>?_) λtk=>⟨.bl _,H,I.tok tk,rfl,q⟩;subst e;cases rp with
 |tup h1 h2 h3=>obtain⟨pO,rv,⟨o,ho,hc,n,hd⟩,_⟩:=I.tuple (.of (sub _ _ h1));exact⟨o,ho,.inl ⟨_,rfl,hc⟩⟩
 |tupk h1=>obtain⟨pO,rv,⟨o,ho,hc,n,hd⟩,_⟩:=I.tuple (.inr h1);exact⟨o,ho,.inl ⟨_,rfl,hc⟩⟩
 |lst h1 h2 h3=>obtain⟨pO,rv,⟨o,n,ho,hc,_,hd⟩,_⟩:=I.list (sub.seq h1);exact⟨o,ho,.inr (.inl ⟨_,rfl,hc⟩)⟩
 | @dct a es kvs vvs h1 _ _ _=>obtain⟨_,_,xs,_,o,es,ep,q1,q2,_⟩:=(show ZT X.prog X.w H s.heap x (.dT vvs) from JU I.hok (L0 h1 sub));exact⟨o,q1,.inr (.inr ⟨_,rfl,q2.1⟩)⟩
 |fn _=>exact absurd rfl (nd _)
theorem fG:Be X (.builtin "isinstance") (λxs H Q=>∃F d v,xs=[v,.ty "bool"]/\Zp F H/\Rep X.K F d v/\(∀es,d≠.dict es)/\Q (.bl (HM.nz .bool d)) H):=by
 refine OZ λs d v u Q ru ⟨K,F,rp⟩ nd ho k=>?_;cases rp with
 |non=>cases ru;exact IsiPair.NoneType_bool (k _)
 |bl _=>cases ru;exact IsiPair.bool_bool (k _)
 |int _=>obtain⟨t,rfl⟩:=ru;exact IsiPair.int_bool (k _)
 |str _=>obtain⟨t,rfl⟩:=ru;exact IsiPair.str_bool (k _)
 |tup _ _ _|tupk _ =>
  cases ru;obtain⟨o,h1,⟨_,_,h2⟩|⟨_,e,_⟩|⟨_,e,_⟩⟩:=ho _ rfl
  .exact IsiPair.tuple_bool h1 h2 (k _)
  .cases e
  .cases e
 |lst _ _ _ =>
  cases ru;obtain⟨o,h1,⟨_,e,_⟩|⟨_,_,h2⟩|⟨_,e,_⟩⟩:=ho _ rfl
  .cases e
  .exact IsiPair.list_bool h1 h2 (k _)
  .cases e
 |dct _ _ _ _ =>
  cases ru;obtain⟨o,h1,⟨_,e,_⟩|⟨_,e,_⟩|⟨_,_,h2⟩⟩:=ho _ rfl
  .cases e
  .cases e
  .exact IsiPair.dict_bool h1 h2 (k _)
 |fn _=>exact absurd rfl (nd _)
theorem eK:Be X (.builtin "isinstance") (λxs H Q=>∃F d v,xs=[v,.ty "int"]/\Zp F H/\Rep X.K F d v/\(∀es,d≠.dict es)/\Q (.bl (HM.nz .int d)) H):=by
 refine OZ λs d v u Q ru ⟨K,F,rp⟩ nd ho k=>?_;cases rp with
 |non=>cases ru;exact IsiPair.NoneType_int (k _)
 |bl _=>cases ru;exact IsiPair.bool_int (k _)
 |int _=>obtain⟨t,rfl⟩:=ru;exact IsiPair.int_int (k _)
 |str _=>obtain⟨t,rfl⟩:=ru;exact IsiPair.str_int (k _)
 |tup _ _ _|tupk _ =>
  cases ru;obtain⟨o,h1,⟨_,_,h2⟩|⟨_,e,_⟩|⟨_,e,_⟩⟩:=ho _ rfl
  .exact IsiPair.tuple_int h1 h2 (k _)
  .cases e
  .cases e
 |lst _ _ _ =>
  cases ru;obtain⟨o,h1,⟨_,e,_⟩|⟨_,_,h2⟩|⟨_,e,_⟩⟩:=ho _ rfl
  .cases e
  .exact IsiPair.list_int h1 h2 (k _)
  .cases e
 |dct _ _ _ _ =>
  cases ru;obtain⟨o,h1,⟨_,e,_⟩|⟨_,e,_⟩|⟨_,_,h2⟩⟩:=ho _ rfl
  .cases e
  .cases e
  .exact IsiPair.dict_int h1 h2 (k _)
 |fn _=>exact absurd rfl (nd _)
theorem iX:Be X (.builtin "isinstance") (λxs H Q=>∃F d v,xs=[v,.ty "tuple"]/\Zp F H/\Rep X.K F d v/\(∀es,d≠.dict es)/\Q (.bl (HM.nz .tuple d)) H):=by
 refine OZ λs d v u Q ru ⟨K,F,rp⟩ nd ho k=>?_;cases rp with
 |non=>cases ru;exact IsiPair.NoneType_tuple (k _)
 |bl _=>cases ru;exact IsiPair.bool_tuple (k _)
 |int _=>obtain⟨t,rfl⟩:=ru;exact IsiPair.int_tuple (k _)
 |str _=>obtain⟨t,rfl⟩:=ru;exact IsiPair.str_tuple (k _)
 |tup _ _ _|tupk _ =>
  cases ru;obtain⟨o,h1,⟨_,_,h2⟩|⟨_,e,_⟩|⟨_,e,_⟩⟩:=ho _ rfl
  .exact IsiPair.tuple_tuple h1 h2 (k _)
  .cases e
  .cases e
 |lst _ _ _ =>
  cases ru;obtain⟨o,h1,⟨_,e,_⟩|⟨_,_,h2⟩|⟨_,e,_⟩⟩:=ho _ rfl
  .cases e
  .exact IsiPair.list_tuple h1 h2 (k _)
  .cases e
 |dct _ _ _ _ =>
  cases ru;obtain⟨o,h1,⟨_,e,_⟩|⟨_,e,_⟩|⟨_,_,h2⟩⟩:=ho _ rfl
  .cases e
  .cases e
  .exact IsiPair.dict_tuple h1 h2 (k _)
 |fn _=>exact absurd rfl (nd _)
theorem O2{tR:Str}{yN:String}{t:HM.Ty}(hR:Be X (.builtin "isinstance") (λxs H Q=>∃F d v,xs=[v,.ty yN]/\Zp F H/\Rep X.K F d v/\(∀es,d≠.dict es)/\Q (.bl (HM.nz t d)) H))(bt:Ce tR=Z (.type yN))(hm:X.mg "isinstance"=Z_)(sG:X.mg tR=Z_)(ha:XE X a fa)(hg:Gl X "isinstance")(tZ:Gl X tR)(hn:tR ≠ "__name__")(hd:(tR==("__debug__":Str))=Ab)(se:Ah [a,.Name tR p2] X.env=(Ab,eval a X.env)::Ah [.Name tR p2] X.env)(sd:Ah [.Name tR p2] X.env=[(Ab,eval (.Name tR p2) X.env)]):XE X (.Call (.Name "isinstance" p) [a,.Name tR p2] [] pos) (HM.Iv fa t):=by
 intro r d h;have key:∃x,fa r=Z x/\(∀es,x≠.dict es)/\d=.bool (HM.nz t x):=by
  unfold HM.Iv at h;split at h
  .cases h
  .rename_i x hn hx
   cases h;exact⟨x,hx,λes z=>hn es (by rw[z]),rfl⟩
  .cases h
 obtain⟨x,h1,nd,h2⟩:=key;subst h2;refine PE.imp (Fh hR hg hm mB (Z8 (ha r x h1) (Z8 (eR (v:=.ty yN) tZ sG bt rfl hn hd) Cm (by rw[sd];rfl)) se) (he:=se) (hpl:=by rw[sd];rfl)) λJ H Q ⟨F0,H0,F,at_,k⟩=>?_;exact⟨F0,H0,F,at_,λv F1 H1 x1 r1=>⟨F1,x,v,rfl,x1.sub,r1,nd,k _ F1 H1 x1 (.bl _)⟩⟩
theorem WW(hm:X.mg "isinstance"=Z_)(sG:X.mg "bool"=Z_)(ha:XE X a fa)(hg:Gl X "isinstance":=by rfl)(tZ:Gl X "bool":=by rfl)(se:Ah [a,.Name "bool" p2] X.env=(Ab,eval a X.env)::Ah [.Name "bool" p2] X.env:=by rfl):XE X (.Call (.Name "isinstance" p) [a,.Name "bool" p2] [] pos) (HM.Iv fa .bool):=O2 fG eE hm sG ha hg tZ (by decide) (by decide) se rfl
theorem WC(hm:X.mg "isinstance"=Z_)(sG:X.mg "int"=Z_)(ha:XE X a fa)(hg:Gl X "isinstance":=by rfl)(tZ:Gl X "int":=by rfl)(se:Ah [a,.Name "int" p2] X.env=(Ab,eval a X.env)::Ah [.Name "int" p2] X.env:=by rfl):XE X (.Call (.Name "isinstance" p) [a,.Name "int" p2] [] pos) (HM.Iv fa .int):=O2 eK OG hm sG ha hg tZ (by decide) (by decide) se rfl
theorem Xx(hm:X.mg "isinstance"=Z_)(sG:X.mg "tuple"=Z_)(ha:XE X a fa)(hg:Gl X "isinstance":=by rfl)(tZ:Gl X "tuple":=by rfl)(se:Ah [a,.Name "tuple" p2] X.env=(Ab,eval a X.env)::Ah [.Name "tuple" p2] X.env:=by rfl):XE X (.Call (.Name "isinstance" p) [a,.Name "tuple" p2] [] pos) (HM.Iv fa .tuple):=O2 iX PR hm sG ha hg tZ (by decide) (by decide) se rfl
theorem cf(hm:X.mg "max"=Z_)(hc:X.calm=Aa)(ha:XE X a fa)(hb:XE X b fb)(hg:Gl X "max":=by rfl)(se:Ah [a,b] X.env=(Ab,eval a X.env)::Ah [b] X.env:=by rfl)(sd:Ah [b] X.env=[(Ab,eval b X.env)]:=by rfl):XE X (.Call (.Name "max" p) [a,b] [] pos) (HM.pT HM.cK fa fb):=by
 intro r d h;obtain⟨x,y,h1,h2,h3⟩:=J9 h;obtain⟨i,j,rfl,rfl,e⟩:=Kl h3;cases e;refine PE.imp (Fh (ja hc) hg hm Tx (Z8 (ha r _ h1) (Z8 (hb r _ h2) Cm sd) se) (he:=se) (hpl:=by rw[sd];rfl)) λJ H Q ⟨F0,H0,F,at_,k⟩=>?_;exact⟨F0,H0,F,at_,λv F1 H1 x1 r1=>⟨F0,H0,F1,at_.grow x1,λw F2 H2 x2 r2=>⟨i,j,by rw[r1.int_inv,r2.int_inv],k _ F2 H2 (x1.trans x2) (.int _)⟩⟩⟩
theorem b9(hm:X.mg "min"=Z_)(hc:X.calm=Aa)(ha:XE X a fa)(hb:XE X b fb)(hg:Gl X "min":=by rfl)(se:Ah [a,b] X.env=(Ab,eval a X.env)::Ah [b] X.env:=by rfl)(sd:Ah [b] X.env=[(Ab,eval b X.env)]:=by rfl):XE X (.Call (.Name "min" p) [a,b] [] pos) (HM.pT HM.bC fa fb):=by
 intro r d h;obtain⟨x,y,h1,h2,h3⟩:=J9 h;obtain⟨i,j,rfl,rfl,e⟩:=Kl h3;cases e;refine PE.imp (Fh (i8 hc) hg hm TK (Z8 (ha r _ h1) (Z8 (hb r _ h2) Cm sd) se) (he:=se) (hpl:=by rw[sd];rfl)) λJ H Q ⟨F0,H0,F,at_,k⟩=>?_;exact⟨F0,H0,F,at_,λv F1 H1 x1 r1=>⟨F0,H0,F1,at_.grow x1,λw F2 H2 x2 r2=>⟨i,j,by rw[r1.int_inv,r2.int_inv],k _ F2 H2 (x1.trans x2) (.int _)⟩⟩⟩
theorem gD(hm:X.mg "int"=Z_)(ha:XE X a fa)(hg:Gl X "int":=by rfl)(hs:Ah [a] X.env=[(Ab,eval a X.env)]:=by rfl):XE X (.Call (.Name "int" p) [a] [] pos) (HM.lG fa):=by
 intro r d h;unfold HM.lG at h;split at h
 .rename_i i hi
  cases h;refine PE.imp (Gf VX hg hm OG (Z8 (ha r _ hi) Cm hs) (he:=hs)) λJ H Q ⟨F0,H0,F,at_,k⟩=>?_;exact⟨F0,H0,F,at_,λv F1 H1 x1 r1=>.inl ⟨i,by rw[r1.int_inv],k _ F1 H1 x1 (.int _)⟩⟩
 .rename_i q hq
  cases h;refine PE.imp (Gf VX hg hm OG (Z8 (ha r _ hq) Cm hs) (he:=hs)) λJ H Q ⟨F0,H0,F,at_,k⟩=>?_;exact⟨F0,H0,F,at_,λv F1 H1 x1 r1=>.inr ⟨q,by rw[r1.bool_inv],k _ F1 H1 x1 (.int _)⟩⟩
 .cases h
end
end
section
variable{ga:HM.BF}{r:HM.Env}{F F0 H H0:Hp}{J:L2.St}{ds:List PyData}{vs:List V}{i:Nat}{p1 p2:Pos}{K:Ae}{x:Str}
section
variable{X:Cx}{a b c e:Expr}{fa fb fc:HM.EF}{pos p:Pos}{f:HM.BF}{tg:Expr}
theorem PI.imp{X:Cx}{tg e:Expr}{t u:TI}(h:PI X tg e t)(hi:∀J H R,u J H R->t J H R):PI X tg e u:=λpM s J H R I q=>h pM s J H R I (hi J H R q)
theorem a7{l:Expr}{tl:TE}(hl:PE X l tl):PI X tg l (λJ H R=>tl J H λx H1=>∃a,x=.ref a/\((∃xs,qD X.K H1 a xs)/\R (zG X.K a) H1\/(∃xs,rM X.K H1 a xs)/\R (yJ X.K a) H1)):=by
 intro pM s J H R I h;refine pW (hl pM s J H _ I h) λv s1 ⟨x,H1,I1,r1,q1⟩=>?_;obtain⟨a,e,q1⟩:=q1;subst e;cases r1;rcases q1 with⟨⟨xs,hq⟩,q⟩|⟨⟨xs,hq⟩,q⟩
 .obtain⟨pO,rv,p,hz⟩:=I1.list hq
  refine N4 p.isList ⟨s1.heap.objs.size,[s1.heap.objs.size],_,_,H1,rfl,I1.kept (t':=s1.toks) λb o e=>Ar _ e,i4 a _,⟨_,AS _ rfl,rfl,rfl⟩,λb hb=>?_,q⟩;obtain rfl:b=s1.heap.objs.size:=by simpa using hb
  exact I1.fpOk (Ai _) (I1.hok.fresh (Ai _))
 .obtain⟨pO,rv,p,hz⟩:=I1.tuple hq
  refine wpAny_pyIter_tuple (show s1.heap.IsTuple a pO.toArray from p) ⟨s1.heap.objs.size,[s1.heap.objs.size],_,_,H1,rfl,I1.kept (t':=s1.toks) λb o e=>Ar _ e,kj a _,⟨_,AS _ rfl,rfl,rfl⟩,λb hb=>?_,q⟩;obtain rfl:b=s1.heap.objs.size:=by simpa using hb
  exact I1.fpOk (Ai _) (I1.hok.fresh (Ai _))
theorem gn{a:Addr}(h:qD K F a vs)(r:Zq K F ds vs):vO K (zG K a) ds F:=by intro F' H s1 s2;have hq:qD K H a vs:=(s1.trans s2).seq h;refine⟨λi d hd=>?_,⟨vs,hq,by rw[r.1];exact Ai _⟩⟩;obtain⟨v,h1,h2⟩:=r.get hd;refine⟨⟨vs,v,hq,h1⟩,λx H' hy=>?_⟩;obtain⟨e,y⟩:=hy;refine⟨e,?_⟩;have:=y vs hq;rw[h1]at this;cases this;exact h2.mono (s1.trans (Fd s2))
theorem hJ{a:Addr}(h:rM K F a vs)(r:Zq K F ds vs):vO K (yJ K a) ds F:=by intro F' H s1 s2;have hq:rM K H a vs:=gV h (s1.trans s2);refine⟨λi d hd=>?_,⟨vs,hq,by rw[r.1];exact Ai _⟩⟩;obtain⟨v,h1,h2⟩:=r.get hd;refine⟨⟨vs,v,hq,h1⟩,λx H' hy=>?_⟩;obtain⟨e,y⟩:=hy;refine⟨e,?_⟩;have:=y vs hq;rw[h1]at this;cases this;exact h2.mono (s1.trans (Fd s2))
theorem dZ{a:Addr}(h:F a=Z (.tup vs))(r:Zq K F ds vs):vO K (yJ K a) ds F:=by intro F' H s1 s2;have hq:rM K H a vs:=.of (s2 _ _ (s1 _ _ h));refine⟨λi d hd=>?_,⟨vs,hq,by rw[r.1];exact Ai _⟩⟩;obtain⟨v,h1,h2⟩:=r.get hd;refine⟨⟨vs,v,hq,h1⟩,λx H' hy=>?_⟩;obtain⟨e,y⟩:=hy;refine⟨e,?_⟩;have:=y vs hq;rw[h1]at this;cases this;exact h2.mono (s1.trans (Fd s2))
theorem ZS(h:XE X e fa):XI X tg e (HM.ZW (HM.qg fa)):=by
 intro r ds hd;unfold HM.ZW HM.qg at hd;cases hx:fa r with
 |none=>rw[hx]at hd;cases hd
 |some d =>
  rw[hx]at hd;have hd:HM.DQ (.pl d)=Z ds:=hd;refine PI.imp (a7 (h r d hx)) λJ H R ⟨F0,H0,F,at_,k⟩=>?_;refine⟨F0,H0,F,at_,λv F1 H1 x1 r1=>?_⟩;cases r1 with
  | @tupk a x h1=>cases hd;exact⟨a,rfl,.inr ⟨⟨_,.inr h1⟩,k _ F1 H1 x1 (hJ (.inr h1) (.one (.str x)))⟩⟩
  | @tup a ds' vs h1 h2 h3=>cases hd;exact⟨a,rfl,.inr ⟨⟨vs,.of (x1.sub _ _ h1)⟩,k _ F1 H1 x1 (dZ h1 ⟨h2,h3⟩)⟩⟩
  | @lst a ds' vs h1 h2 h3=>cases hd;exact⟨a,rfl,.inl ⟨⟨vs,x1.sub.seq h1⟩,k _ F1 H1 x1 (gn h1 ⟨h2,h3⟩)⟩⟩
  |dct _ _ _ _=>cases hd
  |fn _=>cases hd
  |non=>cases hd
  |bl _=>cases hd
  |int _=>cases hd
  |str _=>cases hd
theorem dS(lo:Int)(n:Nat):vO K (yK lo n) (HM.Jb lo n) F:=by
 intro F' H s1 s2;have hl:(HM.Jb lo n).length=n:=by unfold HM.Jb;rw[Af,C1]
 refine⟨λi d hd=>?_,?_⟩
 .have hi:i<n:=by rw[<-hl];exact(A1.mp hd).1
  unfold HM.Jb at hd;rw[AE,R9 hi]at hd;cases hd;exact⟨hi,λx H' ⟨e1,e2⟩=>⟨e1,by rw[e2];exact .int _⟩⟩
 .rw[hl];exact Ai _
theorem Uu{j:Int}(h:HM.ua j=Aa):-1000000<j/\j<1000000:=by unfold HM.ua at h;rw[HE]at h;omega
theorem Fp(hm:X.mg "range"=Z_)(ha:XE X a fa)(hg:Gl X "range":=by rfl)(hs:Ah [a] X.env=[(Ab,eval a X.env)]:=by rfl):XI X tg (.Call (.Name "range" p) [a] [] pos) (HM.DA fa):=by
 intro r ds hd;unfold HM.DA at hd;split at hd
 .rename_i j hj
  split at hd
  .rename_i hok
   cases hd;obtain⟨k1,k2⟩:=Uu hok;refine PI.imp (jR hg hm (Z8 (ha r _ hj) Cm hs) hs) λJ H R ⟨F0,H0,F,at_,k⟩=>?_;exact⟨F0,H0,F,at_,λv F1 H1 x1 r1=>⟨j,by rw[r1.int_inv],by omega,by omega,k _ F1 H1 x1 (dS 0 j.toNat)⟩⟩
  .cases hd
 .cases hd
theorem J1{gb:HM.BF}(ha:XB X a ga)(hb:XB X b gb):XF X (.BinOp a .Add b pos) (HM.JW ga gb):=by
 intro r d h;unfold HM.JW at h;split at h
 .rename_i xs hx
  split at h
  .rename_i ys hy
   split at h
   .rename_i hz
    cases h;refine PE.imp (OB da (ha r _ hx) (hb r _ hy)) λJ H Q ⟨F0,H0,F,at_,k⟩=>?_;refine⟨F0,H0,F,at_,λv F1 H1 x1 ⟨fp,r1⟩=>⟨F0,H0,F1,at_.grow x1,λw F2 H2 x2 ⟨fq,r2⟩=>?_⟩⟩;cases r1 with
    |ol h1 q1 =>
     cases r2 with
     |ol h2 q2 =>
      have q1':=q1.mono x2.ff;refine⟨_,_,_,_,rfl,rfl,x2.hh _ _ h1,h2,?_,λl hl=>Hh (P:=λv _ H'=>Q v H') (x1.trans x2) (q1'.append q2) hl k⟩;have e1:=q1.1;have e2:=q2.1;have e3:(1000000:Nat)<=sizeLine:=by decide
      unfold HM.big at hz;omega
   .cases h
  .cases h
 .cases h
theorem b8(ha:XB X a ga)(hb:XE X b fb):XF X (.BinOp a .Mult b pos) (HM.fz ga fb):=by
 intro r d h;unfold HM.fz at h;split at h
 .rename_i xs hx
  split at h
  .rename_i i hy
   split at h
   .rename_i hz
    cases h;rw[AJ,decide_eq_true_eq,decide_eq_true_eq]at hz;refine PE.imp (OB bR (ha r _ hx) (hb r _ hy)) λJ H Q ⟨F0,H0,F,at_,k⟩=>?_;refine⟨F0,H0,F,at_,λv F1 H1 x1 ⟨fp,r1⟩=>⟨F0,H0,F1,at_.grow x1,λw F2 H2 x2 r2=>?_⟩⟩;cases r1 with
    |ol h1 q1 =>
     have q1':=q1.mono x2.ff;refine⟨_,i,_,rfl,r2.int_inv,x2.hh _ _ h1,by omega,by omega,?_,λl hl=>Hh (P:=λv _ H'=>Q v H') (x1.trans x2) (q1'.rep i.toNat) hl k⟩;have e1:=q1.1;have e3:(1000*1000:Nat)<=sizeLine:=by decide
     refine BY (Nat.mul_le_mul (?_:_<=1000) (?_:_<=1000)) e3<;>omega
   .cases h
  .cases h
 .cases h
def XO(X:Cx)(e:Option Expr)(f:Option HM.EF):Prop:=∀r o,HM.TM f r=Z o->PO X e λJ H Q=>sJ X.K r J H λF0 H0 F=>∀F' H',pZ F H F' H'->Q o H'
theorem eS:XO X Z_ Z_:=by intro r o h;cases h;intro pM s J H Q I q;obtain⟨F0,H0,F,at_,k⟩:=q;exact fV pM s J H Q I (k F H at_.refl)
theorem dg(h:XE X e fa):XO X (Z e) (Z fa):=by
 intro r o ho;unfold HM.TM at ho;split at ho
 .rename_i z;cases z
 .rename_i g z
  cases z;split at ho
  .rename_i i hi
   cases ho;intro pM s J H Q I q;obtain⟨F0,H0,F,at_,k⟩:=q;exact dD (h r _ hi) pM s J H Q I ⟨F0,H0,F,at_,λv F1 H1 x1 r1=>⟨i,r1.int_inv,k F1 H1 x1⟩⟩
  .cases ho
theorem bZ{lo hi:Option Expr}{fl fh:Option HM.EF}(ha:XB X a ga)(hl:XO X lo fl)(hh:XO X hi fh):XF X (.Subscript a (.Slice lo hi Z_ p2) pos) (HM.gQ ga fl fh):=by
 intro r d h;unfold HM.gQ at h;split at h
 .rename_i x hx
  split at h
  .rename_i xs sE
   split at h
   .rename_i l hl'
    split at h
    .rename_i u hu'
     cases h;refine PE.imp (fu dF (ha r _ hx) (hl r _ hl') (hh r _ hu')) λJ H Q ⟨F0,H0,F,at_,k⟩=>?_;refine⟨F0,H0,F,at_,λv F1 H1 x1 ⟨fp,r1⟩=>⟨F0,H0,F1,at_.grow x1,λF2 H2 x2=>⟨F0,H0,F2,(at_.grow x1).grow x2,λF3 H3 x3=>?_⟩⟩⟩;have yL:=x2.trans x3;obtain⟨l',vs,e1,hq,rs⟩:=Hf x3.sub (r1.mono yL.ff λ_ _ _ z=>yL.hh _ _ z) sE;refine⟨l',vs,e1,hq,λl2 sU=>Hh (P:=λv _ H'=>Q v H') (x1.trans yL) ?_ sU k⟩;unfold HM.cutD JN;rw[<-rs.1];exact(rs.drop _).take _
    .cases h
   .cases h
  .cases h
 .cases h
theorem A4.val{fp:Nat->List Addr}(e:A4 K F0 H0 F H r J fp)(h:r[i]?=Z (Z (.ol ds))):∃l vs,J[i]?=Z (Z (.ref l))/\H l=Z (.lst vs)/\Zq K F ds vs/\fp i=[l]:=by
 obtain⟨v,h1,h2⟩:=e.at_ i _ h;generalize hf:fp i=q at h2;cases h2 with
 |ol k1 k2=>exact⟨_,_,h1,k1,k2,rfl⟩
theorem At.chgList{es:List PyData}(e:At K F0 H0 F H r J)(h:r[i]?=Z (Z (.ol ds))):∃l vs,J[i]?=Z (Z (.ref l))/\H l=Z (.lst vs)/\Zq K F ds vs/\∀us,Zq K F es us->At K F0 H0 F (upd H l (.lst us)) (r.set i (Z (.ol es))) J:=by
 obtain⟨fp,e⟩:=e;obtain⟨l,vs,h1,h2,h3,h4⟩:=e.val h;refine⟨l,vs,h1,h2,h3,λus q=>e.change (fp':=[l]) h1 (.ol ZD q) (by simp) (λa ha=>.inl (by rw[h4];exact ha)) λa o z hn=>?_⟩;rw[ZA (λz=>hn (by rw[h4,z];simp))];exact z
theorem Kt(i:Nat){p3:Pos}(ha:XE X a fa)(hN:X.N[i]?=Z x:=by rfl)(hv:so X.env.scope x:=by first|exact AD rfl|exact Ap (AD rfl)|exact Ap (Ap rfl))(hd:(x==("__debug__":Str))=Ab:=by decide)(qw:(x==("__classdict__":Str))=Ab:=by decide)(qK:GB (.Name x p1) "append" X.env (eval (.Name x p1) X.env)=eval (.Name x p1) X.env:=by rfl)(rf:((backTo p3 (Ah [a] X.env)).all (λx=>!x.1)&&(Jm p3 (JB [] X.env)).all (λx=>x.1.isSome)&&decide (([a]:List Expr).length+([]:List Keyword).length+(if([]:List Keyword).isEmpty then 0 else 1)<30))=Aa:=by rfl)(qI:(p2.endLine==p3.line)=Aa:=by rfl)(hs:Ah [a] X.env=[(Ab,eval a X.env)]:=by rfl):XS X (.Expr (.Call (.Attribute (.Name x p1) "append" p2) [a] [] p3) pos) (HM.Kr i fa):=by
 intro r o h;unfold HM.Kr at h;split at h
 .rename_i ds qh
  split at h
  .rename_i d hd'
   split at h
   .rename_i hz
    cases h;refine PS.imp (Kd (LO LA Sv Su Mo (CT hN hv hd qw) (Z8 (ha r d hd') Cm hs) qK rf qI hs rfl)) λE J H ⟨F0,H0,F,at_,k⟩=>?_;obtain⟨l,vs,e1,e2,e3,_⟩:=at_.chgList (es:=ds) qh;refine⟨.ref l,e1,.inl ⟨rfl,_,qD.of e2⟩,F0,H0,F,at_,λv F1 H1 x1 r1=>?_⟩;have qO:=at_.grow x1;obtain⟨l',vs',f1,f2,f3,f4⟩:=qO.chgList (es:=ds++[d]) qh;rw[e1]at f1;cases f1;refine⟨_,vs',v,rfl,rfl,f2,?_,k _ F1 _ (f4 _ (f3.append (.one r1)))⟩;have e4:=f3.1;have e5:(1000000:Nat)<=sizeLine:=by decide
    unfold HM.big at hz;omega
   .cases h
  .cases h
 .cases h
theorem f6(i:Nat)(hk:XE X b fb)(ha:XE X a fa)(hN:X.N[i]?=Z x:=by rfl)(hv:so X.env.scope x:=by first|exact AD rfl|exact Ap (AD rfl)|exact Ap (Ap rfl))(hd:(x==("__debug__":Str))=Ab:=by decide)(qw:(x==("__classdict__":Str))=Ab:=by decide)
  (rb:∀v,assign (.Subscript (.Name x p1) b p2) X.env v=(do
   let ov <-holding [v] (eval (.Name x p1) X.env)
   let iv <-holding [v,ov] (eval b X.env)
   standAt p2
   holding [v,ov,iv] (setItem ov iv v)
   release [v,ov,iv] []):=by intro _;rfl)
  (hs:swapsWithSole [.Subscript (.Name x p1) b p2] a pos.line X.env=pure Ab:=by rfl) (hw:swappedStores [.Subscript (.Name x p1) b p2] a X.env=pure Z_:=by rfl)
  (h1:(HI [.Subscript (.Name x p1) b p2] X.env).map (·.2)=[assign (.Subscript (.Name x p1) b p2) X.env]:=by rfl):XS X (.Assign [.Subscript (.Name x p1) b p2] a pos) (HM.kn i fb fa):=by
 intro r o h;unfold HM.kn at h;split at h
 .rename_i d hd'
  split at h
  .rename_i ds qh
   split at h
   .rename_i n hn
    split at h
    .rename_i j hj
     cases h;refine PS.imp (aU (ha r d hd') (aN (CT hN hv hd qw) (hk r _ hn) uM rb) hs hw h1) λE J H ⟨F0,H0,F,at_,k⟩=>?_;refine⟨F0,H0,F,at_,λv F1 H1 x1 r1=>?_⟩;have qO:=at_.grow x1;obtain⟨l,vs,e1,e2,e3,_⟩:=qO.chgList (es:=ds) qh;refine⟨.ref l,e1,F0,H0,F1,qO,λw F2 H2 x2 r2=>?_⟩;obtain⟨l',vs',f1,f2,f3,f4⟩:=(qO.grow x2).chgList (es:=ds.set j d) qh;rw[e1]at f1;cases f1;refine⟨_,vs',n,j,rfl,r2.int_inv,f2,?_,k _ F2 _ (f4 _ (f3.set (r1.mono x2.ff) j))⟩;rw[<-f3.1];exact hj
    .cases h
   .cases h
  .cases h
 .cases h
end
end
section
variable{K:Ae}{F:Hp}{κ:Type}[DecidableEq κ]
def AQ(K:Ae)(F:Hp)(kvs:List (κ×PyData))(vvs:List (κ×V)):Prop:=kvs.map (·.1)=vvs.map (·.1)/\Zq K F (kvs.map (·.2)) (vvs.map (·.2))
theorem AQ.nil:AQ K F ([]:List (κ×PyData)) []:=⟨rfl,.nil⟩
theorem AQ.cons{k:κ}{d:PyData}{v:V}{kvs:List (κ×PyData)}{vvs:List (κ×V)}(r:Rep K F d v)(q:AQ K F kvs vvs):AQ K F ((k,d)::kvs) ((k,v)::vvs) :=
 ⟨by rw[Ak,Ak,q.1],by rw[Ak,Ak];exact .cons r q.2⟩
theorem AQ.inv{kvs:List (κ×PyData)}{vvs:List (κ×V)}(q:AQ K F kvs vvs):(kvs=[]/\vvs=[])\/∃k d v kvs' vvs',kvs=(k,d)::kvs'/\vvs=(k,v)::vvs'/\Rep K F d v/\AQ K F kvs' vvs':=by
 cases kvs with
 |nil =>
  cases vvs with
  |nil=>exact .inl ⟨rfl,rfl⟩
  |cons p r=>exact absurd q.1 (by simp)
 |cons p kvs' =>
  cases vvs with
  |nil=>exact absurd q.1 (by simp)
  |cons p' vvs' =>
   obtain⟨k,d⟩:=p;obtain⟨k',v⟩:=p';obtain⟨q1,q2⟩:=q;rw[Ak,Ak]at q1 q2;injection q1 with e1 e2
   have e1:k=k':=e1;subst e1;obtain⟨v',us,e3,r1,r2⟩:=q2.cons_inv;injection e3 with e3 e4
   refine .inr ⟨k,d,v,kvs',vvs',rfl,rfl,?_,e2,?_⟩
   .rw[show v=v' from e3];exact r1
   .rw[e4];exact r2
theorem AQ.len{kvs:List (κ×PyData)}{vvs:List (κ×V)}(q:AQ K F kvs vvs):kvs.length=vvs.length:=by
 have:=congrArg Bx q.1
 rwa [Af,Af]at this
theorem AQ.any{kvs:List (κ×PyData)}{vvs:List (κ×V)}(k:κ)(q:AQ K F kvs vvs):(kvs.any λp=>decide (p.1=k))=vvs.any λp=>decide (p.1=k):=by
 have e:∀{β:Type} (l:List (κ×β)),(l.any λp=>decide (p.1=k))=(l.map (·.1)).any λx=>decide (x=k):=λl=>by rw[List.any_map];rfl
 rw[e,e,q.1]
theorem AQ.repl{d:PyData}{v:V}(k:κ)(r:Rep K F d v):∀{kvs:List (κ×PyData)} {vvs:List (κ×V)},AQ K F kvs vvs->AQ K F (kvs.map λp=>if p.1=k then(p.1,d)else p) (vvs.map λp=>if p.1=k then(p.1,v)else p)
 |[],vvs,q=>by
  rcases q.inv with⟨_,e⟩|⟨_,_,_,_,_,e,_⟩
  .subst e;exact .nil
  .cases e
 |p::kvs,vvs,q=>by
  rcases q.inv with⟨e,_⟩|⟨k',d',v',kvs',vvs',e1,e2,r1,r2⟩
  .cases e
  .cases e1
   subst e2;have ih:=AQ.repl k r r2;rw[Ak,Ak]
   by_cases h:k'=k
   .rw[if_pos h,if_pos h];exact .cons r ih
   .rw[if_neg h,if_neg h];exact .cons r1 ih
theorem AQ.snoc{kvs:List (κ×PyData)}{vvs:List (κ×V)}{k:κ}{d:PyData}{v:V}(q:AQ K F kvs vvs)(r:Rep K F d v):AQ K F (kvs++[(k,d)]) (vvs++[(k,v)]) :=
 ⟨by rw[Br,Br,q.1];rfl,by rw[Br,Br];exact q.2.append (.one r)⟩
theorem AQ.put{kvs:List (κ×PyData)}{vvs:List (κ×V)}{d:PyData}{v:V}(q:AQ K F kvs vvs)(k:κ)(r:Rep K F d v):AQ K F (HM.qj kvs k d) (qz vvs k v):=by
 unfold HM.qj qz;rw[q.any k]
 by_cases h:(vvs.any λp=>decide (p.1=k))=Aa
 .rw[if_pos h,if_pos h];exact q.repl k r
 .rw[if_neg h,if_neg h];exact q.snoc r
theorem AQ.look{k:κ}:∀{kvs:List (κ×PyData)} {vvs:List (κ×V)},AQ K F kvs vvs->(∀d,HM.Zg kvs k=Z d->∃v,AR vvs k=Z v/\Rep K F d v)/\(HM.Zg kvs k=Z_->AR vvs k=Z_)
 |[],vvs,q=>by
  rcases q.inv with⟨_,e⟩|⟨_,_,_,_,_,e,_⟩
  .subst e;exact⟨λd h=>(by cases h),λ_=>rfl⟩
  .cases e
 |p::kvs,vvs,q=>by
  rcases q.inv with⟨e,_⟩|⟨k',d',v',kvs',vvs',e1,e2,r1,r2⟩
  .cases e
  .cases e1
   subst e2;obtain⟨i1,i2⟩:=AQ.look (k:=k) r2
   by_cases h:k'=k
   .have e3:HM.Zg ((k',d')::kvs) k=Z d':=by simp[HM.Zg,Ct,h]
    rw[e3,Hi (p:=(k',v')) h];exact⟨λd hd=>(by cases hd;exact⟨v',rfl,r1⟩),λhd=>by cases hd⟩
   .have e3:HM.Zg ((k',d')::kvs) k=HM.Zg kvs k:=by simp[HM.Zg,Ct,h]
    rw[e3,Hg (p:=(k',v')) h];exact⟨i1,i2⟩
theorem AQ.some_iff{k:κ}{kvs:List (κ×PyData)}{vvs:List (κ×V)}(q:AQ K F kvs vvs):(AR vvs k).isSome=(HM.Zg kvs k).isSome:=by
 obtain⟨i1,i2⟩:=q.look (k:=k);cases h:HM.Zg kvs k with
 |none=>rw[i2 h];rfl
 |some d=>obtain⟨v,h1,_⟩:=i1 d h;rw[h1];rfl
end
section
variable{K:Ae}{F:Hp}
theorem Kg{d:PyData}{k:pU}{v:V}(h:HM.Ir d=Z k)(r:Rep K F d v):v=kV k:=by cases r<;>first|(cases h;rfl)|cases h
theorem VU:∀{ds:List PyData} {ks:List pU} {vs:List V},HM.Mn ds=Z ks->Zq K F ds vs->vs=ks.map kV
 |[],ks,vs,h,r=>by cases h;exact r.nil_inv
 |d::ds,ks,vs,h,r=>by
  obtain⟨v,us,rfl,r1,r2⟩:=r.cons_inv;unfold HM.Mn at h;split at h
  .rename_i k hk
   obtain⟨ks',h1,h2⟩:=Al.mp h;subst h2;rw[Kg hk r1,VU h1 r2];rfl
  .cases h
theorem T3:∀{ds:List PyData} {ks:List pU},HM.LS ds=Z ks->HM.Mn ds=Z ks
 |[],ks,h=>h
 |d::ds,ks,h=>by
  unfold HM.LS at h;split at h
  .cases ‹_=[]›
  .rename_i i r e
   injection e with e1 e2
   subst e1 e2;obtain⟨ks',h1,h2⟩:=Al.mp h;subst h2;show(match HM.Ir (.int i)with|some k=>(HM.Mn ds).map (k::·)|none=>Z_)=_;rw[T3 h1];rfl
  .cases h
theorem Ee{d:PyData}{ks:List pU}{v:V}(h:HM.Bv d=Z ks)(r:Rep K F d v):∃b,v=.ref b/\F b=Z (.tup (ks.map kV)):=by
 cases r with
 |tup h1 h2 h3=>refine⟨_,rfl,?_⟩;rw[<-VU (T3 h) ⟨h2,h3⟩];exact h1
 |tupk _=>cases h
 |lst _ _ _=>cases h
 |dct _ _ _ _=>cases h
 |fn _=>cases h
 |non=>cases h
 |bl _=>cases h
 |int _=>cases h
 |str _=>cases h
end
section
variable{X:Cx}{a b c e:Expr}{fa fb fc:HM.EF}{pos p:Pos}{f:HM.BF}
theorem fresh_one{K:Ae}{F H F1 H1:Hp}{o:HO}{q:HM.B}{l:Addr}{P:V->Hp->Hp->Prop}(x1:pZ F H F1 H1)(hl:H1 l=Z_)(hq:ZZ K F1 (upd H1 l o) q (.ref l) [l])(k:∀v F' H',pZ F H F' H'->(∃fp,ZZ K F' H' q v fp/\fp.Nodup/\∀a∈fp,F' a=Z_/\H a=Z_)->P v F' H'):P (.ref l) F1 (upd H1 l o):=by
 refine k _ F1 _ (x1.lay' hl) ⟨[l],hq,by simp,λa ha=>?_⟩;obtain rfl:a=l:=by simpa using ha
 exact⟨x1.sub.free hl,x1.hh.free hl⟩
theorem bh:XF X (.Dict [] [] pos) HM.fDk:=by intro r d h;cases h;exact PE.imp ij λJ H Q ⟨F0,H0,F,at_,k⟩ l hl=>fresh_one (P:=λv _ H'=>Q v H') at_.refl hl (.ok ZD rfl .nil) k
theorem Oy:XF X (.Dict [] [] pos) HM.yB:=by intro r d h;cases h;exact PE.imp Vr λJ H Q ⟨F0,H0,F,at_,k⟩ l hl=>fresh_one (P:=λv _ H'=>Q v H') at_.refl hl (.ot ZD rfl .nil) k
theorem TX:XF X (.Dict [] [] pos) HM.SW:=by intro r d h;cases h;exact PE.imp Vr λJ H Q ⟨F0,H0,F,at_,k⟩ l hl=>fresh_one (P:=λv _ H'=>Q v H') at_.refl hl (.otl ZD rfl rfl λi ds l' h=>by simp at h) k
theorem gC(ha:XE X a fa)(hb:XE X b fb):XF X (.Dict [Z a] [b] pos) (HM.ly fa fb):=by
 intro r d h;unfold HM.ly at h;split at h
 .rename_i x hx
  split at h
  .rename_i y hy
   split at h
   .rename_i k hk
    cases h;refine PE.imp (eL (ir (ha r x hx) (hb r y hy) eU) rfl rfl (by simp) (by simp)) λJ H Q ⟨F0,H0,F,at_,kk⟩ l hl=>?_;have hFl:F l=Z_:=at_.sub.free hl;have x0:pZ F H F (upd H l (.dK [])):=at_.refl.lay' hl;refine⟨F0,H0,F,at_.grow x0,λv F1 H1 x1 r1=>⟨F0,H0,F1,(at_.grow x0).grow x1,λw F2 H2 x2 r2=>?_⟩⟩;have tf:=x1.trans x2;have sU:H2 l=Z (.dK []):=tf.hh l _ ZD;have hF2:F2 l=Z_:=by
     cases q:F2 l with
     |none=>rfl
     |some o =>
      rcases tf.new l o q with z|z
      .rw[hFl]at z;cases z
      .exact(z.no ZD λ_ q=>by cases q).elim
    refine⟨sU,[(k,w)],?_,by simp,?_⟩
    .rw[Kg hk r1]
     rfl
    have xe:pZ F H F2 (upd H2 l (.dK (Iz [] [(k,w)]))):=by
     refine⟨tf.ff,λc o z=>?_,λc o z=>?_,λc o z=>?_,λt=>(tf.tab (t.same (GO hl))).keep λa u z hu=>?_,tf.nts⟩
     .have hc:c≠l:=CW z hl
      exact(tf.hh c o (by rw[ZA hc];exact z)).cong (ZA hc)
     .rw[ZA (λe=>by rw[e,hF2]at z;cases z)]
      exact tf.sub c o z
     .rcases tf.new c o z with q|q
      .exact .inl q
      .exact .inr (q.back (.of (Zp.upd' hl)))
     .rw[ZA (λe=>by subst e;rw[sU]at z;cases z;cases hu)];exact z
    refine kk _ F2 _ xe ⟨[l],.ok ZD rfl (.one r2),by simp,λc hc=>?_⟩;obtain rfl:c=l:=by simpa using hc
    exact⟨hF2,hl⟩
   .cases h
  .cases h
 .cases h
end
section
variable{q:HM.B}{r:HM.Env}{F H:Hp}{fp:List Addr}{i:Nat}{p1:Pos}{K:Ae}{x:Str}
theorem At.chgOne{F0 H0:Hp}{J:L2.St}{l:Addr}(e:At K F0 H0 F H r J)(h:r[i]?=Z (Z q))(hv:J[i]?=Z (Z (.ref l)))(hone:∀v fp,ZZ K F H q v fp->∃a,v=.ref a/\fp=[a]):∀o q',ZZ K F (upd H l o) q' (.ref l) [l]->At K F0 H0 F (upd H l o) (r.set i (Z q')) J:=by
 intro o q' hq;obtain⟨fp,e⟩:=e;obtain⟨v,h1,h2⟩:=e.at_ i _ h;obtain⟨a,e1,e2⟩:=hone v _ h2;subst e1;rw[hv]at h1;cases h1;refine e.change (fp':=[l]) hv hq (by simp) (λc hc=>.inl (by rw[e2];exact hc)) λc o' z hn=>?_;rw[ZA (λz=>hn (by rw[e2,z];simp))];exact z
section
variable{X:Cx}{a b c e:Expr}{fa fb fc:HM.EF}{pos p:Pos}{f:HM.BF}
theorem G0{n:Nat}(h:n<HM.big):n<sizeLine:=by
 have e5:(1000000:Nat)<=sizeLine:=by decide
 unfold HM.big at h;omega
theorem JZ(hu:X.A.units+1<cLine)(i:Nat){p2:Pos}(hk:XE X b fb)(ha:XE X a fa)(hN:X.N[i]?=Z x:=by rfl)(hv:so X.env.scope x:=by first|exact AD rfl|exact Ap (AD rfl)|exact Ap (Ap rfl))(hd:(x==("__debug__":Str))=Ab:=by decide)(qw:(x==("__classdict__":Str))=Ab:=by decide)(hs:DU a (Z (.Subscript (.Name x p1) b p2)) pos.line X.env=pure Ab:=by rfl):XS X (.Assign [.Subscript (.Name x p1) b p2] a pos) (HM.Ik i fb fa):=by
 intro r o h;unfold HM.Ik at h;split at h
 .rename_i d hd'
  split at h
  .rename_i y hy
   split at h
   .rename_i kvs hb
    split at h
    .rename_i k hk'
     split at h
     .rename_i hz
      cases h;refine PS.imp (Pj hu (CT hN hv hd qw) (hk r y hy) (ha r d hd') hs) λE J H ⟨F0,H0,F,at_,kk⟩=>?_;refine⟨F0,H0,F,at_,λv F1 H1 x1 r1=>?_⟩;have qO:=at_.grow x1;obtain⟨u,fp,e1,e2⟩:=qO.any hb;refine⟨u,e1,F0,H0,F1,qO,λw F2 H2 x2 r2=>?_⟩;have rT:=qO.grow x2;cases e2 with
      | @ok l _ vvs e2 e3 e4=>have T:AQ X.K F2 kvs vvs:=⟨e3,e4.mono x2.ff⟩;have T':=T.put k (r1.mono x2.ff);rw[Kg hk' r2];have hH:H2 l=Z (.dK vvs):=x2.hh _ _ e2;refine⟨l,_,rfl,E4.k hH (by rw[<-T.len];exact G0 hz),kk _ F2 _ (rT.chgOne hb e1 (λv fp q=>by cases q;exact⟨_,rfl,rfl⟩) _ _ (.ok ZD T'.1 T'.2))⟩
     .cases h
    .cases h
   .rename_i kvs hb
    split at h
    .rename_i k hk'
     split at h
     .rename_i hz
      cases h;refine PS.imp (Pj hu (CT hN hv hd qw) (hk r y hy) (ha r d hd') hs) λE J H ⟨F0,H0,F,at_,kk⟩=>?_;refine⟨F0,H0,F,at_,λv F1 H1 x1 r1=>?_⟩;have qO:=at_.grow x1;obtain⟨u,fp,e1,e2⟩:=qO.any hb;refine⟨u,e1,F0,H0,F1,qO,λw F2 H2 x2 r2=>?_⟩;have rT:=qO.grow x2;cases e2 with
      | @ot l _ vvs e2 e3 e4=>have T:AQ X.K F2 kvs vvs:=⟨e3,e4.mono x2.ff⟩;have T':=T.put k (r1.mono x2.ff);obtain⟨bb,rfl,rS⟩:=Ee hk' r2;have hH:H2 l=Z (.dT vvs):=x2.hh _ _ e2;refine⟨l,_,rfl,E4.t hH (x2.sub _ _ rS) (by rw[<-T.len];exact G0 hz),kk _ F2 _ (rT.chgOne hb e1 (λv fp q=>by cases q;exact⟨_,rfl,rfl⟩) _ _ (.ot ZD T'.1 T'.2))⟩
     .cases h
    .cases h
   .cases h
  .cases h
 .cases h
theorem PM{K:Ae}{F H:Hp}(k:List pU):∀(kvs:List (List pU×List PyData)) (vvs:List (List pU×V)) (ls:List Addr),kvs.map (·.1)=vvs.map (·.1)->vvs.map (·.2)=ls.map V.ref ->(∀(i:Nat) (ds:List PyData) (l:Addr),(kvs.map (·.2))[i]?=Z ds->ls[i]?=Z l->∃vs,H l=Z (.lst vs)/\Zq K F ds vs) ->(∀ds,HM.Zg kvs k=Z ds->∃l' vs,AR vvs k=Z (.ref l')/\l'∈ls/\H l'=Z (.lst vs)/\Zq K F ds vs)/\(HM.Zg kvs k=Z_->AR vvs k=Z_)
 |[],[],_,_,_,_=>⟨(λds h=>by cases h),λ_=>rfl⟩
 |[],_::_,_,hk,_,_=>by simp at hk
 |_::_,[],_,hk,_,_=>by simp at hk
 |_::_,_::_,[],_,hv,_=>by simp at hv
 |(k1,ds1)::kvs,(k2,v2)::vvs,l1::ls,hk,hv,r=>by
  rw[Ak,Ak]at hk hv;injection hk with e1 e2
  injection hv with e3 e4
  have e1:k1=k2:=e1;have e3:v2=.ref l1:=e3;subst e1 e3;obtain⟨i1,i2⟩:=PM k kvs vvs ls e2 e4 λi ds l h1 h2=>r (i+1) ds l (by simpa using h1) (by simpa using h2)
  by_cases hkk:k1=k
  .have e5:HM.Zg ((k1,ds1)::kvs) k=Z ds1:=by simp[HM.Zg,Ct,hkk]
   rw[e5,Hi (p:=(k1,V.ref l1)) hkk];obtain⟨vs,q1,q2⟩:=r 0 ds1 l1 rfl rfl;exact⟨(λds h=>by cases h;exact⟨l1,vs,rfl,by simp,q1,q2⟩),(λh=>by cases h)⟩
  .have e5:HM.Zg ((k1,ds1)::kvs) k=HM.Zg kvs k:=by simp[HM.Zg,Ct,hkk]
   rw[e5,Hg (p:=(k1,V.ref l1)) hkk];exact⟨λds h=>let ⟨l',vs,a1,a2,a3⟩:=i1 ds h;⟨l',vs,a1,Ao _ a2,a3⟩,i2⟩
theorem U1{kvs:List (List pU×List PyData)}{v:V}(q:ZZ K F H (.otl kvs) v fp):∃l vvs ls,v=.ref l/\fp=l::ls/\H l=Z (.dT vvs)/\kvs.map (·.1)=vvs.map (·.1)/\vvs.map (·.2)=ls.map V.ref /\ ∀k,(∀ds,HM.Zg kvs k=Z ds->∃l' vs,AR vvs k=Z (.ref l')/\l'∈ls/\H l'=Z (.lst vs)/\Zq K F ds vs)/\(HM.Zg kvs k=Z_->AR vvs k=Z_):=by
 cases q with
 | @otl l _ vvs ls h hk hv r=>exact⟨l,vvs,ls,rfl,rfl,h,hk,hv,λk=>PM k kvs vvs ls hk hv r⟩
theorem fD{v w:V}{x:PyData}{c:Bool}(sub:Zp F H)(rq:ZZ K F H q v fp)(rx:Rep K F x w)(h:HM.hasB q x=Z c):∃l o,v=.ref l/\BV H l w o/\o.isSome=c:=by
 cases rq with
 |pl _=>cases h
 |hd _ _ _ _=>cases h
 |hf _=>cases h
 |ol _ _=>cases h
 | @ok l kvs vvs h1 h2 h3=>obtain⟨k,e1,e2⟩:=Al.mp h;rw[Kg e1 rx];exact⟨l,_,rfl,BV.k h1,by rw[AQ.some_iff (K:=K) (F:=F) ⟨h2,h3⟩,<-e2]⟩
 | @ot l kvs vvs h1 h2 h3=>obtain⟨k,e1,e2⟩:=Al.mp h;obtain⟨bb,rfl,rS⟩:=Ee e1 rx;exact⟨l,_,rfl,BV.t h1 (sub _ _ rS),by rw[AQ.some_iff (K:=K) (F:=F) ⟨h2,h3⟩,<-e2]⟩
 | @otl l kvs vvs ls h1 h2 h3 h4 =>
  obtain⟨k,e1,e2⟩:=Al.mp h;obtain⟨bb,rfl,rS⟩:=Ee e1 rx;refine⟨l,_,rfl,BV.t h1 (sub _ _ rS),?_⟩;obtain⟨l2,xF,ls2,e3,e4,e5,_,_,hl⟩:=U1 (ZZ.otl h1 h2 h3 h4);cases e3;rw[h1]at e5;cases e5;obtain⟨i1,i2⟩:=hl k;rw[<-e2];cases hq:HM.Zg kvs k with
  |none=>rw[i2 hq];rfl
  |some ds=>obtain⟨_,_,h5,_⟩:=i1 ds hq;rw[h5];rfl
theorem jt{d:PyData}(h:HM.mX fa f r=Z d):∃x q c,fa r=Z x/\f r=Z q/\HM.hasB q x=Z c/\d=.bool (!c):=by
 unfold HM.mX at h;split at h
 .split at h
  .obtain⟨c,h1,h2⟩:=Al.mp h
   exact⟨_,_,c,by assumption,by assumption,h1,h2.symm⟩
  .cases h
 .cases h
theorem gB(hu:X.A.units+1<cLine)(ha:XE X a fa)(hb:XB X b f)(hm:Di .NotIn b=Ab:=by rfl):XT X (.Compare a [.NotIn] [b] pos) (HM.tV (HM.mX fa f)):=by intro r d h;obtain⟨x,q,c,h1,h2,h3,e⟩:=jt (GU h);cases e;refine PT.imp (ON (V7 hu (ha r x h1) (hb r q h2)) hm) λJ H Q ⟨F0,H0,F,at_,k⟩=>?_;refine⟨F0,H0,F,at_,λv F1 H1 x1 r1=>⟨F0,H0,F1,at_.grow x1,λw F2 H2 x2 ⟨fp,r2⟩=>?_⟩⟩;obtain⟨l,o,e1,e2,e3⟩:=fD x2.sub r2 (r1.mono x2.ff) h3;exact⟨l,o,e1,e2,_,rfl,by rw[e3];exact k F2 H2 (x1.trans x2)⟩
theorem gN(h:HM.UT i fa r=Z q):∃x bb,fa r=Z x/\r[i]?=Z (Z bb) /\ ((∃kvs k d,bb=.ok kvs/\HM.Ir x=Z k/\HM.Zg kvs k=Z d/\q=.pl d)\/(∃kvs k d,bb=.ot kvs/\HM.Bv x=Z k/\HM.Zg kvs k=Z d/\q=.pl d)\/∃kvs k ds,bb=.otl kvs/\HM.Bv x=Z k/\HM.Zg kvs k=Z ds/\q=.ol ds):=by
 unfold HM.UT at h;split at h
 .rename_i x hx
  split at h
  .rename_i kvs hb
   split at h
   .rename_i k hk
    obtain⟨d,h1,h2⟩:=Al.mp h;exact⟨x,_,hx,hb,.inl ⟨kvs,k,d,rfl,hk,h1,h2.symm⟩⟩
   .cases h
  .rename_i kvs hb
   split at h
   .rename_i k hk
    obtain⟨d,h1,h2⟩:=Al.mp h;exact⟨x,_,hx,hb,.inr (.inl ⟨kvs,k,d,rfl,hk,h1,h2.symm⟩)⟩
   .cases h
  .rename_i kvs hb
   split at h
   .rename_i k hk
    obtain⟨d,h1,h2⟩:=Al.mp h;exact⟨x,_,hx,hb,.inr (.inr ⟨kvs,k,d,rfl,hk,h1,h2.symm⟩)⟩
   .cases h
  .cases h
 .cases h
theorem TV(hu:X.A.units+1<cLine)(i:Nat)(hk:XE X b fb)(hN:X.N[i]?=Z x:=by rfl)(hv:so X.env.scope x:=by first|exact AD rfl|exact Ap (AD rfl)|exact Ap (Ap rfl))(hd:(x==("__debug__":Str))=Ab:=by decide)(qw:(x==("__classdict__":Str))=Ab:=by decide)(hs:JO b:=by intro _ _;rfl):XB X (.Subscript (.Name x p1) b pos) (HM.UT i fb):=by
 intro r q h;obtain⟨y,bb,h1,h2,h3⟩:=gN h;refine PE.imp (PF hu (CT hN hv hd qw) (hk r y h1) hs) λJ H Q ⟨F0,H0,F,at_,kk⟩=>?_;obtain⟨u,fp,e1,e2⟩:=at_.any h2;refine⟨u,e1,F0,H0,F,at_,λw F2 H2 x2 r2=>?_⟩;have e2':=e2.mono x2.ff λ_ _ _ z=>x2.hh _ _ z;rcases h3 with⟨kvs,k,d,rfl,hk',hl,rfl⟩|⟨kvs,k,d,rfl,hk',hl,rfl⟩|⟨kvs,k,ds,rfl,hk',hl,rfl⟩
 .cases e2' with
  | @ok l _ vvs g1 g2 g3=>obtain⟨v,q1,q2⟩:=(AQ.look (k:=k) (K:=X.K) (F:=F2) ⟨g2,g3⟩).1 d hl;rw[Kg hk' r2];exact⟨l,v,rfl,by rw[<-q1];exact BV.k g1,kk v F2 H2 x2 ⟨[],.pl q2⟩⟩
 .cases e2' with
  | @ot l _ vvs g1 g2 g3=>obtain⟨v,q1,q2⟩:=(AQ.look (k:=k) (K:=X.K) (F:=F2) ⟨g2,g3⟩).1 d hl;obtain⟨bb',rfl,rS⟩:=Ee hk' r2;exact⟨l,v,rfl,by rw[<-q1];exact BV.t g1 (x2.sub _ _ rS),kk v F2 H2 x2 ⟨[],.pl q2⟩⟩
 .obtain⟨l,vvs,ls,rfl,_,g1,_,_,qN⟩:=U1 e2'
  obtain⟨l',vs,q1,_,q2,q3⟩:=(qN k).1 ds hl;obtain⟨bb',rfl,rS⟩:=Ee hk' r2;exact⟨l,_,rfl,by rw[<-q1];exact BV.t g1 (x2.sub _ _ rS),kk _ F2 H2 x2 ⟨[l'],.ol q2 q3⟩⟩
end
end
section
variable{p:Addr}{env:Env}{r:HM.Env}{F F0 H H0:Hp}{J:L2.St}{K:Ae}{scope:Scope}
abbrev No:Value->Shared->Prop:=λ_ _=>False
abbrev UC(rh:List Expr)(env:Env):Sem Bool :=
 forIn rh Aa λc r=>if r=Aa then do let ok <-isTrue c env (eval c env);pure (Nr ok)else pure (Nr r)
theorem iO{prog:Program}{w:World}{A:Around}{R:Result->Shared->Prop}{s:Shared}{rG rC iter:Expr}{rh:List Expr}{pos:Pos}{it acc:Value}(zZ:Nat->Shared->Prop)
  (ur:∀n s,zZ n s->wpAny (model prog w) A (pyNext it) (λr s1=>match r with
   |none=>R (.ok .next) s1
   |some v=>wpAny (model prog w) A (Nt rC it v) (λ_ s2=>wpAny (model prog w) A (assign rC env v) (λ_ s3=>wpAny (model prog w) A (UC rh env) (λok s4=>if ok=Aa then wpAny (model prog w) A (eval rG env) (λx s5=>wpAny (model prog w) A (call (.builtin "list.append") [acc,x]) (λ_ s6=>∃m,m<n/\zZ m s6) No s5) No s4 else ∃m,m<n/\zZ m s4) No s3) No s2) No s1) No s)
  (n:Nat)(h:zZ n s):codeAny (model prog w) A (.compLoop (.ListComp rG [⟨rC,iter,rh,0⟩] scope pos) 0 it acc env) R s:=by
 refine codeAny_loop rfl zZ (λn s hI=>?_) n h;show wpAny _ A ((compTurn (.ListComp rG [⟨rC,iter,rh,0⟩] scope pos) 0 it acc env).onRaise (λx=>do noteFrame x env;theTreesLotGoes x)) _ _ s;refine wpAny_noted ?_;rw[compTurn_list];refine Ac (wpAny_standAt (Ac (Cu (ur n s hI) (λr s1 h1=>?_) λ_ _ z=>z.elim)));cases r with
 |none=>exact Ad h1
 |some v =>
  refine Ac (Cu h1 (λ_ s2 h2=>Ac (Cu h2 (λ_ s3 h3=>Ac (Cu h3 (λok s4 h4=>?_) λ_ _ z=>z.elim)) λ_ _ z=>z.elim)) λ_ _ z=>z.elim);cases ok with
  |false=>exact Ad ⟨rfl,h4⟩
  |true=>refine Ac (Ac (Cu h4 (λx s5 h5=>?_) λ_ _ z=>z.elim));exact Ac (Cu h5 (λ_ s6 h6=>Ad (Ad ⟨rfl,h6⟩)) λ_ _ z=>z.elim)
def ZM(X:Cx)(N:List Str)(scope:Scope)(cl:List (Str×Addr))(C:Addr)(s₀:Shared)(H₀:Hp)(ex:List Addr):Cx where
 prog:=X.prog
 w:=X.w
 K:=X.K
 mg:=X.mg
 base:=X.base
 A:=X.A
 N:=N
 s₀:=s₀
 H₀:=H₀
 env:=compEnvC scope cl C X.env
 outer:=X.stack
 stack:=X.stack
 ex:=ex
 fn:=λ_=>Ab
 calm:=Aa
 pn:=[]
 xe:=λ_ _=>False
theorem Qx{env:Env}:∀(names:List (Str×NameKind)) (cs:List (Str×Addr)),(∀y∈names,y.2=.free->∃c,env.cells.lookup y.1=Z c)->(∀x c,cs.lookup x=Z c->env.cells.lookup x=Z c) ->∃cl,(forIn names cs λ(x:Str×NameKind) r=>(match x with|(name,kind)=>if kind==.free then do let c <-cellOf env name;pure (Nr ((name,c)::r))else pure (Nr r):Sem (ForInStep (List (Str×Addr)))))=pure cl /\ (∀x c,cl.lookup x=Z c->env.cells.lookup x=Z c)/\(∀x,(cs.lookup x).isSome=Aa->(cl.lookup x).isSome=Aa)/\∀y∈names,y.2=.free->(cl.lookup y.1).isSome=Aa
 |[],cs,_,h2=>⟨cs,rfl,h2,λ_ h=>h,λy hy=>by simp at hy⟩
 |(n,k)::r,cs,h1,h2=>by
  rw[List.forIn_cons]
  by_cases hk:(k==GA)=Aa
  .obtain⟨c,hc⟩:=h1 (n,k) (An ..) (by simpa using hk)
   have ec:cellOf env n=pure c:=by unfold cellOf;rw[hc]
   obtain⟨cl,e1,e2,e3,e4⟩:=Qx r ((n,c)::cs) (λy hy=>h1 y (Ao _ hy)) (λx d hx=>by
    rw[Gu]at hx;split at hx
    .rename_i hb
     have:x=n:=by simpa using hb
     cases hx;rw[this];exact hc
    .exact h2 x d hx)
   refine⟨cl,?_,e2,λx hx=>e3 x ?_,λy hy hf=>?_⟩
   .simp only[hk,if_true,ec,pure_bind]
    exact e1
   .rw[Gu]
    split
    .rfl
    .exact hx
   .rcases Ax.mp hy with e|hy
    .subst e
     exact e3 n (by rw[Gu];simp)
    .exact e4 y hy hf
  .obtain⟨cl,e1,e2,e3,e4⟩:=Qx r cs (λy hy=>h1 y (Ao _ hy)) h2
   refine⟨cl,?_,e2,e3,λy hy hf=>?_⟩
   .simp only[hk,if_false,pure_bind,BR]
    exact e1
   .rcases Ax.mp hy with e|hy
    .subst e
     exact absurd (by simpa using hf) hk
    .exact e4 y hy hf
theorem Q2(h:∀y∈scope.names,y.2=.free->∃c,env.cells.lookup y.1=Z c):∃cl,closureFor scope env=pure cl/\(∀x c,cl.lookup x=Z c->env.cells.lookup x=Z c)/\∀y∈scope.names,y.2=.free->(cl.lookup y.1).isSome=Aa:=by
 obtain⟨cl,e1,e2,_,e4⟩:=Qx (env:=env) scope.names [] h (λx c hx=>by simp at hx);refine⟨cl,?_,e2,e4⟩;unfold closureFor;exact(congrArg (λm:Sem (List (Str×Addr))=>m >>= λcs=>pure cs) e1).trans (pure_bind cl λcs=>pure cs)
theorem pZ.chg{F' H':Hp}(x:pZ F H F' H')(o:HO)(h1:H p=Z_)(h2:F' p=Z_)(h3:∀u,H' p=Z u->Ie u=Aa):pZ F H F' (upd H' p o) :=
 ⟨x.ff,λb q z=>by
  have hb:b≠p:=CW z h1;have y:=x.hh b q z;unfold C5 at y ⊢;rw[ZA hb];exact y,λb q z=>by rw[ZA (CW z h2)];exact x.sub b q z,x.new,λt=>(x.tab t).keep λa u z hu=>by
   have ha:a≠p:=λe=>by subst e;exact Tn (h3 u z) hu
   rw[ZA ha];exact z,x.nts⟩
theorem At.push{d:PyData}{v:V}(e:At K F0 H0 F H r J)(q:Rep K F d v):At K F0 H0 F H (Z (.pl d)::r) (Z v::J):=by
 obtain⟨fp,e⟩:=e;refine⟨λi=>match i with|0=>[]|i+1=>fp i,e.ext,by rw[Ay,Ay,e.len],λi b h=>?_,λi h=>?_,λi a h=>?_,λi=>?_,λi j a hij h=>?_,e.tb,e.nt⟩
 .cases i with
  |zero=>rw[Oa]at h;cases h;exact⟨v,rfl,.pl q⟩
  |succ i=>rw[DH]at h;obtain⟨u,h1,h2⟩:=e.at_ i b h;exact⟨u,by rw[DH];exact h1,h2⟩
 .cases i with
  |zero=>rfl
  |succ i=>exact e.emp i λb z=>h b (by rw[DH];exact z)
 .cases i with
  |zero=>simp at h
  |succ i=>exact e.own i a h
 .cases i with
  |zero=>exact Es
  |succ i=>exact e.nd i
 .cases i with
  |zero=>simp at h
  |succ i =>
   cases j with
   |zero=>simp
   |succ j=>exact e.dis i j a (by omega) h
theorem At.chgNew(o:HO){Hs Fs:Hp}(e:At K F0 H0 F H r J)(es:At K F0 H0 Fs Hs r J)(hs:AZ Hs H)(h1:Hs p=Z_)(h2:F p=Z_)(h3:∀u,H p=Z u->Ie u=Aa):At K F0 H0 F (upd H p o) r J:=by
 obtain⟨fp,e⟩:=e;obtain⟨fq,es⟩:=es;have hp:∀i,¬p∈fp i:=λi hm=>by
  obtain⟨b,hb⟩:=e.bound hm;obtain⟨v,q1,q2⟩:=e.at_ i b hb;obtain⟨v',q3,q4⟩:=es.at_ i b hb;rw[q1]at q3;cases q3;generalize fp i=f1 at q2 hm;generalize fq i=f2 at q4;cases q2 with
  |pl _=>simp at hm
  |hd _ _ _ _=>simp at hm
  |hf _=>simp at hm
  |ol k _=>cases q4 with|ol k' _=>simp at hm;subst hm;rw[h1]at k';cases k'
  |ok k _ _=>cases q4 with|ok k' _ _=>simp at hm;subst hm;rw[h1]at k';cases k'
  |ot k _ _=>cases q4 with|ot k' _ _=>simp at hm;subst hm;rw[h1]at k';cases k'
  |otl k _ v1 _ =>
   cases q4 with
   |otl k' hk' v2 r2' =>
    have eo:=hs.back k' k λ_ z=>by cases z
    cases eo;have v2':=v2;rw[v1]at v2;rcases Ax.mp hm with z2|z2
    .subst z2;rw[h1]at k';cases k'
    .have:V.ref p∈Gp V.ref _:=Aj.mpr ⟨p,z2,rfl⟩
     rw[v2]at this;obtain⟨a',m1,m2⟩:=Aj.mp this;injection m2 with m2
     subst m2;obtain⟨o,ho⟩:=ZZ.there (ZZ.otl k' hk' v2' r2') (Ao _ m1);rw[h1]at ho;cases ho
 have hH0:H0 p=Z_:=es.ext.hh.free h1;refine⟨fp,e.ext.chg o hH0 h2 h3,e.len,λi b h=>?_,e.emp,e.own,e.nd,e.dis,e.tb,e.nt⟩;obtain⟨v,q1,q2⟩:=e.at_ i b h;refine⟨v,q1,q2.mono (Zp.refl F) λa ha o' z=>?_⟩;have qq:a≠p:=λe=>hp i (by rw[<-e];exact ha);exact .of (by rw[ZA qq];exact z)
end
section
variable{Y:Cx}{H H1:Hp}{J:L2.St}{pM:List (Addr×Obj)}{fp:List Addr}{s s2:Shared}
structure Dw(X:Cx)(N:List Str)(scope:Scope)(fr:List Str):Prop where
 kind:scope.kind=.function
 cell:∀y∈scope.names,y.2≠.cell
 names:∀y∈scope.names,y.2=.local->scope.names.lookup y.1=Z .local
 loc:∀x∈fr,scope.names.lookup x=Z .local
 first:∀(i:Nat) (x:Str),fr[i]?=Z x->N[i]?=Z x
 nd:N.Nodup
 len:N.length=X.N.length+fr.length
 cap:∀y∈scope.names,y.2=.free->X.env.kindOf y.1=Z .cell\/X.env.kindOf y.1=Z .free
 same:∀(i:Nat) (y:Str),N[i+fr.length]?=Z y->scope.names.lookup y=Z .free->X.N[i]?=Z y
 vis:∀(i:Nat) (y:Str),N[i+fr.length]?=Z y->so scope y->scope.names.lookup y=Z .free
def ue(sD:PyData->Option (List PyData))(c:HM.TF)(e:HM.EF)(r:HM.Env):List PyData->Option (List PyData)
 |[]=>Z []
 |x::xs=>match sD x with
  |some ys=>match c (ys.map (λd=>Z (HM.B.pl d))++r)with
   |some Aa=>match e (ys.map (λd=>Z (HM.B.pl d))++r)with
    |some y=>(ue sD c e r xs).map (y::·)
    |none=>Z_
   |some Ab=>ue sD c e r xs
   |none=>Z_
  |none=>Z_
def FT(sD:PyData->Option (List PyData))(i:HM.IF)(c:HM.TF)(e:HM.EF):HM.BF:=λr=>match i r with
 |some xs=>if xs.length<HM.big then(ue sD c e r xs).map λys=>HM.B.ol ys else Z_
 |none=>Z_
def J8(Y:Cx)(m:Nat)(tg:Expr)(sD:PyData->Option (List PyData)):Prop:=∀(pM:List (Addr×Obj)) (s:Shared) (J:L2.St) (sv:List (Option V)) (H F:Hp) (d:PyData) (ys:List PyData) (xv:V) (u:Value),sv.length=m->Inv Y pM (sv++J) H s->RelV xv u->Zp F H->Rep Y.K F d xv->sD d=Z ys ->
 wpAny (model Y.prog Y.w) Y.A (assign tg Y.env u) (λ_ s'=>∃vs:List V,vs.length=m/\Inv Y pM (vs.map Z++J) H s'/\Zq Y.K F ys vs) Y.xe s
theorem At.pushes{K:Ae}{F0 H0 F H:Hp}{r:HM.Env}{J:L2.St}:∀{ds:List PyData} {vs:List V},At K F0 H0 F H r J->Zq K F ds vs->At K F0 H0 F H (ds.map (λd=>Z (HM.B.pl d))++r) (vs.map Z++J)
 |[],vs,e,q=>by rw[q.nil_inv];exact e
 |d::ds,vs,e,q=>by obtain⟨v,us,rfl,r1,r2⟩:=q.cons_inv;exact(At.pushes e r2).push r1
section
variable{X:Cx}{N:List Str}{scope:Scope}{fr:List Str}{cl:List (Str×Addr)}{C:Addr}
theorem Jd{env:Env}{y:Str}{k:NameKind}:∀{names:List (Str×NameKind)},(names.map λ(n,k)=>if(k==GA&&env.scope.kind==.function&&env.kindOf n==Z .cell)then(n,NameKind.cell)else(n,k)).lookup y=Z k ->names.lookup y=Z k\/(k=.cell/\names.lookup y=Z .free)
 |[],h=>by simp at h
 |(n,k')::r,h=>by
  have ih:=@Jd env y k r;rw[Ak]at h;dsimp only at h
  by_cases hc:(k'==GA&&env.scope.kind==.function&&env.kindOf n==Z .cell)=Aa
  .rw[if_pos hc,Gu]at h
   rw[Gu];split at h
   .cases h
    refine .inr ⟨rfl,?_⟩;have:(k'==GA)=Aa:=by rw[AJ,AJ]at hc;exact hc.1.1
    rw[show k'=GA by simpa using this]
   .exact ih h
  .rw[if_neg hc,Gu]at h
   rw[Gu];split at h
   .cases h
    exact .inl rfl
   .exact ih h
theorem qx{y:Str}{k:NameKind}:∀{names:List (Str×NameKind)},names.lookup y=Z k->(y,k)∈names
 |[],h=>by simp at h
 |(n,k')::r,h=>by
  rw[Gu]at h;split at h
  .cases h
   rename_i hb;rw[show y=n by simpa using hb];exact An ..
  .exact Ao _ (qx h)
theorem fX(T:Dw X N scope fr)(qW:∀y c,cl.lookup y=Z c->X.env.cells.lookup y=Z c)(sW:∀y∈scope.names,y.2=.free->(cl.lookup y.1).isSome=Aa)(I:Inv X pM J H s)(hc:X.calm=Aa)(hf:∀b∈fp,D5 X pM H b)(rO:∀b∈fp,b<s.heap.objs.size)(hC:s.heap.objs.size<=C):(ZM X N scope cl C s H fp).Ok:=by
 refine⟨I.ok.mod,T.kind,I.ok.glob,I.ok.blt,hC,λy z c h1 h2=>I.ok.inj y z c (qW y c h1) (qW z c h2),λy h=>?_,λy c h=>?_,λ_=>I.ok.hd hc,I.ok.frames,.inl rfl,λb hb=>⟨?_,λy c h=>?_⟩,λb o h=>I.bs b o h,
  BY I.ok.bsz I.sz,λb o h hb=>?_,λb hb hs=>?_,I.stack,I.stkFree⟩
 .have h':(relabel scope X.env).names.lookup y=Z .cell\/(relabel scope X.env).names.lookup y=Z .free:=h
  have hm:(y,GA)∈scope.names:=by
   rcases h' with h'|h'
   .rcases Jd h' with q|⟨_,q⟩
    .exact absurd rfl (T.cell _ (qx q))
    .exact qx q
   .rcases Jd h' with q|⟨e,_⟩
    .exact qx q
    .cases e
  exact Dp.mp (sW _ hm rfl)
 .exact absurd h (by show ¬Ab=Aa;simp)
 .exact Aw (BC (rO b hb) hC)
 .obtain⟨_,_,_,_,q,_⟩:=hf b hb
  exact q y c (qW y c h)
 .obtain⟨_,_,_,q,_⟩:=hf b hb
  rcases q with q|q
  .exact I.ok.noex b o h q
  .exact absurd (BC (Aq h) (BY I.ok.bsz q)) (EO _)
 .obtain⟨_,q1,q2,_⟩:=hf b hb
  rcases Ax.mp (I.stkSub b hs)with z|z
  .exact q1 z
  .exact q2 z
theorem U4{D:Addr}{h1:Heap}{tk:Nat}(T:Dw X N scope fr)(qW:∀y c,cl.lookup y=Z c->X.env.cells.lookup y=Z c)(sW:∀y∈scope.names,y.2=.free->(cl.lookup y.1).isSome=Aa)(I:Inv X pM J H s)(hc:X.calm=Aa)(hf:∀b∈fp,D5 X pM H b)(rO:∀b∈fp,b<s.heap.objs.size)(hD:s.heap.objs.size=D)(hC:D<C)(ns:h1.Ns C (λ_=>Z_))(hl:h1.get? D=Z {cls:=.type "list",data:=.seq #[] 0})(k:∀b o,s.heap.get? b=Z o->h1.get? b=Z o):Inv (ZM X N scope cl C s H fp) [] (Bs fr.length Z_++J) (upd H D (.lst [])) {s with heap:=h1,toks:=tk}:=by
 have hn:H D=Z_:=I.hok.fresh (Lh hD);have sX:s.heap.objs.size<=C:=BY (Lh hD) (ET hC);have u5:H C=Z_:=I.hok.fresh sX;refine⟨fX T qW sW I hc hf rO sX,rfl,I.bare,Un.laid k (Lh hD) hn,⟨_,ns,λi y v e1 e2 e3=>?_⟩,λy c h=>?_,?_,λy c h=>?_,λp hp=>absurd (show p∈([]:List (Addr×Obj)) from hp) (by simp),I.hok.laid k (Lh hD) ⟨Bw _,[],0,.nil,hl⟩,?_⟩
 .have wG:fr.length<=i:=by
   apply JG;intro ql;rw[Eo (by rw[DY];exact ql),Ob,if_pos ql]at e2;cases e2
  rw[D4 (by rw[DY];exact wG),DY]at e2;obtain⟨j,rfl⟩:∃j,i=j+fr.length:=⟨i-fr.length,by omega⟩;rw[Nat.add_sub_cancel]at e2
  .have e3':so scope y:=by
    have e3:so (relabel scope X.env) y:=e3;rcases e3 with q|q|q
    .rcases Jd q with q|⟨z,_⟩
     .exact .inl q
     .cases z
    .rcases Jd q with q|⟨_,q⟩
     .exact .inr (.inl q)
     .exact .inr (.inr q)
    .rcases Jd q with q|⟨z,_⟩
     .exact .inr (.inr q)
     .cases z
   have qX:=T.vis j y e1 e3';have hm:=qx qX;have hN:=T.same j y e1 qX;have t5:=T.cap _ hm rfl;obtain⟨m,_,hl⟩:=I.loc;obtain⟨u,ru,lu⟩:=hl j y v hN e2 (by
    rcases t5 with q|q
    .exact .inr (.inl q)
    .exact .inr (.inr q))
   refine⟨u,ru,?_⟩;obtain⟨c,uT⟩:=Dp.mp (sW _ hm rfl);rcases lu with⟨q,_⟩|⟨_,c',e,z⟩
   .rcases t5 with q'|q'<;>(rw[q']at q;cases q)
   .refine .inr ⟨?_,c,uT,?_⟩
    .rcases e3 with q|q|q
     .have q:(relabel scope X.env).names.lookup y=Z .local:=q
      rcases Jd q with q|⟨z,_⟩
      .rw[qX]at q;cases q
      .cases z
     .exact .inl q
     .exact .inr q
    .rw[qW y c uT]at e
     cases e;obtain⟨o,ho,hd⟩:=z;exact⟨o,k _ _ ho,hd⟩
 .obtain⟨v,o,ho,hd⟩:=I.cell y c (qW y c h)
  exact⟨v,o,k _ _ ho,hd⟩
 .show upd H D (.lst []) C=Z_
  rw[ZA (HD hC)];exact u5
 .have hq:=I.freeC y c (qW y c h)
  obtain⟨v,o,ho,_⟩:=I.cell y c (qW y c h);have:c≠D:=Aw (by rw[<-hD];exact Aq ho);rw[ZA this];exact hq
 .show(Bs fr.length Z_++J).length=N.length
  rw[AB,DY,I.len,T.len,Nat.add_comm]
def u7(Y:Cx)(rh:List Expr)(f:HM.TF):Prop:=∀r c,f r=Z c->∀(pM:List (Addr×Obj)) (s:Shared) (J:L2.St) (H:Hp) (Q:Bool->Hp->Prop),Inv Y pM J H s->(sJ Y.K r J H λF0 H0 F=>∀F' H',pZ F H F' H'->Q c H') ->
 wpAny (model Y.prog Y.w) Y.A (UC rh Y.env) (TP Y pM J Q) Y.xe s
theorem Co:u7 Y [] HM.A0:=by intro r c h pM s J H Q I ⟨F0,H0,F,at_,k⟩;cases h;exact wpAny_tests_nil ⟨H,I,k F H at_.refl⟩
theorem DO{e:Expr}{f:HM.TF}(h:XT Y e f):u7 Y [e] f:=λr c hc pM s J H Q I q=>wpAny_tests_one (h r c hc pM s J H Q I q)
def xD(K:Ae)(zZ:It)(ds:List PyData)(F:Hp):Prop:=∀F' H,Zp F F'->Zp F' H ->
 (∀(i:Nat) (d:PyData),ds[i]?=Z d->zZ.go i H/\∀x H',zZ.yld i H x H'->∃F2,pZ (BU F' H) H F2 H'/\Rep K F2 d x)/\zZ.stop ds.length H
theorem vO.e{K:Ae}{zZ:It}{ds:List PyData}{F:Hp}(h:vO K zZ ds F):xD K zZ ds F:=λF' H s1 s2=>by obtain⟨a,b⟩:=h F' H s1 s2;refine⟨λi d hd=>⟨(a i d hd).1,λx H' hy=>?_⟩,b⟩;obtain⟨e,r⟩:=(a i d hd).2 x H' hy;subst e;exact⟨_,.refl (pZ.refl s2).tups.sub,r⟩
def zD(X:Cx)(tg e:Expr)(f:HM.IF):Prop:=∀r ds,f r=Z ds->PI X tg e λJ H R=>sJ X.K r J H λF0 H0 F=>∀zZ F' H',pZ F H F' H'->xD X.K zZ ds F'->R zZ H'
theorem XI.e{X:Cx}{tg e:Expr}{f:HM.IF}(h:XI X tg e f):zD X tg e f:=λr ds hr pM s J H R I ⟨F0,H0,F,at_,k⟩=>h r ds hr pM s J H R I ⟨F0,H0,F,at_,λzZ F' H' x q=>k zZ F' H' x q.e⟩
theorem VC{it D:Addr}{tn:Nat->Heap->Prop}{zZ:It}{rG iter:Expr}{rh:List Expr}{tg:Expr}{pos:Pos}{sD:PyData->Option (List PyData)}{fc:HM.TF}{fe:HM.EF}{s4:Shared}{r:HM.Env}{ds out:List PyData}{Fs Hs F0 H0 F1:Hp}{R:Result->Shared->Prop}(T:Dw X N scope fr)(I2:Inv X pM J H1 s2)(W:t7 X.prog X.w X.K tg zZ fp it tn)(hf:∀b∈fp,D5 X pM H1 b)(I4:Inv (ZM X N scope cl C s2 H1 fp) [] (Bs fr.length Z_++J) (upd H1 D (.lst [])) s4)(tn0:tn 0 s4.heap)(hD:s2.heap.objs.size<=D)(rO:∀b∈fp,b<s2.heap.objs.size)(wK:X.calm=Aa)(hc:u7 (ZM X N scope cl C s2 H1 fp) rh fc)(he:XE (ZM X N scope cl C s2 H1 fp) rG fe)(at_:At X.K F0 H0 Fs Hs r J)(x1:pZ Fs Hs F1 H1)(w8:xD X.K zZ ds F1)(rm:J8 (ZM X N scope cl C s2 H1 fp) fr.length tg sD)(si:ds.length<HM.big)(go:ue sD fc fe r ds=Z out)(hR:∀s',(∃F H vs,Inv (ZM X N scope cl C s2 H1 fp) [] (Bs fr.length Z_++J) H s'/\pZ Fs Hs F H/\H D=Z (.lst vs)/\F D=Z_/\Zq X.K F out vs)->R (.ok .next) s'):codeAny (model X.prog X.w) X.A (.compLoop (.ListComp rG [⟨tg,iter,rh,0⟩] scope pos) 0 (.ref it) (.ref D) (compEnvC scope cl C X.env)) R s4:=by
 have vj:H1 D=Z_:=I2.hok.fresh hD;have t6:Hs D=Z_:=x1.hh.free vj;have hF1D:F1 D=Z_:=x1.sub.free vj;have hfpD:∀b∈fp,b≠D:=λb hb=>Aw (BC (rO b hb) hD);have yS:=I4.ok;have tH:∀{H:Hp},(∀b∈fp,H b=Z_)->∀b∈fp,D5 (ZM X N scope cl C s2 H1 fp) [] H b:=λhn b hb=>⟨hn b hb,(yS.exf b hb).1,yS.exfs b hb,.inl hb,(yS.exf b hb).2,λp hp=>absurd (show p∈([]:List (Addr×Obj)) from hp) (by simp)⟩;refine iO (λn s'=>∃(j:Nat) (sv:List (Option V)) (F H:Hp) (ys:List PyData) (vs:List V) (rest:List PyData),sv.length=fr.length/\Inv (ZM X N scope cl C s2 H1 fp) [] (sv++J) H s'/\tn j s'.heap/\(∀b∈fp,H b=Z_)/\pZ Fs Hs F H/\Zp F1 F/\At X.K F0 H0 F H r J /\
  H D=Z (.lst vs)/\F D=Z_/\Zq X.K F ys vs/\j+n=ds.length/\ys.length<=j/\ue sD fc fe r (ds.drop j)=Z rest/\out=ys++rest) ?_ ds.length
  ⟨0,Bs fr.length Z_,F1,_,[],[],out,DY,I4,tn0,λb hb=>by rw[ZA (hfpD b hb)];exact(hf b hb).1,x1.lay' vj,Zp.refl _,(at_.grow x1).grow ((at_.grow x1).refl.lay' vj),ZD,hF1D,.nil,by omega,Ai _,go,rfl⟩
 rintro n s5 ⟨j,sv,F,H,ys,vs,rest,uO,I5,tn5,hfp5,x5,sF,uj,vI,wM,vt,hjn,hyl,rR,sN⟩
 obtain⟨yj,yi⟩:=w8 F H sF uj.sub;cases n with
 |zero =>
  have ej:j=ds.length:=by omega
  subst ej;rw[List.drop_length]at rR;cases rR;rw[BK]at sN;subst sN;refine pW (W.done (ZM X N scope cl C s2 H1 fp) rfl rfl rfl rfl _ [] s5 _ H No I5 (tH hfp5) tn5 yi) λrv s6 ⟨e,I6⟩=>?_;subst e;refine hR s6 ⟨F,H,vs,I6.weak (by rw[AB,AB,DY,uO]) λi v hv=>?_,x5,vI,wM,vt⟩
  by_cases hi:i<fr.length
  .rw[Eo (by rw[DY];exact hi),Ob,if_pos hi]at hv
   cases hv
  .rw[D4 (by rw[DY];omega),DY]at hv
   rw[D4 (by omega),uO];exact hv
 |succ n =>
  have ql:j<ds.length:=by omega
  obtain⟨jg,jy⟩:=yj j ds[j] (AN ql);obtain⟨F2,x5,sF,uj,wM,vt,jy⟩:∃F2,pZ Fs Hs F2 H/\Zp F1 F2/\At X.K F0 H0 F2 H r J/\F2 D=Z_/\Zq X.K F2 ys vs/\∀x H',zZ.yld j H x H'->∃F3,pZ F2 H F3 H'/\Rep X.K F3 ds[j] x :=
   ⟨BU F H,x5.tups,sF.trans (Fd uj.sub),uj.grow uj.refl.tups,by unfold BU;rw[vI];exact wM,vt.mono (Fd uj.sub),jy⟩
  clear yj yi
  rw[Yj ql]at rR;refine pW (W.item (ZM X N scope cl C s2 H1 fp) rfl rfl rfl rfl j [] s5 _ H No I5 (tH hfp5) tn5 jg) λrv s6 ⟨u,e,h6⟩=>?_;subst e;refine pW h6 λ_ s7 ⟨xv,H7,I7,r7,y7,tn7,fr7⟩=>?_;obtain⟨F7,x7,rx⟩:=jy xv H7 y7;obtain⟨F2,x5,sF,uj,vI,wM,vt,rx⟩:∃F2,pZ Fs Hs F2 H7/\Zp F1 F2/\At X.K F0 H0 F2 H7 r J/\H7 D=Z (.lst vs)/\F2 D=Z_/\Zq X.K F2 ys vs/\Rep X.K F2 ds[j] xv:=by
   refine⟨F7,x5.trans x7,sF.trans x7.ff,uj.grow x7,x7.hh _ _ vI,?_,vt.mono x7.ff,rx⟩;cases q:F7 D with
   |none=>rfl
   |some o =>
    rcases x7.new D o q with z|z
    .rw[wM]at z;cases z
    .exact(z.no vI λ_ q=>by cases q).elim
  have I7':=I7.pinned (tH fr7) (W.obj _ _ tn7);unfold ue at rR;split at rR
  case h_2=>cases rR
  rename_i zs xa;have dok:=rm _ s7 J sv H7 F2 ds[j] zs xv u uO I7' r7 uj.sub rx xa;refine pW dok λ_ s8 ⟨ws,hws,I8,rws⟩=>?_;have zC:=uj.pushes rws;have again:∀{s9:Shared} {F9 H9:Hp} {zs9:List PyData} {xX:List V} {rest':List PyData},Inv (ZM X N scope cl C s2 H1 fp) ([]++J7 fp s7.heap) (ws.map Z++J) H9 s9->pZ Fs Hs F9 H9->Zp F2 F9->At X.K F0 H0 F9 H9 r J->H9 D=Z (.lst xX)->F9 D=Z_->Zq X.K F9 zs9 xX->zs9.length<=j+1->ue sD fc fe r (ds.drop (j+1))=Z rest'->out=zs9++rest' ->
    ∃m,m<n+1/\∃(j:Nat) (sv:List (Option V)) (F2 H:Hp) (ys:List PyData) (vs:List V) (rest:List PyData),sv.length=fr.length/\Inv (ZM X N scope cl C s2 H1 fp) [] (sv++J) H s9/\tn j s9.heap/\(∀b∈fp,H b=Z_)/\pZ Fs Hs F2 H/\Zp F1 F2/\At X.K F0 H0 F2 H r J /\
     H D=Z (.lst vs)/\F2 D=Z_/\Zq X.K F2 ys vs/\j+m=ds.length/\ys.length<=j/\ue sD fc fe r (ds.drop j)=Z rest/\out=ys++rest:=by
   intro s9 F9 H9 zs9 xX rest' I9 x9 s9F a9 h9 f9 r9 l9 g9 o9;refine⟨n,HV n,j+1,ws.map Z,F9,H9,zs9,xX,rest',by rw[Af];exact hws,I9.unpinned,W.keep _ _ _ tn7 λb hb o e=>(I9.pin (b,o) (B6 _ (B6 _ (Mz hb e)))).1,λb hb=>?_,x9,sF.trans s9F,a9,h9,f9,r9,by omega,l9,g9,o9⟩;obtain⟨o,e,d⟩:=W.obj _ _ tn7 b hb;exact(I9.pin (b,o) (B6 _ (B6 _ (Mz hb e)))).2.1
  have noD:∀{F' H':Hp},pZ F2 H7 F' H'->F' D=Z_:=λ{F' H'} y=>by
   cases q:F' D with
   |none=>rfl
   |some o =>
    rcases y.new D o q with z|z
    .rw[wM]at z;cases z
    .exact(z.no vI λ_ q=>by cases q).elim
  split at rR
  .rename_i zl
   split at rR
   .rename_i y hy
    obtain⟨rest',g1,g2⟩:=Al.mp rR;subst g2;refine pW (hc _ _ zl _ s8 _ H7 (λc' H'=>c'=Aa/\∃F',pZ F2 H7 F' H') I8 ⟨F0,H0,F2,zC,λF' H' y=>⟨rfl,F',y⟩⟩) λok s9 ⟨H9,I9,eok,F9,x9⟩=>?_;subst eok;rw[if_pos rfl];refine pW (he _ _ hy _ s9 _ H9 (λv' H'=>∃F',pZ F9 H9 F' H'/\Rep X.K F' y v') I9 ⟨F0,H0,F9,zC.grow x9,λv' F' H' x q=>⟨F',x,q⟩⟩) λu' s10 ⟨v',H10,I10,r10,F10,x10,wZ⟩=>?_;have tG:=x9.trans x10;have hHD':H10 D=Z (.lst vs):=tG.hh _ _ vI;have hFD':=noD tG;refine pW (Mo (X:=ZM X N scope cl C s2 H1 fp) _ s10 _ H10 (.ref D) [v'] (.ref D) [u'] (λ_ H'=>H'=upd H10 D (.lst (vs++[v']))) I10 rfl (.cons r10 .nil) ⟨D,vs,v',rfl,rfl,hHD',?_,rfl⟩) λ_ s11 ⟨_,H11,I11,_,qp⟩=>?_
    .have:=vt.1
     exact G0 (by omega)
    subst qp;refine again (zs9:=ys++[y]) I11 ((x5.trans tG).chg _ t6 hFD' λu z=>by rw[hHD']at z;cases z;rfl) tG.ff ((uj.grow tG).chgNew _ at_ (x5.trans tG).hh t6 hFD' λu z=>by rw[hHD']at z;cases z;rfl) ZD hFD' ((vt.mono tG.ff).append (.one wZ)) (by rw[AB];show ys.length+1<=j+1;omega) g1 (by rw[sN,EW];rfl)
   .cases rR
  .rename_i zl
   refine pW (hc _ _ zl _ s8 _ H7 (λc' H'=>c'=Ab/\∃F',pZ F2 H7 F' H') I8 ⟨F0,H0,F2,zC,λF' H' y=>⟨rfl,F',y⟩⟩) λok s9 ⟨H9,I9,eok,F9,x9⟩=>?_;subst eok;rw[if_neg (by simp)];exact again (zs9:=ys) I9 (x5.trans x9) x9.ff (uj.grow x9) (x9.hh _ _ vI) (noD x9) (vt.mono x9.ff) (by omega) rR sN
  .cases rR
theorem Vh{s':Shared}{sv:List (Option V)}{h':Heap}(I2:Inv X pM J H1 s2)(hf:∀b∈fp,D5 X pM H1 b)(hC:s2.heap.objs.size<=C)(I:Inv (ZM X N scope cl C s2 H1 fp) [] (sv++J) H s')(hs:El C s'.heap h'):Inv X pM J H {s' with heap:=h'}:=by
 have u:Un (tp X.stack) fp H1 H s2.heap s'.heap:=I.base;have u5:H C=Z_:=I.free;have ne:∀b o,s2.heap.get? b=Z o->b≠C:=λb o e=>Aw (BC (Aq e) hC);refine I2.call' (s':={s' with heap:=h'}) (ch:=fp) I.os ⟨λb o e n hb hx=>(hs.2 b (ne b o e)).trans (u.keep b o e n hb hx),λb o e n hb hx=>?_,u.free,λb o e hx=>?_,u.tups,u.frzs,u.tbls⟩ (λb o e=>?_) I.bare λb hb=>?_
 .obtain⟨sl,q⟩:=u.slot b o e n hb hx
  exact⟨sl,(hs.2 b (ne b o e)).trans q⟩
 .obtain⟨o',q⟩:=u.there b o e hx
  exact⟨o',(hs.2 b (ne b o e)).trans q⟩
 .refine(I.hok b o e).stay (λc w' hc q=>(hs.2 c ?_).trans q) (λ_ q=>q) λ_ _ q=>q
  rintro rfl
  rcases hc with rfl|hc
  .rw[u5]at e;cases e
  .rw[u5]at hc;cases hc
 .obtain⟨q0,q1,q2,q3,q4,q5⟩:=hf b hb
  exact⟨q3,q1,q4,q5⟩
variable{rG iter:Expr}{rh:List Expr}{tg:Expr}{pos:Pos}{fi:HM.IF}{sD:PyData->Option (List PyData)}{fc:HM.TF}{fe:HM.EF}
theorem Vz(T:Dw X N scope fr)(I:Inv X pM J H s):∀y∈scope.names,y.2=.free->∃c,X.env.cells.lookup y.1=Z c:=λy hy e=>I.ok.has y.1 (T.cap y hy e)
theorem VM(tY:X.xe=λ_ _=>False)(qJ:X.calm=Aa)(T:Dw X N scope fr)(rm:∀cl C s H ex,J8 (ZM X N scope cl C s H ex) fr.length tg sD)(hi:zD X tg iter fi)(hc:∀cl C s H ex,u7 (ZM X N scope cl C s H ex) rh fc)(he:∀cl C s H ex,XE (ZM X N scope cl C s H ex) rG fe)(hs:∀x,Gx iter X.env x=pure x:=by intro _;rfl):XF X (.ListComp rG [⟨tg,iter,rh,0⟩] scope pos) (FT sD fi fc fe):=by
 intro r b h;unfold FT at h;split at h
 .rename_i ds qh
  split at h
  .rename_i si
   obtain⟨out,rR,e⟩:=Al.mp h;subst e;intro pM s J H Q I ⟨F0,H0,F,at_,k⟩;obtain⟨cl,uI,qW,sW⟩:=Q2 (Vz T I);rw[eval_ListComp];refine wpAny_comprehension_free (use:=Z_) rfl hs uI T.kind T.names (pW (hi r ds qh pM s J H (λzZ H'=>∃F',pZ F H F' H'/\xD X.K zZ ds F') I ⟨F0,H0,F,at_,λzZ F' H' x q=>⟨F',x,q⟩⟩) λv s1 h1=>pW h1 λyh s2 h2=>?_);obtain⟨it,fp,tn,zZ,H1,rfl,I2,W,vX,f2,F1,x1,w8⟩:=h2;have rO:∀b∈fp,b<s2.heap.objs.size:=λb hb=>let ⟨o,ho,_⟩:=W.obj 0 _ vX b hb;Aq ho
   refine D2 (Sb T.cell (by intro y hy;simp at hy) (λh1 qZ rE=>?_) T.kind);dsimp only at qZ rE ⊢;generalize hP:s2.heap.push {cls:=.type "list",dict:=Z_,data:=.seq ([]:List Value).toArray}=h0 at qZ rE ⊢;have hsz:h0.objs.size=s2.heap.objs.size+1:=by rw[<-hP,Fz]
   have sX:s2.heap.objs.size<h0.objs.size:=by rw[hsz];exact HV _
   have old:∀b o,s2.heap.get? b=Z o->h1.get? b=Z o:=λb o e=>rE.extBut b o (Aw (ES (Aq e) sX)) (Ar _ (by rw[<-hP];exact Ar _ e));have hl:h1.get? s2.heap.objs.size=Z {cls:=.type "list",data:=.seq #[] 0}:=rE.extBut _ _ (Aw sX) (Ar _ (by rw[<-hP];exact AS _ rfl));have I4:Inv (ZM X N scope cl h0.objs.size s2 H1 fp) [] (Bs fr.length Z_++J) (upd H1 s2.heap.objs.size (.lst [])) {s2 with heap:=h1,toks:=s2.toks+([]:List (Str×Value)).length}:=U4 T qW sW I2 qJ f2 rO rfl sX qZ hl old;have wU:tn 0 h1:=W.keep _ _ _ vX λb _ o e=>old b o e;have t6:H s2.heap.objs.size=Z_:=x1.hh.free (I2.hok.fresh (Ai _));have uw:codeAny (model X.prog X.w) X.A (.compLoop (.ListComp rG [⟨tg,iter,rh,0⟩] scope pos) 0 (.ref it) (.ref s2.heap.objs.size) (compEnvC scope cl h0.objs.size X.env)) (compPost (model X.prog X.w) X.A X.xe Z_ (EP X pM J Q) (.ref s2.heap.objs.size) h0.objs.size)
     {s2 with heap:=h1,toks:=s2.toks+([]:List (Str×Value)).length}:=by
    refine VC T I2 W f2 I4 wU (Ai _) rO qJ (hc _ _ _ _ _) (he _ _ _ _ _) at_ x1 w8 (rm _ _ _ _ _) si rR λs' ⟨F',H',vs,I',x',hD',hFD',rs⟩=>?_;obtain⟨m,hn,_⟩:=id I'.loc;refine⟨m,hn,λh2 sd=>⟨.ref s2.heap.objs.size,H',Vh I2 f2 (ET sX) I' sd,rfl,k _ F' H' x' ⟨[s2.heap.objs.size],.ol hD' rs,by simp,λa ha=>?_⟩⟩⟩;obtain rfl:a=s2.heap.objs.size:=by simpa using ha
    exact⟨hFD',t6⟩
   exact codeAny_compStart_list uw (W.self _ 0 _ _ _ wU uw)
  .cases h
 .cases h
theorem WV(i:Nat){y:Str}{py tI:Pos}(hN:X.N.Nodup)(tY:X.xe=λ_ _=>False)(qJ:X.calm=Aa)(T:Dw X N scope fr)(rm:∀cl C s H ex,J8 (ZM X N scope cl C s H ex) fr.length tg sD)(hi:zD X tg iter fi)(hc:∀cl C s H ex,u7 (ZM X N scope cl C s H ex) rh fc)(he:∀cl C s H ex,XE (ZM X N scope cl C s H ex) rG fe)(xm:X.N[i]?=Z y:=by rfl)(hy:X.env.scope.names.lookup y=Z .local:=by rfl)(xc:DU (.ListComp rG [⟨tg,iter,rh,0⟩] scope pos) (Z (.Name y py)) tI.line X.env=pure Aa:=by rfl)(hs:∀x,Gx iter X.env x=pure x:=by intro _;rfl):XS X (.Assign [.Name y py] (.ListComp rG [⟨tg,iter,rh,0⟩] scope pos) tI) (HM.ZL i (FT sD fi fc fe)):=by
 intro r o h;obtain⟨b,hb,e⟩:=Al.mp h;subst e;unfold FT at hb;split at hb
 .rename_i ds qh
  split at hb
  .rename_i si
   obtain⟨out,rR,e⟩:=Al.mp hb;subst e;intro pM s J H E I ⟨F0,H0,F,at_,k⟩;obtain⟨cl,uI,qW,sW⟩:=Q2 (Vz T I);rw[exec_Assign_Name_used _ _ _ _ xc];refine Ac (wpAny_standAt (Ac ?_));show wpAny _ X.A (do let _ <-comprehension (.ListComp rG [⟨tg,iter,rh,0⟩] scope pos) scope X.env _ (newList []) Ab (eval iter X.env) (Z (assign (.Name y py) X.env))) _ _ s;refine Ac (Cu (wpAny_comprehension_free (use:=Z (assign (.Name y py) X.env)) (Q:=λ_ s'=>SP X pM E .next s') rfl hs uI T.kind T.names (pW (hi r ds qh pM s J H (λzZ H'=>∃F',pZ F H F' H'/\xD X.K zZ ds F') I ⟨F0,H0,F,at_,λzZ F' H' x q=>⟨F',x,q⟩⟩) λv s1 h1=>pW h1 λyh s2 h2=>?_)) (λ_ s' hq=>Ad (Ad hq)) λ_ _ e=>e)
   obtain⟨it,fp,tn,zZ,H1,rfl,I2,W,vX,f2,F1,x1,w8⟩:=h2;have rO:∀b∈fp,b<s2.heap.objs.size:=λb hb=>let ⟨o,ho,_⟩:=W.obj 0 _ vX b hb;Aq ho
   refine D2 (Sb T.cell (by intro y hy;simp at hy) (λh1 qZ rE=>?_) T.kind);dsimp only at qZ rE ⊢;generalize hP:s2.heap.push {cls:=.type "list",dict:=Z_,data:=.seq ([]:List Value).toArray}=h0 at qZ rE ⊢;have hsz:h0.objs.size=s2.heap.objs.size+1:=by rw[<-hP,Fz]
   have sX:s2.heap.objs.size<h0.objs.size:=by rw[hsz];exact HV _
   have old:∀b o,s2.heap.get? b=Z o->h1.get? b=Z o:=λb o e=>rE.extBut b o (Aw (ES (Aq e) sX)) (Ar _ (by rw[<-hP];exact Ar _ e));have hl:h1.get? s2.heap.objs.size=Z {cls:=.type "list",data:=.seq #[] 0}:=rE.extBut _ _ (Aw sX) (Ar _ (by rw[<-hP];exact AS _ rfl));have I4:Inv (ZM X N scope cl h0.objs.size s2 H1 fp) [] (Bs fr.length Z_++J) (upd H1 s2.heap.objs.size (.lst [])) {s2 with heap:=h1,toks:=s2.toks+([]:List (Str×Value)).length}:=U4 T qW sW I2 qJ f2 rO rfl sX qZ hl old;have wU:tn 0 h1:=W.keep _ _ _ vX λb _ o e=>old b o e;have t6:H s2.heap.objs.size=Z_:=x1.hh.free (I2.hok.fresh (Ai _));have uw:codeAny (model X.prog X.w) X.A (.compLoop (.ListComp rG [⟨tg,iter,rh,0⟩] scope pos) 0 (.ref it) (.ref s2.heap.objs.size) (compEnvC scope cl h0.objs.size X.env)) (compPost (model X.prog X.w) X.A X.xe (Z (assign (.Name y py) X.env)) (λ_ s'=>SP X pM E .next s') (.ref s2.heap.objs.size) h0.objs.size)
     {s2 with heap:=h1,toks:=s2.toks+([]:List (Str×Value)).length}:=by
    refine VC T I2 W f2 I4 wU (Ai _) rO qJ (hc _ _ _ _ _) (he _ _ _ _ _) at_ x1 w8 (rm _ _ _ _ _) si rR λs' ⟨F',H',vs,I',x',hD',hFD',rs⟩=>?_;obtain⟨m,hn,_⟩:=id I'.loc;have IX:Inv X pM J H' s':=Vh (h':=s'.heap) I2 f2 (ET sX) I' (Sl _ _);have u5:H' h0.objs.size=Z_:=I'.free;have w5:h0.objs.size≠X.env.locals:=HD (ES I2.lt sX);have vZ:∀z c,X.env.cells.lookup z=Z c->c≠h0.objs.size:=λz c hz=>by obtain⟨v,o,ho,_⟩:=I2.cell z c hz;exact Aw (ES (Aq ho) sX)
    have neP:∀p∈X.pn++pM,p.1≠h0.objs.size:=λp hp=>Aw (ES (Aq (I2.pin p hp).1) sX);show wpAny _ X.A (assign (.Name y py) X.env (.ref s2.heap.objs.size)) _ _ _;refine wpAny_assign_Name (V0 IX hN xm (.inl hy) (v:=.ref s2.heap.objs.size) rfl (λs3 I3 hsa=>?_) (.inr hy));obtain⟨a,sa,ea⟩:=hsa;have neA:h0.objs.size≠a:=by
     rcases ea with e|e
     .rw[e];exact w5
     .exact A7 (vZ _ _ e)
    refine⟨m,hn.sameBut sa neA,λh2 sd=>?_⟩;refine⟨_,H',I3.turned (t':=s3.toks) (it:=h0.objs.size) (λb o hb e=>(sd.2 b hb).trans e) u5 w5 (.inr (BY I2.sz (ET sX))) vZ neP,k _ F' H' ((at_.grow x').storeNew at_ x'.hh (fp':=[s2.heap.objs.size]) (.ol hD' rs) (by simp) λa ha=>?_)⟩;obtain rfl:a=s2.heap.objs.size:=by simpa using ha
    exact⟨hFD',t6⟩
   exact codeAny_compStart_list uw (W.self _ 0 _ _ _ wU uw)
  .cases hb
 .cases hb
end
end
section
variable{py tI:Pos}{y:Str}
def Of(d:PyData):Option (List PyData):=Z [d]
def Ib:PyData->Option (List PyData)
 | .tuple [x,y]=>Z [x,y]
 |_=>Z_
theorem SS(c:HM.TF)(e:HM.EF)(r:HM.Env):∀xs,HM.Bz c e r xs=ue Of c e r xs
 |[]=>rfl
 |x::xs=>by unfold HM.Bz ue;rw[SS c e r xs];rfl
theorem SO(c:HM.TF)(e:HM.EF)(r:HM.Env):∀xs,HM.Hd c e r xs=ue Ib c e r xs
 |[]=>rfl
 |x::xs=>by
  have ih:=SO c e r xs;unfold HM.Hd ue;split
  .rename_i h;cases h
  .rename_i a b q h
   cases h;rw[ih];rfl
  .rename_i h1
   have hn:Ib x=Z_:=by
    unfold Ib;split
    .exact(h1 _ _ _ rfl).elim
    .rfl
   rw[hn]
theorem Uy(i:HM.IF)(c:HM.TF)(e:HM.EF):HM.ZF i c e=FT Of i c e:=by
 funext r
 unfold HM.ZF FT;cases i r with
 |none=>rfl
 |some xs=>dsimp only;rw[SS]
theorem UD(i:HM.IF)(c:HM.TF)(e:HM.EF):HM.Xv i c e=FT Ib i c e:=by
 funext r
 unfold HM.Xv FT;cases i r with
 |none=>rfl
 |some xs=>dsimp only;rw[SO]
theorem gp{K:Ae}{F:Hp}{d1 d2:PyData}{v:V}(h:Rep K F (.tuple [d1,d2]) v):∃a v1 v2,v=.ref a/\F a=Z (.tup [v1,v2])/\Rep K F d1 v1/\Rep K F d2 v2:=by
 cases h with
 | @tup a ds vs h1 h2 h3 =>
  cases vs with
  |nil=>simp at h2
  |cons v1 vs=>cases vs with
   |nil=>simp at h2
   |cons v2 vs=>cases vs with
    |nil=>exact⟨a,v1,v2,rfl,h1,h3 0 _ _ rfl rfl,h3 1 _ _ rfl rfl⟩
    |cons _ _=>simp at h2
section
variable{X:Cx}{N:List Str}{scope:Scope}{x x2:Str}{px wD pt:Pos}{kt:Nat}
theorem Th(T:Dw X N scope [x])(cl:List (Str×Addr))(C:Addr)(s₀:Shared)(H₀:Hp)(ex:List Addr):J8 (ZM X N scope cl C s₀ H₀ ex) 1 (.Name x px) Of:=by
 intro pM s J sv H F d ys xv u uO I r sub q hd;cases hd;have hx:=T.loc x (AG.mpr rfl);refine pW (L5 (X:=ZM X N scope cl C s₀ H₀ ex) (i:=0) T.nd (T.first 0 x rfl) (.inl (JF hx)) (.inr (JF hx)) _ s _ H xv u (λσ' H'=>σ'=(sv++J).set 0 (Z xv)/\H'=H) I r ⟨rfl,rfl⟩) λ_ s' ⟨σ',H',I',e1,e2⟩=>?_
 subst e1 e2;refine⟨[xv],rfl,?_,.one q⟩;cases sv with
 |nil=>simp at uO
 |cons a sv=>cases sv with
  |nil=>exact I'
  |cons _ _=>simp at uO
theorem TY(T:Dw X N scope [x,x2])(cl:List (Str×Addr))(C:Addr)(s₀:Shared)(H₀:Hp)(ex:List Addr):J8 (ZM X N scope cl C s₀ H₀ ex) 2 (.Tuple [.Name x px,.Name x2 wD] kt pt) Ib:=by
 intro pM s J sv H F d ys xv u uO I r sub q hd;have hx:=T.loc x (An ..);have hx2:=T.loc x2 (Ao _ (An ..));unfold Ib at hd;split at hd
 .rename_i d1 d2
  cases hd;obtain⟨pa,v1,v2,e7,vD,rx1,rx2⟩:=gp q;subst e7;refine pW (c5 (X:=ZM X N scope cl C s₀ H₀ ex) (n:=2) rfl (Vl (L5 (X:=ZM X N scope cl C s₀ H₀ ex) (i:=0) T.nd (T.first 0 x rfl) (.inl (JF hx)) (.inr (JF hx))) (Vl (L5 (X:=ZM X N scope cl C s₀ H₀ ex) (i:=1) T.nd (T.first 1 x2 rfl) (.inl (JF hx2)) (.inr (JF hx2))) dy)) rfl rfl _ s _ H (.ref pa) u (λσ' H'=>σ'=((sv++J).set 0 (Z v1)).set 1 (Z v2)/\H'=H) I r ⟨pa,[v1,v2],rfl,.of (sub _ _ vD),rfl,v1,[v2],rfl,v2,[],rfl,rfl,rfl,rfl⟩) λ_ s' ⟨σ',H',I',e1,e2⟩=>?_
  subst e1 e2;refine⟨[v1,v2],rfl,?_,.cons rx1 (.one rx2)⟩;cases sv with
  |nil=>simp at uO
  |cons a sv=>cases sv with
   |nil=>simp at uO
   |cons b sv=>cases sv with
    |nil=>exact I'
    |cons _ _=>simp at uO
 .cases hd
def Ts(vR:Str->Option NameKind)(XN N:List Str)(names:List (Str×NameKind))(fr:List Str):Bool :=
 names.all (λy=>y.2 != .cell)&&names.all (λy=>y.2 != .local||names.lookup y.1==Z .local)&&fr.all (λx=>names.lookup x==Z .local)&&(Ag fr.length).all (λi=>N[i]?==fr[i]?)&&decide N.Nodup&&N.length==XN.length+fr.length &&
 names.all (λy=>y.2 != .free||vR y.1==Z .cell||vR y.1==Z .free) &&
 (Ag (N.length-fr.length)).all (λi=>match N[i+fr.length]? with
  |some y=>(names.lookup y != Z .free||XN[i]?==Z y)&&(names.lookup y==Z .free||(names.lookup y != Z .local&&names.lookup y != Z .cell))
  |none=>Aa)
theorem ZG{X:Cx}{N XN:List Str}{scope sc:Scope}{fr:List Str}(hs:X.env.scope=sc:=by rfl)(hN:X.N=XN:=by rfl)(hk:scope.kind=.function:=by rfl)(h:Ts (λy=>sc.names.lookup y) XN N scope.names fr=Aa:=by decide +kernel):Dw X N scope fr:=by
 subst hN;unfold Ts at h;simp only[AJ,Au,Dl,bne_iff_ne,beq_iff_eq,decide_eq_true_eq]at h;obtain⟨⟨⟨⟨⟨⟨⟨h1,h2⟩,h3⟩,h4⟩,h5⟩,h6⟩,h7⟩,h8⟩:=h;have at_:∀(i:Nat) (y:Str),N[i+fr.length]?=Z y->(scope.names.lookup y≠Z .free\/X.N[i]?=Z y)/\(scope.names.lookup y=Z .free\/(scope.names.lookup y≠Z .local/\scope.names.lookup y≠Z .cell)):=λi y e=>by have hi:i+fr.length<N.length:=(A1.mp e).1;have:=h8 i (As.mpr (by omega));rw[e]at this;simpa only[AJ,Dl,bne_iff_ne,beq_iff_eq]using this
 refine⟨hk,h1,λy hy e=>(h2 y hy).resolve_left (λz=>z e),h3,λi x e=>?_,h5,h6,λy hy e=>?_,λi y e q=>(at_ i y e).1.resolve_left (λz=>z q),λi y e v=>?_⟩
 .rw[h4 i (As.mpr (A1.mp e).1)]
  exact e
 .have:=h7 y hy
  rw[show X.env.kindOf y.1=sc.names.lookup y.1 by rw[<-hs];rfl];rcases this with(z|z)|z
  .exact absurd e z
  .exact .inl z
  .exact .inr z
 .rcases(at_ i y e).2 with z|⟨z1,z2⟩
  .exact z
  .rcases v with v|v|v
   .exact absurd v z1
   .exact absurd v z2
   .exact v
variable{rG iter:Expr}{rh:List Expr}{pos:Pos}{fi:HM.IF}{fc:HM.TF}{fe:HM.EF}
theorem BE(tY:X.xe=λ_ _=>False)(qJ:X.calm=Aa)(T:Dw X N scope [x])(hi:XI X (.Name x px) iter fi)(hc:∀cl C s H ex,u7 (ZM X N scope cl C s H ex) rh fc)(he:∀cl C s H ex,XE (ZM X N scope cl C s H ex) rG fe)(hs:∀x,Gx iter X.env x=pure x:=by intro _;rfl):XF X (.ListComp rG [⟨.Name x px,iter,rh,0⟩] scope pos) (HM.ZF fi fc fe):=by
 rw[Uy];exact VM tY qJ T (Th T) hi.e hc he hs
theorem gA(tY:X.xe=λ_ _=>False)(qJ:X.calm=Aa)(T:Dw X N scope [x,x2])(hi:XI X (.Tuple [.Name x px,.Name x2 wD] kt pt) iter fi)(hc:∀cl C s H ex,u7 (ZM X N scope cl C s H ex) rh fc)(he:∀cl C s H ex,XE (ZM X N scope cl C s H ex) rG fe)(hs:∀x,Gx iter X.env x=pure x:=by intro _;rfl):XF X (.ListComp rG [⟨.Tuple [.Name x px,.Name x2 wD] kt pt,iter,rh,0⟩] scope pos) (HM.Xv fi fc fe):=by
 rw[UD];exact VM tY qJ T (TY T) hi.e hc he hs
theorem KD(i:Nat)(hN:X.N.Nodup)(tY:X.xe=λ_ _=>False)(qJ:X.calm=Aa)(T:Dw X N scope [x])(hi:XI X (.Name x px) iter fi)(hc:∀cl C s H ex,u7 (ZM X N scope cl C s H ex) rh fc)(he:∀cl C s H ex,XE (ZM X N scope cl C s H ex) rG fe)(xm:X.N[i]?=Z y:=by rfl)(hy:X.env.scope.names.lookup y=Z .local:=by rfl)(xc:DU (.ListComp rG [⟨.Name x px,iter,rh,0⟩] scope pos) (Z (.Name y py)) tI.line X.env=pure Aa:=by rfl)(hs:∀x,Gx iter X.env x=pure x:=by intro _;rfl):XS X (.Assign [.Name y py] (.ListComp rG [⟨.Name x px,iter,rh,0⟩] scope pos) tI) (HM.ZL i (HM.ZF fi fc fe)):=by
 rw[Uy];exact WV i hN tY qJ T (Th T) hi.e hc he xm hy xc hs
theorem kJ(i:Nat)(hN:X.N.Nodup)(tY:X.xe=λ_ _=>False)(qJ:X.calm=Aa)(T:Dw X N scope [x,x2])(hi:XI X (.Tuple [.Name x px,.Name x2 wD] kt pt) iter fi)(hc:∀cl C s H ex,u7 (ZM X N scope cl C s H ex) rh fc)(he:∀cl C s H ex,XE (ZM X N scope cl C s H ex) rG fe)(xm:X.N[i]?=Z y:=by rfl)(hy:X.env.scope.names.lookup y=Z .local:=by rfl)(xc:DU (.ListComp rG [⟨.Tuple [.Name x px,.Name x2 wD] kt pt,iter,rh,0⟩] scope pos) (Z (.Name y py)) tI.line X.env=pure Aa:=by rfl)(hs:∀x,Gx iter X.env x=pure x:=by intro _;rfl):XS X (.Assign [.Name y py] (.ListComp rG [⟨.Tuple [.Name x px,.Name x2 wD] kt pt,iter,rh,0⟩] scope pos) tI) (HM.ZL i (HM.Xv fi fc fe)):=by
 rw[UD];exact WV i hN tY qJ T (TY T) hi.e hc he xm hy xc hs
end
end
section
variable{p:Addr}{r:HM.Env}{F F0 H H0:Hp}{J:L2.St}{kvs:List (List pU×List PyData)}{ds:List PyData}{i:Nat}{p1 p2 p3 p4:Pos}{K:Ae}{x:Str}{Q:Value->Shared->Prop}
section
variable{prog:Program}{w:World}{K:Type}[DecidableEq K]{knd:HeapKind prog w K}{A:Around}{E:Value->Shared->Prop}{s:Shared}
theorem mO{d a:Addr}{xs:List (K×Addr×Value)}{k:K}{v:Value}(hu:knd.room A)(tN:knd.is s.heap k a)(hm:s.heap.DictOfH knd d xs)(hsz:xs.length<=sizeLine)(h1:∀p,atKey xs k=Z p->Q p.2 {s with toks:=s.toks+knd.draws k})(h2:atKey xs k=Z_->∀h',h'.DictOfH knd d (storedH xs k a v)->El d s.heap h'->Q v {s with heap:=h',toks:=s.toks+knd.draws k}):wpAny (model prog w) A (dictSetDefault d (.ref a) v) Q E s:=by
 obtain⟨o,es,ep,ho,hc,hd,he,his,hn⟩:=hm;unfold dictSetDefault
 try with_reducible refine B4 ?_
 refine Ac (knd.pyHash hu tN ?_);refine Ac (wpAny_dictFind_heap (s:={s with toks:=s.toks+knd.draws k}) hu tN ho hd he his hn ?_ ?_)
 .intro rA
  have hnot:k∉xs.map (·.1):=not_mem_keys_of_get rA;have yr:=atKey_none_of_get rA;refine Ac (wpAny_rule (Ac (wpAny_updateDictKeys (hz:=by have e:=size_of_entries he;omega) (s:={s with toks:=s.toks+knd.draws k}) ho hd (Ad (h2 yr _ ⟨_,_,ep+1,Em _ ho (Obj.isFreed_of_dict (Obj.data_mapDictKeys hd _)),
   hc.mapDictKeys _,Obj.data_mapDictKeys hd _,?_,?_,?_⟩ (DW ..))))))
  .rw[storedH_new yr]
   simp[he,entryOfKey]
  .rw[storedH_new yr]
   intro x hx;rcases A8.mp hx with hx|hx
   .exact knd.keeps (his x hx) ho hd (DW ..)
   .simp only[AG]at hx
    subst hx;exact knd.keeps tN ho hd (DW ..)
  .rw[storedH_new yr]
   rw[Br,Gw];refine⟨hn,by simp,?_⟩;intro x hx y hy;simp only[Ak,FG,AG]at hy;subst hy;exact λe=>hnot (e▸hx)
 .intro j p hj
  refine Ac (N3 (s:={s with toks:=s.toks+knd.draws k}) ho hd ?_);rw[entry_at he j,hj];exact Ac (wpAny_rule (Ad (h1 p (atKey_of_get hn hj))))
theorem m8(d a:Addr)(hd:(d==CK)=Ab)(dflt:Value):
  MeetsIn prog w (Builtin.«dict.setdefault» ⟨[.ref d,.ref a,dflt],[]⟩) (λA R s=>knd.room A.in1/\∃k xs,knd.is s.heap k a/\s.heap.DictOfH knd d xs/\xs.length<=sizeLine /\
   (∀p,atKey xs k=Z p->R (.ok (.ret p.2)) {s with toks:=s.toks+knd.draws k}) /\
   (atKey xs k=Z_->∀h',h'.DictOfH knd d (storedH xs k a dflt)->El d s.heap h'->R (.ok (.ret dflt)) {s with heap:=h',toks:=s.toks+knd.draws k})) :=
 .of_wp λA R s ⟨hu,k,xs,tN,hm,hz,h1,h2⟩=>by unfold Builtin.«dict.setdefault»;refine Ac ?_;unfold Builtin.Dict.keyAndDefault;refine Ac (wpAny_notOrdered_dict hm.typeIs ?_);show wpAny _ _ (pure (d,A6 a,Z dflt)) _ _ s;refine Ad ?_;show wpAny _ _ (if(d==CK)=Aa then _ else(dictSetDefault d (.ref a) dflt >>= _)) _ _ s;rw[if_neg (by rw[hd];exact C2)];exact Ac (mO hu tN hm hz (λp hp=>Ad ⟨p.2,rfl,h1 p hp⟩) λhn h' hm' hs'=>Ad ⟨dflt,rfl,h2 hn h' hm' hs'⟩)
end
section
variable{X:Cx}{pM:List (Addr×Obj)}{J:L2.St}{H:Hp}{s:Shared}{a b:Addr}{z:V}{r:Value}{A:Around}{E:Value->Shared->Prop}{kvs:List (List pU×V)}{k:List pU}
theorem aM(hu:A.units+1<cLine)(I:Inv X pM J H s)(e:H a=Z (.dT kvs))(eb:H b=Z (.tup (k.map kV)))(hl:kvs.length<sizeLine)(rz:RelV z r)(h1:∀v,AR kvs k=Z v->∀w' s',Inv X pM J H s'->RelV v w'->Q w' s')(h2:AR kvs k=Z_->∀s',Inv X pM J (upd H a (.dT (kvs++[(k,z)]))) s'->Q r s'):wpAny (model X.prog X.w) A (call (.builtin "dict.setdefault") [.ref a,.ref b,r]) Q E s:=by
 obtain⟨zz,hd,xs,qF,dd⟩:=S0 I.hok e;have hz:xs.length<=sizeLine:=by rw[<-GC qF];exact zz
 have hv:=qF.val k;refine call_meetsIn YB dd.typeIs PySem.F.entry_dict_setdefault (PySem.F.args_dict_setdefault_3 _ _ _) (m8 (knd:=HB (BN X.prog X.w)) a b hd r) ⟨Lo hu,k,xs,Ip I.hok eb,dd,hz,λp hp=>?_,λhn h' dd' hs=>?_⟩
 .rw[hp]at hv
  cases vA:AR kvs k with
  |none=>rw[vA]at hv;exact hv.elim
  |some v=>rw[vA]at hv;exact h1 v vA _ _ (I.tok _) hv
 .rw[hn]at hv
  have vA:AR kvs k=Z_:=by
   cases vA:AR kvs k with
   |none=>rfl
   |some v=>rw[vA]at hv;exact hv.elim
  refine h2 vA _ ?_;have hp:=qF.put k eb rz;have epk:qz kvs k z=kvs++[(k,z)]:=by unfold qz;rw[if_neg];rw[Me,vA];simp
  rw[epk]at hp;obtain⟨q,es,ep,hq,g2,g3,g4,_,g5⟩:=dd';refine L3 I (by rw[e];exact HF) hs ⟨q,hq⟩ ⟨by rw[AB];exact hl,hd,_,hp.keeps λc ys ec=>?_,q,es,ep,hq,g2,g3,g4,g5⟩;rw[ZA (SY ec e (λz=>nomatch z))];exact ec
end
def aB(td ty tx:TE):TE:=λJ H Q=>td J H λx H1=>∃a,x=.ref a/\IsD H1 a/\ty J H1 λy H2=>tx J H2 λz H3=>∃kvs k b,H3 a=Z (.dT kvs)/\y=.ref b/\H3 b=Z (.tup (k.map kV))/\kvs.length<sizeLine /\
 (∀v,AR kvs k=Z v->Q v H3)/\(AR kvs k=Z_->Q z (upd H3 a (.dT (kvs++[(k,z)]))))
section
variable{X:Cx}{o e f:Expr}{sj qS:Pos}{td ty tx:TE}
theorem bq(hu:X.A.units+1<cLine)(ho:PE X o td)(he:PE X e ty)(hf:PE X f tx)(m:M2 X o "setdefault" sj e f qS):PE X (.Call (.Attribute o "setdefault" sj) [e,f] [] qS) (aB td ty tx):=by intro pM s J H Q I h;refine wpAny_Call_method m.base m.few m.line PySem.F.plainAttrs_dict YB PySem.F.type_dict_setdefault (pW (ho pM s J H _ I h) λu s1 ⟨x,H1,I1,rx,a,ex,d,q1⟩=>?_);subst ex;obtain rfl:u=A6 a:=rx;obtain⟨t1,t2,_⟩:=cQ I1 d;refine⟨t1,t2,?_⟩;rw[m.trees];refine SA rfl (Yk (Sh (pW (he pM s1 J H1 _ I1 q1) λiv s2 ⟨y,H2,I2,ry,q2⟩=>Sh (pW (hf pM s2 J H2 _ I2 q2) λfv s3 ⟨z,H3,I3,rz,kvs,k,b,ea,ey,eb,hl,q3,q4⟩=>Calls.spliced_nil ?_))));subst ey;obtain rfl:iv=A6 b:=ry;exact aM hu I3 ea eb hl rz (λv hv w' s4 I4 rw'=>⟨v,H3,I4,rw',q3 v hv⟩) λhn s4 I4=>⟨z,_,I4,rz,q4 hn⟩
end
def OT(K:Ae)(F H:Hp)(kvs:List (List pU×List PyData))(vvs:List (List pU×V))(ls:List Addr):Prop:=kvs.map (·.1)=vvs.map (·.1)/\vvs.map (·.2)=ls.map V.ref /\
 ∀(i:Nat) (ds:List PyData) (l:Addr),(kvs.map (·.2))[i]?=Z ds->ls[i]?=Z l->∃vs,H l=Z (.lst vs)/\Zq K F ds vs
section
variable{K:Ae}{F F' H H':Hp}{kvs:List (List pU×List PyData)}{vvs:List (List pU×V)}{ls:List Addr}
theorem OT.len(q:OT K F H kvs vvs ls):kvs.length=ls.length/\kvs.length=vvs.length:=by have e1:=congrArg Bx q.1;have e2:=congrArg Bx q.2.1;rw[Af,Af]at e1 e2;omega
theorem OT.mono(q:OT K F H kvs vvs ls)(s:Zp F F')(k:∀a∈ls,∀o,H a=Z o->H' a=Z o):OT K F' H' kvs vvs ls :=
 ⟨q.1,q.2.1,λi ds l h1 h2=>let ⟨vs,q1,q2⟩:=q.2.2 i ds l h1 h2;⟨vs,k l (Bf h2) _ q1,q2.mono s⟩⟩
theorem OT.snoc(q:OT K F H kvs vvs ls)(k:List pU)(hp:H p=Z (.lst [])):OT K F H (kvs++[(k,[])]) (vvs++[(k,.ref p)]) (ls++[p]):=by
 refine⟨by rw[Br,Br,q.1];rfl,by rw[Br,Br,q.2.1];rfl,λi ds l h1 h2=>?_⟩;have hl:=q.len;rw[Br]at h1
 by_cases hi:i<kvs.length
 .rw[Eo (by rw[Af];exact hi)]at h1
  rw[Eo (by omega)]at h2;exact q.2.2 i ds l h1 h2
 .rw[D4 (by rw[Af];omega),Af]at h1
  rw[D4 (by omega),<-hl.1]at h2;cases hj:i-kvs.length with
  |zero=>rw[hj]at h1 h2;cases h1;cases h2;exact⟨[],hp,.nil⟩
  |succ j=>rw[hj]at h1;cases h1
theorem OT.look(q:OT K F H kvs vvs ls)(k:List pU):(∀ds,HM.Zg kvs k=Z ds->∃l' vs,AR vvs k=Z (.ref l')/\l'∈ls/\H l'=Z (.lst vs)/\Zq K F ds vs)/\(HM.Zg kvs k=Z_->AR vvs k=Z_):=PM k kvs vvs ls q.1 q.2.1 q.2.2
theorem OT.app(k:List pU){d:PyData}{v:V}:∀{kvs:List (List pU×List PyData)} {vvs:List (List pU×V)} {ls:List Addr},OT K F H kvs vvs ls->ls.Nodup->Rep K F d v->∀{l':Addr} {vs:List V},AR vvs k=Z (.ref l')->H l'=Z (.lst vs) ->OT K F (upd H l' (.lst (vs++[v]))) (HM.C6 kvs k d) vvs ls
 |[],[],_,q,_,_,l',vs,hv,_=>by cases hv
 |[],_::_,_,q,_,_,_,_,_,_=>by have:=q.len;simp at this
 |_::_,[],_,q,_,_,_,_,_,_=>by have:=q.len;simp at this
 |_::_,_::_,[],q,_,_,_,_,_,_=>by have:=q.len;simp at this
 |(k1,ds1)::kvs,(k2,v2)::vvs,l1::ls,q,nd,rd,l',vs,hv,hl=>by
  obtain⟨q1,q2,q3⟩:=q;rw[Ak,Ak]at q1 q2;injection q1 with e1 e2
  injection q2 with e3 e4
  have e1:k1=k2:=e1;have e3:v2=.ref l1:=e3;subst e1 e3;have rest:OT K F H kvs vvs ls:=⟨e2,e4,λi ds l h1 h2=>q3 (i+1) ds l (by simpa using h1) (by simpa using h2)⟩;obtain⟨n1,n2⟩:=CG.mp nd;obtain⟨us,f1,f2⟩:=q3 0 ds1 l1 rfl rfl;unfold HM.C6
  by_cases hk:k1=k
  .rw[if_pos hk]
   rw[Hi (p:=(k1,V.ref l1)) hk]at hv;cases hv;rw[hl]at f1;cases f1;refine⟨by rw[Ak,Ak,e2],by rw[Ak,Ak,e4],λi ds l h1 h2=>?_⟩;cases i with
   |zero=>cases h1;cases h2;exact⟨_,ZD,f2.append (.one rd)⟩
   |succ i=>rw[Ak,DH]at h1;rw[DH]at h2;obtain⟨us,g1,g2⟩:=rest.2.2 i ds l h1 h2;exact⟨us,by rw[ZA (λz=>n1 (by rw[<-z];exact Bf h2))];exact g1,g2⟩
  .rw[if_neg hk]
   rw[Hg (p:=(k1,V.ref l1)) hk]at hv;have ih:=OT.app k rest n2 rd hv hl;have qq:l1≠l':=by
    rintro rfl
    have:∀(vvs:List (List pU×V)) (ls:List Addr),vvs.map (·.2)=ls.map V.ref->∀l',AR vvs k=Z (.ref l')->l'∈ls:=by
     intro vvs
     induction vvs with
     |nil=>intro ls _ l' h;cases h
     |cons p vvs ih =>
      intro ls he l' h;cases ls with
      |nil=>simp at he
      |cons l ls =>
       rw[Ak,Ak]at he;injection he with xo zk
       by_cases hp:p.1=k
       .rw[Hi hp]at h
        rw[xo]at h;cases h;exact An
       .rw[Hg hp]at h
        exact Ao _ (ih ls zk l' h)
    exact n1 (this vvs ls e4 _ hv)
   refine⟨by rw[Ak,Ak,ih.1],by rw[Ak,Ak,e4],λi ds l h1 h2=>?_⟩;cases i with
   |zero=>cases h1;cases h2;exact⟨us,by rw[ZA qq];exact f1,f2⟩
   |succ i=>rw[Ak,DH]at h1;rw[DH]at h2;exact ih.2.2 i ds l h1 h2
end
theorem A4.otl{K:Ae}{F0 H0 F H:Hp}{r:HM.Env}{J:L2.St}{fp:Nat->List Addr}{i:Nat}{kvs:List (List pU×List PyData)}(e:A4 K F0 H0 F H r J fp)(h:r[i]?=Z (Z (.otl kvs))):∃a vvs ls,J[i]?=Z (Z (.ref a))/\H a=Z (.dT vvs)/\OT K F H kvs vvs ls/\fp i=a::ls:=by
 obtain⟨v,h1,h2⟩:=e.at_ i _ h;generalize hf:fp i=q at h2;cases h2 with
 |otl k1 k2 k3 k4=>exact⟨_,_,_,h1,k1,⟨k2,k3,k4⟩,rfl⟩
theorem A4.otlNew{Fb Hb:Hp}{fp:Nat->List Addr}(k:List pU)(eb:A4 K F0 H0 Fb Hb r J fp)(x:pZ Fb Hb F H)(h:r[i]?=Z (Z (.otl kvs)))(hp:H p=Z (.lst []))(hF:F p=Z_)(hb:Hb p=Z_):∃a vvs,J[i]?=Z (Z (.ref a))/\H a=Z (.dT vvs)/\vvs.length=kvs.length/\(HM.Zg kvs k=Z_->AR vvs k=Z_)/\At K F0 H0 F (upd H a (.dT (vvs++[(k,.ref p)]))) (r.set i (Z (.otl (kvs++[(k,[])])))) J:=by
 have e:=eb.grow x;obtain⟨a,vvs,ls,h1,h2,h3,h4⟩:=e.otl h;have xf:∀j,p∉fp j:=λj hj=>by obtain⟨o,ho⟩:=eb.there hj;rw[hb]at ho;cases ho
 have vD:p≠a:=λz=>xf i (by rw[h4,z];exact An);have sI:a∉ls:=(CG.mp (h4▸e.nd i)).1;have nl:ls.Nodup:=(CG.mp (h4▸e.nd i)).2;have hpl:p∉ls:=λz=>xf i (by rw[h4];exact Ao _ z);refine⟨a,vvs,h1,h2,h3.len.2.symm,(h3.look k).2,?_⟩;have q:=h3.snoc k hp;have q':OT K F (upd H a (.dT (vvs++[(k,.ref p)]))) (kvs++[(k,[])]) (vvs++[(k,.ref p)]) (ls++[p]):=q.mono (Zp.refl F) λc hc o z=>by
  rw[ZA]
  .exact z
  .rintro rfl
   rcases A8.mp hc with hc|hc
   .exact sI hc
   .exact vD (AG.mp hc).symm
 have nd':(a::(ls++[p])).Nodup:=by
  refine CG.mpr ⟨?_,?_⟩
  .intro z
   rcases A8.mp z with z|z
   .exact sI z
   .exact vD (AG.mp z).symm
  .rw[Gw]
   refine⟨nl,by simp,λx hx y hy=>?_⟩;obtain rfl:y=p:=by simpa using hy
   rintro rfl
   exact hpl hx
 refine e.changeW h1 (fp':=a::(ls++[p])) (.otl ZD q'.1 q'.2.1 q'.2.2) nd' (λc hc=>?_) λc o z hn=>?_
 .rcases Ax.mp hc with z|z
  .subst z;exact .inl (by rw[h4];exact An)
  .rcases A8.mp z with z|z
   .exact .inl (by rw[h4];exact Ao _ z)
   .obtain rfl:c=p:=AG.mp z
    exact .inr ⟨hF,eb.ext.hh.free hb,xf⟩
 .rw[ZA (λy=>hn (by rw[h4,y];exact An))]
  exact z
theorem At.otlApp(k:List pU)(e:At K F0 H0 F H r J)(h:r[i]?=Z (Z (.otl kvs)))(hd:HM.Zg kvs k=Z ds):∃a vvs l vs,J[i]?=Z (Z (.ref a))/\H a=Z (.dT vvs)/\AR vvs k=Z (.ref l)/\H l=Z (.lst vs)/\Zq K F ds vs/\∀d v,Rep K F d v->At K F0 H0 F (upd H l (.lst (vs++[v]))) (r.set i (Z (.otl (HM.C6 kvs k d)))) J:=by
 obtain⟨fp,e⟩:=e;obtain⟨a,vvs,ls,h1,h2,h3,h4⟩:=e.otl h;obtain⟨l,vs,g1,g2,g3,g4⟩:=(h3.look k).1 ds hd;have sI:a∉ls:=(CG.mp (h4▸e.nd i)).1;have nl:ls.Nodup:=(CG.mp (h4▸e.nd i)).2;have qq:a≠l:=λz=>sI (by rw[z];exact g2);refine⟨a,vvs,l,vs,h1,h2,g1,g3,g4,λd v rd=>?_⟩;have q:=h3.app k nl rd g1 g3;refine e.change h1 (fp':=a::ls) (.otl (by rw[ZA qq];exact h2) q.1 q.2.1 q.2.2) (h4▸e.nd i) (λc hc=>.inl (by rw[h4];exact hc)) λc o z hn=>?_;rw[ZA (λy=>hn (by rw[h4,y];exact Ao _ g2))];exact z
section
variable{X:Cx}{a b c e:Expr}{fa fb fc:HM.EF}{pos p:Pos}{f:HM.BF}
theorem jM(hu:X.A.units+1<cLine)(i:Nat)(hk:XE X b fb)(hN:X.N[i]?=Z x:=by rfl)(hv:so X.env.scope x:=by first|exact AD rfl|exact Ap (AD rfl)|exact Ap (Ap rfl))(hd:(x==("__debug__":Str))=Ab:=by decide)(qw:(x==("__classdict__":Str))=Ab:=by decide)(hs:DU (.List [] p3) (Z (.Subscript (.Name x p1) b p2)) pos.line X.env=pure Ab:=by rfl):XS X (.Assign [.Subscript (.Name x p1) b p2] (.List [] p3) pos) (HM.mN i fb):=by
 intro r o h;unfold HM.mN at h;split at h
 .rename_i y hy
  split at h
  .rename_i kvs hb
   split at h
   .rename_i k hk'
    split at h
    .rename_i hz
     split at h
     .rename_i hl
      cases h;refine PS.imp (Pj hu (CT hN hv hd qw) (hk r y hy) (C8 (X:=X) Zh (by simp) r (.ol []) rfl) hs) λE J H ⟨F0,H0,F,at_,kk⟩=>?_;refine⟨F0,H0,F,at_,λv F1 H1 x1 ⟨fp,r1,nd,hn⟩=>?_⟩;cases r1 with
      | @ol l _ vs sV rs =>
       obtain rfl:vs=[]:=rs.nil_inv;have qO:=at_.grow x1;obtain⟨u,fp,e1,e2⟩:=qO.any hb;refine⟨u,e1,F0,H0,F1,qO,λw F2 H2 x2 r2=>?_⟩;obtain⟨fq,eb⟩:=at_;have hlF:F2 l=Z_:=by
        cases q:F2 l with
        |none=>rfl
        |some o =>
         rcases x2.new l o q with z|z
         .rw[(hn l (by simp)).1]at z;cases z
         .exact(z.no sV λ_ q=>by cases q).elim
       obtain⟨aa,vvs,g1,g2,g3,g4,g5⟩:=eb.otlNew k (x1.trans x2) hb (x2.hh _ _ sV) hlF (hn l (by simp)).2;rw[e1]at g1;cases g1;obtain⟨bb,rfl,rS⟩:=Ee hk' r2;have hpk:qz vvs k (V.ref l)=vvs++[(k,.ref l)]:=by unfold qz;rw[if_neg];rw[Me,g4 hl];simp
       refine⟨aa,_,rfl,E4.t g2 (x2.sub _ _ rS) (by rw[g3];exact G0 hz),?_⟩;rw[hpk];exact kk _ F2 _ g5
     .cases h
    .cases h
   .cases h
  .cases h
 .cases h
theorem gz(hu:X.A.units+1<cLine)(i:Nat)(hk:XE X b fb)(ha:XE X a fa)(hN:X.N[i]?=Z x:=by rfl)(hv:so X.env.scope x:=by first|exact AD rfl|exact Ap (AD rfl)|exact Ap (Ap rfl))(hd:(x==("__debug__":Str))=Ab:=by decide)(qw:(x==("__classdict__":Str))=Ab:=by decide)(v3:JO b:=by intro _ _;rfl)(qK:GB (.Subscript (.Name x p1) b p2) "append" X.env (eval (.Subscript (.Name x p1) b p2) X.env)=eval (.Subscript (.Name x p1) b p2) X.env:=by rfl)(rf:((backTo p4 (Ah [a] X.env)).all (λx=>!x.1)&&(Jm p4 (JB [] X.env)).all (λx=>x.1.isSome)&&decide (([a]:List Expr).length+([]:List Keyword).length+(if([]:List Keyword).isEmpty then 0 else 1)<30))=Aa:=by rfl)(qI:(p3.endLine==p4.line)=Aa:=by rfl)(hs:Ah [a] X.env=[(Ab,eval a X.env)]:=by rfl):XS X (.Expr (.Call (.Attribute (.Subscript (.Name x p1) b p2) "append" p3) [a] [] p4) pos) (HM.k5 i fb fa):=by
 intro r o h;unfold HM.k5 at h;split at h
 .rename_i y hy
  split at h
  .rename_i kvs hb
   split at h
   .rename_i k hk'
    split at h
    .rename_i d hd'
     split at h
     .rename_i ds qh
      split at h
      .rename_i hz
       cases h;refine PS.imp (Kd (LO LA Sv Su Mo (PF hu (CT hN hv hd qw) (hk r y hy) v3) (Z8 (ha r d hd') Cm hs) qK rf qI hs rfl)) λE J H ⟨F0,H0,F,at_,kk⟩=>?_;obtain⟨aa,vvs,l,vs,e1,e2,e3,e4,e5,_⟩:=at_.otlApp k hb qh;refine⟨.ref aa,e1,F0,H0,F,at_,λw F1 H1 x1 r1=>?_⟩;obtain⟨bb,rfl,rS⟩:=Ee hk' r1;have qO:=at_.grow x1;refine⟨aa,.ref l,rfl,by rw[<-e3];exact BV.t (x1.hh _ _ e2) (x1.sub _ _ rS),.inl ⟨rfl,_,qD.of (x1.hh _ _ e4)⟩,F0,H0,F1,qO,λv F2 H2 x2 r2=>?_⟩;obtain⟨aa',vvs',l',vs',g1,g2,g3,g4,g5,g6⟩:=(qO.grow x2).otlApp k hb qh;rw[e1]at g1;cases g1;have:=(x1.trans x2).hh _ _ e2;rw[this]at g2;cases g2;rw[e3]at g3;cases g3;refine⟨_,vs',v,rfl,rfl,g4,?_,kk _ F2 _ (g6 d v r2)⟩;rw[<-g5.1];exact G0 hz
      .cases h
     .cases h
    .cases h
   .cases h
  .cases h
 .cases h
theorem iw{k:List pU}(h:HM.Zg kvs k=Z ds):HM.Ca kvs k=kvs:=by unfold HM.Ca;rw[h]
theorem iW{k:List pU}(h:HM.Zg kvs k=Z_):HM.Ca kvs k=kvs++[(k,[])]:=by unfold HM.Ca;rw[h]
theorem gy(hu:X.A.units+1<cLine)(i:Nat){p0 p5:Pos}(hk:XE X b fb)(ha:XE X a fa)(m:M2 X (.Name x p0) "setdefault" p1 b (.List [] p2) p3)(hN:X.N[i]?=Z x:=by rfl)(hv:so X.env.scope x:=by first|exact AD rfl|exact Ap (AD rfl)|exact Ap (Ap rfl))(hd:(x==("__debug__":Str))=Ab:=by decide)(qw:(x==("__classdict__":Str))=Ab:=by decide)(qK:GB (.Call (.Attribute (.Name x p0) "setdefault" p1) [b,.List [] p2] [] p3) "append" X.env (eval (.Call (.Attribute (.Name x p0) "setdefault" p1) [b,.List [] p2] [] p3) X.env)=eval (.Call (.Attribute (.Name x p0) "setdefault" p1) [b,.List [] p2] [] p3) X.env:=by rfl)(rf:((backTo p5 (Ah [a] X.env)).all (λx=>!x.1)&&(Jm p5 (JB [] X.env)).all (λx=>x.1.isSome)&&decide (([a]:List Expr).length+([]:List Keyword).length+(if([]:List Keyword).isEmpty then 0 else 1)<30))=Aa:=by rfl)(qI:(p4.endLine==p5.line)=Aa:=by rfl)(hs:Ah [a] X.env=[(Ab,eval a X.env)]:=by rfl):XS X (.Expr (.Call (.Attribute (.Call (.Attribute (.Name x p0) "setdefault" p1) [b,.List [] p2] [] p3) "append" p4) [a] [] p5) pos) (HM.lp i fb fa):=by
 intro r o h;unfold HM.lp at h;split at h
 .rename_i y hy
  split at h
  .rename_i kvs hb
   split at h
   .rename_i k hk'
    split at h
    .rename_i hzz
     split at h
     .rename_i d hd'
      split at h
      .rename_i ds qh
       split at h
       .rename_i hz
        cases h;have hi:i<r.length:=(A1.mp hb).1;have hb':(r.set i (Z (.otl (HM.Ca kvs k))))[i]?=Z (Z (.otl (HM.Ca kvs k))):=En hi;refine PS.imp (Kd (LO LA Sv Su Mo (bq hu (CT hN hv hd qw) (hk r y hy) (C8 (X:=X) Zh (by simp) r (.ol []) rfl) m) (Z8 (ha _ d hd') Cm hs) qK rf qI hs rfl)) λE J H ⟨F0,H0,F,at_,kk⟩=>?_;have qC:∀{F3 H3:Hp} {l:Addr},At X.K F0 H0 F3 H3 (r.set i (Z (.otl (HM.Ca kvs k)))) J->(∃vs,qD X.K H3 l vs)->(∀a' vvs',J[i]?=Z (Z (.ref a'))->H3 a'=Z (.dT vvs')->AR vvs' k=Z (.ref l)) ->
          xY X.K "list" (.ref l) H3/\sJ X.K (r.set i (Z (.otl (HM.Ca kvs k)))) J H3 λF0 H0 F=>∀v F' H',pZ F H3 F' H'->Rep X.K F' d v->UI (.ref l) [v] H' λ_ H'=>E.nx J H':=by
         intro F3 H3 l sg hl vG;refine⟨.inl ⟨rfl,hl⟩,F0,H0,F3,sg,λv F4 H4 x4 r4=>?_⟩;obtain⟨aa',vvs',l',vs',g1,g2,g3,g4,g5,g6⟩:=(sg.grow x4).otlApp k hb' qh;obtain⟨aa2,xF,l2,vs2,f1,f2,f3,_⟩:=sg.otlApp k hb' qh;rw[f1]at g1;cases g1;rw[x4.hh _ _ f2]at g2;cases g2;rw[vG _ _ f1 f2]at g3;cases g3;have g7:=g6 d v r4;rw[Li]at g7;refine⟨_,vs',v,rfl,rfl,g4,?_,kk _ F4 _ g7⟩;rw[<-g5.1];exact G0 hz
        obtain⟨fq,eb⟩:=at_;obtain⟨aa,vvs,ls,e1,e2,e3,e4⟩:=eb.otl hb;refine⟨.ref aa,e1,aa,rfl,.inr ⟨vvs,.inl e2⟩,F0,H0,F,⟨fq,eb⟩,λw F1 H1 x1 r1=>⟨F0,H0,F1,At.grow ⟨fq,eb⟩ x1,λv F2 H2 x2 ⟨fp,r2,nd,hn⟩=>?_⟩⟩;obtain⟨bb,rfl,rS⟩:=Ee hk' r1;have tf:=x1.trans x2;have hz0:vvs.length<sizeLine:=by rw[<-e3.len.2];exact G0 hzz
        refine⟨vvs,k,bb,tf.hh _ _ e2,rfl,x2.hh _ _ (x1.sub _ _ rS),hz0,λu hu'=>?_,λrA=>?_⟩
        .have wF:∃ds0,HM.Zg kvs k=Z ds0:=by
          cases hq:HM.Zg kvs k with
          |some ds0=>exact⟨ds0,rfl⟩
          |none=>rw[(e3.look k).2 hq]at hu';cases hu'
         obtain⟨ds0,wF⟩:=wF;have zA:=iw wF;obtain⟨l0,yM,q1,q2,q3,q4⟩:=(e3.look k).1 ds0 wF;rw[q1]at hu';cases hu';refine qC (F3:=F2) ?_ ⟨yM,qD.of (tf.hh _ _ q3)⟩ λa' vvs' z1 z2=>?_
         .rw[zA]
          have:r.set i (Z (.otl kvs))=r:=by obtain⟨h1,h2⟩:=A1.mp hb;rw[<-h2];exact NS h1
          rw[this];exact At.grow ⟨fq,eb⟩ tf
         .rw[e1]at z1
          cases z1;rw[tf.hh _ _ e2]at z2;cases z2;exact q1
        .have wF:HM.Zg kvs k=Z_:=by
          cases hq:HM.Zg kvs k with
          |none=>rfl
          |some ds0=>obtain⟨l0,yM,q1,_⟩:=(e3.look k).1 ds0 hq;rw[rA]at q1;cases q1
         have zA:=iW wF;cases r2 with
         | @ol l _ vs sV rs =>
          obtain rfl:vs=[]:=rs.nil_inv;have zx:H l=Z_:=x1.hh.free (hn l (by simp)).2;obtain⟨aa2,xF,g1,g2,g3,g4,g5⟩:=eb.otlNew k tf hb sV (hn l (by simp)).1 zx;rw[e1]at g1;cases g1;rw[tf.hh _ _ e2]at g2;cases g2;have qq:l≠aa:=λz=>by rw[z,e2]at zx;cases zx
          refine qC (F3:=F2) (by rw[zA];exact g5) ⟨[],qD.of (by rw[ZA qq];exact sV)⟩ λa' vvs' z1 z2=>?_;rw[e1]at z1;cases z1;rw[ZD]at z2;cases z2;unfold AR at rA ⊢;rw[Option.map_eq_none_iff]at rA;rw[N2,rA];simp
       .cases h
      .cases h
     .cases h
    .cases h
   .cases h
  .cases h
 .cases h
end
end
end HP
namespace HP
open PySem PyProof.Rows
section
variable{xs:Array Nat}{b:Bool}{i j:Nat}
def CQ(xs:Array Nat):Prop:=xs.toList.Pairwise (· < ·)
theorem CQ.lt(h:CQ xs){k:Nat}(hk:k<xs.size)(zg:i<k):xs.getD i 0<xs.getD k 0:=by have:=Yi.mp h i k (by simpa using ES zg hk) (by simpa using hk) zg;simpa [CJ,hk,ES zg hk]using this
theorem Pl{xs:Array Nat}(h:CQ xs)(j:Nat):∀(qa lo hi:Nat),lo<=hi->hi<=xs.size->hi-lo<=qa->(∀i,i<lo->xs.getD i 0<j)->(∀i,hi<=i->i<xs.size->j<=xs.getD i 0) ->N1 xs j qa lo hi<=xs.size/\(∀i,i<N1 xs j qa lo hi->xs.getD i 0<j)/\∀i,N1 xs j qa lo hi<=i->i<xs.size->j<=xs.getD i 0
 |0,lo,hi,h1,h2,h3,a,b=>by
  obtain rfl:lo=hi:=by omega
  exact⟨h2,a,b⟩
 |qa+1,lo,hi,h1,h2,h3,a,b=>by
  unfold N1;split
  .rename_i ql
   have hm:(lo+hi) / 2<xs.size:=by omega
   have e:xs.getD ((lo+hi) / 2) j=xs.getD ((lo+hi) / 2) 0:=by simp[CJ,hm]
   dsimp only;rw[e]
   by_cases q:xs.getD ((lo+hi) / 2) 0<j
   .rw[if_pos q]
    refine Pl h j qa ((lo+hi) / 2+1) hi (by omega) h2 (by omega) (λi hi'=>?_) b
    by_cases c:i=(lo+hi) / 2
    .rw[c];exact q
    .exact ES (h.lt hm (by omega)) q
   .rw[if_neg q]
    refine Pl h j qa lo ((lo+hi) / 2) (by omega) (by omega) (by omega) a (λi hi' hs=>?_)
    by_cases c:i=(lo+hi) / 2
    .rw[c];omega
    .have:=h.lt hs (show(lo+hi) / 2<i by omega);omega
  .obtain rfl:lo=hi:=by omega
   exact⟨h2,a,b⟩
theorem Hj(h:CQ xs)(j:Nat):Am xs j<=xs.size/\(∀i,i<Am xs j->xs.getD i 0<j)/\∀i,Am xs j<=i->i<xs.size->j<=xs.getD i 0 :=
 Pl h j xs.size 0 xs.size (Bw _) (Ai _) (by omega) (λi hi=>by omega) λi h1 h2=>by omega
theorem jX(h:CQ xs)(hi:i<xs.size):Am xs (xs.getD i 0+1)=i+1:=by
 obtain⟨a,b,c⟩:=Hj h (xs.getD i 0+1);apply Nat.le_antisymm
 .apply JG
  intro q;have h1:=b (i+1) q;have h2:=h.lt (show i+1<xs.size by omega) (HV i);omega
 .apply JG
  intro q;have h1:=c (Am xs (xs.getD i 0+1)) (Ai _) (by omega)
  by_cases e:Am xs (xs.getD i 0+1)=i
  .rw[e]at h1;omega
  .have:=h.lt hi (show Am xs (xs.getD i 0+1)<i by omega);omega
theorem jA(h:CQ xs):Am xs 0=0:=by obtain⟨a,b,c⟩:=Hj h 0;apply Nat.eq_zero_of_not_pos;intro q;have:=b 0 q;omega
theorem QL(h:CQ xs)(hn:xs[Am xs j]?≠Z j):CQ (AK xs (Am xs j) j):=by
 obtain⟨a,b,c⟩:=Hj h j;unfold CQ;rw[LB];have gt:∀i,Am xs j<=i->i<xs.size->j<xs.getD i 0:=by
  intro i h1 h2
  by_cases e:Am xs j=i
  .subst e
   have h3:=c _ h1 h2;have:xs.getD (Am xs j) 0≠j:=λq=>hn (by
    have z:xs[Am xs j]?=Z (xs.getD (Am xs j) 0):=by simp[CJ,h2]
    rw[z,q])
   omega
  .have h3:=h.lt h2 (show Am xs j<i by omega)
   have h4:=c _ (Ai _) (show Am xs j<xs.size by omega);omega
 rw[List.pairwise_append];refine⟨h.sublist (List.take_sublist ..),Dg.mpr ⟨λx hx=>?_,h.sublist (List.drop_sublist ..)⟩,λx hx y hy=>?_⟩
 .obtain⟨i,hi,rfl⟩:=JE hx
  rw[HW,A2]at hi;rw[List.getElem_drop];have:=gt (Am xs j+i) (by omega) (by omega);simpa [CJ,show Am xs j+i<xs.size by omega]using this
 .obtain⟨i,hi,rfl⟩:=JE hx
  rw[DG,A2]at hi;rw[List.getElem_take];have h1:=b i (by omega);have h1':xs.toList[i]'(by simp;omega)<j:=by simpa [CJ,show i<xs.size by omega]using h1
  rcases Ax.mp hy with e|e
  .rw[e];exact h1'
  .obtain⟨k,hk,rfl⟩:=JE e
   rw[HW,A2]at hk;rw[List.getElem_drop];have h2:=gt (Am xs j+k) (by omega) (by omega);have h2':j<xs.toList[Am xs j+k]'(by simp;omega):=by simpa [CJ,show Am xs j+k<xs.size by omega]using h2
   exact ES h1' h2'
theorem has_none(j:Nat):SetTable.has #[] j=Ab:=by simp[SetTable.has]
structure Tab(b:Bool)(t:SetTable):Prop where
 dum:t.dummies=#[]
 rise:CQ t.place
 led:t.led=b
 plain:t.plain=Aa
 low:∀j∈t.place.toList,j<8
 mask:t.mask=if t.place.size<=4 then 7 else 31
theorem Tab.fresh(b:Bool):Tab b (NL 0 0 b):=⟨rfl,.nil,rfl,rfl,λj hj=>by simp[NL]at hj,rfl⟩
theorem Tab.few{t:SetTable}(h:Tab b t):t.place.size<=8:=by
 have key:∀(l:List Nat) (lo:Nat),l.Pairwise (· < ·)->(∀j∈l,lo<=j/\j<8)->l.length<=8-lo:=by
  intro l
  induction l with
  |nil=>intro lo _ _;simp
  |cons x l ih=>intro lo hp hb;have h1:=hb x (An ..);have h2:=ih (x+1) (Dg.mp hp).2 λy hy=>⟨(Dg.mp hp).1 y hy,(hb y (Ao _ hy)).2⟩;rw[Ay];omega
 have:=key t.place.toList 0 h.rise λj hj=>⟨Bw _,h.low j hj⟩;simpa using this
theorem QF{t:SetTable}(h:Tab b t)(hj:j∉t.place.toList):t.slot j=.empty/\t.place[Am t.place j]?≠Z j:=by have q:t.place[Am t.place j]?≠Z j:=λe=>hj (by rw[<-B5]at e;exact Bf e);unfold R5;dsimp only;rw[if_neg (by simpa using q),h.dum,has_none,if_neg (by simp)];exact⟨rfl,q⟩
theorem cR{t:SetTable}(h:Tab b t)(j:Nat):t.put j=({t with place:=AK t.place (Am t.place j) j},Am t.place j):=by
 unfold SetTable.put;dsimp only;rw[h.dum,has_none];cases t;have:=h.dum
 simp_all
theorem pX{α:Type}(xs:Array α)(p:Nat)(x:α):(AK xs p x).size=xs.size+1:=by rw[<-A2,(FL xs p x).length_eq];simp
theorem bE{t:SetTable}(h:Tab b t){es:Array (Int×Value)}(he:es.size=t.place.size)(h8:j<8)(hj:j∉t.place.toList)(v:Value):layNew t es (j:Int) v=(AK es (Am t.place j) ((j:Int),v),{t with place:=AK t.place (Am t.place j) j},Ab,Ab):=by
 obtain⟨e1,e2⟩:=QF h hj;have rf:=h.few;have hm:t.mask=7\/t.mask=31:=by rw[h.mask];split<;>simp
 have xW:AW (j:Int)%(t.mask+1)=j:=by
  have hb:AW (j:Int)=j:=by unfold AW;omega
  rw[hb];rcases hm with e|e<;>rw[e]<;>omega
 have qX:t.freeSlot (j:Int)=Z (j,Ab):=by
  unfold SetTable.freeSlot SetTable.probe;have hf:10*D3 t.mask=(10*D3 t.mask-1)+1:=by unfold D3;omega
  rw[hf];unfold Gv;have hp:(t.probeStart (j:Int)).j=j:=xW;rw[hp,e1];rfl
 have uP:t.place.size<=7:=by
  apply JG;intro q;have h8':t.place.size=8:=by omega
  have:=FJ (l₁:=j::t.place.toList) (l₂:=Ag 8) (CG.mpr ⟨hj,h.rise.imp λq=>Aw q⟩) (λx hx=>by
   rcases Ax.mp hx with e|e
   .rw[e];exact As.mpr h8
   .exact As.mpr (h.low x e))
  simp at this;omega
 have sq:(Ju {t with place:=AK t.place (Am t.place j) j} (AK es (Am t.place j) ((j:Int),v)).size)=Aa:=by unfold Ju GG;simp only[pX,he,h.dum];simp;rw[h.mask];split<;>omega
 unfold layNew;rw[qX];dsimp only;rw[cR h];dsimp only;unfold SetTable.orStandIn;rw[sq];rfl
theorem Tab.ins{t:SetTable}(h:Tab b t)(h8:j<8)(hj:j∉t.place.toList)(hs:t.place.size≠4):Tab b {t with place:=AK t.place (Am t.place j) j}:=by
 obtain⟨_,e2⟩:=QF h hj;refine⟨h.dum,QL h.rise e2,h.led,h.plain,λx hx=>?_,?_⟩
 .have:=(FL t.place (Am t.place j) j).mem_iff.mp hx
  rw[FF]at this;rcases A8.mp this with q|q
  .exact h.low x q
  .rw[AG.mp q];exact h8
 .dsimp only
  rw[pX,h.mask];split<;>split<;>omega
def PB:List (List Nat):=(Ag 8).flatMap λa=>(Ag 8).flatMap λb=>(Ag 8).flatMap λc=>(Ag 8).flatMap λd=>(Ag 8).filterMap λe=>if a<b/\b<c/\c<d/\d<e then Z [a,b,c,d,e]else Z_
theorem k0{l:List Nat}(h:l.Pairwise (· < ·))(h8:∀j∈l,j<8)(h5:l.length=5):l∈PB:=by
 match l,h5 with
 |[a,b,c,d,e],_=>simp at h h8;unfold PB;simp only[D1,As,Cf];refine⟨a,by omega,b,by omega,c,by omega,d,by omega,e,by omega,?_⟩;rw[if_pos (by omega)]
theorem bw:∀l∈PB,(N0 31 (l.map λ(n:Nat)=>(n:Int)).toArray).map (λowner=>(Ag 32).filterMap λj=>(owner.getD j Z_).map (j,·))=Z (l.zip (Ag 5)):=by decide +kernel
end
section
variable{es:Array (Int×Value)}{h:Heap}{ns:List Int}
def C4(e:Int×Value):Int:=match e.2 with
 | .int n _=>n
 |_=>0
section
variable(prog:Program)(w:World)
def JM(es:List (Int×Value)):Prop:=∀e∈es,∃n t,e=((intKind prog w).hash n,CZ n t)
def Cy(h:Heap)(a:Addr)(L:List Int):Prop:=∃o es ep t,h.get? a=Z o/\o.ExactSet/\o.data=.set es ep t/\JM prog w es.toList/\(es.toList.map C4).Perm L/\es.toList.map C4=t.place.toList.map (λ(j:Nat)=>(j:Int))/\Tab (!w.params.followText "set-order") t
end
section
variable{prog:Program}{w:World}{A:Around}{E:Value->Shared->Prop}{s:Shared}{a:Addr}{L:List Int}
theorem JM.elems{es:List (Int×Value)}(h:JM prog w es):ElemsOf (intKind prog w) es:=λe he=>by obtain⟨n,t,rfl⟩:=h e he;exact⟨⟨n,Jn _ _ _ _,rfl⟩,rfl⟩
theorem Cy.at'{h':Heap}(x:Cy prog w h a L)(k:∀o,h.get? a=Z o->h'.get? a=Z o):Cy prog w h' a L:=let ⟨o,es,ep,t,e,r⟩:=x;⟨o,es,ep,t,k o e,r⟩
def vp(L:List Int)(n:Int):List Int:=if L.contains n then L else L++[n]
theorem TB{k n:Int}{t:Tok}:(intKind prog w).is k (.int n t)=Aa↔n=k:=by
 constructor
 .intro h
  exact(intKind prog w).inj _ _ _ (Jn _ _ _ _) h
 .rintro rfl;exact Jn _ _ _ _
theorem QE:∀(j:Nat),j<8->(intKind prog w).hash (j:Int)=(j:Int)
 |0,_=>rfl
 |1,_=>rfl
 |2,_=>rfl
 |3,_=>rfl
 |4,_=>rfl
 |5,_=>rfl
 |6,_=>rfl
 |7,_=>rfl
 |n+8,h=>by omega
theorem Tab.fits{b:Bool}{t:SetTable}(h:Tab b t):t.fits t.place.size=Aa:=by have hf:=h.few;unfold Ju GG;rw[h.dum,h.mask];simp;split<;>omega
theorem tW{t:SetTable}(h:es.toList.map C4=t.place.toList.map (λ(j:Nat)=>(j:Int))):es.size=t.place.size:=by have:=congrArg Bx h;simpa using this
theorem WN{o:Obj}{es':Array (Int×Value)}{ep:Nat}{t t':SetTable}(ho:h.get? a=Z o)(sC:o.ExactSet)(hd:o.data=.set es ep t)(yy:JM prog w es'.toList)(hp:(es'.toList.map C4).Perm L)(hs:es'.toList.map C4=t'.place.toList.map (λ(j:Nat)=>(j:Int)))(ht:Tab (!w.params.followText "set-order") t'):(h.update a (CI es' t')).get? a=Z {o with data:=.set es' (ep+1) t'}/\Cy prog w (h.update a (CI es' t')) a L:=by
 have hg:(h.update a (CI es' t')).get? a=Z {o with data:=.set es' (ep+1) t'}:=by
  have:=Em (CI es' t') ho (by rw[Gq es' t' hd];rfl)
  rwa [Gq es' t' hd]at this
 exact⟨hg,_,es',ep+1,t',hg,sC,rfl,yy,hp,hs,ht⟩
theorem gH{b:Bool}{t:SetTable}(hr:CQ t.place)(h8:∀j∈t.place.toList,j<8)(h5:t.place.size=5)(he:es.map (·.1)=(t.place.toList.map (λ(j:Nat)=>(j:Int))).toArray)(hl:t.led=b)(hp:t.plain=Aa):∃t',relayAll t es 20=(es,t',Ab)/\t'.place=t.place/\Tab b t':=by
 have hc:=bw _ (k0 hr h8 (by simpa using h5));obtain⟨owner,o1,o2⟩:=Al.mp hc;have hsz:es.size=5:=by have:=congrArg Array.size he;simp at this;omega
 have pP:t.place.toList.length=5:=by simpa using h5
 have z1:(t.place.toList.zip (Ag 5)).map (·.1)=t.place.toList:=List.map_fst_zip (by rw[pP];simp);have z2:(t.place.toList.zip (Ag 5)).map (·.2)=Ag 5:=List.map_snd_zip (by rw[pP];simp);have y3:t.relaid (es.map (·.1)) 20=Z ({mask:=31,place:=t.place,dummies:=#[],finger:=t.finger,led:=t.led,moves:=t.movedTo 31,plain:=t.plain},(Ag 5).toArray):=by
  unfold SetTable.relaid R4;have e31:N5 20-1=31:=by decide
  rw[e31,he,o1];show Z _=Z _;rw[o2,z1,z2]
 refine⟨{mask:=31,place:=t.place,dummies:=#[],finger:=t.finger,led:=t.led,moves:=t.movedTo 31,plain:=t.plain},?_,rfl,⟨rfl,hr,hl,hp,h8,?_⟩⟩
 .unfold relayAll
  rw[y3];dsimp only;have ef:(Ag 5).toArray.filterMap (λx=>es[x]?)=es:=by apply RS.mp;rw[Yv];have:=filterMap_getElem?_range es;rw[hsz]at this;simpa using this
  rw[ef];have ec:coversAll (Ag 5).toArray es.size=Aa:=by rw[hsz];decide
  have et:Ju {mask:=31,place:=t.place,dummies:=#[],finger:=t.finger,led:=t.led,moves:=t.movedTo 31,plain:=t.plain} es.size=Aa:=by unfold Ju GG;simp[h5,hsz]
  rw[ec,et];rfl
 .dsimp only
  rw[h5];rfl
theorem gI{j:Nat}{tk:Tok}{Q:Bool->Shared->Prop}(h8:j<8)(hX:Cy prog w s.heap a L)(h:∀b h',El a s.heap h'->Cy prog w h' a (vp L j)->Q b {s with heap:=h'}):wpAny (model prog w) A (Nc a (.int j tk) ((intKind prog w).hash j)) Q E s:=by
 obtain⟨o,es,ep,t,ho,sC,hd,v8,sm,hpl,ht⟩:=hX;have yy:=v8.elems;have hsc:(CZ (j:Int) tk).scannable=Aa:=rfl;have tN:(intKind prog w).is (j:Int) (.int j tk)=Aa:=Jn _ _ _ _;have hsz:=tW hpl;have rf:=ht.few;have hf:t.fits es.size=Aa:=by rw[hsz];exact ht.fits
 have rE:scanBound=4096:=rfl;have hb:es.size<scanBound:=by omega
 unfold Nc setAddHashedIn;refine B4 (Ac (FE ho hd hf ?_));dsimp only;rw[byScan_of hsc hb yy];simp only[↓reduceIte];unfold setAddByScan;refine Ac (Ac (wpAny_rule (Ac (wpAny_setScan_of tN ho hd hf yy ?_))));cases hr:List.findIdx? (λe=>(intKind prog w).is (j:Int) e.2) es.toList with
 |some i =>
  dsimp only;obtain⟨hi,hpi,_⟩:=List.findIdx?_eq_some_iff_getElem.mp hr;have qi:(j:Int)∈L:=by refine sm.mem_iff.mp (Aj.mpr ⟨es.toList[i],FD hi,?_⟩);obtain⟨m,u,e⟩:=v8 _ (FD hi);rw[e]at hpi ⊢;exact TB.mp hpi
  refine Ad (Ad ?_);have e:s={s with heap:=s.heap}:=by cases s;rfl
  have q:=h Ab s.heap (Sl a s.heap) ⟨o,es,ep,t,ho,sC,hd,v8,by unfold vp;rw[if_pos (by simpa using qi)];exact sm,hpl,ht⟩;rw[e];exact q
 |none =>
  dsimp only;have qq:∀e∈es.toList,C4 e≠(j:Int):=λe he hv=>by obtain⟨m,u,e1⟩:=v8 e he;have no:=List.findIdx?_eq_none_iff.mp hr e he;rw[e1]at no hv;have yes:(intKind prog w).is (j:Int) (.int m u)=Aa:=TB.mpr hv;exact absurd (yes.symm.trans no) (by simp)
  have hnm:(j:Int)∉L:=λhm=>by obtain⟨e,he,hv⟩:=Aj.mp (sm.mem_iff.mpr hm);exact qq e he hv
  have hj:j∉t.place.toList:=λhm=>by
   have:(j:Int)∈es.toList.map C4:=by rw[hpl];exact Aj.mpr ⟨j,hm,rfl⟩
   obtain⟨e,he,hv⟩:=Aj.mp this;exact qq e he hv
  obtain⟨mk,pl,dm,fg,ld,mv,pn⟩:=t;obtain rfl:pn=Aa:=ht.plain;obtain rfl:dm=#[]:=ht.dum;rw[QE j h8,bE ht hsz h8 hj];dsimp only;obtain⟨_,hnj⟩:=QF ht hj;obtain⟨uP,_,_⟩:=Hj ht.rise j;have vi:JM prog w (AK es (Am pl j) ((j:Int),CZ j tk)).toList:=λe he=>by
   have:=(FL _ _ _).mem_iff.mp he;rw[FF]at this;rcases A8.mp this with q|q
   .exact v8 e q
   .exact⟨j,tk,by rw[QE j h8];exact AG.mp q⟩
  have t4:((AK es (Am pl j) ((j:Int),CZ j tk)).toList.map C4).Perm (vp L j):=by unfold vp;rw[if_neg (by simpa using hnm)];refine((FL _ _ _).map C4).trans ?_;rw[FF,Br];exact sm.append_right _
  have tK:(AK es (Am pl j) ((j:Int),CZ j tk)).toList.map C4=(AK pl (Am pl j) j).toList.map (λ(j:Nat)=>(j:Int)):=by rw[LB,LB,Br,Br,Ak,Ak,NA,NA,Nz,Nz,hpl];rfl
  have se:(AK es (Am pl j) ((j:Int),CZ j tk)).size=es.size+1:=pX _ _ _;generalize hE:AK es (Am pl j) ((j:Int),CZ j tk)=qT at vi t4 tK se ⊢;have xb:qT.size<=sizeLine:=by rw[BO];omega
  refine Ac (Ad ?_);simp only[↓reduceIte];refine Ac ?_;rw[hashByValue_scannable 8 hsc];refine Ad ?_;rw[show plainKind (CZ (j:Int) tk)=Aa from rfl];simp only[↓reduceIte];show wpAny (model prog w) A (do
    storeSet a qT (⟨mk,AK pl (Am pl j) j,#[],fg,ld,mv,Aa⟩:SetTable)
    if(!Ab&&HU (⟨mk,AK pl (Am pl j) j,#[],fg,ld,mv,Aa⟩:SetTable))=Aa then _ else _) _ E s
  refine Ac (NZ ho hd ?_ xb);have uy:=DW s.heap a (CI qT (⟨mk,AK pl (Am pl j) j,#[],fg,ld,mv,Aa⟩:SetTable))
  by_cases h4:pl.size=4
  .have hm:mk=7:=by have q:=ht.mask;dsimp only at q;rw[h4]at q;exact q
   have yZ:HU (⟨mk,AK pl (Am pl j) j,#[],fg,ld,mv,Aa⟩:SetTable)=Aa:=by unfold HU GG;simp[pX,h4,ht.dum,hm]
   have hg:(s.heap.update a (CI qT (⟨mk,AK pl (Am pl j) j,#[],fg,ld,mv,Aa⟩:SetTable))).get? a=Z {o with data:=.set qT (ep+1) (⟨mk,AK pl (Am pl j) j,#[],fg,ld,mv,Aa⟩:SetTable)}:=by
    have:=Em (CI qT (⟨mk,AK pl (Am pl j) j,#[],fg,ld,mv,Aa⟩:SetTable)) ho (by rw[Gq _ _ hd];rfl)
    rwa [Gq _ _ hd]at this
   have hh:qT.map (·.1)=((AK pl (Am pl j) j).toList.map (λ(j:Nat)=>(j:Int))).toArray:=by
    apply RS.mp;rw[Array.toList_map,<-tK];refine FK λe he=>?_;obtain⟨m,u,e1⟩:=vi e he;have hm:m∈qT.toList.map C4:=Aj.mpr ⟨e,he,by rw[e1];rfl⟩;rw[tK]at hm;obtain⟨k,hk,rfl⟩:=Aj.mp hm;have yw:k<8:=by
     have:=(FL _ _ _).mem_iff.mp hk;rw[FF]at this;rcases A8.mp this with q|q
     .exact ht.low k q
     .rw[AG.mp q];exact h8
    rw[e1];exact QE (prog:=prog) (w:=w) k yw
   obtain⟨t',r1,r2,r3⟩:=gH (b:=!w.params.followText "set-order") (t:=(⟨mk,AK pl (Am pl j) j,#[],fg,ld,mv,Aa⟩:SetTable)) (es:=qT) (QL ht.rise hnj)
    (λk hk=>by
     have:=(FL _ _ _).mem_iff.mp hk;rw[FF]at this;rcases A8.mp this with q|q
     .exact ht.low k q
     .rw[AG.mp q];exact h8) (by dsimp only;rw[pX,h4]) hh ht.led ht.plain
   have hgr:RU qT.size=20:=by rw[se,hsz,h4];rfl
   rw[yZ];simp only[NK,R3,↓reduceIte];rw[hgr,r1];dsimp only;refine Ac (Ad (Ac (NZ hg rfl ?_ xb)));obtain⟨_,v9⟩:=WN (prog:=prog) (t':=t') hg sC rfl vi t4 (by rw[r2];exact tK) r3;exact Ad (Ad (h Aa _ (uy.trans (DW _ a _)) v9))
  .have yZ:HU (⟨mk,AK pl (Am pl j) j,#[],fg,ld,mv,Aa⟩:SetTable)=Ab:=by
    unfold HU GG;have q:=ht.mask;dsimp only at q;simp only[pX];rw[q];simp;have:=rf;dsimp only at this;split<;>omega
   rw[yZ];simp only[Ls,BR,↓reduceIte];obtain⟨_,hS1⟩:=WN (prog:=prog) (t':=(⟨mk,AK pl (Am pl j) j,#[],fg,ld,mv,Aa⟩:SetTable)) ho sC hd vi t4 tK (ht.ins h8 hj h4);exact Ad (Ad (h Aa _ uy hS1))
end
section
variable{prog:Program}{w:World}{A:Around}{E:Value->Shared->Prop}{s:Shared}
abbrev B1(w:World):Obj:={cls:=.type "set",dict:=Z_,data:=.set #[] 0 (.fresh 0 0 (!w.params.followText "set-order"))}
theorem XD(v:Value){Q₁:Value->Shared->Prop}(h:Q₁ (.ref s.heap.objs.size) {s with heap:=s.heap.push (B1 w)}):codeAny (model prog w) A (.call (.builtin "set.__new__") ⟨[.type "set",v],[]⟩) (wants Q₁ E) s:=by
 refine RY ?_;show wpAny _ A.in1 (do checkBuiltinCall "set.__new__" ⟨[.type "set",v],[]⟩;again (.builtin "set.__new__" ⟨[.type "set",v],[]⟩)) _ _ s;refine Ac (Ni (PySem.F.newCall_set_1 v) (Ad ⟨FH Ys _,Dj PySem.F.entry_set_new ?_⟩));rw[DX Ys _];unfold Builtin.«set.__new__» Builtin.Frozenset.newClass;have rb:=sub_set_self;obtain⟨hp,g,d,tk,os⟩:=s;dsimp only
 wp_walk
 refine Lj (Ad ?_);dsimp only;simp only[newObj];exact Ac (wpAny_alloc (Ad (Ad h)))
theorem fB(h:Heap):Cy prog w (h.push (B1 w)) h.objs.size [] :=
 ⟨_,#[],0,_,AS _ rfl,⟨rfl,rfl,rfl⟩,rfl,λe he=>by simp at he,.nil,rfl,Tab.fresh _⟩
theorem Qy:∀(l acc:List Int) (x:Int),HM.qA acc (l++[x])=vp (HM.qA acc l) x
 |[],acc,x=>by show HM.qA acc [x]=vp acc x;unfold HM.qA vp;split<;>rfl
 |y::l,acc,x=>by
  show HM.qA acc (y::(l++[x]))=_;unfold HM.qA;split
  .exact Qy l acc x
  .exact Qy l _ x
variable{R:Result->Shared->Prop}{I:Addr}{fp wr:List Addr}{G:Array GenState->Array GenState->Prop}{P:Nat->Value->Prop}{St:Nat->Shared->Prop}
theorem jC(W:WalksS prog w A.in1 I fp wr G ns.length P St)(S:Addr)(uq:S∉fp)(ux:∀i v,P i v->∃t,v=.int (ns.getD i 0) t)(hb:∀n∈ns,0<=n/\n<8):∀(k i:Nat) (s:Shared),ns.length-i=k->i<=ns.length->St i s->Cy prog w s.heap S (HM.qA [] (ns.take i)) ->(∀s',Moved (S::wr) G s s'->Cy prog w s'.heap S (HM.qA [] ns)->R (.ok (.ret .none)) s') ->codeAny (model prog w) A (.builtin "set.update.loop" ⟨[.ref S,.ref I],[]⟩) R s:=by
 have xt:S∉wr:=λh=>uq (W.sub _ h);have rb:∀b∈wr,b∈S::wr:=λb hb=>Ao _ hb;intro k
 induction k with
 |zero =>
  intro i s hk hi sS hS hR;obtain rfl:i=ns.length:=by omega
  rw[List.take_length]at hS;refine Dj F.entry_set_update_loop ?_;rw[DX F.plain_set_update_loop _];show wpAny _ A.in1 (pyNext (.ref I) >>= _) _ _ s;refine Ac (W.done s _ _ sS λs' hm=>?_);show wpAny _ A.in1 (ret Bl) _ _ s';exact Ad (hR s' (hm.mono rb) (hS.at' λo e=>hm.heap S o xt e))
 |succ k ih =>
  intro i s hk hi sS hS hR;have ql:i<ns.length:=by omega
  refine Dj F.entry_set_update_loop ?_;rw[DX F.plain_set_update_loop _];show wpAny _ A.in1 (pyNext (.ref I) >>= _) _ _ s;refine Ac (W.item i s _ _ ql sS λv s' hP hst' hm=>?_);obtain⟨t,rfl⟩:=ux i v hP;have hS':=hS.at' (h':=s'.heap) λo e=>hm.heap S o xt e;show wpAny _ A.in1 (holding [CZ (ns.getD i 0) t] (setAdd S (.int (ns.getD i 0) t)) >>= _) _ _ s';refine Ac (B4 ?_);unfold setAdd;refine B4 (Ac ((intKind prog w).pyHash (k:=ns.getD i 0) (Jn _ _ _ _) ?_));have zp:=hb (ns.getD i 0) (by rw[Cq,AN ql];exact FD ql);obtain⟨j,ej⟩:∃j:Nat,ns.getD i 0=(j:Int):=⟨(ns.getD i 0).toNat,by omega⟩;have e:vp (HM.qA [] (ns.take i)) (ns.getD i 0)=HM.qA [] (ns.take (i+1)):=by rw[<-Qy,List.take_succ,Cq];simp[ql]
  rw[ej]at e zp ⊢;refine gI (s:={s' with toks:=s'.toks+1}) (by omega) hS' λb h' rE v9=>?_;rw[e]at v9;refine Ad ⟨FH F.plain_set_update_loop _,ih (i+1) _ (by omega) ql (W.frame _ s' _ _ hst' (Nat.le_succ _) λb hb o e=>?_) v9 λs'' hm'' hS''=>?_⟩
  .rw[rE.2 b (λh:b=S=>uq (by rw[<-h];exact hb))];exact e
  .refine hR s'' (Moved.trans W.gtrans ((hm.mono rb).then_heap (Nat.le_succ _) λb o hb e=>?_) hm'') hS''
   rw[rE.2 b (λh:b=S=>hb (by rw[h];exact An))];exact e
set_option maxHeartbeats 3200000 in
theorem iP{l:Addr}{items:Array Value}{Q:Value->Shared->Prop}(hh:A.handled=Z_)(hl:s.heap.IsList l items)(hi:IntsAre items.toList ns)(hb:∀n∈ns,0<=n/\n<8)(h:∀(h':Heap) (tk:Nat),Cy prog w h' s.heap.objs.size (HM.qA [] ns)->(∀b o,b<s.heap.objs.size->s.heap.get? b=Z o->h'.get? b=Z o)->Q (.ref s.heap.objs.size) {s with heap:=h',toks:=tk}):wpAny (model prog w) A (call (.type "set") [.ref l]) Q E s:=by
 have hsz:items.size=ns.length:=by rw[<-hi.length,A2]
 obtain⟨c,tl,hmro⟩:=Cw.mro;have xT:=Cw.made;have rb:=Cw.sub;refine Ld (RY ?_);show wpAny _ _ (callAny (.type "set") _) _ _ _;refine Ad ⟨Code.quiet_builtin _ (by decide +kernel),Dj Yb ?_⟩;rw[Around.under_plain (weight_type_call_type "set" [.ref l] []) rfl];have h1:=Cw.notType;have h2:=Cw.canCreate;have hct:=Yu (.ref l)
 repeat (any_goals (first|assumption|wp_step))
 refine Ek (XD (.ref l) (E:=E) (Q₁:=λobj s₁=>obj=.ref s.heap.objs.size/\s₁={s with heap:=s.heap.push (B1 w)}) ⟨rfl,rfl⟩) λr s₁ hr=>?_;cases r with
 |error e=>exact hr
 |ok fl =>
  cases fl with
  |ret obj =>
   obtain⟨rfl,rfl⟩:=hr;have hX:=fB (prog:=prog) (w:=w) s.heap;have hS:(s.heap.push (B1 w)).get? s.heap.objs.size=Z (B1 w):=AS _ rfl;have hT:R1 {s with heap:=s.heap.push (B1 w)} (.ref s.heap.objs.size) "set":=⟨_,hS,rfl⟩;have hli:=Cw.init.lookup;have zp:=Cw.init.bind (.ref s.heap.objs.size)
   repeat (any_goals (first|assumption|wp_step))
   refine Ek (codeAny_call_builtin (R:=wants (λr s₂=>r=.none/\∃h' tk,s₂={s with heap:=h',toks:=tk}/\Cy prog w h' s.heap.objs.size (HM.qA [] ns) /\
     (∀b o,b<s.heap.objs.size->s.heap.get? b=Z o->h'.get? b=Z o)) E) Cw.init.plain Yt (check_set_init_1 hT ?_)) λr₂ s₂ v5=>?_
   .obtain⟨⟨zQ,uB,xP,tO⟩,uZ,qW,nl,u3⟩:=hl
    simp only at qW u3;subst qW;subst u3;have hol':(s.heap.push (B1 w)).get? l=Z {cls:=.type "list",dict:=uB,data:=.seq items nl,slots:=tO}:=Ar _ uZ;have zU:=YA;have zV:=YD;have qq:(Fy "list" == Fy "dict")=Ab:=by decide
    have sV:(s.heap.push (B1 w)).IsList l items:=⟨_,hol',rfl,nl,rfl⟩;unfold Builtin.«set.__init__» noKeywords YK;generalize hPI:pyIter=PI
    wp_walk
    subst hPI;refine N4 sV (Ac (NJ ?_));have xl:l<s.heap.objs.size:=Aq uZ;have zh:A.in1.in1.in1.handled=Z_:=by simp[hh]
    have wz:l≠(s.heap.push (B1 w)).objs.size:=by rw[Fz];exact Aw (HX xl)
    have uq:s.heap.objs.size∉[(s.heap.push (B1 w)).objs.size,l]:=by rw[Fz];simp only[Ax,AG,Nx,or_false,not_or];exact⟨Aw (HV _),HD xl⟩
    have Wl:=(Nd (prog:=prog) (w:=w) zh _ l wz items).toS;rw[hsz]at Wl;refine jC Wl s.heap.objs.size uq (λi v hv=>IntsAre.int_at hi i v (by rw[B5];exact hv)) hb (ns.length-0) 0 _ (by omega) (Bw _)
     ⟨⟨_,AS _ rfl,rfl,rfl⟩,sV.push _⟩ (hX.at' λo e=>Ar _ e) λs' hm hS'=>?_
    obtain⟨h',g',d',tk',os'⟩:=s';have eg:g'=s.gens:=hm.gens;have ed:d'=s.drawn:=hm.drawn;have eo:os'=s.os:=hm.os;subst eg;subst ed;subst eo
    show wpAny _ _ _ _ _ _;refine Ad ?_;show wpAny _ _ (ret Bl) _ _ _;refine Ad ⟨rfl,h',tk',rfl,hS',λb o hb e=>?_⟩;refine hm.heap b o ?_ (Ar _ (Ar _ e));simp only[Ax,AG,Nx,or_false,not_or];exact⟨Aw hb,by rw[Fz];exact Aw (HX hb)⟩
   .cases r₂ with
    |error e=>exact v5
    |ok fl₂ =>
     cases fl₂ with
     |ret r =>
      obtain⟨rfl,h',tk,rfl,hS',hk'⟩:=v5
      repeat (any_goals (first|assumption|wp_step))
      exact h _ _ hS' hk'
     |_=>exact v5.elim
  |_=>exact hr.elim
end
end
theorem IT:Slot "set_iterator" "__next__" "set_iterator.__next__" :=
 .of (owner:="set_iterator") (n:="__next__") (by rw[typeLookup_type,builtinLookup_eq_fast];kernel_rfl) (by decide +kernel) (by decide +kernel) (by decide +kernel)
  (by first|exact .inl (by decide +kernel)|exact .inr (by decide +kernel)) (by rw[isSubtype_type];kernel_rfl)
theorem XG:entryFor table "set_iterator.__next__"=Z Builtin.«set_iterator.__next__»:=entryFor_of_tree (by kernel_rfl)
theorem Xp:Slot "set_iterator" "__iter__" "set_iterator.__iter__" :=
 .of (owner:="set_iterator") (n:="__iter__") (by rw[typeLookup_type,builtinLookup_eq_fast];kernel_rfl) (by decide +kernel) (by decide +kernel) (by decide +kernel)
  (by first|exact .inl (by decide +kernel)|exact .inr (by decide +kernel)) (by rw[isSubtype_type];kernel_rfl)
theorem mC:entryFor table "set_iterator.__iter__"=Z Builtin.«dict_keyiterator.__iter__» :=
 entryFor_alias (id':="dict_keyiterator.__iter__") (by kernel_rfl) rfl (by decide +kernel) (by kernel_rfl)
theorem mY:entryFor table "set.__iter__"=Z Builtin.«frozenset.__iter__» :=
 entryFor_alias (id':="frozenset.__iter__") (by kernel_rfl) rfl (by decide +kernel) (by kernel_rfl)
theorem Vx:Manifest.owners.lookup (String.ofList ['r','o','t','a','r','e','t','i','_','t','e','s'].reverse)=Z Manifest.sig_set_iterator:=by kernel_rfl
theorem Xc(a:Value):argsOk "set_iterator.__next__" ⟨[a],[]⟩:=by unfold argsOk;rw[signature?_of (id:="set_iterator.__next__") (n:=['_','_','t','x','e','n','_','_']) (o:=['r','o','t','a','r','e','t','i','_','t','e','s']) (by kernel_rfl) Vx];kernel_rfl
theorem lL(a:Value):argsOk "set_iterator.__iter__" ⟨[a],[]⟩:=by unfold argsOk;rw[signature?_of (id:="set_iterator.__iter__") (n:=['_','_','r','e','t','i','_','_']) (o:=['r','o','t','a','r','e','t','i','_','t','e','s']) (by kernel_rfl) Vx];kernel_rfl
theorem WJ{α:Type}:∀(l:List α) (i:Nat) (h:i<l.length),(l[i]::l.eraseIdx i).Perm l
 |x::l,0,_=>.refl _
 |x::l,i+1,h=>by
  have h':i<l.length:=by simpa using h
  show(l[i]::x::l.eraseIdx i).Perm (x::l);exact(List.Perm.swap x l[i] _).trans ((WJ l i h').cons x)
theorem V5{α:Type}(next:Nat->Nat):∀(n k:Nat) (left:List α) (out:Array α),left.length=n->(Lf.go next n k left out).toList.Perm (out.toList++left)
 |0,k,left,out,h=>by rw[So h,BK];exact .refl _
 |n+1,k,left,out,h=>by
  have hl:next k%left.length<left.length:=Nk _ (by omega)
  unfold Lf.go;rw[AN hl];dsimp only;refine(V5 next n (k+1) _ _ (by rw[List.length_eraseIdx_of_lt hl];omega)).trans ?_
  rw[FF,EW];refine List.Perm.append_left _ ?_;exact WJ left _ hl
theorem mP{α:Type}(next:Nat->Nat)(xs:Array α):(Lf next xs).toList.Perm xs.toList:=by
 have:=V5 next xs.size 0 xs.toList #[] (by simp)
 simpa [Lf]using this
section
variable{a it:Addr}{h h':Heap}{ep i n slot:Nat}{Q:Value->Shared->Prop}
structure SI(b:Bool)(t:SetTable):Prop where
 rise:CQ t.place
 led:t.led=b
 plain:t.plain=Aa
theorem Tab.w{b:Bool}{t:SetTable}(h:Tab b t):SI b t:=⟨h.rise,h.led,h.plain⟩
structure CL(w:World)(h:Heap)(a:Addr)(es:Array (Int×Value))(ep:Nat)(t:SetTable):Prop where
 obj:∃o,h.get? a=Z o/\o.ExactSet/\o.data=.set es ep t
 fit:t.fits es.size=Aa
 siz:es.size=t.place.size
 tab:SI (!w.params.followText "set-order") t
theorem CL.at'{w:World}{es:Array (Int×Value)}{t:SetTable}(x:CL w h a es ep t)(k:∀o,h.get? a=Z o->h'.get? a=Z o):CL w h' a es ep t :=
 ⟨let ⟨o,e,r⟩:=x.obj;⟨o,k o e,r⟩,x.fit,x.siz,x.tab⟩
def CN(w:World)(a:Addr)(es:Array (Int×Value))(ep:Nat):Array (Int×Value):=if w.params.followText "set-order" then Lf (w.params.setOrder a ep) es else es
theorem Mr(w:World)(a:Addr)(es:Array (Int×Value))(ep:Nat):(CN w a es ep).toList.Perm es.toList:=by
 unfold CN;split
 .exact mP _ _
 .exact .refl _
theorem Qb(w:World)(a:Addr)(es:Array (Int×Value))(ep:Nat):(CN w a es ep).size=es.size:=by have:=(Mr w a es ep).length_eq;simpa using this
def ED(h:Heap)(it a:Addr)(slot i n ep:Nat):Prop:=∃o,h.get? it=Z o/\o.cls=.type "set_iterator"/\o.data=.fields #[.int slot 0,.int i 0,.ref a,.int n 0,.int ep 0]
theorem ED.typeIs{s:Shared}(x:ED s.heap it a slot i n ep):s.TypeIs (.ref it) "set_iterator":=let ⟨o,ho,hc,_⟩:=x;⟨o,ho,hc⟩
theorem ED.at'(x:ED h it a slot i n ep)(k:∀o,h.get? it=Z o->h'.get? it=Z o):ED h' it a slot i n ep:=let ⟨o,e,r⟩:=x;⟨o,k o e,r⟩
section
variable{prog:Program}{w:World}{A:Around}{E:Value->Shared->Prop}{s:Shared}{it a:Addr}{es:Array (Int×Value)}{ep:Nat}{t:SetTable}
theorem fR(x:CL w s.heap a es ep t)(hQ:Q (.ref s.heap.objs.size) {s with heap:=s.heap.push {cls:=.type "set_iterator",data:=.fields #[.int 0 0,.int 0 0,.ref a,.int es.size 0,.int ep 0]}}):wpAny (model prog w) A (pyIter (.ref a)) Q E s:=by
 obtain⟨o,ho,sC,hd⟩:=x.obj;have hT:s.TypeIs (.ref a) "set":=⟨o,ho,sC.1⟩;refine Sk hT Yr (Ep Yr hT mY ?_ (PySem.F.args_set_iter_1 _));unfold Builtin.«frozenset.__iter__» Builtin.Frozenset.slot0 slotArgs Builtin.Frozenset.addrOf Builtin.Frozenset.sizeOf;refine Ac (Ac (Ad (Ad ?_)));dsimp only;refine Ac (Ac (R8 ho hd x.fit (Ad ?_)));have hdr:∀{R:Bool->Shared->Prop} {A':Around} {E':Value->Shared->Prop},R Ab s->wpAny (model prog w) A' (setDrawn a) R E' s:=λ{R A' E'} hR=>by unfold setDrawn setsByText;refine Ac (FE ho hd x.fit (Ac (Ac (Lj (Ad (Ad ?_))))));obtain⟨mk,pl,dm,fg,ld,mv,pn⟩:=t;obtain rfl:pn=Aa:=x.tab.plain;show R (!_&&(!Aa&&_)) s;simpa using hR
 refine Ac (hdr ?_);rw[if_neg (by simp)];refine Ac (Ad (Ac (wpAny_setEpoch_of ho hd x.fit ?_)));show wpAny (model prog w) A.in1 (newFields "set_iterator" [rawInt 0,rawInt 0,A6 a,rawInt (es.size:Int),rawInt (ep:Int)] >>= _) _ E s;refine Ac (D2 (Ad ⟨_,rfl,"set_iterator",_,⟨_,AS _ rfl,rfl⟩,IT.lookup,?_⟩));simpa [rawInt]using hQ
theorem W3{R:Option (Value×Nat)->Shared->Prop}(x:CL w s.heap a es ep t)(hs:w.params.followText "set-order"=Ab->Am t.place slot=i)(hR:R ((CN w a es ep)[i]?.map λe=>(e.2,if w.params.followText "set-order" then slot else t.place.getD i 0+1)) s):wpAny (model prog w) A (setNext a slot i ep) R E s:=by
 obtain⟨o,ho,sC,hd⟩:=x.obj;unfold setNext setsByText;refine Ac (FE ho hd x.fit ?_);dsimp only;refine Ac (Ac (Lj (Ad ?_)));dsimp only;cases hb:w.params.followText "set-order" with
 |true=>have hb':(model prog w).w.params.followText "set-order"=Aa:=hb;rw[hb',if_pos rfl];unfold CN at hR;rw[hb,if_pos rfl]at hR;simp only[if_pos]at hR;refine HR (λq=>absurd q (by simp)) λ_=>?_;unfold setWalk setsByText;refine Ac (Ac (FE ho hd x.fit ?_));dsimp only;refine Ac (Ac (Lj (Ad ?_)));dsimp only;rw[hb',if_pos rfl];exact Ac (Lj (Ad (Ad hR)))
 |false =>
  have hb':(model prog w).w.params.followText "set-order"=Ab:=hb;rw[hb',if_neg (by simp)];unfold CN at hR;rw[hb]at hR;simp only[BR,if_false]at hR;have hi:=hs hb;have tM:t.led=Aa:=by rw[x.tab.led,hb];rfl
  have hsz:=x.siz;obtain⟨mk,pl,dm,fg,ld,mv,pn⟩:=t;obtain rfl:pn=Aa:=x.tab.plain;obtain rfl:ld=Aa:=tM;refine HR (λq=>absurd (show(!Aa&&_)=Aa from q) (by simp)) λ_=>?_;refine Ac ?_;refine HR (λq=>absurd (show(!Aa&&_)=Aa from q) (by simp)) λ_=>?_;refine Ad ?_;dsimp only at hi hsz ⊢;rw[hi];refine Ad ?_
  by_cases ql:i<es.size
  .have h1:es[i]?=Z es[i]:=EU ql
   have h2:pl[i]?=Z (pl.getD i 0):=by simp[CJ,show i<pl.size by omega]
   rw[h1]at hR ⊢;rw[h2];exact hR
  .have h1:es[i]?=Z_:=Sz (by omega)
   rw[h1]at hR ⊢;exact hR
theorem fS{e:Int×Value}{Q:Option Value->Shared->Prop}(rB:ED s.heap it a slot i es.size ep)(x:CL w s.heap a es ep t)(hs:w.params.followText "set-order"=Ab->Am t.place slot=i)(he:(CN w a es ep)[i]?=Z e)(hQ:∀h',ED h' it a (if w.params.followText "set-order" then slot else t.place.getD i 0+1) (i+1) es.size ep->El it s.heap h'->Q (Z e.2) {s with heap:=h'}):wpAny (model prog w) A (pyNext (.ref it)) Q E s:=by
 obtain⟨o,ho,hc,hd⟩:=id rB;obtain⟨os,za,sC,qh⟩:=x.obj;unfold pyNext;refine Ac (Ny (wpAny_callSpecial?_slot (name:=GF "__next__") rB.typeIs IT
  (Ep IT rB.typeIs XG ?_ (Xc _))))
 unfold Builtin.«set_iterator.__next__» slotArgs;refine Ac (Ad ?_);dsimp only;refine Ac (NI ho hd ?_);dsimp only;refine Ac (R8 za qh x.fit ?_);refine HR (λq=>absurd q (by simp)) λ_=>?_;simp only[NY];refine Ac (W3 x hs ?_);rw[he];dsimp only[Option.map_some];refine Ac (Lr ho hd (by simp) ?_);have g1:(s.heap.update it (R0 (·.setIfInBounds 0 (rawInt ((if w.params.followText "set-order"=Aa then slot else t.place.getD i 0+1:Nat):Int))))).get? it=Z _:=Em _ ho (Se (Gy hd _));refine Ac (Lr g1 (Gy hd _) (by simp) ?_);refine Ad ⟨_,rfl,Ad (hQ _ ⟨_,Em _ g1 (Se (Gy (Gy hd _) _)),?_,?_⟩ ((DW ..).trans (DW ..)))⟩
 .rw[Sj,Sj];exact hc
 .rw[Gy (Gy hd _)];simp[rawInt]
theorem gJ{Q:Option Value->Shared->Prop}(hh:A.handled=Z_)(rB:ED s.heap it a slot i es.size ep)(x:CL w s.heap a es ep t)(hs:w.params.followText "set-order"=Ab->Am t.place slot=i)(he:es.size<=i)(hQ:∀h',Heap.ExtBut it s.heap h'->Q Z_ {s with heap:=h'}):wpAny (model prog w) A (pyNext (.ref it)) Q E s:=by
 obtain⟨o,ho,hc,hd⟩:=id rB;obtain⟨os,za,sC,qh⟩:=x.obj;have hn:(CN w a es ep)[i]?=Z_:=Sz (by rw[Qb];exact he);unfold pyNext;refine Ac (Ny (wpAny_callSpecial?_slot (name:=GF "__next__") rB.typeIs IT
  (Ep IT rB.typeIs XG ?_ (Xc _))))
 unfold Builtin.«set_iterator.__next__» slotArgs;refine Ac (Ad ?_);dsimp only;refine Ac (NI ho hd ?_);dsimp only;refine Ac (R8 za qh x.fit ?_);refine HR (λq=>absurd q (by simp)) λ_=>?_;simp only[NY];refine Ac (W3 x hs ?_);rw[hn];dsimp only[Option.map_none];refine Ac (Lr ho hd (by simp) ?_);refine Ac ?_;simp only[newExc,newTuple];refine Ac (D2 ?_ (by size_fits));refine Ac (m:=NH _ _) (Ni (a:=Bl) (by first|rfl|(simp only[NH];rfl)) ?_)
 refine D2 ?_ (by size_fits);simp only[raiseNew];refine Ac (wpAny_handled ?_);rw[show A.in1.handled=Z_ from hh];refine Ac (Ad (wpAny_throw ?_));refine Ac (RR (T:="StopIteration") (b:=Aa) ⟨_,AS _ rfl,rfl⟩ isSubtype_stop ?_);exact Ad (hQ _ (((DW ..).extBut.push _).push _))
theorem fk(rB:ED s.heap it a slot i n ep)(h:Q (.ref it) s):wpAny (model prog w) A (pyIter (.ref it)) Q E s:=by refine Sk rB.typeIs Xp (Ep Xp rB.typeIs mC ?_ (lL _));show wpAny _ _ (ret (.ref it)) _ _ s;exact Ad ⟨_,rfl,"set_iterator",_,rB.typeIs,IT.lookup,h⟩
theorem iR(hh:A.handled=Z_)(I a:Addr)(qq:a≠I)(es:Array (Int×Value))(ep:Nat)(t:SetTable):Walks prog w A I [I,a] [I] es.size (λi v=>∃e,(CN w a es ep)[i]?=Z e/\v=e.2) (λi h=>∃slot,ED h I a slot i es.size ep/\CL w h a es ep t/\(w.params.followText "set-order"=Ab->Am t.place slot=i)) where
 sub:=λb hb=>by simp at hb;simp[hb]
 frame:=λ_ _ _ ⟨slot,h1,h2,h3⟩ hk=>⟨slot,h1.at' λo e=>hk I (by simp) o e,h2.at' λo e=>hk a (by simp) o e,h3⟩
 item:=λi s Q E hi ⟨slot,h1,h2,h3⟩ hQ=>by
  have ql:i<(CN w a es ep).size:=by rw[Qb];exact hi
  have hx:(CN w a es ep)[i]?=Z (CN w a es ep)[i]:=EU ql;refine fS h1 h2 h3 hx λh' hit' hs'=>?_;refine hQ _ h' s.toks ⟨_,hx,rfl⟩ ⟨_,hit',h2.at' λo e=>hs'.extBut a o qq e,λhb=>?_⟩ λb o hb e=>hs'.extBut b o (λh=>hb (by simp[h])) e;rw[hb];exact jX h2.tab.rise (by rw[<-h2.siz];exact hi)
 done:=λs Q E ⟨slot,h1,h2,h3⟩ hQ=>gJ hh h1 h2 h3 (Ai _) λh' he'=>hQ h' s.toks λb o hb e=>he' b o (λh=>hb (by simp[h])) e
 self:=λ_ _ _ _ ⟨slot,h1,_⟩ hQ=>fk h1 hQ
end
end
end HP
namespace HP
open PySem PySem.W PyProof.Rows
variable{p:Array Nat}{h h':Heap}{ep i j m n:Nat}{Q:Nat×Array Nat->Prop}
section
variable{α β:Type}
def BS(o:Nat->Nat->Bool)(n:Nat):KasT α->(α->Prop)->Prop
 | .ret a,Q=>Q a
 | .ask i j k,Q=>i<n/\j<n/\BS o n (k (o i j)) Q
theorem BS.bnd{o:Nat->Nat->Bool}{n:Nat}{f:α->KasT β}{Q:β->Prop}:∀(t:KasT α),BS o n t (λa=>BS o n (f a) Q)->BS o n (t.bind f) Q
 | .ret a,h=>h
 | .ask i j k,h=>⟨h.1,h.2.1,BS.bnd (k (o i j)) h.2.2⟩
end
structure Pm(n:Nat)(p:Array Nat):Prop where
 pos:0<n
 perm:p.Perm (List.toArray (Ag n))
theorem Pm.size{n:Nat}{p:Array Nat}(h:Pm n p):p.size=n:=by have:=h.perm.size_eq;simpa using this
theorem Pm.lt(h:Pm n p)(i:Nat):p.getD i 0<n:=by
 by_cases hi:i<p.size
 .have e:p.getD i 0=p[i]:=by simp[CJ,hi]
  rw[e];have:=(YC.mp h.perm).mem_iff (a:=p[i]);have h2:=this.mp (by simp);simpa using h2
 .have e:p.getD i 0=0:=by simp[CJ,hi]
  rw[e];exact h.pos
theorem Pm.rev(h:Pm n p)(i j:Nat):Pm n (kas_rev p i j):=⟨h.pos,(mirror_perm _ _ _ _).trans h.perm⟩
theorem Pm.bub(h:Pm n p)(i j:Nat):Pm n (bubble p i j):=⟨h.pos,(bubble_perm _ _ _).trans h.perm⟩
theorem qL(p:Array Nat)(i:Nat):p.getD i 0=(p[i]?).getD 0:=by simp[N8]
section
variable(O:KeyOrd)(key:Nat->O.α)
def Ka(p:Array Nat)(i:Nat):O.α:=key (p.getD i 0)
def Up(p:Array Nat)(k:Nat):Prop:=∀i j,i<=j->j<k->O.kle (Ka O key p i) (Ka O key p j)
def Dn(p:Array Nat)(k:Nat):Prop:=∀i j,i<=j->j<k->O.kle (Ka O key p j) (Ka O key p i)
def Ev(p:Array Nat)(m q:Nat):Prop:=∀i,m-(q+1)<=i->i<m->Ka O key p i=Ka O key p (m-1)
abbrev uW:Nat->Nat->Bool:=λi j=>O.blt (key i) (key j)
variable{O key}{p:Array Nat}{n:Nat}
theorem OL(hj:j<=p.size)(k:Nat):Ka O key (kas_rev p i j) k=if i<=k/\k<j then Ka O key p (i+j-1-k)else Ka O key p k:=by unfold Ka kas_rev;rw[qL,getElem?_mirror_all hj];split<;>rw[<-qL]
theorem PV(hj:j<=p.size)(h:∀k,i<=k->k<j->Ka O key p k=Ka O key p (j-1))(k:Nat):Ka O key (kas_rev p i j) k=Ka O key p k:=by
 rw[OL hj];split
 .rename_i hk
  rw[h _ (by omega) (by omega),h k hk.1 hk.2]
 .rfl
theorem To{s d:Nat}(hs:s<p.size)(hd:d<=s)(k:Nat):Ka O key (bubble p s d) k=if k=s-d then Ka O key p s else if s-d<k/\k<=s then Ka O key p (k-1)else Ka O key p k:=by
 unfold Ka;rw[qL,getElem?_bubble hs d hd]
 by_cases h1:k=s-d
 .rw[if_pos h1,if_pos h1,<-qL]
 .rw[if_neg h1,if_neg h1]
  by_cases h2:s-d<k/\k<=s
  .rw[if_pos h2,if_pos h2,<-qL]
  .rw[if_neg h2,if_neg h2,<-qL]
theorem Up.one:Up O key p 1:=λi j h1 h2=>by
 obtain rfl:i=j:=by omega
 exact Jy _
theorem Up.more{k:Nat}(h:Up O key p k)(hl:O.kle (Ka O key p (k-1)) (Ka O key p k)):Up O key p (k+1):=λi j h1 h2=>by
 by_cases hj:j<k
 .exact h i j h1 hj
 obtain rfl:j=k:=by omega
 by_cases hi:i=j
 .subst hi;exact Jy _
 .exact Nw (h i (j-1) (by omega) (by omega)) hl
theorem Dn.more{k:Nat}(h:Dn O key p k)(hl:O.kle (Ka O key p k) (Ka O key p (k-1))):Dn O key p (k+1):=λi j h1 h2=>by
 by_cases hj:j<k
 .exact h i j h1 hj
 obtain rfl:j=k:=by omega
 by_cases hi:i=j
 .subst hi;exact Jy _
 .exact Nw hl (h i (j-1) (by omega) (by omega))
theorem Dn.same{p':Array Nat}{k:Nat}(h:Dn O key p k)(e:∀i,Ka O key p' i=Ka O key p i):Dn O key p' k:=λi j h1 h2=>by rw[e,e];exact h i j h1 h2
theorem PJ(hp:Pm n p){Q:Nat->Prop}:∀(f m:Nat),Up O key p m->(∀m',m<=m'->m'<=m+f->Up O key p m'->(m'=m+f\/O.klt (Ka O key p m') (Ka O key p (m'-1)))->Q m')->BS (uW O key) n (kas_asc p f m) Q
 |0,m,hu,hq=>hq m (Ai _) (by omega) hu (.inl rfl)
 |f+1,m,hu,hq=>by
  refine⟨hp.lt _,hp.lt _,?_⟩;dsimp only;split
  .rename_i h
   exact hq m (Ai _) (by omega) hu (.inr h)
  .rename_i h
   refine PJ hp f (m+1) (hu.more (Lz h)) λm' h1 h2 h3 h4=>hq m' (by omega) (by omega) h3 (h4.imp (λe=>by omega) id)
theorem Mq{Q:Array Nat×Nat×Nat->Prop}:∀(f:Nat) (p:Array Nat) (m q:Nat),Pm n p->Dn O key p m->q+1<=m->Ev O key p m q->m+f<=n ->(∀p' m' q',Pm n p'->m<=m'->m'<=m+f->Dn O key p' m'->q'+1<=m'->Ev O key p' m' q'->Q (p',m',q'))->BS (uW O key) n (kas_desc f p m q) Q
 |0,p,m,q,hp,hd,h1,he,hn,hq=>hq p m q hp (Ai _) (by omega) hd h1 he
 |f+1,p,m,q,hp,hd,h1,he,hn,hq=>by
  have hz:m<=p.size:=by rw[hp.size];omega
  have e0:∀p',Ev O key p' (m+1) 0:=λp' i h1 h2=>by congr 1;omega
  refine⟨hp.lt _,hp.lt _,?_⟩;dsimp only;split
  .rename_i h
   have hd':=hd.more (NX h);split
   .exact Mq f _ (m+1) 0 (hp.rev _ _) (hd'.same (PV hz he)) (by omega) (e0 _) (by omega) λp' m' q' a b c d e g=>hq p' m' q' a (by omega) (by omega) d e g
   .exact Mq f _ (m+1) 0 hp hd' (by omega) (e0 _) (by omega) λp' m' q' a b c d e g=>hq p' m' q' a (by omega) (by omega) d e g
  .rename_i h
   refine⟨hp.lt _,hp.lt _,?_⟩;dsimp only;split
   .exact hq p m q hp (Ai _) (by omega) hd h1 he
   .rename_i h'
    have l1:=Lz h;have l2:=Lz h';have ee:Ka O key p m=Ka O key p (m-1):=Yy l2 l1;refine Mq f p (m+1) (q+1) hp (hd.more l2) (by omega) (λi a b=>?_) (by omega) λp' m' q' a b c d e g=>hq p' m' q' a (by omega) (by omega) d e g;rw[show m+1-1=m by omega]
    by_cases hi:i=m
    .rw[hi]
    .rw[ee];exact he i (by omega) (by omega)
theorem Wo(hp:Pm n p)(hd:Dn O key p m)(h1:1<=m)(hm:m<=n)(hq:∀m' p',1<=m'->m'<=n->Pm n p'->Up O key p' m'->Q (m',p')):BS (uW O key) n (kas_tail3 m n p) Q:=by
 have hz:m<=p.size:=by rw[hp.size];omega
 refine BS.bnd _ (PJ (hp.rev 0 m) (n-m) m (λi j a b=>?_) λm' a b c _=>hq m' _ (by omega) (by omega) (hp.rev 0 m) c);rw[OL hz,OL hz,if_pos (by omega),if_pos (by omega)];exact hd _ _ (by omega) (by omega)
theorem VS(hp:Pm n p)(hd:Dn O key p (m+1))(hm:m+1<=n)(hq:∀m' p',1<=m'->m'<=n->Pm n p'->Up O key p' m'->Q (m',p')):BS (uW O key) n (kas_descPart m n p) Q:=by
 refine BS.bnd _ (Mq (n-(m+1)) p (m+1) 0 hp hd (by omega) (λi a b=>by congr 1;omega) (by omega) λp' m' q' h1 h2 h3 h4 h5 h6=>?_);have hz:m'<=p'.size:=by rw[h1.size];omega
 dsimp only;split
 .exact Wo (h1.rev _ _) (h4.same (PV hz h6)) (by omega) (by omega) hq
 .exact Wo h1 h4 (by omega) (by omega) hq
theorem jz(hp:Pm n p)(hq:∀m' p',1<=m'->m'<=n->Pm n p'->Up O key p' m'->Q (m',p')):BS (uW O key) n (kas_count n p) Q:=by
 have h0:=hp.pos;refine BS.bnd _ (PJ hp (n-1) 1 Up.one λm h1 h2 h3 h4=>?_);have hz:m<=p.size:=by rw[hp.size];omega
 split
 .exact hq m p (by omega) (by omega) hp h3
 .rename_i qq
  have hne':m≠n:=by simpa using qq
  have ql:O.klt (Ka O key p m) (Ka O key p (m-1)):=h4.resolve_left (by omega);split
  .rename_i hm
   refine⟨hp.lt _,hp.lt _,?_⟩;dsimp only;split
   .exact hq m p (by omega) (by omega) hp h3
   .rename_i hr
    have hr':O.kle (Ka O key p (m-1)) (Ka O key p 0):=Lz hr;have all:∀k,0<=k->k<m->Ka O key p k=Ka O key p (m-1):=λk _ hk=>Yy (h3 k (m-1) (by omega) (by omega)) (Nw hr' (h3 0 k (by omega) hk));refine VS (hp.rev _ _) (Dn.same ?_ (PV hz all)) (by omega) hq;refine Dn.more (λi j a b=>?_) (NX ql);rw[all i (by omega) (by omega),all j (by omega) b];exact Jy _
  .obtain rfl:m=1:=by omega
   refine VS hp (Dn.more (λi j a b=>?_) (NX ql)) (by omega) hq;obtain rfl:i=j:=by omega
   exact Jy _
theorem QB{Q:Nat->Prop}{k:Nat}(hp:Pm n p)(hu:Up O key p k):∀(f l r:Nat),l<=r->r<=k->r-l<=f->(∀i,i<l->O.kle (Ka O key p i) (Ka O key p k))->(∀i,r<=i->i<k->O.klt (Ka O key p k) (Ka O key p i)) ->(∀l,l<=k->(∀i,i<l->O.kle (Ka O key p i) (Ka O key p k))->(∀i,l<=i->i<k->O.klt (Ka O key p k) (Ka O key p i))->Q l)->BS (uW O key) n (kas_place p k f l r) Q
 |0,l,r,h1,h2,h3,lo,hi,hq=>by
  obtain rfl:l=r:=by omega
  exact hq l h2 lo hi
 |f+1,l,r,h1,h2,h3,lo,hi,hq=>by
  unfold kas_place;split
  .obtain rfl:l=r:=by omega
   exact hq l h2 lo hi
  .refine⟨hp.lt _,hp.lt _,?_⟩
   dsimp only;split
   .rename_i h
    exact QB hp hu f l ((l+r) / 2) (by omega) (by omega) (by omega) lo (λi a b=>KeyOrd.klt_of_klt_of_kle h (hu _ _ a b)) hq
   .rename_i h
    refine QB hp hu f ((l+r) / 2+1) r (by omega) (by omega) (by omega) (λi a=>Nw (hu i ((l+r) / 2) (by omega) (by omega)) (Lz h)) hi hq
theorem U6{Q:Array Nat->Prop}:∀(f:Nat) (p:Array Nat) (k:Nat),Pm n p->Up O key p k->k+f=n->(∀p',Pm n p'->Up O key p' n->Q p')->BS (uW O key) n (kas_bin f p k) Q
 |0,p,k,hp,hu,hn,hq=>by
  obtain rfl:k=n:=by omega
  exact hq p hp hu
 |f+1,p,k,hp,hu,hn,hq=>by
  refine BS.bnd _ (QB hp hu k 0 k (by omega) (Ai _) (by omega) (λi a=>by omega) (λi a b=>by omega) λl hl lo hi=>?_);refine U6 f _ (k+1) (hp.bub _ _) (λi j a b=>?_) (by omega) hq;have hk:k<p.size:=by rw[hp.size];omega
  rw[To hk (by omega),To hk (by omega),show k-(k-l)=l by omega]
  repeat' split
  all_goals first
   |(exfalso;omega)
   |exact Jy _
   |exact lo _ (by omega)
   |exact NX (hi _ (by omega) (by omega))
   |exact hu _ _ (by omega) (by omega)
theorem jV(hn:0<n){Q:Array Nat->Prop}(hq:∀p,Pm n p->Up O key p n->Q p):BS (uW O key) n (kas_sort n) Q:=by
 refine BS.bnd _ (jz ⟨hn,.refl _⟩ λm p h1 h2 h3 h4=>?_);dsimp only;rw[show max m 1=m by omega];split
 .exact U6 _ p m h3 h4 (by omega) hq
 .exact hq p h3 (by rwa [show n=m by omega])
end
theorem rg:∀a:List Int,HM.lexLt a a=Ab
 |[]=>rfl
 |x::a=>by show(if x=x then HM.lexLt a a else decide (x<x))=Ab;rw[if_pos rfl];exact rg a
theorem Km(x y:Int)(a b:List Int):HM.lexLt (x::a) (y::b)=if x=y then HM.lexLt a b else decide (x<y):=rfl
theorem rD:∀a b c:List Int,HM.lexLt a b=Aa->HM.lexLt b c=Aa->HM.lexLt a c=Aa
 |[],[],_,h,_=>by cases h
 |[],_::_,[],_,h=>by cases h
 |[],_::_,_::_,_,_=>rfl
 |_::_,[],_,h,_=>by cases h
 |_::_,_::_,[],_,h=>by cases h
 |x::a,y::b,z::c,h1,h2=>by
  rw[Km]at *;split at h1
  .rename_i e
   subst e;split at h2
   .rename_i e;subst e;rw[if_pos rfl];exact rD a b c h1 h2
   .rename_i e;rw[if_neg e];exact h2
  .split at h2
   .rename_i e1 e2;subst e2;rw[if_neg e1];exact h1
   .rename_i e1 e2
    have h1:=of_decide_eq_true h1;have h2:=of_decide_eq_true h2;rw[if_neg (by omega)];exact decide_eq_true (by omega)
theorem O5:∀a b c:List Int,HM.lexLt a c=Aa->HM.lexLt a b=Aa\/HM.lexLt b c=Aa
 |[],[],_,h=>.inr h
 |[],_::_,_,_=>.inl rfl
 |_::_,_,[],h=>by cases h
 |_::_,[],_::_,_=>.inr rfl
 |x::a,y::b,z::c,h=>by
  rw[Km]at *;rw[Km];split at h
  .rename_i e
   subst e
   by_cases e:x=y
   .subst e;rw[if_pos rfl,if_pos rfl];exact O5 a b c h
   .rw[if_neg e,if_neg (A7 e)]
    by_cases q:x<y
    .exact .inl (decide_eq_true q)
    .exact .inr (decide_eq_true (by omega))
  .rename_i e
   have h:=of_decide_eq_true h
   by_cases e1:x=y
   .subst e1;rw[if_neg e];exact .inr (decide_eq_true h)
   .rw[if_neg e1]
    by_cases q:x<y
    .exact .inl (decide_eq_true q)
    .rw[if_neg (by omega)];exact .inr (decide_eq_true (by omega))
theorem PY:∀a b:List Int,HM.lexLt a b=Ab->HM.lexLt b a=Ab->a=b
 |[],[],_,_=>rfl
 |[],_::_,h,_=>by cases h
 |_::_,[],_,h=>by cases h
 |x::a,y::b,h1,h2=>by
  rw[Km]at h1 h2
  by_cases e:x=y
  .subst e
   rw[if_pos rfl]at h1 h2;rw[PY a b h1 h2]
  .rw[if_neg e]at h1
   rw[if_neg (A7 e)]at h2;have h1:=of_decide_eq_false h1;have h2:=of_decide_eq_false h2;omega
@[reducible] def OV:KeyOrd where
 α:=List Int
 blt:=HM.lexLt
 irrefl:=rg
 trans:=rD
 negTrans:=O5
 total:=PY
theorem Qw{α:Type}{R:α->α->Prop}(xO:∀a b,R a b->R b a->a=b):∀{l m:List α},l.Perm m->l.Pairwise R->m.Pairwise R->l=m
 |[],m,hp,_,_=>(List.nil_perm.mp hp).symm
 |x::l,[],hp,_,_=>absurd hp.symm (by intro q;exact List.cons_ne_nil _ _ (List.nil_perm.mp q))
 |x::l,y::m,hp,hl,hm=>by
  obtain⟨l1,l2⟩:=Dg.mp hl;obtain⟨m1,m2⟩:=Dg.mp hm;have e:x=y:=by
   rcases Ax.mp (hp.mem_iff.mp (An ..))with e|e
   .exact e
   .rcases Ax.mp (hp.mem_iff.mpr (An ..))with e'|e'
    .exact e'.symm
    .exact xO x y (l1 y e') (m1 x e)
  subst e;rw[Qw xO ((List.perm_cons x).mp hp) l2 m2]
def TI(h:Heap)(b:Addr)(t:List Int):Prop:=∃o pO n,h.get? b=Z o/\o.cls=.type "tuple"/\o.data=.seq pO n/\IntsAre pO.toList t
theorem TI.keep{b:Addr}{t:List Int}(x:TI h b t)(k:∀o,h.get? b=Z o->h'.get? b=Z o):TI h' b t:=let ⟨o,pO,n,e,r⟩:=x;⟨o,pO,n,k o e,r⟩
section
variable{prog:Program}{w:World}{A:Around}{E:Value->Shared->Prop}{s:Shared}
theorem Tv{qC:Bool}{Q:Bool->Shared->Prop}:∀{vs ws:List Value} {a b:List Int} (i:Nat),IntsAre vs a->IntsAre ws b->qC=decide (vs.length<ws.length)->Q (HM.lexLt a b) s->KatLex prog w A Aa qC Q (vs.zip ws) i s
 |_,_,_,_,i,.nil,.nil,e,q=>by subst e;exact kat_nil q
 |_,_,_,_,i,.nil,.cons _ _ _,e,q=>by subst e;exact kat_nil q
 |_,_,_,_,i,.cons _ _ _,.nil,e,q=>by subst e;exact kat_nil q
 |_,_,_,_,i,.cons x t hv,.cons y u hw,e,q=>by
  rw[List.zip_cons_cons];refine kat_cons (wpAny_eqBool_int ?_);rw[Km]at q
  by_cases h:x=y
  .rw[if_pos h]at q
   rw[show(x==y)=Aa by simpa using h];refine kat_yes (Tv (i+1) hv hw ?_ q);rw[e,Ay,Ay];exact decide_eq_decide.mpr (by omega)
  .rw[if_neg h]at q
   rw[show(x==y)=Ab by simpa using h];refine kat_no ?_
   by_cases hi:i=0
   .rw[show(Aa&&i==0)=Aa by simpa using hi]
    exact oneLt_int q
   .rw[show(Aa&&i==0)=Ab by simpa using hi]
    exact kat_one _ _ (PyProof.Rows.lt_int q)
theorem cG{x y:Addr}{a b:List Int}{Q:Bool->Shared->Prop}(hx:TI s.heap x a)(hy:TI s.heap y b)(h:Q (HM.lexLt a b) s):wpAny (model prog w) A (keyLt' (tuples' Aa) (.ref x) (.ref y)) Q E s:=by obtain⟨ox,ix,n,e1,_,d1,r1⟩:=hx;obtain⟨oy,iy,k,e2,_,d2,r2⟩:=hy;refine kat_lt e1 d1 e2 d2 (Tv 0 r1 r2 ?_ h);rw[A2,A2]
theorem Uz{α:Type}{cmp:Nat->Nat->(Bool->Shared->Prop)->Shared->Prop}{o:Nat->Nat->Bool}{n:Nat}(hc:∀i j C,i<n->j<n->C (o i j) s->cmp i j C s){G:α->Shared->Prop}:∀(t:KasT α),BS o n t (λa=>G a s)->t.kasWp cmp G s
 | .ret a,h=>h
 | .ask i j k,h=>hc i j _ h.1 h.2.1 (Uz hc (k (o i j)) h.2.2)
theorem gZ{R:Heap->Addr->List Int->Prop}{F:List Int->Prop}(hkp:∀{h h':Heap} {b:Addr} {t:List Int},R h b t->(∀c o,h.get? c=Z o->o.cls=.type "tuple"->h'.get? c=Z o)->R h' b t)(hfs:∀{h:Heap} {b:Addr} {t:List Int},F t->R h b t->∃o pO n x u,h.get? b=Z o/\o.cls=.type "tuple"/\o.data=.seq pO n/\pO[0]?=Z (.int x u))(ql:∀{s:Shared} {x y:Addr} {a b:List Int} {C:Bool->Shared->Prop} {E:Value->Shared->Prop},R s.heap x a->R s.heap y b->C (HM.lexLt a b) s->wpAny (model prog w) A (keyLt' (tuples' Aa) (.ref x) (.ref y)) C E s){a:Addr}{vs:List Value}{ts:List (List Int)}{n:Nat}{P:PySem.Fin->Shared->Prop}(ho:s.heap.get? a=Z (seqObj "list" vs.toArray n))(hl:ts.length=vs.length)(hT:∀(i:Nat) t,ts[i]?=Z t->∃b,vs[i]?=Z (.ref b)/\R s.heap b t)(qq:vs.length<2\/∀t∈ts,F t)(xx:vs.length<64)(h:∀p:List Nat,p.Perm (Ag vs.length)->(p.map λi=>ts.getD i []).Pairwise (λx y=>HM.lexLt y x=Ab)->P (.done (.ret .none)) {s with heap:=Lb s.heap a vs (p.map λi=>vs.getD i Bl).toArray}):wpAny (model prog w) A (Builtin.«list.sort» ⟨[.ref a],[]⟩) P E s:=by
 rw[list_sort_plain];have ha:a<s.heap.objs.size:=Aq ho;refine Ac (listItems_at ho rfl (Ac (listUpdate_at ho rfl ?_ (by rw[AL,BO];omega) (Bw _))));obtain⟨e1,ho1⟩:∃e1,(s.heap.update a (HH λ_=>#[])).get? a=Z (seqObj "list" #[] e1):=⟨_,get?_update_seq ho (λ_=>#[])⟩;refine Ac (seqEpoch_at ho1 rfl ?_);refine Ac (wpAny_newTuple ?_ (by show vs.length<=_;rw[BO];omega));refine Ac (NO ?_ (Bw _));refine B4 ?_;generalize hG:((s.heap.update a (HH λ_=>#[])).push (seqObj "tuple" vs.toArray 0)).push (seqObj "list" #[] 0)=g;have ho6:g.get? a=Z (seqObj "list" #[] e1):=by rw[<-hG,NW _ _ _ (by rw[size_push',Nv];exact Aw (HX ha)),NW _ _ _ (by rw[Nv];exact Aw ha)];exact ho1
 have uA:∀b o,b≠a->s.heap.get? b=Z o->g.get? b=Z o:=λb o hb e=>by have ql:=Aq e;rw[<-hG,NW _ _ _ (by rw[size_push',Nv];exact Aw (HX ql)),NW _ _ _ (by rw[Nv];exact Aw ql),Heap.get?_update_ne _ _ _ _ hb];exact e
 have zt:∀(i:Nat) t,ts[i]?=Z t->∃b,vs[i]?=Z (.ref b)/\R g b t:=λi t e=>by
  obtain⟨b,e1,x⟩:=hT i t e;refine⟨b,e1,hkp x λc o q hc=>uA c o ?_ q⟩
  rintro rfl
  rw[ho]at q;cases q;exact absurd (Value.type.inj hc) (by decide)
 show wpAny (model prog w) A _ P E {s with heap:=g};dsimp only;have qC:∀(st':SortSt) (p:List Nat),p.Perm (Ag vs.length)->(p.map λi=>ts.getD i []).Pairwise (λx y=>HM.lexLt y x=Ab)->(arrOf st').map (·.2)=(p.map λi=>vs.getD i Bl).toArray->failedOf st'=Z_ ->
   wpAny (model prog w) A (do
    let touched:=(<-seqEpoch a) != e1
    Builtin.List.listUpdate (.ref a) λ_=>(arrOf st').map (·.2)
    if let Z e:=failedOf st' then rule "list.sort.comparison-raised";throw e
    if touched then rule "list.sort.modified";raiseError "ValueError" "list modified during sort"
    ret .none) P E {s with heap:=g}:=by
  intro st' p hp hs zq hf;refine Ac (seqEpoch_at ho6 rfl ?_);rw[zq];refine Ac (listUpdate_at ho6 rfl ?_ (Bw _) (by show(p.map λi=>vs.getD i Bl).toArray.size<=_;rw[AL,Af,hp.length_eq,C1,BO];omega));rw[hf];simp only[bne_self_eq_false,BR,if_false];refine Ad ?_;have:=h p hp hs;unfold Lb at this;rw[hG]at this;exact this
 by_cases h2:vs.toArray.size<2
 .rw[if_pos h2,if_pos h2]
  refine Ac (Ad ?_);rw[StateT.run_pure];refine Ac (Ad ?_);refine qC (SortSt.mk' general' (vs.toArray.zip vs.toArray) #[] 7 Z_) (Ag vs.length) (.refl _) ?_ ?_ rfl
  .rw[AL]at h2
   have:vs.length=0\/vs.length=1:=by omega
   rcases this with e|e<;>rw[e]<;>simp
  .rw[AL]at h2
   show Array.map (·.2) (vs.toArray.zip vs.toArray)=_
   match vs,h2 with
   |[],_=>simp
   |[v],_=>simp
 .rw[if_neg h2,if_neg h2]
  rw[AL]at h2;have hne':∀t∈ts,F t:=qq.resolve_left h2;have tups:∀(vs:List Value) (ts:List (List Int)),ts.length=vs.length->(∀(i:Nat) t,ts[i]?=Z t->∃b,vs[i]?=Z (.ref b)/\R g b t)->(∀t∈ts,F t)->∃fs,KatTups g vs fs/\fs.length=vs.length/\∀v∈fs,∃x t,v=CZ x t:=by
   intro vs
   induction vs with
   |nil=>intro ts hl _ _;exact⟨[],KatTups.nil,rfl,by simp⟩
   |cons v vs ih =>
    intro ts hl hT hn;cases ts with
    |nil=>simp at hl
    |cons t ts =>
     obtain⟨fs,f1,f2,f3⟩:=ih ts (by simpa using hl) (λi t e=>hT (i+1) t (by simpa using e)) λx hx=>hn x (Ao _ hx);obtain⟨b,eb,hr⟩:=hT 0 t rfl;obtain⟨o,pO,m,x,u,g1,g2,g3,g4⟩:=hfs (hn t (An ..)) hr;simp at eb;subst eb;refine⟨.int x u::fs,KatTups.cons g1 g2 g3 g4 f1,by simp[f2],λv hv=>?_⟩;rcases Ax.mp hv with e|e
     .exact⟨x,u,e⟩
     .exact f3 v e
  obtain⟨fs,f1,f2,f3⟩:=tups vs ts hl zt hne';refine Ac (kat_kind (s:={s with heap:=g}) (T:=.type "int") f1 (by omega) (λv hv=>?_) (by rfl) ?_)
  .obtain⟨x,t,rfl⟩:=f3 v hv
   exact Looks.of_pure rfl
  rw[show(Fy "int" != Fy "tuple")=Aa by decide];refine Ac (Cu (kat_run (ks:=vs) (Q:=λst' s'=>s'={s with heap:=g}/\∃p:Array Nat,Pm vs.length p/\Up OV (λi=>ts.getD i []) p vs.length/\arrOf st'=p.map (kas_item (vs.toArray.zip vs.toArray))/\failedOf st'=Z_)
   (G:=λp s'=>s'={s with heap:=g}/\Pm vs.length p/\Up OV (λi=>ts.getD i []) p vs.length) rfl (by omega) xx (λp' st' s' a1 a2 a3 a4=>⟨a4.1,p',a4.2.1,a4.2.2,a2,a3⟩) ?_) ?_ λ_ _ e=>e)
  .refine Uz (o:=uW OV λi=>ts.getD i []) (n:=vs.length) (λi j C hi hj hC=>?_) _ (jV (by omega) λp h1 h2=>⟨rfl,h1,h2⟩)
   have gi:ts[i]?=Z (ts.getD i []):=by simp[show i<ts.length by omega]
   have gj:ts[j]?=Z (ts.getD j []):=by simp[show j<ts.length by omega]
   obtain⟨b1,v1,x1⟩:=zt i _ gi;obtain⟨b2,v2,x2⟩:=zt j _ gj;show wpAny (model prog w) A (keyLt' _ (vs.getD i Bl) (vs.getD j Bl)) C _ _;rw[show vs.getD i Bl=.ref b1 by simp[Cq,v1],show vs.getD j Bl=.ref b2 by simp[Cq,v2]];exact ql x1 x2 hC
  .rintro ⟨⟨⟩,st'⟩ s' ⟨rfl,p,hp,hu,zq,hf⟩
   refine qC st' p.toList ?_ ?_ (kat_snds rfl zq) hf
   .have:=YC.mp hp.perm
    simpa using this
   .rw[JH,Yi]
    intro i j hi hj hij;have hsz:=hp.size;have q:=hu i j (ET hij) (by rw[A2]at hj;omega);unfold Ka at q;rw[show p.getD i 0=p.toList[i] by simp[CJ,show i<p.size by simpa using hi],show p.getD j 0=p.toList[j] by simp[CJ,show j<p.size by simpa using hj]]at q;exact q
theorem UW{a:Addr}{vs:List Value}{ts:List (List Int)}{P:PySem.Fin->Shared->Prop}(ho:s.heap.get? a=Z (seqObj "list" vs.toArray n))(hl:ts.length=vs.length)(hT:∀(i:Nat) t,ts[i]?=Z t->∃b,vs[i]?=Z (.ref b)/\TI s.heap b t)(qq:vs.length<2\/∀t∈ts,t≠[])(xx:vs.length<64)(h:∀p:List Nat,p.Perm (Ag vs.length)->(p.map λi=>ts.getD i []).Pairwise (λx y=>HM.lexLt y x=Ab)->P (.done (.ret .none)) {s with heap:=Lb s.heap a vs (p.map λi=>vs.getD i Bl).toArray}):wpAny (model prog w) A (Builtin.«list.sort» ⟨[.ref a],[]⟩) P E s:=by
 refine gZ (R:=TI) (F:=λt=>t≠[]) (λ⟨o,pO,n,e,c,r⟩ k=>⟨o,pO,n,k _ _ e c,c,r⟩) (λ{h b t} hn x=>?_) cG ho hl hT qq xx h;obtain⟨o,pO,m,g1,g2,g3,g4⟩:=x;cases t with
 |nil=>exact absurd rfl hn
 |cons x t =>
  cases hi:pO.toList with
  |nil=>rw[hi]at g4;cases g4
  |cons y ys =>
   rw[hi]at g4;cases g4 with
   |cons _ u _=>exact⟨o,pO,m,x,u,g1,g2,g3,by rw[<-B5,hi];rfl⟩
end
def Du(h:Heap)(d:Addr)(es:Array DictEntry)(ep:Nat):Prop:=∃o,h.get? d=Z o/\o.ExactDict/\o.data=.dict es ep
theorem Du.at'{d:Addr}{es:Array DictEntry}(x:Du h d es ep)(e:∀o,h.get? d=Z o->h'.get? d=Z o):Du h' d es ep:=let ⟨o,ho,r⟩:=x;⟨o,e _ ho,r⟩
theorem Du.typeIs{s:Shared}{d:Addr}{es:Array DictEntry}(x:Du s.heap d es ep):s.TypeIs (.ref d) "dict":=let ⟨o,ho,hc,_⟩:=x;⟨o,ho,hc.1⟩
theorem Du.lt{d:Addr}{es:Array DictEntry}(x:Du h d es ep):d<h.objs.size:=let ⟨o,ho,_⟩:=x;Aq ho
section
variable{prog:Program}{w:World}{A:Around}{E:Value->Shared->Prop}{s:Shared}{it d:Addr}{es:Array DictEntry}{ep i:Nat}
theorem Vn{Q:Value->Shared->Prop}(hd:(d==CK)=Ab)(hm:Du s.heap d es ep)(hQ:Q (.ref s.heap.objs.size) {s with heap:=s.heap.push {cls:=.type "dict_keyiterator",data:=.fields #[.ref d,.int 0 0,.int es.size 0,.int ep 0]}}):wpAny (model prog w) A (pyIter (.ref d)) Q E s:=by
 obtain⟨o,ho,hc,xK⟩:=id hm;have hT:=hm.typeIs;refine Sk hT F.slot_dict_iter (Ep F.slot_dict_iter hT F.entry_dict_iter ?_ (F.args_dict_iter_1 _));unfold Builtin.«dict.__iter__»;refine Ac ?_;unfold Builtin.Dict.dictSlotNone;refine Ac (wpAny_notOrdered_dict hT ?_);show wpAny _ _ (pure (A6 d)) _ _ s;refine Ad ?_;show wpAny _ _ (Yq d >>= _) _ _ s;unfold Yq;rw[if_neg (by rw[hd];exact C2)];refine Ac (Ad (Ac (N3 ho xK (Ac (RX ho xK ?_)))));refine Ac (D2 (Ad ⟨_,rfl,"dict_keyiterator",_,⟨_,AS _ rfl,rfl⟩,F.slot_dict_keyiterator_next.lookup,?_⟩));simpa [rawInt]using hQ
theorem VI{e:DictEntry}{Q:Option Value->Shared->Prop}(rB:s.heap.IsKeyIter it d i es.size ep)(hm:Du s.heap d es ep)(hx:es[i]?=Z e)(hQ:∀h',h'.IsKeyIter it d (i+1) es.size ep->El it s.heap h'->Q (Z e.key) {s with heap:=h'}):wpAny (model prog w) A (pyNext (.ref it)) Q E s:=by
 obtain⟨o,ho,hc,hd⟩:=id rB;obtain⟨od,xh,qw,xq⟩:=id hm;unfold pyNext;refine Ac (Ny (wpAny_callSpecial?_slot (name:=GF "__next__") rB.typeIs F.slot_dict_keyiterator_next
  (Ep F.slot_dict_keyiterator_next rB.typeIs F.entry_dict_keyiterator_next ?_ (F.args_dict_keyiterator_next_1 _))))
 refine Ac (Ad (Ac (Ac ?_)))
 first|refine Ac (N9 rB.typeIs (Ad ?_))|refine Ac (Od rB.typeIs (Ad ?_))
 refine Ac (NI ho hd ?_);have wt:YJ "dict_keyiterator"=Ab:=by decide
 simp only[wt,BR,if_false];show wpAny _ _ (if(A6 d==Bl)=Aa then _ else _) _ _ s;rw[if_neg (show ¬((A6 d==Bl)=Aa) from C2)];refine Ac (Ad (Ac (N3 xh xq ?_)));rw[if_neg (by simp)];refine Ac (Ad (Ac (RX xh xq ?_)));rw[if_neg (by simp)];refine Ad ?_;obtain⟨ql,he⟩:=GI.mp hx;simp only[show ¬((i:Int)<0) from by omega,if_false,NY,EU ql];refine Ac ?_
 first|refine Ac (N9 rB.typeIs (Ad ?_))|refine Ac (Od rB.typeIs (Ad ?_))
 refine Ac (wpAny_isOneOf_keyiter rB.typeIs ?_);show wpAny _ _ (setField (.ref it) 1 (rawInt ((i:Int)+1)) >>= _) _ _ s;refine Ac (Lr ho hd (by simp) ?_);have hit':(s.heap.update it (R0 (·.setIfInBounds 1 (rawInt ((i:Int)+1))))).IsKeyIter it d (i+1) es.size ep :=
  ⟨_,Em _ ho (Se (Gy hd _)),(Sj ..).trans hc,by rw[Gy hd];simp[rawInt]⟩
 refine Ac (B4 ?_);refine Ac (wpAny_isOneOf_keyiter (s:={s with heap:=s.heap.update it (R0 (·.setIfInBounds 1 (rawInt ((i:Int)+1))))}) hit'.typeIs ?_);show wpAny _ _ (pure es[i].key) _ _ _;refine Ad (Ad ⟨_,rfl,Ad ?_⟩);rw[he];exact hQ _ hit' (DW ..)
theorem T8{Q:Option Value->Shared->Prop}(hh:A.handled=Z_)(rB:s.heap.IsKeyIter it d i es.size ep)(hm:Du s.heap d es ep)(hx:es.size<=i)(hQ:∀h',Heap.ExtBut it s.heap h'->Q Z_ {s with heap:=h'}):wpAny (model prog w) A (pyNext (.ref it)) Q E s:=by
 obtain⟨o,ho,hc,hd⟩:=id rB;obtain⟨od,xh,qw,xq⟩:=id hm;unfold pyNext;refine Ac (Ny (wpAny_callSpecial?_slot (name:=GF "__next__") rB.typeIs F.slot_dict_keyiterator_next
  (Ep F.slot_dict_keyiterator_next rB.typeIs F.entry_dict_keyiterator_next ?_ (F.args_dict_keyiterator_next_1 _))))
 refine Ac (Ad (Ac (Ac ?_)))
 first|refine Ac (N9 rB.typeIs (Ad ?_))|refine Ac (Od rB.typeIs (Ad ?_))
 refine Ac (NI ho hd ?_);have wt:YJ "dict_keyiterator"=Ab:=by decide
 simp only[wt,BR,if_false];show wpAny _ _ (if(A6 d==Bl)=Aa then _ else _) _ _ s;rw[if_neg (show ¬((A6 d==Bl)=Aa) from C2)];refine Ac (Ad (Ac (N3 xh xq ?_)));rw[if_neg (by simp)];refine Ac (Ad (Ac (RX xh xq ?_)));rw[if_neg (by simp)];refine Ad ?_;simp only[show ¬((i:Int)<0) from by omega,if_false,NY,Sz hx];refine Ac ?_
 first|refine Ac (N9 rB.typeIs (Ad ?_))|refine Ac (Od rB.typeIs (Ad ?_))
 show wpAny _ _ (setField (.ref it) 0 .none >>= _) _ _ s;refine Ac (Lr ho hd (by simp) ?_);show wpAny _ _ (newExc (.type "StopIteration") [] >>= _) _ _ _;refine Ac ?_;simp only[newExc,newTuple];refine Ac (D2 ?_ (by size_fits));refine Ac (m:=NH _ _) (Ni (a:=Bl) (by first|rfl|(simp only[NH];rfl)) ?_)
 refine D2 ?_ (by size_fits);simp only[raiseNew];refine Ac (wpAny_handled ?_);rw[show A.in1.handled=Z_ from hh];refine Ac (Ad (wpAny_throw ?_));refine Ac (RR (T:="StopIteration") (b:=Aa) ⟨_,AS _ rfl,rfl⟩ isSubtype_stop ?_);exact Ad (hQ _ (((DW ..).extBut.push _).push _))
theorem i7(hh:A.handled=Z_)(I d:Addr)(qq:d≠I)(es:Array DictEntry)(ep:Nat):Walks prog w A I [I,d] [I] es.size (λi v=>∃e,es[i]?=Z e/\v=e.key) (λi h=>h.IsKeyIter I d i es.size ep/\Du h d es ep) where
 sub:=λb hb=>by simp at hb;simp[hb]
 frame:=λ_ _ _ st hk=>⟨st.1.at λo e=>hk I (by simp) o e,st.2.at' λo e=>hk d (by simp) o e⟩
 item:=λi s Q E hi st hQ=>by have hx:es[i]?=Z es[i]:=EU hi;refine VI st.1 st.2 hx λh' hit' hs'=>?_;exact hQ _ h' s.toks ⟨_,hx,rfl⟩ ⟨hit',st.2.at' λo e=>hs'.extBut d o qq e⟩ λb o hb e=>hs'.extBut b o (λh=>hb (by simp[h])) e
 done:=λs Q E st hQ=>T8 hh st.1 st.2 (Ai _) λh' he'=>hQ h' s.toks λb o hb e=>he' b o (λh=>hb (by simp[h])) e
 self:=λ_ _ _ _ st hQ=>wpAny_pyIter_keyiter st.1 hQ
end
end HP
namespace HP
open PySem PySem.Spec PySem.W PySem.Calls PyProof.Rows L2
variable[FX]
section
variable{a r:Addr}{es:Array (Int×Value)}{h:Heap}{ep:Nat}
section
variable{prog:Program}{w:World}{A:Around}{E:Value->Shared->Prop}{s:Shared}
theorem gu{Q:Bool->Shared->Prop}(hT:s.TypeIs (.ref r) "set")(h:Q Ab s):wpAny (model prog w) A (YH (.ref r)) Q E s:=by
 unfold YH;refine Ac (RM hT PySem.F.slot_set_len.lookup ?_);generalize hid:("set.__len__":String)=id0
 wp_delta
 rw[show splitId id0=Z ("set","__len__") from by subst hid;decide +kernel];subst hid;refine Ac (RR (T:="set") (b:=Aa) hT (by rw[isSubtype_type];kernel_rfl) ?_);refine HR (λq=>absurd q (by decide)) λ_=>?_;refine HR (λ_=>?_) (λq=>absurd (by decide +kernel) q);exact Ac (wpAny_typeOf hT (Ad h))
theorem fU{d:Addr}{es:Array DictEntry}(lo:(d==CK)=Ab):KdlSrc prog w "dict" d d es.size (λi v=>∃e,es[i]?=Z e/\v=e.key) (λh=>Du h d es ep) where
 type:=λ_ hm=>hm.typeIs
 there:=λ_ hm=>⟨hm.lt,hm.lt⟩
 keep:=λ_ _ hm hk=>hm.at' λo e=>hk d (.inl rfl) o e
 notList:=by decide
 notTuple:=by decide
 hint:=λ_ _ _ _ hm hq=>kdl_hint_dict hm.typeIs hq
 iter:=λ_ _ hh hm=>⟨_,_,(λ_ _ hq=>Vn lo hm hq),i7 hh _ d (Aw hm.lt) es ep,⟨⟨_,AS _ rfl,rfl,rfl⟩,hm.at' λo e=>Ar _ e⟩⟩
theorem CL.typeIs{t:SetTable}(x:CL w s.heap a es ep t):s.TypeIs (.ref a) "set":=let ⟨o,ho,hc,_⟩:=x.obj;⟨o,ho,hc.1⟩
theorem CL.lt{t:SetTable}(x:CL w h a es ep t):a<h.objs.size:=let ⟨o,ho,_⟩:=x.obj;Aq ho
theorem Uk{t:SetTable}:KdlSrc prog w "set" a a es.size (λi v=>∃e,(CN w a es ep)[i]?=Z e/\v=e.2) (λh=>CL w h a es ep t) where
 type:=λ_ hm=>hm.typeIs
 there:=λ_ hm=>⟨hm.lt,hm.lt⟩
 keep:=λ_ _ hm hk=>hm.at' λo e=>hk a (.inl rfl) o e
 notList:=by decide
 notTuple:=by decide
 hint:=λ_ _ _ _ hm hq=>gu hm.typeIs hq
 iter:=λ_ _ hh hm=>⟨_,_,(λ_ _ hq=>fR hm hq),iR hh _ a (Aw hm.lt) es ep t,⟨0,⟨_,AS _ rfl,rfl,rfl⟩,hm.at' λo e=>Ar _ e,λ_=>jA hm.tab.rise⟩⟩
theorem MP{T:String}{d:Addr}{n:Nat}{P:Nat->Value->Prop}{OK:Heap->Prop}{R:List Value->Shared->Prop}(K:KdlSrc prog w T r d n P OK)(hh:A.handled=Z_)(hok:OK s.heap)(hn:n<=sizeLine)(h:∀(h':Heap) (tk:Nat) (acc:Array Value),(∀b o,s.heap.get? b=Z o->h'.get? b=Z o)->s.heap.objs.size<h'.objs.size->ItemsOf P acc n->R acc.toList {s with heap:=h',toks:=tk}):wpAny (model prog w) A (collect (.ref r)) R E s:=by
 have ql:=K.there _ hok;unfold collect;refine Ac (NJ (Dj entry_proto_collect' ?_));rw[DX YG _];show wpAny _ A.in1 (newList [] >>= λl=>again (.builtin "list.__iadd__" ⟨[l,.ref r],[]⟩)) _ _ s;refine Ac (D2 (Ad ⟨FH NV _,Dj entry_list_iadd' ?_⟩));rw[DX NV _];have zu:(s.heap.push {cls:=.type "list",data:=.seq ([]:List Value).toArray}).get? s.heap.objs.size=Z {cls:=.type "list",data:=.seq #[]}:=AS _ rfl;show wpAny _ A.in1 (YF (.ref s.heap.objs.size) (.ref r) (.ref s.heap.objs.size)) _ _ _;refine Cu (kdl_extend (A:=A) (s:={s with heap:=s.heap.push {cls:=.type "list",data:=.seq ([]:List Value).toArray}})
  (R:=λ(q:Result) (s':Shared)=>∃(h':Heap) (tk:Nat) (acc':Array Value) (c':Nat),q=.ok (.ret (.ref s.heap.objs.size))/\s'={s with heap:=h',toks:=tk} /\
   (∀b o,s.heap.get? b=Z o->h'.get? b=Z o)/\h'.get? s.heap.objs.size=Z {cls:=.type "list",dict:=Z_,data:=.seq acc' c',slots:=#[]}/\ItemsOf P acc' n)
  K hh (K.keep _ _ hok λb _ o e=>Ar _ e) s.heap.objs.size (HD ql.1) (HD ql.2) (.ref s.heap.objs.size) 0 zu
  (λh' tk acc' c' hk hS' qf=>⟨h',tk,acc',c',rfl,rfl,λb o e=>hk b o (Aw (Aq e)) (Ar _ e),hS',qf⟩) hn) (λqC s' x=>?_) λe s' x=>?_
 .have go:∀(h':Heap) (tk:Nat) (acc':Array Value) (c':Nat),(∀b o,s.heap.get? b=Z o->h'.get? b=Z o)->h'.get? s.heap.objs.size=Z {cls:=.type "list",dict:=Z_,data:=.seq acc' c',slots:=#[]}->ItemsOf P acc' n ->
    wpAny (model prog w) A (load s.heap.objs.size >>= λo=>match o.data with | .seq xs _=>pure xs.toList|_=>Nh "internal:collect") R E {s with heap:=h',toks:=tk}:=λh' tk acc' c' hk hS' qf =>
   Ac (wpAny_load hS' (Ad (h h' tk acc' hk (Aq hS') qf)))
  cases qC with
  |done f=>obtain⟨h',tk,acc',c',e,rfl,hk,hS',qf⟩:=x;cases e;exact go h' tk acc' c' hk hS' qf
  |again c₁=>refine⟨x.1,Ek x.2 λq s₂ y=>?_⟩;obtain⟨h',tk,acc',c',rfl,rfl,hk,hS',qf⟩:=y;exact go h' tk acc' c' hk hS' qf
 .obtain⟨_,_,_,_,e',_⟩:=x
  cases e'
end
inductive FQ(K:Ae)(F H:Hp)(p:Addr):List PyData->Prop where
 |lst {ds:List PyData} {vs:List V} (h:qD K H p vs) (r:Zq K F ds vs):FQ K F H p ds
 |tup {ds:List PyData} {vs:List V} (h:rM K H p vs) (r:Zq K F ds vs):FQ K F H p ds
 |dk {kvs:List (pU×V)} (h:H p=Z (.dK kvs)):FQ K F H p (kvs.map λq=>HM.BL q.1)
 |dt {kvs:List (List pU×V)} (h:H p=Z (.dT kvs)):FQ K F H p (kvs.map λq=>.tuple (q.1.map HM.BL))
theorem eh{K:Ae}{F:Hp}(k:pU):Rep K F (HM.BL k) (kV k):=by
 cases k with
 |inl i=>exact .int i
 |inr x=>exact .str x
theorem Ms{K:Ae}{F:Hp}:∀(ks:List pU),Zq K F (ks.map HM.BL) (ks.map kV)
 |[]=>.nil
 |k::ks=>.cons (eh k) (Ms ks)
theorem dC{P:Program}{w:World}{k:pU}{u:Value}(h:(BN P w).is k u=Aa):RelV (kV k) u:=by
 rw[jr]at h;rcases EM h with⟨i,t,rfl,rfl⟩|⟨x,t,rfl,rfl⟩
 .exact⟨t,rfl⟩
 .exact⟨t,rfl⟩
section
variable{X:Cx}{pM:List (Addr×Obj)}{J:L2.St}{H F:Hp}{s:Shared}{p:Addr}{ds:List PyData}
theorem ID:∀{vs:List V} {us:List Value},vs.length=us.length->(∀(i:Nat) v u,vs[i]?=Z v->us[i]?=Z u->RelV v u)->pQ vs us
 |[],[],_,_=>.nil
 |[],_::_,h,_=>by simp at h
 |_::_,[],h,_=>by simp at h
 |v::vs,u::us,h,k=>.cons (k 0 v u rfl rfl) (ID (by simpa using h) λi a b e1 e2=>k (i+1) a b (by simpa using e1) (by simpa using e2))
theorem FQ.gath(I:Inv X pM J H s)(sub:Zp F H)(h:FQ X.K F H p ds):∃vs,Zq X.K (BU F H) ds vs/\∀(A:Around) (E:Value->Shared->Prop) (R:List Value->Shared->Prop),A.handled=Z_ ->(∀us h' tk,pQ vs us->(∀b o,s.heap.get? b=Z o->h'.get? b=Z o)->R us {s with heap:=h',toks:=tk})->wpAny (model X.prog X.w) A (collect (.ref p)) R E s:=by
 cases h with
 | @lst _ vs h r=>obtain⟨pO,rv,pl,hz⟩:=I.list h;obtain⟨o,ho,qW,n,hd⟩:=pl.isList;refine⟨vs,r.mono (Fd sub),λA E R _ k=>wpAny_collect_seq p (.inl rfl) ho qW hd (λh' kp=>?_) (by rw[AL,<-rv.length];exact hz)⟩;exact k pO h' s.toks rv kp
 | @tup _ vs h r=>obtain⟨pO,rv,pl,hz⟩:=I.tuple h;obtain⟨o,ho,qW,n,hd⟩:=pl;refine⟨vs,r.mono (Fd sub),λA E R _ k=>wpAny_collect_seq p (.inr rfl) ho qW hd (λh' kp=>?_) (by rw[AL,<-rv.length];exact hz)⟩;exact k pO h' s.toks rv kp
 | @dk kvs h =>
  obtain⟨z,lo,vs,qF,dd⟩:=Ow I.hok h;obtain⟨ep,vG⟩:=dd.dictAt;have hl:kvs.length=vs.length:=GC qF;refine⟨kvs.map λq=>kV q.1,?_,λA E R hh k=>MP (kdl_dict (knd:=BN X.prog X.w) (kvs:=vs) (ep:=ep) lo) hh vG (by omega) λh' tk acc kp hsz qf=>k _ h' tk ?_ kp⟩
  .have:=Ms (K:=X.K) (F:=BU F H) (kvs.map (·.1))
   rw[Av,Av]at this;exact this
  .refine ID (by have q:acc.toList.length=acc.size:=A2;rw[Af,q,qf.1,hl]) λi v u e1 e2=>?_
   obtain⟨kk,x,q1,q2⟩:=qf.2 i u (by rw[<-B5];exact e2);rw[AE]at e1;obtain⟨q,e3,e4⟩:=Al.mp e1;subst e4;have key:∀{l:List (pU×V)} {m:List (pU×Value)},KV l m->∀(i:Nat) a b,l[i]?=Z a->m[i]?=Z b->a.1=b.1:=by
    intro l m r
    induction r with
    |nil=>intro i a b e;simp at e
    |cons hq _ ih =>
     intro i a b e1 e2;cases i with
     |zero=>simp at e1 e2;subst e1;subst e2;exact hq.1
     |succ i=>exact ih i a b (by simpa using e1) (by simpa using e2)
   have ek:=key qF i q (kk,x) e3 q1;rw[ek];exact dC q2
 | @dt kvs h =>
  obtain⟨z,lo,xs,qF,o,es,ep,h1,h2,h3,h4,h5⟩:=(show ZT X.prog X.w H s.heap p (.dT kvs) from I.hok p _ h);have hl:kvs.length=xs.length:=GC qF;have xn:es.size=xs.length:=by rw[<-A2,h4,Af]
  have hm:Du s.heap p es ep:=⟨o,h1,h2,h3⟩;refine⟨xs.map λq=>V.ref q.2.1,?_,λA E R hh k=>MP (fU (es:=es) (ep:=ep) lo) hh hm (by omega) λh' tk acc kp hsz qf=>k _ h' tk ?_ kp⟩
  .clear h4 xn hl z h h5
   induction qF with
   |nil=>exact .nil
   | @cons p0 _ _ _ hq _ ih=>obtain⟨q1,q2,_⟩:=hq;rw[Ak,Ak];refine .cons ?_ ih;have rk:=Ms (K:=X.K) (F:=BU F H) p0.1;exact .tup (Vd q2) rk.1 rk.2
  .refine ID (by have q:acc.toList.length=acc.size:=A2;rw[Af,q,qf.1,xn]) λi v u e1 e2=>?_
   obtain⟨e,q1,q2⟩:=qf.2 i u (by rw[<-B5];exact e2);subst q2;rw[AE]at e1;obtain⟨q,e3,e4⟩:=Al.mp e1;subst e4;rw[<-B5,h4,AE,e3]at q1;cases q1;rfl
theorem Fo{K:Ae}{F:Hp}:∀{ds:List PyData} {vs:List V} {ns:List Int},HM.BM ds=Z ns->Zq K F ds vs->vs=ns.map V.int
 |[],vs,ns,h,r=>by cases h;exact r.nil_inv
 |d::ds,vs,ns,h,r=>by
  obtain⟨v,us,rfl,r1,r2⟩:=r.cons_inv;cases d with
  |int b=>obtain⟨bs',h1,h2⟩:=Al.mp h;subst h2;rw[r1.int_inv,Fo h1 r2];rfl
  |none=>cases h
  |bool _=>cases h
  |str _=>cases h
  |list _=>cases h
  |tuple _=>cases h
  |dict _=>cases h
theorem O9:∀(t:List Int),HM.BM (HM.rW t)=Z t
 |[]=>rfl
 |x::t=>by show(HM.BM (HM.rW t)).map (x::·)=_;rw[O9 t];rfl
theorem Vo:∀{ds:List PyData} {ns:List Int},HM.BM ds=Z ns->ds=HM.rW ns
 |[],ns,h=>by cases h;rfl
 |d::ds,ns,h=>by
  cases d with
  |int b=>obtain⟨bs',h1,h2⟩:=Al.mp h;subst h2;rw[Vo h1];rfl
  |none=>cases h
  |bool _=>cases h
  |str _=>cases h
  |list _=>cases h
  |tuple _=>cases h
  |dict _=>cases h
theorem Hr{K:Ae}{F:Hp}:∀(ns:List Int),Zq K F (HM.rW ns) (ns.map V.int)
 |[]=>.nil
 |n::ns=>.cons (.int n) (Hr ns)
theorem Ho:∀{ns:List Int} {us:List Value},pQ (ns.map V.int) us->IntsAre us ns
 |[],_,r=>by rw[FG]at r;cases r;exact .nil
 |n::ns,_,r=>by
  rw[Ak]at r;cases r with
  |cons h t=>obtain⟨u,rfl⟩:=h;exact .cons n u (Ho t)
theorem QD:∀{us:List Value} {ns:List Int},IntsAre us ns->pQ (ns.map V.int) us
 |_,_,.nil=>.nil
 |_,_,.cons n t h=>.cons ⟨t,rfl⟩ (QD h)
theorem PN:∀{ds:List PyData} {ts:List (List Int)},HM.Iu ds=Z ts->ds=HM.M9 ts
 |[],ts,h=>by cases h;rfl
 |d::ds,ts,h=>by
  cases d with
  |tuple es =>
   unfold HM.Iu at h;split at h
   .rename_i ns hn
    obtain⟨r',h1,h2⟩:=Al.mp h;subst h2;rw[Vo hn,PN h1];rfl
   .cases h
  |none=>cases h
  |bool _=>cases h
  |int _=>cases h
  |str _=>cases h
  |list _=>cases h
  |dict _=>cases h
theorem Vv{ns ms:List Int}(h:ms.Perm ns)(hs:ms.Pairwise (·<=·)):ms=HM.sortI ns:=by refine Qw (R:=(·<=·)) (λa b h1 h2=>by omega) (h.trans (NQ ns _).symm) hs ?_;have:=Sq (le:=λa b:Int=>decide (a<=b)) (λa b c h1 h2=>by simp at *;omega) (λa b=>by simp;omega) ns;exact this.imp λh=>by simpa using h
theorem UZ{ts us:List (List Int)}(h:us.Perm ts)(hs:us.Pairwise (λx y=>HM.lexLt y x=Ab)):us=HM.BI ts:=by
 refine Qw (R:=λx y=>HM.lexLt y x=Ab) (λa b h1 h2=>PY a b h2 h1) (h.trans (NQ ts _).symm) hs ?_;have:=Sq (le:=λa b:List Int=>!HM.lexLt b a) (λa b c h1 h2=>by
  simp only[Bool.not_eq_true']at *;cases q:HM.lexLt c a with
  |false=>rfl
  |true =>
   rcases O5 c b a q with z|z
   .rw[h2]at z;cases z
   .rw[h1]at z;cases z) (λa b=>by
  cases q:HM.lexLt b a with
  |false=>simp
  |true =>
   cases q2:HM.lexLt a b with
   |false=>simp
   |true=>have:=rD _ _ _ q q2;rw[rg]at this;cases this) ts
 exact this.imp λh=>by simpa using h
theorem QZ{vs:List Value}{out:Array Value}{b:Addr}{o:Obj}(hb:b≠a)(e:h.get? b=Z o):(Lb h a vs out).get? b=Z o:=by rw[sortedHeap_old hb (Aq e)];exact e
theorem lr(hc:X.calm=Aa):Be X (.builtin "sorted") (λxs H Q=>∃p F ds ds',xs=[.ref p]/\Zp F H/\FQ X.K F H p ds/\HM.FY ds=Z ds'/\∀l ws,H l=Z_->Zq X.K (BU F H) ds' ws->Q (.ref l) (upd H l (.lst ws))):=by
 intro pM s J H xs us Q I r h;obtain⟨p,F,ds,ds',rfl,sub,zT,qP,q⟩:=h;obtain⟨u,rfl,rx⟩:=vals1 r;cases rx;obtain⟨vs,rv,go⟩:=zT.gath I sub;unfold HM.FY at qP;split at qP
 .rename_i xx
  have hvl:=rv.1;refine Sn kind_sorted plain_sorted entry_sorted (args_sorted1 _) ?_;unfold Builtin.«sorted»;refine Ac (m:=checkCount "sorted" 1 1 _) (Ad ?_);refine Ac (go _ _ _ (I.ok.hd hc) λus h' tk ru kp=>?_);have hul:=ru.length;refine Ac (NO ?_ (by rw[BO];omega));have tj:(h'.push (seqObj "list" us.toArray 0)).get? h'.objs.size=Z (seqObj "list" us.toArray 0):=AS _ rfl;have qC:∀(out:Array Value) (ws:List V),pQ ws out.toList->Zq X.K (BU F H) ds' ws->ws.length<64->EP X pM J Q (.ref h'.objs.size) {s with heap:=Lb (h'.push (seqObj "list" us.toArray 0)) h'.objs.size us out,toks:=tk}:=λout ws rw' rd hw=>by obtain⟨e,he⟩:=sortedHeap_at (out:=out) tj;have I1:Inv X pM J H {s with heap:=h',toks:=tk}:=I.kept kp;refine⟨.ref h'.objs.size,_,I1.laid (a:=h'.objs.size) (o:=.lst ws) (t':=tk) (λb o e1=>?_) (Ai _) ⟨by rw[BO];omega,out.toList,e,rw',by simpa using he⟩,rfl,q _ ws (I1.hok.fresh (Ai _)) rd⟩;exact QZ (Aw (Aq e1)) (Ar _ e1)
  show wpAny _ _ _ _ _ {s with heap:=h'.push (seqObj "list" us.toArray 0),toks:=tk};split at qP
  .rename_i ns qZ
   cases qP;have evs:=Fo qZ rv;rw[evs]at ru;have hI:=Ho ru;refine Ac (B4 (Ep NG ⟨_,tj,rfl⟩ Nq (list_sort_tree tj hI (by omega) λout ns' a1 a2 a3=>⟨_,rfl,?_⟩) (ND _)));refine Ad ⟨_,rfl,?_⟩;have e:=Vv a2 a3;have hl:ns'.length<64:=by rw[a2.length_eq,<-hI.length,<-hul];omega
   refine qC out (ns'.map V.int) (QD a1) ?_ (by rw[Af];exact hl);rw[<-e];exact Hr ns'
  .split at qP
   .rename_i ts yX
    split at qP
    .rename_i qq
     cases qP;have zy:=PN yX;have hT:∀(i:Nat) t,ts[i]?=Z t->∃b,us[i]?=Z (.ref b)/\TI (h'.push (seqObj "list" us.toArray 0)) b t:=λi t e=>by
      have ed:ds[i]?=Z (.tuple (HM.rW t)):=by rw[zy];unfold HM.M9;rw[AE,e];rfl
      obtain⟨v,hv,rp⟩:=rv.get ed;generalize hq:HM.rW t=q at rp;cases rp with
      | @tupk b x h1 =>
       exfalso;cases t with
       |nil=>cases hq
       |cons a t =>
        injection hq with e1 _
        cases e1
      | @tup b _ xs hb hl hr=>subst hq;obtain⟨u,hu,ru'⟩:=ru.get hv;cases ru';have ev:=Fo (F:=BU F H) (O9 t) ⟨hl,hr⟩;subst ev;have hH:H b=Z (.tup (t.map V.int)):=(pZ.refl sub).tups.sub _ _ hb;obtain⟨z,pO,rt,o,h1,h2,n,h3⟩:=(show ZT X.prog X.w H s.heap b (.tup (t.map V.int)) from I.hok b _ hH);exact⟨b,hu,o,pO.toArray,n,Ar _ (kp b o h1),h2,h3,by simpa using Ho rt⟩
     have ql:ts.length=us.length:=by have:=congrArg Bx zy;unfold HM.M9 at this;rw[Af]at this;omega
     refine Ac (B4 (Ep NG ⟨_,tj,rfl⟩ Nq (UW tj ql hT ?_ (by omega) λpm hp hs=>⟨_,rfl,?_⟩) (ND _)))
     .rw[Dl]at qq
      rcases qq with z|z
      .left
       have:=of_decide_eq_true z;omega
      .right
       intro t ht e;have:=Au.mp z t ht;rw[e]at this;cases this
     .refine Ad ⟨_,rfl,?_⟩
      have hpl:pm.length=us.length:=by rw[hp.length_eq,C1]
      have qi:∀i∈pm,i<us.length:=λi hi=>As.mp (hp.mem_iff.mp hi);have e:(pm.map λi=>ts.getD i [])=HM.BI ts:=by
       refine UZ ?_ hs;refine(hp.map _).trans ?_;have:(Ag us.length).map (λi=>ts.getD i [])=ts:=by refine List.ext_getElem (by simp[ql]) λi h1 h2=>?_;simp at h1;simp[Cq,show i<ts.length by omega]
       rw[this]
      refine qC _ (pm.map λi=>vs.getD i V.non) ?_ ?_ (by rw[Af];omega)
      .refine ID (by simp) λk v u e1 e2=>?_
       rw[AE]at e1;rw[List.toList_toArray,AE]at e2;obtain⟨i,hi,rfl⟩:=Al.mp e1;rw[hi]at e2;cases e2;have hlt':=qi i (Bf hi);have hv:vs[i]?=Z (vs.getD i V.non):=by simp[Cq,show i<vs.length by omega]
       obtain⟨u,hu,ru'⟩:=ru.get hv;have:us.getD i Bl=u:=by simp[Cq,hu]
       show RelV _ (us.getD i Bl);rw[this];exact ru'
      .rw[<-e]
       refine⟨by unfold HM.M9;simp,λk d v e1 e2=>?_⟩;unfold HM.M9 at e1;rw[AE,AE]at e1;rw[AE]at e2;obtain⟨i,hi,rfl⟩:=Al.mp e2;rw[hi]at e1;have hlt':=qi i (Bf hi);have hd:ds[i]?=Z d:=by
        rw[zy];unfold HM.M9;rw[AE];have:ts[i]?=Z (ts.getD i []):=by simp[Cq,show i<ts.length by omega]
        rw[this];exact e1
       have hv:vs[i]?=Z (vs.getD i V.non):=by simp[Cq,show i<vs.length by omega]
       exact rv.2 i d _ hd hv
    .cases qP
   .cases qP
 .cases qP
end
end
section
variable{F:Hp}{p' pos':Pos}{K:Ae}
section
variable{prog:Program}{w:World}{A:Around}{E:Value->Shared->Prop}{s:Shared}
theorem mn{r:Addr}{a b c:Int}{t u v:Tok}{n:Nat}{R:List Value->Shared->Prop}(hh:A.handled=Z_)(hr:IsRange s.heap r a b c t u v)(tP:Yx a b c=Aa)(hn:Oc a b c=n)(pP:n<=2 ^ 24)(h:∀(h':Heap) (tk:Nat) (acc:Array Value),(∀b o,s.heap.get? b=Z o->h'.get? b=Z o)->ItemsOf (λi v=>∃t,v=.int (a+i*c) t) acc n->R acc.toList {s with heap:=h',toks:=tk}):wpAny (model prog w) A (collect (.ref r)) R E s:=by
 unfold collect;refine Ac (NJ (Dj entry_proto_collect' ?_));rw[DX YG _];show wpAny _ A.in1 (newList [] >>= λl=>again (.builtin "list.__iadd__" ⟨[l,.ref r],[]⟩)) _ _ s;refine Ac (D2 (Ad ⟨FH NV _,Dj entry_list_iadd' ?_⟩));rw[DX NV _];have zu:(s.heap.push {cls:=.type "list",data:=.seq ([]:List Value).toArray}).get? s.heap.objs.size=Z {cls:=.type "list",data:=.seq #[]}:=AS _ rfl;show wpAny _ A.in1 (YF (.ref s.heap.objs.size) (.ref r) (.ref s.heap.objs.size)) _ _ _;have hr1:IsRange (s.heap.push {cls:=.type "list",data:=.seq ([]:List Value).toArray}) r a b c t u v:=Ar _ hr;refine Cu (wpAny_extend_range (A:=A) (s:={s with heap:=s.heap.push {cls:=.type "list",data:=.seq ([]:List Value).toArray}})
  (R:=λ(q:Result) (s':Shared)=>∃(h':Heap) (tk:Nat) (acc':Array Value) (c':Nat),q=.ok (.ret (.ref s.heap.objs.size))/\s'={s with heap:=h',toks:=tk} /\
   (∀b o,s.heap.get? b=Z o->h'.get? b=Z o)/\h'.get? s.heap.objs.size=Z {cls:=.type "list",dict:=Z_,data:=.seq acc' c',slots:=#[]}/\ItemsOf (λi v=>∃t,v=.int (a+i*c) t) acc' n)
  hh hr1 tP hn pP s.heap.objs.size (.ref s.heap.objs.size) 0 zu
  (λh' tk acc' c' hk hS' qf=>⟨h',tk,acc',c',rfl,rfl,λb o e=>hk b o (Aw (Aq e)) (Ar _ e),hS',qf⟩)) (λqC s' x=>?_) λe s' x=>?_
 .have go:∀(h':Heap) (tk:Nat) (acc':Array Value) (c':Nat),(∀b o,s.heap.get? b=Z o->h'.get? b=Z o)->h'.get? s.heap.objs.size=Z {cls:=.type "list",dict:=Z_,data:=.seq acc' c',slots:=#[]}->ItemsOf (λi v=>∃t,v=.int (a+i*c) t) acc' n ->
    wpAny (model prog w) A (load s.heap.objs.size >>= λo=>match o.data with | .seq xs _=>pure xs.toList|_=>Nh "internal:collect") R E {s with heap:=h',toks:=tk}:=λh' tk acc' c' hk hS' qf =>
   Ac (wpAny_load hS' (Ad (h h' tk acc' hk qf)))
  cases qC with
  |done f=>obtain⟨h',tk,acc',c',e,rfl,hk,hS',qf⟩:=x;cases e;exact go h' tk acc' c' hk hS' qf
  |again c₁=>refine⟨x.1,Ek x.2 λq s₂ y=>?_⟩;obtain⟨h',tk,acc',c',rfl,rfl,hk,hS',qf⟩:=y;exact go h' tk acc' c' hk hS' qf
 .obtain⟨_,_,_,_,e',_⟩:=x
  cases e'
end
theorem m9(r:Addr)(a b c:Int)(t u v:Tok)(n:Nat)(tP:Yx a b c=Aa)(hn:Oc a b c=n)(pP:n<=2 ^ 24):Meets (Builtin.«tuple.__new__» ⟨[.type "tuple",.ref r],[]⟩)
   (λA R s=>A.handled=Z_/\IsRange s.heap r a b c t u v/\∀(h':Heap) (tk:Nat) (acc:Array Value),(∀b o',s.heap.get? b=Z o'->h'.get? b=Z o')->ItemsOf (λi v=>∃t,v=.int (a+i*c) t) acc n ->
    R (.ok (.ret (.ref h'.objs.size))) {s with heap:=h'.push {cls:=.type "tuple",data:=.seq acc},toks:=tk}) :=
 .of_wp λprog w A R s h=>by
  obtain⟨hp,g,d,tk,os⟩:=s;obtain⟨hh,ht,h⟩:=h;have rb:=PySem.sub_tuple_self;have hinit:=PySem.init_tuple_lookup;have hmh:=PySem.madeHere_tuple;have hT:R1 ⟨hp,g,d,tk,os⟩ (.ref r) "range":=⟨_,ht,rfl⟩;have zi:A.in1.handled=Z_:=hh
  wp_walk using wpAny_typeOf hT,mn zi ht tP hn pP
  intro h' tk' acc hk qf;show wpAny _ _ (Ye acc.toList.toArray >>= λv=>ret v) _ _ _;unfold Ye;have e:acc.toList.toArray=acc:=by simp
  rw[e];refine Ac (D2 ?_ (by show acc.size<=sizeLine;rw[qf.1,BO];omega));exact Ad ⟨_,rfl,h h' tk' acc hk qf⟩
section
variable{X:Cx}{a b c e:Expr}{fa fb fc:HM.EF}{pos p:Pos}{f:HM.BF}
theorem k6:Be X (.type "range") (λxs H Q=>∃j,xs=[.int j]/\∀l,H l=Z_->Q (.ref l) (upd H l (.rng 0 j))):=by intro pM s J H xs us Q I r h;obtain⟨j,rfl,q⟩:=h;obtain⟨u,rfl,rx⟩:=vals1 r;obtain⟨t,rfl⟩:=rx;refine call_range_1 ⟨.ref s.heap.objs.size,_,I.laid (a:=s.heap.objs.size) (o:=.rng 0 j) (λb o e=>Ar _ e) (Ai _) ?_,rfl,q _ (I.hok.fresh (Ai _))⟩;exact⟨_,_,_,AS _ rfl⟩
theorem kR(hc:X.calm=Aa):Be X (.type "tuple") (λxs H Q=>∃p lo hi,xs=[.ref p]/\H p=Z (.rng lo hi)/\-1000000<lo/\lo<1000000/\-1000000<hi/\hi<1000000 /\
  ∀l,H l=Z_->Q (.ref l) (upd H l (.tup ((Ag (hi-lo).toNat).map λ(k:Nat)=>V.int (lo+k))))):=by
 intro pM s J H xs us Q I r h;obtain⟨p,lo,hi,rfl,hp,h1,h2,h3,h4,q⟩:=h;obtain⟨u,rfl,rx⟩:=vals1 r;cases rx;obtain⟨t,u,v,ho⟩:=(show ZT X.prog X.w H s.heap p (.rng lo hi) from I.hok p _ hp);have hn:Oc lo hi 1=((hi-lo).toNat:Nat):=by rw[rangeSize_one];split<;>omega
 refine callType_new PySem.F.called_tuple (by decide) (PySem.F.typeCall_tuple_1 _) (PySem.F.newCall_tuple_1 _) (λobj=>PySem.F.args_object_init_2 obj _) PySem.F.entry_tuple_new
  (m9 p lo hi 1 t u v (hi-lo).toNat (small_one (by omega) (by omega) (by omega) (by omega)) hn (by omega)) ⟨I.ok.hd hc,ho,λh' tk' acc kp qf=>⟨⟨_,AS _ rfl,rfl⟩,?_⟩⟩
 have I1:Inv X pM J H {s with heap:=h',toks:=tk'}:=I.kept kp;have rv:pQ ((Ag (hi-lo).toNat).map λ(k:Nat)=>V.int (lo+k)) acc.toList:=by
  refine ID (by have z:acc.toList.length=acc.size:=A2;rw[Af,C1,z,qf.1]) λi v u e1 e2=>?_;rw[AE]at e1;obtain⟨k,hk,rfl⟩:=Al.mp e1;obtain⟨t,rfl⟩:=qf.2 i u (by rw[<-B5];exact e2);have:k=i:=by have:=A1.mp hk;obtain⟨_,e⟩:=this;simpa using e.symm
  subst this;exact⟨t,by simp⟩
 have I2:=I1.laid (a:=h'.objs.size) (o:=.tup ((Ag (hi-lo).toNat).map λ(k:Nat)=>V.int (lo+k))) (h':=h'.push {cls:=.type "tuple",data:=.seq acc}) (t':=tk') (λb o e=>Ar _ e) (Ai _)
  ⟨by rw[Af,C1,BO];omega,acc.toList,rv,by simpa using IsTup.new _ _⟩
 exact⟨.ref h'.objs.size,_,I2,rfl,q _ (I1.hok.fresh (Ai _))⟩
theorem kT(lo:Int)(n:Nat):Zq K F (HM.Jb lo n) ((Ag n).map λ(k:Nat)=>V.int (lo+k)):=by unfold HM.Jb;refine⟨by simp,λi d v e1 e2=>?_⟩;rw[AE]at e1 e2;obtain⟨k,hk,rfl⟩:=Al.mp e1;rw[hk]at e2;cases e2;exact .int _
theorem kI(hmt:X.mg "tuple"=Z_)(hm:X.mg "range"=Z_)(hc:X.calm=Aa)(ha:XE X a fa)(hgt:Gl X "tuple":=by rfl)(hg:Gl X "range":=by rfl)(hs:Ah [a] X.env=[(Ab,eval a X.env)]:=by rfl)(sd:Ah [Jo (.Name "range" p') [a] [] pos'] X.env=[(Ab,eval (Jo (.Name "range" p') [a] [] pos') X.env)]:=by rfl):XE X (.Call (.Name "tuple" p) [.Call (.Name "range" p') [a] [] pos'] [] pos) (HM.nu (HM.DA fa)):=by
 intro r d hd;unfold HM.nu at hd;split at hd
 .rename_i ds qh
  split at hd
  .cases hd
   unfold HM.DA at qh;split at qh
   .rename_i j hj
    split at qh
    .rename_i hok
     cases qh;obtain⟨k1,k2⟩:=Uu hok;refine PE.imp (Gf (kR hc) hgt hmt PR (Z8 (Gf k6 hg hm boot_range (Z8 (ha r _ hj) Cm hs) (he:=hs)) Cm sd) (he:=sd)) λJ H Q ⟨F0,H0,F,at_,k⟩=>?_;refine⟨F0,H0,F,at_,λv F1 H1 x1 r1=>⟨j,by rw[r1.int_inv],λl hl=>?_⟩⟩;refine⟨l,0,j,rfl,ZD,by omega,by omega,by omega,by omega,λl2 sU=>?_⟩;have x2:=x1.lay' (o:=.rng 0 j) hl;have x3:=x2.lay (o:=.tup ((Ag (j-0).toNat).map λ(k:Nat)=>V.int (0+k))) sU;have rp:=kT (K:=X.K) (F:=upd F1 l2 (.tup ((Ag (j-0).toNat).map λ(k:Nat)=>V.int (0+k)))) 0 j.toNat;have ej:(j-0).toNat=j.toNat:=by omega
     refine k _ _ _ x3 (.tup ZD ?_ ?_)
     .rw[ej];exact rp.1
     .rw[ej]at rp ⊢;exact rp.2
    .cases qh
   .cases qh
  .cases hd
 .cases hd
theorem iS{H:Hp}{q:HM.B}{v:V}{fp:List Addr}{ds:List PyData}(sub:Zp F H)(r:ZZ K F H q v fp)(h:HM.fK q=Z ds):∃a,v=.ref a/\FQ K F H a ds:=by
 cases r with
 |pl r =>
  cases r with
  |tup h1 h2 h3=>cases h;exact⟨_,rfl,.tup (.of (sub _ _ h1)) ⟨h2,h3⟩⟩
  | @tupk a x h1=>cases h;exact⟨_,rfl,.tup (.inr h1) (.one (.str x))⟩
  |lst h1 h2 h3=>cases h;exact⟨_,rfl,.lst (sub.seq h1) ⟨h2,h3⟩⟩
  |dct _ _ _ _=>cases h
  |fn _=>cases h
  |non=>cases h
  |bl _=>cases h
  |int _=>cases h
  |str _=>cases h
 |ol h1 r=>cases h;exact⟨_,rfl,.lst (.of h1) r⟩
 |hd _ _ _ _=>cases h
 |hf _=>cases h
 | @ok a kvs vvs h1 h2 h3 =>
  cases h;refine⟨_,rfl,?_⟩;have e:(kvs.map λp=>HM.BL p.1)=vvs.map λp=>HM.BL p.1:=by
   have:=congrArg (Gp HM.BL) h2
   rwa [Av,Av]at this
  rw[e];exact .dk h1
 | @ot a kvs vvs h1 h2 h3 =>
  cases h;refine⟨_,rfl,?_⟩;have e:(kvs.map λp=>Cv (p.1.map HM.BL))=vvs.map λp=>Cv (p.1.map HM.BL):=by
   have:=congrArg (Gp λk:List pU=>Cv (k.map HM.BL)) h2
   rwa [Av,Av]at this
  rw[e];exact .dt h1
 | @otl a kvs vvs ls h1 h2 h3 h4 =>
  cases h;refine⟨_,rfl,?_⟩;have e:(kvs.map λp=>Cv (p.1.map HM.BL))=vvs.map λp=>Cv (p.1.map HM.BL):=by
   have:=congrArg (Gp λk:List pU=>Cv (k.map HM.BL)) h2
   rwa [Av,Av]at this
  rw[e];exact .dt h1
theorem Mv(hm:X.mg "sorted"=Z_)(hc:X.calm=Aa)(ha:XB X a f)(hg:Gl X "sorted":=by rfl)(hs:Ah [a] X.env=[(Ab,eval a X.env)]:=by rfl):XF X (.Call (.Name "sorted" p) [a] [] pos) (HM.MG f):=by
 intro r d h;unfold HM.MG at h;split at h
 .rename_i x hx
  split at h
  .rename_i ds qh
   obtain⟨ds',h1,h2⟩:=Al.mp h;subst h2;refine PE.imp (Fh (lr hc) hg hm P6 (Fc ha hx hs) (he:=hs)) λJ H Q ⟨F0,H0,F,at_,k⟩=>?_;refine⟨F0,H0,F,at_,λv fp F1 H1 x1 r1=>?_⟩;obtain⟨l,e1,src⟩:=iS x1.sub r1 qh;subst e1;exact⟨l,F1,ds,ds',rfl,x1.sub,src,h1,λl' ws hl' rs=>Hh (P:=λv _ H'=>Q v H') x1.tups rs hl' k⟩
  .cases h
 .cases h
theorem iN(hc:X.calm=Aa):Be X (.type "set") (λxs H Q=>∃p ns,xs=[.ref p]/\qD X.K H p (ns.map V.int)/\(∀n∈ns,0<=n/\n<8)/\∀l,H l=Z_->Q (.ref l) (upd H l (.ext λh=>Cy X.prog X.w h l (HM.qA [] ns)))):=by intro pM s J H xs us Q I r h;obtain⟨p,ns,rfl,hq,hb,q⟩:=h;obtain⟨u,rfl,rx⟩:=vals1 r;cases rx;obtain⟨pO,rv,pl,hz⟩:=I.list hq;refine iP (I.ok.hd hc) pl.isList (by simpa using Ho rv) hb λh' tk hS kp=>?_;have hS':=hS;obtain⟨o,es,ep,t,ho,_⟩:=hS';refine⟨.ref s.heap.objs.size,_,I.laid (a:=s.heap.objs.size) (o:=.ext λh=>Cy X.prog X.w h s.heap.objs.size (HM.qA [] ns)) (λb o e=>kp b o (Aq e) e) (Ai _) ?_,rfl,q _ (I.hok.fresh (Ai _))⟩;exact⟨hS,⟨o,ho⟩,λh1 h2 x kk=>x.at' kk⟩
theorem lb(hc:X.calm=Aa):Be X (.builtin "sorted") (λxs H Q=>∃p L,xs=[.ref p]/\H p=Z (.ext λh=>Cy X.prog X.w h p L)/\∀l,H l=Z_->Q (.ref l) (upd H l (.lst ((HM.sortI L).map V.int)))):=by
 intro pM s J H xs us Q I r h;obtain⟨p,L,rfl,hp,q⟩:=h;obtain⟨u,rfl,rx⟩:=vals1 r;cases rx;obtain⟨hX,_,_⟩:=(show ZT X.prog X.w H s.heap p (.ext λh=>Cy X.prog X.w h p L) from I.hok p _ hp);obtain⟨o,es,ep,t,ho,sC,hd,v8,sm,hpl,ht⟩:=hX;have hsz:=tW hpl;have rf:=ht.few;have yQ:CL X.w s.heap p es ep t:=⟨⟨o,ho,sC,hd⟩,by rw[hsz];exact ht.fits,hsz,ht.w⟩;refine Sn kind_sorted plain_sorted entry_sorted (args_sorted1 _) ?_;unfold Builtin.«sorted»;refine Ac (m:=checkCount "sorted" 1 1 _) (Ad ?_);refine Ac (MP (Uk (es:=es) (ep:=ep) (t:=t)) (I.ok.hd hc) yQ (by rw[BO];omega) λh' tk acc kp _ qf=>?_);have sI:acc.toList.length=es.size:=by rw[A2];exact qf.1
 have hI:IntsAre acc.toList ((CN X.w p es ep).toList.map C4):=by
  have key:∀(us:List Value) (xs:List (Int×Value)),us.length=xs.length->(∀(i:Nat) u,us[i]?=Z u->∃e,xs[i]?=Z e/\u=e.2)->(∀e∈xs,∃n t,e=((intKind X.prog X.w).hash n,CZ n t))->IntsAre us (xs.map C4):=by
   intro us
   induction us with
   |nil=>intro xs hl _ _;cases xs with|nil=>exact .nil|cons _ _=>simp at hl
   |cons u us ih =>
    intro xs hl hk he;cases xs with
    |nil=>simp at hl
    |cons x xs=>obtain⟨e,e1,e2⟩:=hk 0 u rfl;simp at e1;subst e1;obtain⟨n,t,e3⟩:=he x (An ..);rw[e2,e3];exact .cons n t (ih xs (by simpa using hl) (λi u e=>hk (i+1) u (by simpa using e)) λe h=>he e (Ao _ h))
  refine key acc.toList (CN X.w p es ep).toList (by rw[sI,A2,Qb]) (λi u e=>?_) λe h=>v8 e ((Mr X.w p es ep).mem_iff.mp h);obtain⟨e',e1,e2⟩:=qf.2 i u (by rw[<-B5];exact e);exact⟨e',by rw[B5];exact e1,e2⟩
 refine Ac (NO ?_ (by rw[sI,BO];omega));have tj:(h'.push (seqObj "list" acc.toList.toArray 0)).get? h'.objs.size=Z (seqObj "list" acc.toList.toArray 0):=AS _ rfl;show wpAny _ _ _ _ _ {s with heap:=h'.push (seqObj "list" acc.toList.toArray 0),toks:=tk};refine Ac (B4 (Ep NG ⟨_,tj,rfl⟩ Nq (list_sort_tree tj hI (by omega) λout ns' a1 a2 a3=>⟨_,rfl,?_⟩) (ND _)));refine Ad ⟨_,rfl,?_⟩;have e:ns'=HM.sortI L:=Vv (a2.trans (((Mr X.w p es ep).map C4).trans sm)) a3;have hl:ns'.length<64:=by rw[a2.length_eq,<-hI.length,sI];omega
 obtain⟨ee,he⟩:=sortedHeap_at (out:=out) tj;have I1:Inv X pM J H {s with heap:=h',toks:=tk}:=I.kept kp;refine⟨.ref h'.objs.size,_,I1.laid (a:=h'.objs.size) (o:=.lst (ns'.map V.int)) (t':=tk) (λb o e1=>?_) (Ai _) ⟨by rw[Af,BO];omega,out.toList,ee,QD a1,by simpa using he⟩,rfl,?_⟩
 .exact QZ (Aw (Aq e1)) (Ar _ e1)
 .rw[e];exact q _ (I1.hok.fresh (Ai _))
theorem Xn(hm:X.mg "sorted"=Z_)(sG:X.mg "set"=Z_)(hc:X.calm=Aa)(ha:XB X a f)(hg:Gl X "sorted":=by rfl)(tZ:Gl X "set":=by rfl)(hs:Ah [a] X.env=[(Ab,eval a X.env)]:=by rfl)(sd:Ah [Jo (.Name "set" p') [a] [] pos'] X.env=[(Ab,eval (Jo (.Name "set" p') [a] [] pos') X.env)]:=by rfl):XF X (.Call (.Name "sorted" p) [.Call (.Name "set" p') [a] [] pos'] [] pos) (HM.XY f):=by
 intro r d h;unfold HM.XY at h;split at h
 .rename_i x hx
  split at h
  .rename_i ds qh
   split at h
   .rename_i ns qZ
    split at h
    .rename_i vg
     cases h;refine PE.imp (Fh (lb hc) hg hm P6 (Z8 (Gf (iN hc) tZ sG Ti (Fc ha hx hs) (he:=hs)) Cm sd) (he:=sd)) λJ H Q ⟨F0,H0,F,at_,k⟩=>?_;refine⟨F0,H0,F,at_,λv fp F1 H1 x1 r1=>?_⟩;obtain⟨l,vs,e1,hq,rs⟩:=Hf x1.sub r1 qh;subst e1;rw[Fo qZ rs]at hq;refine⟨l,ns,rfl,hq,λn hn=>?_,λl2 sU=>⟨l2,_,rfl,ZD,λl3 zd=>?_⟩⟩
     .have:=Au.mp vg n hn
      rw[AJ,decide_eq_true_eq,decide_eq_true_eq]at this;exact this
     .have x2:=x1.lay' (o:=.ext λh=>Cy X.prog X.w h l2 (HM.qA [] ns)) sU
      exact Hh (P:=λv _ H'=>Q v H') x2 (Hr _) zd k
    .cases h
   .cases h
  .cases h
 .cases h
end
end
end HP
namespace HP
open PySem PySem.Spec PyProof.Rows L2
variable[FX]
section
variable{tX:Bool}{q:HM.B}{r:HM.Env}{i:Int}{ns:List Int}{ds:List PyData}
section
variable{X:Cx}{a b:Expr}{fa:HM.EF}{f:HM.BF}{pos:Pos}
theorem Pq(i:Int):∀ns:List Int,yk (.int i) (ns.map V.int)=ns.contains i
 |[]=>rfl
 |n::ns=>by have ih:=Pq i ns;unfold yk at ih ⊢;rw[Ak,EN,ih,List.contains_cons];show(n==i||_)=(i==n||_);rw[show(n==i)=(i==n) from Jx.mpr ⟨λh=>beq_iff_eq.mpr (beq_iff_eq.mp h).symm,λh=>beq_iff_eq.mpr (beq_iff_eq.mp h).symm⟩]
theorem Qd:∀ns:List Int,(ns.map V.int).all Bo=Aa
 |[]=>rfl
 |n::ns=>by rw[Ak,DF,Qd ns];rfl
theorem fC{d:PyData}(h:HM.Vu fa f r=Z d):∃i q ds ns,fa r=Z (.int i)/\f r=Z q/\HM.DQ q=Z ds/\HM.BM ds=Z ns/\d=.bool (ns.contains i):=by
 unfold HM.Vu at h;split at h
 .split at h
  .split at h
   .obtain⟨c,h1,h2⟩:=Al.mp h
    obtain⟨ns,h3,h4⟩:=Al.mp h1;exact⟨_,_,_,ns,by assumption,by assumption,by assumption,h3,by rw[<-h2,<-h4]⟩
   .cases h
  .cases h
 .cases h
theorem kL{d:PyData}(h:HM.Xu fa f r=Z d):∃i q ds ns,fa r=Z (.int i)/\f r=Z q/\HM.DQ q=Z ds/\HM.BM ds=Z ns/\d=.bool (!ns.contains i):=by
 unfold HM.Xu at h;split at h
 .split at h
  .split at h
   .obtain⟨c,h1,h2⟩:=Al.mp h
    obtain⟨ns,h3,h4⟩:=Al.mp h1;exact⟨_,_,_,ns,by assumption,by assumption,by assumption,h3,by rw[<-h2,<-h4]⟩
   .cases h
  .cases h
 .cases h
theorem gd(ha:XE X a fa)(hb:XB X b f)(h1:fa r=Z (.int i))(h2:f r=Z q)(h3:HM.DQ q=Z ds)(h4:HM.BM ds=Z ns){op:CmpOp}(ho:rj X (BP op) (yb X.K tX))(hm:Di op b=Ab):PE X (.Compare a [op] [b] pos) (vW X.K r λ_ F' _ v=>v=.bl (if tX then !ns.contains i else ns.contains i)):=by
 refine PE.imp (Uc ho (ha r _ h1) (hb r q h2) hm) λJ H Q ⟨F0,H0,F,at_,k⟩=>?_;refine⟨F0,H0,F,at_,λv F1 H1 x1 r1=>⟨F0,H0,F1,at_.grow x1,λw F2 H2 x2 ⟨fp,r2⟩=>?_⟩⟩;obtain⟨p,vs,e1,hq,rs⟩:=Ko x2.sub r2 h3;cases r1;rw[Fo h4 rs]at hq;refine⟨p,_,e1,hq,rfl,Qd ns,k _ F2 H2 (x1.trans x2) ?_⟩;rw[Pq]
theorem eY(ha:XE X a fa)(hb:XB X b f)(h1:fa r=Z (.int i))(h2:f r=Z q)(h3:HM.DQ q=Z ds)(h4:HM.BM ds=Z ns){op:CmpOp}(ho:rj X (BP op) (yb X.K tX))(hm:Di op b=Ab):PT X (.Compare a [op] [b] pos) λJ H Q=>sJ X.K r J H λF0 H0 F=>∀F' H',pZ F H F' H'->Q (if tX then !ns.contains i else ns.contains i) H':=by
 refine PT.imp (Ph ho (ha r _ h1) (hb r q h2) hm) λJ H Q ⟨F0,H0,F,at_,k⟩=>?_;refine⟨F0,H0,F,at_,λv F1 H1 x1 r1=>⟨F0,H0,F1,at_.grow x1,λw F2 H2 x2 ⟨fp,r2⟩=>?_⟩⟩;obtain⟨p,vs,e1,hq,rs⟩:=Ko x2.sub r2 h3;cases r1;rw[Fo h4 rs]at hq;refine⟨p,_,e1,hq,rfl,Qd ns,_,rfl,?_⟩;rw[Pq];exact k F2 H2 (x1.trans x2)
theorem bY(ha:XE X a fa)(hb:XB X b f)(hm:Di .In b=Ab:=by rfl):XE X (.Compare a [.In] [b] pos) (HM.Vu fa f):=by intro r d h;obtain⟨i,q,ds,ns,h1,h2,h3,h4,rfl⟩:=fC h;refine PE.imp (gd ha hb h1 h2 h3 h4 jS hm) λJ H Q ⟨F0,H0,F,at_,k⟩=>⟨F0,H0,F,at_,λv F' H' x e=>k v F' H' x ?_⟩;subst e;exact .bl _
theorem jL(ha:XE X a fa)(hb:XB X b f)(hm:Di .NotIn b=Ab:=by rfl):XT X (.Compare a [.NotIn] [b] pos) (HM.tV (HM.Xu fa f)):=by intro r d h;obtain⟨i,q,ds,ns,h1,h2,h3,h4,e⟩:=kL (GU h);cases e;exact eY ha hb h1 h2 h3 h4 lE hm
theorem bX(hb:XB X b f)(he:∀qG,isTrue b X.env qG=(do let v <-qG;standAt b.pos;holding [v] (truthy v)):=by intro _;rfl):XT X b (HM.Io f):=by
 intro r c h;unfold HM.Io at h;split at h
 .rename_i ds hd
  cases h;refine PT.imp (gm (hb r _ hd) he) λJ H Q ⟨F0,H0,F,at_,k⟩=>?_;refine⟨F0,H0,F,at_,λv F1 H1 x1 ⟨fp,r1⟩=>?_⟩;obtain⟨p,vs,e1,hq,rs⟩:=Hf x1.sub r1 (ds:=ds) rfl;subst e1;refine⟨_,.inl ⟨vs,hq,rfl⟩,?_⟩;have:=k F1 H1 x1;have e:ds.isEmpty=vs.isEmpty:=by have:=rs.1;cases ds<;>cases vs<;>simp_all
  rwa [e]at this
 .cases h
end
end
section
variable{X:Cx}{c e:Expr}{fa:HM.EF}{t:HM.TF}{g:HM.SF}{pos:Pos}{body:List Stmt}
theorem PQ(n:Nat)(tY:X.xe=λ_ _=>False)(hc:XT X c t)(hb:um X body g):XS X (.While c body [] pos) (HM.Pu n t g):=by
 intro r o ho;have ho:HM.Cp t g n r=Z o:=ho;have pb:rH X body (λE J H=>∃r o,g r=Z o/\x8 X.K r o E J H):=λpM s J H E I ⟨r,o,h1,h2⟩=>hb r o h1 pM s J H E I h2;have pc:PT X c (λJ H Q=>∃r b,t r=Z b/\sJ X.K r J H λF0 H0 F=>∀F' H',pZ F H F' H'->Q b H'):=λpM s J H Q I ⟨r,b,h1,h2⟩=>hc r b h1 pM s J H Q I h2;refine PS.imp (gO (We tY) pc pb) λE J H ⟨F0,H0,F,at_,k⟩=>?_;refine⟨λm J H=>∃F r,At X.K F0 H0 F H r J/\HM.Cp t g m r=Z o,⟨n,F,r,at_,ho⟩,?_⟩
 rintro m J H ⟨F2,r2,rT,go⟩
 cases m with
 |zero=>cases go
 |succ m =>
  unfold HM.Cp at go;split at go
  .rename_i ht
   refine⟨r2,Aa,ht,F0,H0,F2,rT,λF' H' x=>?_⟩;dsimp only;rw[if_pos rfl];have sg:=rT.grow x;have a4:=sg.rebase;refine⟨λσ' H'=>∃F r,At X.K F0 H0 F H' r σ'/\HM.Cp t g m r=Z o,λσ' H' q=>⟨m,HV m,q⟩,?_⟩;split at go
   .rename_i r' hr
    exact⟨_,_,hr,F',H0,F',a4,λσ' F' H' a'=>⟨F',r',a'.unbase sg.ext sg.nt0,go⟩⟩
   .rename_i r' hr
    exact⟨_,_,hr,F',H0,F',a4,λσ' F' H' a'=>⟨F',r',a'.unbase sg.ext sg.nt0,go⟩⟩
   .rename_i r' hr
    cases go;exact⟨_,_,hr,F',H0,F',a4,λσ' F' H' a'=>k σ' F' H' (a'.unbase sg.ext sg.nt0)⟩
   .rename_i d hr
    cases go;exact⟨_,_,hr,F',H0,F',a4,λv F' H' x q=>k v F' H' (sg.ext.unbase x) q⟩
   .cases go
  .rename_i ht
   cases go;refine⟨r2,Ab,ht,F0,H0,F2,rT,λF' H' x=>?_⟩;dsimp only;rw[if_neg (by simp)];exact k J F' H' (rT.grow x)
  .cases go
end
section
variable{r:HM.Env}{ds:List PyData}{x:PyData}{u:Value}
section
variable{X:Cx}{a b:Expr}{fa:HM.EF}{f:HM.BF}{pos:Pos}
theorem TZ{e:Value->Bool}{f:PyData->Bool}:∀{ds:List PyData} {us:List Value},ds.length=us.length->(∀(i:Nat) d u,ds[i]?=Z d->us[i]?=Z u->e u=f d)->us.any e=ds.any f
 |[],[],_,_=>rfl
 |[],_::_,hl,_=>by simp at hl
 |_::_,[],hl,_=>by simp at hl
 |d::ds,u::us,hl,k=>by rw[EN,EN,k 0 d u rfl rfl,TZ (ds:=ds) (us:=us) (by simpa using hl) λi d u e1 e2=>k (i+1) d u (by simpa using e1) (by simpa using e2)]
def SR(K:Ae)(tX:Bool):R2:=λvx vy H Q=>∃F p xs x ds,Zp F H/\vy=.ref p/\(qD K H p xs\/rM K H p xs)/\Rep K F x vx/\Zq K F ds xs/\HM.Z3 x=Aa/\ds.all HM.Z3=Aa /\
 Q (.bl (if tX then !ds.any λd=>BQ d x else ds.any λd=>BQ d x)) H
open Classical in
noncomputable def EC (h:Heap) (x:PyData) (u:Value):Bool:=decide (∃d as,Reads h u d as/\d.canLay0=Aa/\BQ d x=Aa)
theorem TC{h:Heap}{d:PyData}{as:List Addr}(r:Reads h u d as)(hl:d.canLay0=Aa):EC h x u=BQ d x:=by
 classical
 unfold EC;cases q:BQ d x with
 |true=>exact decide_eq_true ⟨d,as,r,hl,q⟩
 |false=>refine decide_eq_false λ⟨d',as',r',hl',q'⟩=>?_;rw[SeqAt.Reads.unique d d' u as as' hl r r']at q;rw[q]at q';cases q'
theorem US{k:Nat}(hr:Z9 k X.A){pM:List (Addr×Obj)}{s:Shared}{J:L2.St}{H F:Hp}{vx:V}{xs:List V}{pO:List Value}(I:Inv X pM J H s)(sub:Zp F H)(rx:Rep X.K F x vx)(ru:RelV vx u)(rs:Zq X.K F ds xs)(rv:pQ xs pO)(px:HM.Z3 x=Aa)(pd:ds.all HM.Z3=Aa):(∀y∈pO,SeqAt.EqAt X.A.in1 s y u (EC s.heap x y))/\pO.any (EC s.heap x)=ds.any λd=>BQ d x:=by
 obtain⟨x1,x2⟩:=IK px;obtain⟨as,hx⟩:=rx.reads I sub x1 u ru;have hun:=hr.un;have xM:∀(i:Nat) d y,ds[i]?=Z d->pO[i]?=Z y->(∃bs,Reads s.heap y d bs)/\d.canLay0=Aa/\d.depth<=60:=λi d y e1 e2=>by
  have hi:i<xs.length:=by rw[<-rs.1];exact(A1.mp e1).1
  obtain⟨y',q1,q2⟩:=rv.get (AN hi);rw[e2]at q1;cases q1;have hp:=IK (Au.mp pd d (Bf e1));exact⟨(rs.2 i d _ e1 (AN hi)).reads I sub hp.1 y q2,hp⟩
 have hl:ds.length=pO.length:=rs.1.trans rv.length;refine⟨λy hy=>?_,TZ hl λi d y e1 e2=>?_⟩
 .obtain⟨i,hi,e⟩:=JE hy
  have hi':i<ds.length:=by omega
  obtain⟨⟨bs,q⟩,h1,h2⟩:=xM i ds[i] y (AN hi') (by rw[AN hi,e]);rw[TC q h1];refine SeqAt.eqAt_reads _ _ _ _ _ _ _ _ q hx h1 x1 ?_;have:min (ds[i]).depth x.depth<=60:=BY (RZ _ _) h2;show X.A.units+1+_<_;omega
 .obtain⟨⟨bs,q⟩,h1,_⟩:=xM i d y e1 e2
  exact TC q h1
theorem jQ{k:Nat}(hr:Z9 k X.A):rj X (BP .NotIn) (SR X.K Aa):=by
 intro pM s J H vx vy v u Q I r1 r2 ⟨F,p,xs,x,ds,sub,e,hq,rx,rs,px,pd,q⟩;subst e;cases r2;rcases hq with hq|hq
 .obtain⟨pO,r,pl,hz⟩:=I.list hq
  obtain⟨h1,h2⟩:=US hr I sub rx r1 rs r px pd;refine SeqAt.notIn_listAt (EC s.heap x) pl.isList (λw hw=>h1 w (by simpa using hw)) ⟨.bl _,H,I,rfl,?_⟩;rw[show pO.toArray.any (EC s.heap x)=pO.any (EC s.heap x) by simp,h2];exact q
 .obtain⟨pO,r,pl,hz⟩:=I.tuple hq
  obtain⟨h1,h2⟩:=US hr I sub rx r1 rs r px pd;refine SeqAt.notIn_tupleAt (EC s.heap x) pl (λw hw=>h1 w (by simpa using hw)) ⟨.bl _,H,I,rfl,?_⟩;rw[show pO.toArray.any (EC s.heap x)=pO.any (EC s.heap x) by simp,h2];exact q
theorem gU{c:Bool}(h:HM.OI ds x=Z c):HM.Z3 x=Aa/\ds.all HM.Z3=Aa/\c=ds.any λd=>BQ d x:=by
 unfold HM.OI at h;split at h
 .rename_i hp
  rw[AJ]at hp;cases h;exact⟨hp.1,hp.2,rfl⟩
 .cases h
theorem kO{d:PyData}(h:HM.Rp fa f r=Z d):∃x q ds,fa r=Z x/\f r=Z q/\HM.DQ q=Z ds/\HM.Z3 x=Aa/\ds.all HM.Z3=Aa/\d=.bool (!ds.any λd=>BQ d x):=by
 unfold HM.Rp at h;split at h
 .split at h
  .split at h
   .obtain⟨c,h1,h2⟩:=Al.mp h
    obtain⟨h3,h4,h5⟩:=gU h1;exact⟨_,_,_,by assumption,by assumption,by assumption,h3,h4,by rw[<-h2,<-h5]⟩
   .cases h
  .cases h
 .cases h
theorem il{tX:Bool}{q:HM.B}(ha:XE X a fa)(hb:XB X b f)(h1:fa r=Z x)(h2:f r=Z q)(h3:HM.DQ q=Z ds)(p1:HM.Z3 x=Aa)(p2:ds.all HM.Z3=Aa){op:CmpOp}(ho:rj X (BP op) (SR X.K tX))(hm:Di op b=Ab):PT X (.Compare a [op] [b] pos) λJ H Q=>sJ X.K r J H λF0 H0 F=>∀F' H',pZ F H F' H'->Q (if tX then !ds.any λd=>BQ d x else ds.any λd=>BQ d x) H':=by
 refine PT.imp (Ph ho (ha r _ h1) (hb r q h2) hm) λJ H Q ⟨F0,H0,F,at_,k⟩=>?_;refine⟨F0,H0,F,at_,λv F1 H1 x1 r1=>⟨F0,H0,F1,at_.grow x1,λw F2 H2 x2 ⟨fp,r2⟩=>?_⟩⟩;obtain⟨p,vs,e1,hq,rs⟩:=Ko x2.sub r2 h3;exact⟨F2,p,vs,x,ds,x2.sub,e1,hq,r1.mono x2.ff,rs,p1,p2,_,rfl,k F2 H2 (x1.trans x2)⟩
theorem jK{k:Nat}(hr:Z9 k X.A)(ha:XE X a fa)(hb:XB X b f)(hm:Di .NotIn b=Ab:=by rfl):XT X (.Compare a [.NotIn] [b] pos) (HM.tV (HM.Rp fa f)):=by intro r d h;obtain⟨x,q,ds,h1,h2,h3,h4,h5,e⟩:=kO (GU h);cases e;exact il ha hb h1 h2 h3 h4 h5 (jQ hr) hm
end
end
section
variable{q:HM.B}{r:HM.Env}{F H:Hp}{fp:List Addr}{K:Ae}
section
variable{X:Cx}{a b c e:Expr}{fa fb fc:HM.EF}{f:HM.BF}{pos p:Pos}{es:List Expr}
theorem rdT{F':Hp}{a:Addr}{vvs:List (List pU×V)}(r:Rd F a (.dT vvs))(s:AZ F F'):Rd F' a (.dT vvs):=r.imp (λh=>s _ _ h) λ⟨o,h⟩=>⟨o,s _ _ h⟩
theorem OE{a b:Addr}{kvs:List (List pU×V)}{k:List pU}(e:Rd H a (.dT kvs))(eb:H b=Z (.tup (k.map kV))):BV H a (.ref b) (AR kvs k):=.inr ⟨kvs,k,b,e,rfl,eb,rfl⟩
theorem Pr{v:V}{kvs:List (List pU×PyData)}(sub:Zp F H)(r:ZZ K F H q v fp)(h:HM.O8 q=Z kvs):∃l vvs,v=.ref l/\Rd H l (.dT vvs)/\AQ K F kvs vvs:=by
 cases r with
 |pl r =>
  cases r with
  | @dct l es kvs' vvs h1 h2 h3 h4=>subst h2;have h:HM.EG (HM.Zi kvs')=Z kvs:=h;rw[HM.qe]at h;cases h;refine⟨l,vvs,rfl,L0 h1 sub,h3,?_,h4⟩;have:=congrArg Bx h3;rw[Af,Af]at this;rw[Af,Af,this]
  |fn _=>cases h
  |tupk _=>cases h
  |tup _ _ _=>cases h
  |lst _ _ _=>cases h
  |non=>cases h
  |bl _=>cases h
  |int _=>cases h
  |str _=>cases h
 |ol _ _=>cases h
 |ok _ _ _=>cases h
 | @ot l kvs vvs h1 h2 h3=>cases h;exact⟨l,vvs,rfl,.inl h1,h2,h3⟩
 | @hd l o es kvs' vvs h1 h2 h3 h4=>subst h2;have h:HM.EG (HM.Zi kvs')=Z kvs:=h;rw[HM.qe]at h;cases h;exact⟨l,vvs,rfl,.inr ⟨o,sub _ _ h1⟩,h3,h4⟩
 |hf _=>cases h
 |otl _ _ _ _=>cases h
theorem fA{d:PyData}(h:HM.GW fa f r=Z d):∃x q kvs y,fa r=Z x/\f r=Z q/\HM.O8 q=Z kvs/\HM.Bv x=Z y/\d=.bool (HM.Zg kvs y).isSome:=by
 unfold HM.GW at h;split at h
 .split at h
  .split at h
   .obtain⟨y,h1,h2⟩:=Al.mp h
    exact⟨_,_,_,y,by assumption,by assumption,by assumption,h1,h2.symm⟩
   .cases h
  .cases h
 .cases h
theorem kQ{d:PyData}(h:HM.KG fa f r=Z d):∃x q kvs y,fa r=Z x/\f r=Z q/\HM.O8 q=Z kvs/\HM.Bv x=Z y/\d=.bool (!(HM.Zg kvs y).isSome):=by
 unfold HM.KG at h;split at h
 .split at h
  .split at h
   .obtain⟨y,h1,h2⟩:=Al.mp h
    exact⟨_,_,_,y,by assumption,by assumption,by assumption,h1,h2.symm⟩
   .cases h
  .cases h
 .cases h
theorem O1(hu:X.A.units+1<cLine)(ha:XE X a fa)(hb:XB X b f)(hm:Di .In b=Ab:=by rfl):XT X (.Compare a [.In] [b] pos) (HM.tV (HM.GW fa f)):=by intro r d h;obtain⟨x,q,kvs,y,h1,h2,h3,h4,e⟩:=fA (GU h);cases e;refine PT.imp (ON (br hu (ha r x h1) (hb r q h2)) hm) λJ H Q ⟨F0,H0,F,at_,k⟩=>?_;refine⟨F0,H0,F,at_,λv F1 H1 x1 r1=>⟨F0,H0,F1,at_.grow x1,λw F2 H2 x2 ⟨fp,r2⟩=>?_⟩⟩;obtain⟨l,vvs,e1,e2,T⟩:=Pr x2.sub r2 h3;obtain⟨bb,rfl,rS⟩:=Ee h4 (r1.mono x2.ff);exact⟨l,_,e1,OE e2 (x2.sub _ _ rS),_,rfl,by rw[T.some_iff];exact k F2 H2 (x1.trans x2)⟩
theorem Wd(hu:X.A.units+1<cLine)(ha:XE X a fa)(hb:XB X b f)(hm:Di .NotIn b=Ab:=by rfl):XT X (.Compare a [.NotIn] [b] pos) (HM.tV (HM.KG fa f)):=by intro r d h;obtain⟨x,q,kvs,y,h1,h2,h3,h4,e⟩:=kQ (GU h);cases e;refine PT.imp (ON (V7 hu (ha r x h1) (hb r q h2)) hm) λJ H Q ⟨F0,H0,F,at_,k⟩=>?_;refine⟨F0,H0,F,at_,λv F1 H1 x1 r1=>⟨F0,H0,F1,at_.grow x1,λw F2 H2 x2 ⟨fp,r2⟩=>?_⟩⟩;obtain⟨l,vvs,e1,e2,T⟩:=Pr x2.sub r2 h3;obtain⟨bb,rfl,rS⟩:=Ee h4 (r1.mono x2.ff);exact⟨l,_,e1,OE e2 (x2.sub _ _ rS),_,rfl,by rw[T.some_iff];exact k F2 H2 (x1.trans x2)⟩
theorem G4(hu:X.A.units+1<cLine)(ha:XB X a f)(hk:XE X b fb)(hs:JO b:=by intro _ _;rfl):XE X (.Subscript a b pos) (HM.Bp f fb):=by
 intro r d h;unfold HM.Bp at h;split at h
 .rename_i q hq
  split at h
  .rename_i kvs hd
   split at h
   .rename_i x hx
    split at h
    .rename_i y hy
     refine PE.imp (PF hu (ha r q hq) (hk r x hx) hs) λJ H Q ⟨F0,H0,F,at_,kk⟩=>?_;refine⟨F0,H0,F,at_,λv F1 H1 x1 ⟨fp,r1⟩=>⟨F0,H0,F1,at_.grow x1,λw F2 H2 x2 r2=>?_⟩⟩;obtain⟨l,vvs,e1,e2,T⟩:=Pr x1.sub r1 hd;have e2':=rdT e2 x2.hh;have T':AQ X.K F2 kvs vvs:=⟨T.1,T.2.mono x2.ff⟩;obtain⟨bb,rfl,rS⟩:=Ee hy r2;obtain⟨u,q1,q2⟩:=T'.look.1 d h;exact⟨l,u,e1,by rw[<-q1];exact OE e2' (x2.sub _ _ rS),kk u F2 H2 (x1.trans x2) q2⟩
    .cases h
   .cases h
  .cases h
 .cases h
structure wO(X:Cx)(es:List Expr)(f:HM.AF):Prop where
 len:∀r ds,f r=Z ds->ds.length=es.length
 pa:∀r ds,f r=Z ds->PA X es λJ H Q=>sJ X.K r J H λF0 H0 F=>∀vs F' H',pZ F H F' H'->Zq X.K H' ds vs->Q vs H'
theorem ZZ.lent{v:V}{d:PyData}(sub:Zp F H)(r:ZZ K F H q v fp)(h:HM.frz q=Z d):Rep K H d v:=by
 cases r with
 |pl r=>cases h;exact r.mono sub
 |ol h1 r=>cases h;exact .lst (.of h1) r.1 (r.mono sub).2
 |ok _ _ _=>cases h
 |hd h1 he hk r=>cases h;exact(Rep.dct (.inr ⟨_,h1⟩) he hk r.2).mono sub
 |hf h1=>cases h;exact(Rep.fn h1).mono sub
 |ot h1 hk r=>cases h;exact .dct (.inl h1) rfl hk (r.mono sub).2
 |otl _ _ _ _=>cases h
end
end
section
variable{g:HM.AF}{F:Hp}
section
variable{X:Cx}{a b c e:Expr}{fa fb fc:HM.EF}{f:HM.BF}{pos p:Pos}{es:List Expr}
theorem bW(h:XA X es g):wO X es g :=
 ⟨h.len,λr ds hd=>PA.imp (h.pa r ds hd) λJ H Q ⟨F0,H0,F,at_,k⟩=>⟨F0,H0,F,at_,λvs F' H' x q=>k vs F' H' x (q.mono x.sub)⟩⟩
theorem VL(ha:XE X e fa)(hr:wO X es g)(hs:Ah (e::es) X.env=(Ab,eval e X.env)::Ah es X.env:=by rfl):wO X (e::es) (HM.Zc fa g):=by
 refine⟨λr ds h=>?_,λr ds h=>?_⟩
 .unfold HM.Zc at h
  split at h
  .obtain⟨xs,h1,h2⟩:=Al.mp h
   subst h2;rw[Ay,Ay,hr.len r xs h1]
  .cases h
 unfold HM.Zc at h;split at h
 .rename_i x hx
  obtain⟨xs,h1,h2⟩:=Al.mp h;subst h2;refine PA.imp (Z8 (ha r x hx) (hr.pa r xs h1) hs) λJ H Q ⟨F0,H0,F,at_,k⟩=>?_;exact⟨F0,H0,F,at_,λv F1 H1 x1 r1=>⟨F0,H0,F1,at_.grow x1,λvs F2 H2 x2 r2=>k (v::vs) F2 H2 (x1.trans x2) (.cons ((r1.mono x2.ff).mono x2.sub) r2)⟩⟩
 .cases h
theorem gx(ha:XB X e f)(hr:wO X es g)(hs:Ah (e::es) X.env=(Ab,eval e X.env)::Ah es X.env:=by rfl):wO X (e::es) (HM.Zc (HM.Ur f) g):=by
 refine⟨λr ds h=>?_,λr ds h=>?_⟩
 .unfold HM.Zc at h
  split at h
  .obtain⟨xs,h1,h2⟩:=Al.mp h
   subst h2;rw[Ay,Ay,hr.len r xs h1]
  .cases h
 unfold HM.Zc at h;split at h
 .rename_i x hx
  obtain⟨xs,h1,h2⟩:=Al.mp h;subst h2;obtain⟨q,hq,hf⟩:=Sr.mp hx;refine PA.imp (Z8 (ha r q hq) (hr.pa r xs h1) hs) λJ H Q ⟨F0,H0,F,at_,k⟩=>?_;exact⟨F0,H0,F,at_,λv F1 H1 x1 ⟨fp,r1⟩=>⟨F0,H0,F1,at_.grow x1,λvs F2 H2 x2 r2=>k (v::vs) F2 H2 (x1.trans x2) (.cons ((r1.lent x1.sub hf).monoT x2.hh) r2)⟩⟩
 .cases h
theorem Rep.flat{K:Ae}{F':Hp}{d:PyData}{v:V}(r:Rep K F d v)(h:HM.Px d=Aa):Rep K F' d v:=by
 cases r with
 |non=>exact .non
 |bl b=>exact .bl b
 |int i=>exact .int i
 |str x=>exact .str x
 |tupk _=>cases h
 |tup _ _ _=>cases h
 |lst _ _ _=>cases h
 |dct _ _ _ _=>cases h
 |fn _=>cases h
theorem pZ.forget{H F'' H'':Hp}(s:Zp F H)(n:rP F)(x:pZ (CO H) H F'' H''):pZ F H F H'' :=
 ⟨Zp.refl F,x.hh,(n.sub s).trans (x.ff.trans x.sub),λ_ _ z=>.inl z,x.tab,id⟩
theorem jB(hc:X.calm=Aa):Be X (.builtin "max") (λxs H Q=>∃(p:Addr) (ns:List Int),xs=[.ref p]/\qD X.K H p (ns.map V.int)/\0<ns.length/\∀M,M∈ns->(∀a,a∈ns->a<=M)->Q (.int M) H):=by
 intro pM s J H xs us Q I r h;obtain⟨p,ns,rfl,hq,qq,q⟩:=h;obtain⟨u,rfl,rx⟩:=vals1 r;cases rx;obtain⟨pO,rv,pl,hz⟩:=I.list hq;have hi:=Ho rv;obtain⟨xs,e⟩:=hi.allInts.items;have qZ:ns=xs.toList.map (·.1):=by rw[<-hi.numsOf,<-nums_intItems,<-e]
 have hsz:0<xs.size:=by have h3:=qq;rw[qZ,Af,A2]at h3;exact h3
 have hl:=pl.isList;rw[e]at hl;refine max_intList (I.ok.hd hc) hl hsz λv h' tk hv hk=>?_;obtain⟨t,rfl⟩:=intItems_at hv;obtain⟨h1,h2⟩:=argBest_gt (numAt xs) (xs.size-1);refine⟨.int _,H,I.kept (t':=tk) hk,⟨t,rfl⟩,q _ ?_ λa ha=>?_⟩
 .rw[qZ,numAt_eq];exact getD_mem (by rw[Af,A2];omega)
 .rw[qZ]at ha
  obtain⟨j,hj,rfl⟩:=mem_getD ha;rw[Af,A2]at hj;rw[<-numAt_eq];exact h2 j (by omega)
theorem fZ(hm:X.mg "max"=Z_)(hc:X.calm=Aa)(ha:XB X a f)(hg:Gl X "max":=by rfl)(hs:Ah [a] X.env=[(Ab,eval a X.env)]:=by rfl):XE X (.Call (.Name "max" p) [a] [] pos) (HM.Pw f):=by
 intro r d h;unfold HM.Pw at h;split at h
 .rename_i x hx
  split at h
  .rename_i ds qh
   split at h
   .rename_i ns qZ
    obtain⟨m,h1,h2⟩:=Al.mp h;subst h2;refine PE.imp (Fh (jB hc) hg hm Tx (Fc ha hx hs) (he:=hs)) λJ H Q ⟨F0,H0,F,at_,k⟩=>?_;refine⟨F0,H0,F,at_,λv fp F1 H1 x1 r1=>?_⟩;obtain⟨l,vs,e1,hq,rs⟩:=Hf x1.sub r1 qh;rw[Fo qZ rs]at hq;obtain⟨m1,m2⟩:=Yp.mp h1;refine⟨l,ns,by rw[e1],hq,List.length_pos_of_mem m1,λM k1 k2=>?_⟩;have:M=m:=Int.le_antisymm (m2 M k1) (k2 m m1);subst this;exact k _ F1 H1 x1 (.int _)
   .cases h
  .cases h
 .cases h
end
end
section
variable{p1 p2 p3:Pos}{x:Str}
section
variable{X:Cx}{a b c e:Expr}{fa fb fc:HM.EF}{f:HM.BF}{pos p:Pos}{es:List Expr}
theorem jJ(i:Nat)(ha:XB X a f)(hN:X.N[i]?=Z x:=by rfl)(hv:so X.env.scope x:=by first|exact AD rfl|exact Ap (AD rfl)|exact Ap (Ap rfl))(hd:(x==("__debug__":Str))=Ab:=by decide)(qw:(x==("__classdict__":Str))=Ab:=by decide)(qK:GB (.Name x p1) "extend" X.env (eval (.Name x p1) X.env)=eval (.Name x p1) X.env:=by rfl)(rf:((backTo p3 (Ah [a] X.env)).all (λx=>!x.1)&&(Jm p3 (JB [] X.env)).all (λx=>x.1.isSome)&&decide (([a]:List Expr).length+([]:List Keyword).length+(if([]:List Keyword).isEmpty then 0 else 1)<30))=Aa:=by rfl)(qI:(p2.endLine==p3.line)=Aa:=by rfl)(hs:Ah [a] X.env=[(Ab,eval a X.env)]:=by rfl):XS X (.Expr (.Call (.Attribute (.Name x p1) "extend" p2) [a] [] p3) pos) (HM.WX i f):=by
 intro r o h;unfold HM.WX at h;split at h
 .rename_i ds qh
  split at h
  .rename_i es xn
   split at h
   .rename_i hz
    cases h;refine PS.imp (Kd (LO LA PySem.F.slot_list_extend PySem.F.type_list_extend iA (CT hN hv hd qw) (Z8 (ha r _ xn) Cm hs) qK rf qI hs rfl)) λE J H ⟨F0,H0,F,at_,k⟩=>?_;obtain⟨l,vs,e1,e2,e3,_⟩:=at_.chgList (es:=ds) qh;refine⟨.ref l,e1,.inl ⟨rfl,_,qD.of e2⟩,F0,H0,F,at_,λv F1 H1 x1 ⟨fp,r1⟩=>?_⟩;have qO:=at_.grow x1;obtain⟨l',vs',f1,f2,f3,f4⟩:=qO.chgList (es:=ds++es) qh;rw[e1]at f1;cases f1;cases r1 with
    | @ol b _ us hb rs =>
     refine⟨_,b,vs',us,rfl,rfl,f2,hb,?_,k _ F1 _ (f4 _ (f3.append rs))⟩;have e4:=f3.1;have e6:=rs.1;have e5:(1000000:Nat)<=sizeLine:=by decide
     unfold HM.big at hz;omega
   .cases h
  .cases h
 .cases h
theorem bV(i j:Nat){y:Str}{p4:Pos}(hN:X.N.Nodup)(hNi:X.N[i]?=Z x:=by rfl)(zv:X.N[j]?=Z y:=by rfl)(hx:Loc X.env.scope x:=by first|exact AD rfl|exact Ap rfl)(hv:so X.env.scope y:=by first|exact AD rfl|exact Ap (AD rfl)|exact Ap (Ap rfl))(hd:(y==("__debug__":Str))=Ab:=by decide)(qw:(y==("__classdict__":Str))=Ab:=by decide)(qK:GB (.Name y p1) "pop" X.env (eval (.Name y p1) X.env)=eval (.Name y p1) X.env:=by rfl)(qI:(p2.endLine==p3.line)=Aa:=by rfl)(hs:DU (.Call (.Attribute (.Name y p1) "pop" p2) [] [] p3) (Z (.Name x p4)) pos.line X.env=pure Ab:=by rfl)(hf:X.fn x=Aa\/X.env.scope.names.lookup x=Z .local:=by first|exact .inl rfl|exact .inr rfl):XS X (.Assign [.Name x p4] (.Call (.Attribute (.Name y p1) "pop" p2) [] [] p3) pos) (HM.eV i j):=by
 intro r o h;unfold HM.eV at h;split at h
 .rename_i ds qh
  split at h
  .rename_i d hd'
   cases h;refine PS.imp (OS hN hNi hx (cM LA PySem.F.slot_list_pop PySem.F.type_list_pop cB (CT zv hv hd qw) qK qI) hs hf) λE J H ⟨F0,H0,F,at_,k⟩=>?_;obtain⟨l,vs,e1,e2,e3,e4⟩:=at_.chgList (es:=ds.dropLast) qh;obtain⟨v,q1,q2⟩:=e3.get hd';refine⟨.ref l,e1,.inl ⟨rfl,_,qD.of e2⟩,l,vs,v,rfl,rfl,e2,by rw[<-e3.1];exact q1,k _ F _ ((e4 _ ?_).set q2)⟩;rw[Yo,Yo,<-e3.1];exact e3.take _
  .cases h
 .cases h
def spF(K:Ae)(n:Nat)(M:List PyData->Option PyData):Sp:=λvs H Q _=>∃F ds ys,vs.length=n/\Zp F H/\Tb H/\rP F/\Zq K F ds vs/\M ds=Z (.list ys)/\∀l us F' H',pZ F H F' H'->H' l=Z (.lst us)->Zq K F' ys us->F' l=Z_->H l=Z_->Q (.ref l) H'
structure Gd(P:Program)(w:World)(K:Ae)(mg:Str->Option Value)(base:Heap)(k:Nat)(x:Str)(M:List PyData->Option PyData):Prop where
 ex:∃f fd ps,(∀ds d,M ds=Z d->ds.length=ps.length)/\Ck P w K mg base rY k f fd ps (spF K ps.length M)/\mg x=Z (.ref f)/\Et K (.ref f)=Aa/\Binds K fd ps []
theorem Gd.mono{P:Program}{w:World}{K:Ae}{mg:Str->Option Value}{base:Heap}{j k:Nat}{x:Str}{M:List PyData->Option PyData}(C:Gd P w K mg base j x M)(h:j<=k):Gd P w K mg base k x M:=by obtain⟨f,fd,ps,l,F,r⟩:=C.ex;exact⟨f,fd,ps,l,F.mono h,r⟩
theorem gw{k:Nat}{g:HM.AF}{M:List PyData->Option PyData}(C:Gd X.prog X.w X.K X.mg X.base k x M)(hr:Z9 k X.A)(ha:XA X (e::es) g)(hg:Gl X x:=by rfl)(tm:(x==("__debug__":Str))=Ab:=by decide)(he:Ah (e::es) X.env=(Ab,eval e X.env)::Ah es X.env:=by rfl)(hpl:(backTo pos (Ah es X.env)).any (·.1)=Ab:=by rfl):XF X (.Call (.Name x p) (e::es) [] pos) (HM.P7 M g):=by
 intro r d hd;unfold HM.P7 at hd;split at hd
 .rename_i ds qh
  split at hd
  .rename_i ys hM
   cases hd;obtain⟨fa,fd,ps,hl,F,hm,hk,hb⟩:=C.ex;refine PE.imp (Pb (E:=E0) F hr hg hm hk hb .nil OC (ha.pa r ds qh) tm he hpl) λJ H Q ⟨F0,H0,F1,at_,k⟩=>?_;refine⟨F0,H0,F1,at_,λvs F' H' x q=>?_⟩;show spF X.K ps.length M (vs++[]) H' Q E0;rw[BK];refine⟨F',ds,ys,by rw[<-q.1];exact hl ds _ hM,x.sub,at_.tbx x,at_.ntx x,q,hM,λl us F2 H2 x2 h1 h2 h3 h4=>k _ F2 H2 (x.trans x2) ⟨[l],.ol h1 h2,by simp,λa ha=>?_⟩⟩;obtain rfl:a=l:=by simpa using ha
   exact⟨h3,x.hh.free h4⟩
  .cases hd
 .cases hd
theorem ju{P:Program}{w:World}{K:Ae}{mg:Str->Option Value}{base:Heap}{k:Nat}{qual:Str}{st:Stmt}{f:Addr}{fd:FuncData}{N ps:List Str}{e:Expr}{g:HM.BF}(Fn:sL K x qual st f fd)(S:Zv N ps (Ze st))(hm:mg x=Z (.ref f))(hb:Binds K fd ps [])(sS:BW st=[.Return (Z e) p1])(uZ:∀r b,g r=Z b->∃ys,b=.ol ys)(body:∀(pV:Value) (A:Around) (outer:List Env) (s:Shared) (H:Hp) (E:XK),Z9 k (A.deeper (envOfC qual (Ze st) s.heap.objs.size f pV))->XF (DL rY P w K mg base N qual (Ze st) f pV A outer s H E).nox e g):Gd P w K mg base (k+1) x (HM.fnOf ps.length N.length (HM.ZE (HM.tw g))):=by
 have hpl:ps.length<=N.length:=by have:=congrArg Bx S.pre;rw[DG]at this;omega
 refine⟨f,fd,ps,λds d h=>?_,Fn.ok S (λvs H Q E h=>?_) (λpV A outer s H vs Q E hr h=>?_),hm,Fn.kp,hb⟩
 .unfold HM.fnOf at h
  split at h
  .assumption
  .cases h
 .obtain⟨_,_,_,h,_⟩:=h
  exact h
 .obtain⟨F,ds,ys,hl,sub,tb,nt,q,hM,kk⟩:=h
  unfold HM.fnOf at hM;split at hM
  .rename_i qh
   have a0:=Kn (N:=N) sub tb nt q (by omega);have hg:g (HM.X3 N.length ds)=Z (.ol ys):=by
    split at hM
    .rename_i r hr'
     cases hq:HM.tw g (HM.X3 N.length ds)with
     |none=>unfold HM.ZE at hr';rw[hq]at hr';cases hr'
     |some d=>unfold HM.ZE at hr';rw[hq]at hr';cases hr'
    .rename_i d' hr'
     cases hM;obtain⟨d,h1,h2⟩:=Al.mp hr';cases h2;obtain⟨b,h3,h4⟩:=Sr.mp h1;obtain⟨zs,rfl⟩:=uZ _ _ h3;cases h4;exact h3
    .cases hM
   rw[sS];refine⟨_,UA (OH (body pV A outer s H E hr _ _ hg)),F,H,F,a0,λv F' H' x ⟨fp,r1,nd,hn⟩=>?_⟩;cases r1 with
   | @ol l _ us h1 h2=>exact kk l us F' H' x h1 h2 (hn l (by simp)).1 (hn l (by simp)).2
  .cases hM
theorem gL(i:HM.IF)(c:HM.TF)(e:HM.EF)(r:HM.Env)(b:HM.B)(h:HM.ZF i c e r=Z b):∃ys,b=.ol ys:=by
 unfold HM.ZF at h;split at h
 .split at h
  .obtain⟨ys,_,h2⟩:=Al.mp h
   exact⟨ys,h2.symm⟩
  .cases h
 .cases h
end
end
section
variable{tg:Expr}{b':HM.B}{K:Ae}
section
variable{K:Ae}{F H F0 H0 G:Hp}{a b:Addr}{ob u:HO}{vvs:List (List pU×V)}{d:PyData}{v:V}{ds:List PyData}{vs:List V}{r:HM.Env}{J:L2.St}{i:Nat}{es:List (PyData×PyData)}
theorem Bt(h:b≠a):sw a ob G b=G b:=by unfold sw;rw[if_neg h]
theorem E6:sw a ob G a=(G a).map λ_=>ob:=by unfold sw;rw[if_pos rfl]
theorem Ua(s:Zp F H):Zp (sw a ob F) (sw a ob H):=λb o z=>by
 by_cases hb:b=a
 .subst hb
  rw[E6]at z ⊢;obtain⟨x,h1,h2⟩:=Al.mp z;rw[s _ _ h1,<-h2];rfl
 .rw[Bt hb]at z ⊢;exact s b o z
theorem S7(hG:∀u,G a=Z u->u=.dT vvs):sw a (.dT vvs) (sw a ob G)=G:=by
 funext b
 by_cases hb:b=a
 .subst hb
  rw[E6,E6];cases h:G b with
  |none=>rfl
  |some u=>rw[hG u h];rfl
 .rw[Bt hb,Bt hb]
theorem Dk.nt(h:Dk vvs u):(∀xs,u≠.tup xs)/\(∀xs,u≠.lst xs)/\(∀o xs,u≠.frz o (.lst xs))/\(∀ps,u≠.tbl ps)/\(∀x,u≠.own x):=by rcases h with h|⟨o,h⟩<;>subst h<;>exact⟨λ_ z=>(by cases z),λ_ z=>(by cases z),λ_ _ z=>(by cases z),λ_ z=>(by cases z),λ_ z=>(by cases z)⟩
theorem Rep.sw(hF:∀u,F a=Z u->Dk vvs u)(rn:Dk vvs ob)(r:Rep K F d v):Rep K (HP.sw a ob F) d v:=by
 induction r with
 |non=>exact .non
 |bl b=>exact .bl b
 |int i=>exact .int i
 |str x=>exact .str x
 |fn h=>exact .fn (FX.sw hF rn h)
 |tupk h=>exact .tupk h
 | @tup b ds vs h hl _ ih=>exact .tup (by rw[Bt (λz=>(hF _ (z▸h)).nt.1 _ rfl)];exact h) hl ih
 | @lst b ds vs h hl _ ih =>
  refine .lst ?_ hl ih;rcases h with h|h
  .refine .inl ?_
   have hb:b≠a:=λz=>by
    rcases h with h|⟨o,h⟩
    .exact(hF _ (z▸h)).nt.2.1 _ rfl
    .exact(hF _ (z▸h)).nt.2.2.1 _ _ rfl
   unfold Rd;rw[Bt hb];exact h
  .exact .inr h
 | @dct b es kvs vvs' h he hk _ ih =>
  refine .dct ?_ he hk ih
  by_cases hb:b=a
  .subst hb
   have:vvs'=vvs/\∃u,F b=Z u:=by
    rcases h with h|⟨o,h⟩
    .rcases hF _ h with z|⟨o',z⟩
     .cases z;exact⟨rfl,_,h⟩
     .cases z
    .rcases hF _ h with z|⟨o',z⟩
     .cases z
     .cases z;exact⟨rfl,_,h⟩
   obtain⟨rfl,u,hu⟩:=this;unfold Rd;rw[E6,hu];rcases rn with z|⟨o,z⟩
   .subst z;exact .inl rfl
   .subst z;exact .inr ⟨o,rfl⟩
  .unfold Rd
   rw[Bt hb];exact h
theorem Zq.sw(hF:∀u,F a=Z u->Dk vvs u)(rn:Dk vvs ob)(r:Zq K F ds vs):Zq K (HP.sw a ob F) ds vs:=⟨r.1,λi d v h1 h2=>(r.2 i d v h1 h2).sw hF rn⟩
theorem pZ.sw(x:pZ F0 H0 F H)(hH:∀u,H a=Z u->Dk vvs u)(rn:Dk vvs ob):pZ (HP.sw a ob F0) (HP.sw a ob H0) (HP.sw a ob F) (HP.sw a ob H) :=
 ⟨Ua x.ff,x.hh.sw,Ua x.sub,λb o z=>by
  by_cases hb:b=a
  .subst hb
   rw[E6]at z;obtain⟨u,h1,h2⟩:=Al.mp z;rcases x.new b u h1 with q|q|⟨xs,e,q⟩
   .exact .inl (by rw[E6,q,<-h2];rfl)
   .exact .inr (.inl (by rw[E6,q];rfl))
   .exact absurd e ((hH _ (x.sub _ _ h1)).nt.1 xs)
  .rw[Bt hb]at z
   rcases x.new b o z with q|q
   .exact .inl (by rw[Bt hb];exact q)
   .refine .inr ?_
    unfold vP;rw[Bt hb];exact q,λt=>(x.tab (t.unsw rn)).sw hH,λt b o z=>by
  unfold HP.sw at z;split at z
  .obtain⟨u,_,e⟩:=Al.mp z
   subst e;exact rn.ntt
  .rename_i hb
   refine x.nts (λc u y=>?_) b o z
   by_cases hc:c=a
   .subst hc;exact(hH _ (x.sub _ _ (x.ff _ _ y))).ntt
   .exact t c u (by rw[Bt hc];exact y)⟩
theorem At.sw(e:At K F0 H0 F H r J)(xw:F a=Z u)(hu:Dk vvs u)(rn:Dk vvs ob)(nh:∀(i:Nat) (es:List (PyData×PyData)),r[i]?≠Z (Z (HM.B.hd es))):At K (HP.sw a ob F0) (HP.sw a ob H0) (HP.sw a ob F) (HP.sw a ob H) r J:=by
 obtain⟨fp,e⟩:=e;have hF:∀u,F a=Z u->Dk vvs u:=λu' h=>by rw[xw]at h;cases h;exact hu
 have hH:∀u,H a=Z u->Dk vvs u:=λu' h=>by rw[e.sub _ _ xw]at h;cases h;exact hu
 have own:∀i,∀c∈fp i,c≠a:=λi c hc z=>by rw[<-z,(e.own i c hc).1]at xw;cases xw
 refine⟨fp,e.ext.sw hH rn,e.len,λi b h=>?_,e.emp,λi b h=>?_,e.nd,e.dis,e.tb.sw (vvs:=vvs) (λu' z=>by have q:=e.ext.hh.back z (e.sub _ _ xw) hu.nt.2.2.2.1;rw[q];exact hu),λb o z=>?_⟩
 rotate_left 2
 .unfold HP.sw at z
  split at z
  .obtain⟨u,_,e⟩:=Al.mp z
   subst e;exact rn.ntt
  .exact e.nt b o z
 .obtain⟨v,h1,h2⟩:=e.at_ i b h
  refine⟨v,h1,?_⟩;have own:=own i;generalize fp i=f at h2 own;cases h2 with
  |pl q=>exact .pl (q.sw hF rn)
  |ol k q=>exact .ol (by rw[Bt (own _ (by simp))];exact k) (q.sw hF rn)
  |ok k hk q=>exact .ok (by rw[Bt (own _ (by simp))];exact k) hk (q.sw hF rn)
  |ot k hk q=>exact .ot (by rw[Bt (own _ (by simp))];exact k) hk (q.sw hF rn)
  |otl k hk hv q=>refine .otl (by rw[Bt (own _ (by simp))];exact k) hk hv λi ds l h1 h2=>?_;obtain⟨vs,q1,q2⟩:=q i ds l h1 h2;exact⟨vs,by rw[Bt (own l (Ao _ (Bf h2)))];exact q1,q2.sw hF rn⟩
  |hd _ _ _ _=>exact absurd h (nh _ _)
  |hf _=>exact absurd h (nh _ _)
 .rw[Bt (own i b h),Bt (own i b h)]
  exact e.own i b h
theorem uL{x:Option V}(h:J[i]?=Z x):J.set i x=J:=by obtain⟨h1,h2⟩:=A1.mp h;rw[<-h2];exact NS h1
theorem At.say(e:At K F0 H0 F H r J)(h1:J[i]?=Z (Z v))(q:ZZ K F H b' v []):At K F0 H0 F H (r.set i (Z b')) J:=by
 have:=e.store (i:=i) q Es (λa h=>by simp at h) λ_ _ _ _ _ _ h=>by simp at h
 rwa [uL h1]at this
theorem At.loosen(e:At K F0 H0 F H r J)(h:r[i]?=Z (Z (.hd es))):At K F0 H0 F H (r.set i (Z (.pl (.dict es)))) J:=by
 obtain⟨v,fp,h1,h2⟩:=e.any h;cases h2 with
 |hd k1 k2 k3 k4=>exact e.say h1 (.pl (.dct (.inr ⟨_,k1⟩) k2 k3 k4.2))
 |hf k1=>exact e.say h1 (.pl (.fn k1))
theorem S1(h:r.all (λq=>!HM.Bj q)=Aa)(i:Nat)(es:List (PyData×PyData)):r[i]?≠Z (Z (.hd es)):=λz=>by have:=Au.mp h _ (Bf z);cases this
theorem iT(h:(r.set i Z_).all (λq=>!HM.Bj q)=Aa)(hb:∀es,b'≠.hd es)(j:Nat)(es:List (PyData×PyData)):(r.set i (Z b'))[j]?≠Z (Z (.hd es)):=λz=>by
 by_cases hj:i=j
 .subst hj
  by_cases hi:i<r.length
  .rw[En hi]at z
   injection z with z
   injection z with z
   exact hb _ z
  .rw[JC (by rw[DZ];omega)]at z
   cases z
 .rw[Cg hj]at z
  exact S1 h j es (by rw[Cg hj];exact z)
end
section
variable{X:Cx}{pM:List (Addr×Obj)}{J:L2.St}{H:Hp}{s:Shared}{a:Addr}{u ob:HO}{vvs:List (List pU×V)}
theorem LN{h:Heap}{o:HO}{b:Addr}(ha:H a=Z u)(hu:Dk vvs u)(x:ZT X.prog X.w H h b o):ZT X.prog X.w (sw a ob H) h b o :=
 x.stay (λ_ _ _ q=>q) (λc q=>by rw[Bt (λz=>by rw[z,ha]at q;cases q;exact hu.nt.2.2.2.2 _ rfl)];exact q) λc xs q=>by rw[Bt (λz=>by rw[z,ha]at q;cases q;exact hu.nt.1 _ rfl)];exact q
theorem OJ(I:Inv X pM J H s)(ha:H a=Z u)(hu:Dk vvs u)(ok:ZT X.prog X.w (sw a ob H) s.heap a ob)(hn:∀o w,X.H₀ a≠Z (.frz o w)):Inv X pM J (HP.sw a ob H) s:=by
 have none':∀b,H b=Z_->HP.sw a ob H b=Z_:=λb h=>by rw[Bt (λz=>by rw[z,ha]at h;cases h)];exact h
 refine⟨I.ok,I.os,I.bare,⟨I.base.keep,I.base.slot,λb o h1 h2 h3=>none' b (I.base.free b o h1 h2 h3),I.base.there,λb xs h=>?_,λb o w h=>?_,λb ps h=>?_⟩,I.loc,I.cell,none' _ I.free,λx c h=>none' _ (I.freeC x c h),λp hp=>?_,λb o h=>?_,I.len⟩
 .have q:=I.base.tups b xs h
  rw[Bt (λz=>by rw[z,ha]at q;cases q;exact hu.nt.1 _ rfl)];exact q
 .have q:=I.base.frzs b o w h
  rw[Bt (λz=>hn o w (by rw[<-z];exact h))];exact q
 .obtain⟨m,q⟩:=I.base.tbls b ps h
  exact⟨m,by rw[Bt (λz=>by rw[z,ha]at q;cases q;exact hu.nt.2.2.2.1 _ rfl)];exact q⟩
 .have q:=I.pin p hp
  exact⟨q.1,none' _ q.2.1,q.2.2⟩
 .by_cases hb:b=a
  .subst hb
   rw[E6,ha]at h;cases h;exact ok
  .rw[Bt hb]at h
   exact LN ha hu (I.hok b o h)
theorem Ma(i:Nat){st:Stmt}{g:HM.SF}(h:XS X st g):XS X st (HM.FW i g):=by
 intro r o ho;unfold HM.FW at ho;split at ho
 case h_2=>exact h r o ho
 rename_i es hr;split at ho
 case isFalse=>cases ho
 rename_i qQ;have nh:=S1 qQ;intro pM s J H E I ⟨F0,H0,F,at_,k⟩;obtain⟨v,h1,h2⟩:=at_.plain hr;cases h2 with
 | @dct a _ kvs vvs hd he hk hrr =>
  have rs:∀{F':Hp},Zp F F'->Zq X.K F' (kvs.map (·.2)) (vvs.map (·.2)):=λs=>by refine Zq.mono ⟨?_,hrr⟩ s;have:=congrArg Bx hk;rw[Af,Af]at this ⊢;exact this
  rcases hd with hd|⟨q,hd⟩
  .have xu:=at_.sub _ _ hd
   obtain⟨z,y,xs,rl,q,qT,ep,e1,c1⟩:=(show ZT X.prog X.w H s.heap a (.dT vvs) from I.hok a _ xu);have hn:∀o w,X.H₀ a≠Z (.frz o w):=λo w z=>by have:=I.base.frzs _ _ _ z;rw[xu]at this;cases this
   have I1:=OJ (ob:=.frz q (.dT vvs)) I xu (.inl rfl) ⟨e1,LN xu (.inl rfl) ⟨z,y,xs,rl,q,qT,ep,e1,c1⟩⟩ hn;have qO:=at_.sw (ob:=.frz q (.dT vvs)) hd (.inl rfl) (.inr ⟨q,rfl⟩) nh;have Ra:HP.sw a (.frz q (.dT vvs)) F a=Z (.frz q (.dT vvs)):=by rw[E6,hd];rfl
   have hFd:∀u,F a=Z u->Dk vvs u:=λu z=>by rw[hd]at z;cases z;exact .inl rfl
   have rT:=(qO.say (i:=i) h1 (.hd Ra he hk (Zq.sw hFd (.inr ⟨q,rfl⟩) (rs (Zp.refl F))))).rebase;have e0:HP.sw a (.dT vvs) (HP.sw a (.frz q (.dT vvs)) F0)=F0:=S7 λu z=>by have:=at_.ext.ff _ _ z;rw[hd]at this;cases this;rfl
   have e1:HP.sw a (.dT vvs) (HP.sw a (.frz q (.dT vvs)) H0)=H0:=S7 λu z=>by exact at_.ext.hh.back z xu λ_ w=>by cases w
   split at ho
   .rename_i r' hg
    split at ho
    case h_2=>cases ho
    rename_i es' hr';split at ho
    case isFalse=>cases ho
    rename_i hall';cases ho;refine pW (h _ _ hg pM s J _ {nx:=λσ' H'=>∃F',At X.K (HP.sw a (.frz q (.dT vvs)) F) (HP.sw a (.frz q (.dT vvs)) H0) F' H' r' σ',rt:=λ_ _=>False,bk:=λ_ _=>False,ct:=λ_ _=>False} I1 ⟨_,_,_,rT,λσ' F' H' a'=>⟨F',a'⟩⟩) λfl s' z=>?_;cases fl with
    |next=>obtain⟨σ',H',I',F',a'⟩:=z;have Fa:=a'.ext.ff _ _ Ra;have Ha:=a'.sub _ _ Fa;have a3:=((At.unbase qO.ext (qO.nt0) a').loosen hr').sw (ob:=.dT vvs) Fa (.inr ⟨q,rfl⟩) (.inl rfl) (iT hall' λ_ z=>by cases z);rw[e0,e1]at a3;exact⟨σ',_,OJ I' Ha (.inr ⟨q,rfl⟩) (LN Ha (.inr ⟨q,rfl⟩) (JU I'.hok (.inr ⟨q,Ha⟩))) hn,k σ' _ _ a3⟩
    |brk=>obtain⟨_,_,_,z⟩:=z;exact z.elim
    |cont=>obtain⟨_,_,_,z⟩:=z;exact z.elim
    |ret u=>obtain⟨_,_,_,_,_,z⟩:=z;exact z.elim
   .rename_i d hg
    cases ho;refine pW (h _ _ hg pM s J _ {nx:=λ_ _=>False,bk:=λ_ _=>False,ct:=λ_ _=>False,rt:=λv' H'=>∃F',pZ (HP.sw a (.frz q (.dT vvs)) F) (HP.sw a (.frz q (.dT vvs)) H0) F' H'/\Rep X.K F' d v'} I1 ⟨_,_,_,rT,λv' F' H' x q=>⟨F',x,q⟩⟩) λfl s' z=>?_;cases fl with
    |ret u=>obtain⟨v',σ',H',I',rv,F',x',r'⟩:=z;have Fa:=x'.ff _ _ Ra;have Ha:=x'.sub _ _ Fa;have x3:=(pZ.unbase qO.ext x').sw (a:=a) (vvs:=vvs) (ob:=.dT vvs) (λu z=>by rw[Ha]at z;cases z;exact .inr ⟨q,rfl⟩) (.inl rfl);rw[e0,e1]at x3;exact⟨v',σ',_,OJ I' Ha (.inr ⟨q,rfl⟩) (LN Ha (.inr ⟨q,rfl⟩) (JU I'.hok (.inr ⟨q,Ha⟩))) hn,rv,k v' _ _ x3 (r'.sw (λu z=>by rw[Fa]at z;cases z;exact .inr ⟨q,rfl⟩) (.inl rfl))⟩
    |next=>obtain⟨_,_,_,z⟩:=z;exact z.elim
    |brk=>obtain⟨_,_,_,z⟩:=z;exact z.elim
    |cont=>obtain⟨_,_,_,z⟩:=z;exact z.elim
   .cases ho
  .have rT:=at_.say (i:=i) h1 (.hd hd he hk (rs (Zp.refl F)))
   split at ho
   .rename_i r' hg
    split at ho
    case h_2=>cases ho
    rename_i es' hr';split at ho
    case isFalse=>cases ho
    cases ho;exact h _ _ hg pM s J H E I ⟨F0,H0,F,rT,λσ' F' H' a'=>k σ' F' H' (a'.loosen hr')⟩
   .rename_i d hg
    cases ho;exact h _ _ hg pM s J H E I ⟨F0,H0,F,rT,k⟩
   .cases ho
 |fn hv =>
  have rT:=at_.say (i:=i) h1 (.hf hv);split at ho
  .rename_i r' hg
   split at ho
   case h_2=>cases ho
   rename_i es' hr';split at ho
   case isFalse=>cases ho
   cases ho;exact h _ _ hg pM s J H E I ⟨F0,H0,F,rT,λσ' F' H' a'=>k σ' F' H' (a'.loosen hr')⟩
  .rename_i d hg
   cases ho;exact h _ _ hg pM s J H E I ⟨F0,H0,F,rT,k⟩
  .cases ho
def zH(a:Addr)(o:Obj):It :=
 ⟨λi H=>∃vvs q,H a=Z (.frz o (.dT vvs))/\vvs[i]?=Z q,λi H x H'=>H'=H/\∀vvs,H a=Z (.frz o (.dT vvs))->∃q b,vvs[i]?=Z q/\x=.ref b/\H b=Z (.tup (q.1.map kV)),λi H=>∃vvs,H a=Z (.frz o (.dT vvs))/\vvs.length<=i⟩
theorem km{α β:Type}{R:α->β->Prop}{l:List α}{m:List β}(r:Paired R l m):∀{i:Nat} {x:α},l[i]?=Z x->∃y,m[i]?=Z y/\R x y:=by
 induction r with
 |nil=>intro i x e;simp at e
 | @cons p q _ _ hq _ ih =>
  intro i x e;cases i with
  |zero=>rw[Oa]at e;cases e;exact⟨q,rfl,hq⟩
  |succ i=>rw[DH]at e ⊢;exact ih e
theorem iB{P:Program}{w:World}(a it:Addr)(o:Obj)(es:Array DictEntry)(ep:Nat)(hd:o.data=.dict es ep):t7 P w K tg (zH a o) [it] it (λi h=>h.IsKeyIter it a i es.size ep) where
 mem:=by simp
 obj:=λi h st b hb=>by
  have e:b=it:=by simpa using hb
  subst e;obtain⟨o,e,c,d⟩:=st;exact⟨o,e,λv z=>by rw[d]at z;cases z⟩
 keep:=λi h h' st k=>st.at λo e=>k it (by simp) o e
 item:=by
  intro X hP hw hK hc i pM s J H E I hf st hg;subst hP hw hK;obtain⟨vvs,q,hH,hq⟩:=hg;obtain⟨h1,z,lo,xs,qF,o2,es2,ep2,h2,h3,h4,h5,h6⟩:=(show ZT X.prog X.w H s.heap a (.frz o (.dT vvs)) from I.hok a _ hH);rw[h1]at h2;cases h2;rw[hd]at h4;cases h4;obtain⟨f0,f1,f2,f3,f4,f5⟩:=hf it (by simp);obtain⟨p,hp,hr1,hr2,_⟩:=km qF hq;have he:es[i]?=Z (entryOfKey (HB (BN X.prog X.w)) p):=by rw[<-B5,h5,AE,hp];rfl
  refine VI st ⟨o,h1,h3,hd⟩ he λh' st' sb=>?_;have I1:Inv X pM J H {s with heap:=h'}:=I.turned (t':=s.toks) (λb o hb e=>(sb.2 b hb).trans e) f0 f1 f3 f4 f5;obtain⟨oi,e,c,d⟩:=id st';refine⟨_,rfl,LM (s:={s with heap:=h'}) e c d (by decide) ⟨.ref p.2.1,H,I1,rfl,⟨rfl,λvv hv=>?_⟩,st',λb hb=>(hf b hb).1⟩⟩;rw[hH]at hv;cases hv;exact⟨q,p.2.1,hq,rfl,hr2⟩
 done:=by
  intro X hP hw hK hc i pM s J H E I hf st hg;subst hP hw hK;obtain⟨vvs,hH,hq⟩:=hg;obtain⟨h1,z,lo,xs,qF,o2,es2,ep2,h2,h3,h4,h5,h6⟩:=(show ZT X.prog X.w H s.heap a (.frz o (.dT vvs)) from I.hok a _ hH);rw[h1]at h2;cases h2;rw[hd]at h4;cases h4;obtain⟨f0,f1,f2,f3,f4,f5⟩:=hf it (by simp);have hl:vvs.length=xs.length:=GC qF;have xn:es.size=xs.length:=by rw[<-A2,h5,Af]
  exact T8 (I.ok.hd hc) st ⟨o,h1,h3,hd⟩ (by omega) λh' eb=>⟨rfl,I.turned (t':=s.toks) (λb o hb e=>eb b o hb e) f0 f1 f3 f4 f5⟩
 self:=λ_ _ _ _ _ st h=>wpAny_pyIter_keyiter st h
theorem dP{l:Expr}{tl:TE}(hl:PE X l tl):PI X tg l (λJ H R=>tl J H λx H1=>∃a o vvs,x=.ref a/\H1 a=Z (.frz o (.dT vvs))/\R (zH a o) H1):=by
 intro pM s J H R I h;refine pW (hl pM s J H _ I h) λv s1 ⟨x,H1,I1,r1,a,o,vvs,e,hH,q⟩=>?_;subst e;cases r1;obtain⟨h1,z,lo,xs,qF,o2,es,ep,h2,h3,h4,h5,h6⟩:=(show ZT X.prog X.w H1 s1.heap a (.frz o (.dT vvs)) from I1.hok a _ hH);rw[h1]at h2;cases h2;refine Vn lo ⟨o,h1,h3,h4⟩ ⟨s1.heap.objs.size,[s1.heap.objs.size],_,_,H1,rfl,I1.kept (t':=s1.toks) λb o e=>Ar _ e,iB a _ o es ep h4,⟨_,AS _ rfl,rfl,rfl⟩,λb hb=>?_,q⟩;obtain rfl:b=s1.heap.objs.size:=by simpa using hb
 exact I1.fpOk (Ai _) (I1.hok.fresh (Ai _))
theorem gg{F:Hp}{a:Addr}{o:Obj}{kvs:List (List pU×PyData)}{vvs:List (List pU×V)}(h:F a=Z (.frz o (.dT vvs)))(hk:kvs.map (·.1)=vvs.map (·.1)):vO K (zH a o) (kvs.map λp=>.tuple (p.1.map HM.BL)) F:=by
 intro F' H s1 s2;have hH:=s2 _ _ (s1 _ _ h);have hl:kvs.length=vvs.length:=by
  have:=congrArg Bx hk
  rwa [Af,Af]at this
 refine⟨λi d hd=>?_,vvs,hH,by rw[Af,hl];exact Ai _⟩;rw[AE]at hd;obtain⟨q,hq,hd⟩:=Al.mp hd;subst hd;have hi:i<vvs.length:=by rw[<-hl];exact(A1.mp hq).1
 have hw:vvs[i]?=Z vvs[i]:=AN hi;have hw1:vvs[i].1=q.1:=by
  have:(kvs.map (·.1))[i]?=(vvs.map (·.1))[i]?:=by rw[hk]
  rw[AE,AE,hq,hw]at this;exact(C0 this).symm
 refine⟨⟨vvs,_,hH,hw⟩,λx H' hy=>?_⟩;obtain⟨e,y⟩:=hy;refine⟨e,?_⟩;obtain⟨q',b,e1,e2,e3⟩:=y vvs hH;rw[hw]at e1;cases e1;subst e2;rw[hw1]at e3;have rk:=Ms (K:=K) (F:=BU F' H) q.1;exact .tup (Vd e3) rk.1 rk.2
theorem L9(i:Nat){x:Str}{pos:Pos}(hN:X.N[i]?=Z x:=by rfl)(hv:so X.env.scope x:=by first|exact AD rfl|exact Ap (AD rfl)|exact Ap (Ap rfl))(hd:(x==("__debug__":Str))=Ab:=by decide)(qw:(x==("__classdict__":Str))=Ab:=by decide):XI X tg (.Name x pos) (HM.BH i):=by
 intro r ds h;have row:∀{d:PyData},r[i]?=Z (Z (.pl d))->HM.DQ (.pl d)=Z ds->HM.ZW (HM.qg (HM.Za i)) r=Z ds:=λ{d} h1 h2=>by
  have e:HM.Za i r=Z d:=by unfold HM.Za;rw[h1]
  unfold HM.ZW HM.qg;rw[e];exact h2
 unfold HM.BH at h;split at h
 .rename_i q;exact ZS (Zb i hN hv hd qw) r ds (row q h)
 .rename_i q;exact ZS (Zb i hN hv hd qw) r ds (row q h)
 .rename_i es q
  obtain⟨kvs,h1,h2⟩:=Al.mp h;subst h2;refine PI.imp (dP (CT hN hv hd qw)) λJ H R ⟨F0,H0,F,at_,k⟩=>?_;obtain⟨v,fp,g1,g2⟩:=at_.any q;cases g2 with
  | @hd a o _ kvs' vvs k1 k2 k3 k4=>subst k2;rw[HM.qe]at h1;cases h1;exact⟨.ref a,g1,a,o,vvs,rfl,at_.sub _ _ k1,k _ F H at_.refl (gg k1 k3)⟩
  |hf _=>cases h1
 .cases h
end
end
end HP
namespace HP
open PySem
variable{S:Addr}
abbrev mdA(I S:Addr)(dv:Value):Args:=⟨[.ref I,.none,.ref S],[(GF "default",dv)]⟩
theorem L6:(toString "min" ++ toString ".loop":String) = "min.loop":=by decide
theorem eu(a dv:Value):argsOk "min" ⟨[a],[(GF "default",dv)]⟩:=by unfold argsOk;kernel_rfl
section
variable{prog:Program}{w:World}{A:Around}{R:Result->Shared->Prop}{I:Addr}{fp wr:List Addr}{n:Nat}{P:Nat->Value->Prop}{St:Nat->Heap->Prop}
theorem eP(W:Walks prog w A.in1 I fp wr n P St)(bt:Nat->Nat->Bool)(hc:CmpOf prog w A.in1 .Lt P bt)(hf:S∉fp)(dv:Value):∀(k j:Nat) (s:Shared) (b:Value) (ep:Nat),n=j+1+k->St (j+1) s.heap->P (argBest bt j) b ->s.heap.get? S=Z {cls:=.type "list",dict:=Z_,data:=.seq #[b,b] ep,slots:=#[]} ->(∀v h' tk,P (argBest bt (n-1)) v->(∀x o,x∉wr->x≠S->s.heap.get? x=Z o->h'.get? x=Z o)->R (.ok (.ret v)) {s with heap:=h',toks:=tk}) ->codeAny (model prog w) A (.builtin "min.loop" (mdA I S dv)) R s:=by
 have hw:S∉wr:=λh=>hf (W.sub _ h);intro k
 induction k with
 |zero =>
  intro j s b ep hn st pb gS out;have hn:n=j+1:=by omega
  subst hn;refine Dj Sy ?_;rw[DX HY _];show wpAny _ A.in1 (seqItems? (.ref S) >>= _) _ _ s;refine Ac (Lq gS rfl ?_);show wpAny _ A.in1 (tryCatch (pyNext (.ref I)) _ >>= _) _ _ s;refine Ac (Lp (W.done s _ _ st λh1 tk keep=>?_));have vJ:=keep S _ hw gS;show wpAny _ A.in1 (updateSeq S (λ_=>#[]) >>= _) _ _ _;exact Ac (RW vJ rfl (Ac (Ng (Ad (out b _ tk pb λx o hx hS e=>(HZ _ _ (A7 hS)).trans (keep x o hx e))))))
 |succ k ih =>
  intro j s b ep hn st pb gS out;refine Dj Sy ?_;rw[DX HY _];show wpAny _ A.in1 (seqItems? (.ref S) >>= _) _ _ s;refine Ac (Lq gS rfl ?_);show wpAny _ A.in1 (tryCatch (pyNext (.ref I)) _ >>= _) _ _ s;refine Ac (Lp (W.item (j+1) s _ _ (by omega) st λv h1 tk pv ya keep=>?_));have vJ:=keep S _ hw gS;show wpAny _ A.in1 (tryCatch (holding [v,v] (richCompare .Lt v b >>= _)) _ >>= _) _ _ _;refine Ac (Lp (B4 (Ac (hc (j+1) (argBest bt j) v b _ _ _ pv pb (Ac (B4 (EX (Ac (Ng (Ad ?_))))))))));have vm:argBest bt (j+1)=if bt (j+1) (argBest bt j)then j+1 else argBest bt j:=rfl
  cases hb:bt (j+1) (argBest bt j)with
  |true =>
   rw[hb,if_pos rfl]at vm;simp only[if_true];refine Ac (RW vJ rfl (Ac (Ng ?_)));rw[L6];refine Ad ⟨FH HY _,ih (j+1) _ v _ (by omega) (W.frame _ _ _ ya λx hx o e=>?_) (by rw[vm];exact pv) (Em _ vJ rfl) λv' h2 wV p' sP=>?_⟩
   .exact(HZ _ _ (λz:S=x=>hf (by rw[z];exact hx))).trans e
   .exact out v' h2 wV p' λx o hx hS e=>sP x o hx hS ((HZ _ _ (A7 hS)).trans (keep x o hx e))
  |false=>rw[hb,if_neg (by simp)]at vm;simp only[BR,if_false];refine Ac (Ng ?_);rw[L6];exact Ad ⟨FH HY _,ih (j+1) _ b ep (by omega) ya (by rw[vm];exact pb) vJ λv' h2 wV p' sP=>out v' h2 wV p' λx o hx hS e=>sP x o hx hS (keep x o hx e)⟩
theorem gr(W:Walks prog w A.in1 I fp wr n P St)(bt:Nat->Nat->Bool)(hc:CmpOf prog w A.in1 .Lt P bt)(hf:S∉fp)(dv:Value){s:Shared}{ep:Nat}(st:St 0 s.heap)(gS:s.heap.get? S=Z {cls:=.type "list",dict:=Z_,data:=.seq #[] ep,slots:=#[]})(o0:n=0->∀h' tk,(∀x o,x∉wr->x≠S->s.heap.get? x=Z o->h'.get? x=Z o)->R (.ok (.ret dv)) {s with heap:=h',toks:=tk})(o1:0<n->∀v h' tk,P (argBest bt (n-1)) v->(∀x o,x∉wr->x≠S->s.heap.get? x=Z o->h'.get? x=Z o)->R (.ok (.ret v)) {s with heap:=h',toks:=tk}):codeAny (model prog w) A (.builtin "min.loop" (mdA I S dv)) R s:=by
 have hw:S∉wr:=λh=>hf (W.sub _ h);refine Dj Sy ?_;rw[DX HY _];show wpAny _ A.in1 (seqItems? (.ref S) >>= _) _ _ s;refine Ac (Lq gS rfl ?_);show wpAny _ A.in1 (tryCatch (pyNext (.ref I)) _ >>= _) _ _ s
 by_cases h0:n=0
 .subst h0
  refine Ac (Lp (W.done s _ _ st λh1 tk keep=>?_));show wpAny _ A.in1 (rule _ >>= _) _ _ _;exact Ac (wpAny_rule (Ad (o0 rfl h1 tk λx o hx _ e=>keep x o hx e)))
 .refine Ac (Lp (W.item 0 s _ _ (by omega) st λv h1 tk pv ya keep=>?_))
  have vJ:=keep S _ hw gS;show wpAny _ A.in1 (updateSeq S (λ_=>#[v,v]) >>= _) _ _ _;refine Ac (RW vJ rfl ?_);rw[L6];refine Ad ⟨FH HY _,eP W bt hc hf dv (n-1) 0 _ v _ (by omega) (W.frame _ _ _ ya λx hx o e=>?_) pv (Em _ vJ rfl) λv' h2 wV p' sP=>?_⟩
  .exact(HZ _ _ (λz:S=x=>hf (by rw[z];exact hx))).trans e
  .exact o1 (by omega) v' h2 wV p' λx o hx hS e=>sP x o hx hS ((HZ _ _ (A7 hS)).trans (keep x o hx e))
end
end HP
namespace HP
open PySem PySem.Spec PyProof.Rows L2
variable{cs:List PyData}{K:Ae}{st:Stmt}{x:Str}
variable[FX]
theorem Rep.fn_inv{F:Hp}{t:Nat}{v:V}(h:Rep K F (HM.pY t cs) v):∃a,v=.ref a/\FX.fv t cs F a:=by
 cases h with
 | @dct a es kvs vvs h he hk hr =>
  cases kvs with
  |nil=>cases he
  |cons p r =>
   injection he with h1 _
   injection h1 with h2 _
   cases h2
 |fn h=>exact⟨_,rfl,h⟩
theorem fP{d:PyData}{t:Nat}(h:HM.LU d=Z (t,cs)):d=HM.pY t cs:=by
 unfold HM.LU at h;split at h
 .cases h;rfl
 .cases h
structure xE(mg:Str->Option Value)(x:Str)(t:Nat):Prop where
 ex:∃f,mg x=Z (.ref f)/\∀F,FX.fv t [] F f
section
variable{X:Cx}{pos p:Pos}{e a b:Expr}{es:List Expr}{f:HM.AF}
theorem TU{t:Nat}(h:xE X.mg x t)(hg:Gl X x:=by rfl)(hd:(x==("__debug__":Str))=Ab:=by decide):XE X (.Name x pos) (HM.eC (HM.pY t [])):=by obtain⟨f,hm,hv⟩:=h.ex;exact Kk (Um hg hm (v:=.ref f) rfl hd) λF=>.fn (hv F)
structure Ge(P:Program)(w:World)(K:Ae)(mg:Str->Option Value)(base:Heap)(k:Nat)(ap:HM.AP):Prop where
 fn:∀{t:Nat} {cs:List PyData} {F:Hp} {a:Addr},FX.fv t cs F a->∀{A:Around} {outer:List Env} {s:Shared} {H:Hp},Dr P w K mg base A outer s H->Zp F H->RL a s.heap
 run:∀{t:Nat} {cs:List PyData} {F:Hp} {a:Addr},FX.fv t cs F a->∀{A:Around} {outer:List Env} {s:Shared} {H:Hp},Dr P w K mg base A outer s H->Zp F H ->
  ∀{us:List Value} {vs:List V} {ds:List PyData} {d:PyData} {Q:VK},Z9 k A->Tb H->rP F->pQ vs us->Zq K F ds vs->ap t cs ds=Z d->(∀v F' H',pZ F H F' H'->Rep K F' d v->Q v H') ->
   codeAny (model P w) A (.call (.ref a) ⟨us,[]⟩) (CR rY outer P w H s Q E0) s
theorem Ge.mono{P:Program}{w:World}{K:Ae}{mg:Str->Option Value}{base:Heap}{j k:Nat}{ap:HM.AP}(C:Ge P w K mg base j ap)(h:j<=k):Ge P w K mg base k ap :=
 ⟨C.fn,by intro t cs F a q A outer s H e z us vs ds d Q hr;exact C.run q e z (hr.mono h)⟩
theorem VJ{k:Nat}{ap:HM.AP}(C:Ge X.prog X.w X.K X.mg X.base k ap)(hr:Z9 k X.A)(i:Nat)(ha:XA X (e::es) f)(hN:X.N[i]?=Z x:=by rfl)(hv:so X.env.scope x:=by first|exact AD rfl|exact Ap (AD rfl)|exact Ap (Ap rfl))(hd:(x==("__debug__":Str))=Ab:=by decide)(qw:(x==("__classdict__":Str))=Ab:=by decide)(he:Ah (e::es) X.env=(Ab,eval e X.env)::Ah es X.env:=by rfl)(hpl:(backTo pos (Ah es X.env)).any (·.1)=Ab:=by rfl):XE X (.Call (.Name x p) (e::es) [] pos) (HM.Kp ap i f):=by
 intro r d h;unfold HM.Kp at h;split at h
 case h_2=>cases h
 rename_i d0 hs;split at h
 case h_2=>cases h
 rename_i t cs hu;split at h
 case h_2=>cases h
 rename_i ds qh;obtain rfl:=fP hu;intro pM s J H Q I ⟨F0,H0,F1,at_,kk⟩;obtain⟨v,h1,h2⟩:=at_.plain hs;obtain⟨q,rfl,fv⟩:=h2.fn_inv;refine JD (pW (CT hN hv hd qw pM s J H (λv' H'=>v'=.ref q/\H'=H) I ⟨_,h1,rfl,rfl⟩) λu s1 ⟨v',H1,I1,r1,e1,e2⟩=>?_);subst e1 e2;obtain rfl:u=A6 q:=r1;refine PySem.W.callWith_F (C.fn fv I1.env0 at_.sub) (pW (ha.pa r ds qh pos pM s1 J H1 (λvs H2=>∃F2,pZ F1 H1 F2 H2/\Zq X.K F2 ds vs) I1 ⟨F0,H0,F1,at_,λvs F2 H2 x2 q2=>⟨F2,x2,q2⟩⟩) λus s2 ⟨vs,H2,I2,r2,F2,x2,q2⟩=>?_) he hpl;have fv2:=FX.mono fv x2.ff;refine⟨C.fn fv2 I2.env0 x2.sub,Ld (Ek (C.run fv2 I2.env0 x2.sub hr (at_.tbx x2) (at_.ntx x2) r2 q2 h λv F' H' x3 q3=>kk v F' H' (x2.trans x3) q3) λrs s' hq=>?_)⟩;cases rs with
 |error e=>exact BZ hq
 |ok fl =>
  cases fl with
  |ret u=>exact I2.after hq
  |next=>exact BZ hq
  |brk=>exact BZ hq
  |cont=>exact BZ hq
def spN(K:Ae)(n:Nat)(M:List PyData->Option (List (List pU×PyData))):Sp:=λvs H Q _=>∃F ds kvs,vs.length=n/\Zp F H/\Tb H/\rP F/\Zq K F ds vs/\M ds=Z kvs /\
 ∀l vvs F' H',pZ F H F' H'->H' l=Z (.dT vvs)->kvs.map (·.1)=vvs.map (·.1)->Zq K F' (kvs.map (·.2)) (vvs.map (·.2))->F' l=Z_->H l=Z_->Q (.ref l) H'
structure F6(P:Program)(w:World)(K:Ae)(mg:Str->Option Value)(base:Heap)(k:Nat)(x:Str)(M:List PyData->Option (List (List pU×PyData))):Prop where
 ex:∃f fd ps,(∀ds d,M ds=Z d->ds.length=ps.length)/\Ck P w K mg base rY k f fd ps (spN K ps.length M)/\mg x=Z (.ref f)/\Et K (.ref f)=Aa/\Binds K fd ps []
theorem F6.mono{P:Program}{w:World}{K:Ae}{mg:Str->Option Value}{base:Heap}{j k:Nat}{x:Str}{M:List PyData->Option (List (List pU×PyData))}(C:F6 P w K mg base j x M)(h:j<=k):F6 P w K mg base k x M:=by obtain⟨f,fd,ps,l,F,r⟩:=C.ex;exact⟨f,fd,ps,l,F.mono h,r⟩
theorem Zq.flat{K:Ae}{F F':Hp}{ds:List PyData}{vs:List V}(r:Zq K F ds vs)(h:∀d∈ds,HM.Px d=Aa):Zq K F' ds vs :=
 ⟨r.1,λi d v h1 h2=>(r.2 i d v h1 h2).flat (h d (Bf h1))⟩
theorem gv{k:Nat}{g:HM.AF}{M:List PyData->Option (List (List pU×PyData))}(C:F6 X.prog X.w X.K X.mg X.base k x M)(hr:Z9 k X.A)(ha:wO X (e::es) g)(hg:Gl X x:=by rfl)(tm:(x==("__debug__":Str))=Ab:=by decide)(he:Ah (e::es) X.env=(Ab,eval e X.env)::Ah es X.env:=by rfl)(hpl:(backTo pos (Ah es X.env)).any (·.1)=Ab:=by rfl):XF X (.Call (.Name x p) (e::es) [] pos) (HM.P5 M g):=by
 intro r d hd;unfold HM.P5 at hd;split at hd
 case h_2=>cases hd
 rename_i ds qh;split at hd
 case h_2=>cases hd
 rename_i kvs hM;split at hd
 case isFalse=>cases hd
 rename_i rO;cases hd;obtain⟨fa,fd,ps,hl,F,hm,hk,hb⟩:=C.ex;refine PE.imp (Pb (E:=E0) F hr hg hm hk hb .nil OC (ha.pa r ds qh) tm he hpl) λJ H Q ⟨F0,H0,F1,at_,kk⟩=>?_;refine⟨F0,H0,F1,at_,λvs F' H' x q=>?_⟩;show spN X.K ps.length M (vs++[]) H' Q E0;rw[BK];refine⟨CO H',ds,kvs,by rw[<-q.1];exact hl ds _ hM,V4,at_.tbx x,.drop,q.drop',hM,λl vvs F2 H2 x2 h1 h2 h3 h4 h5=>?_⟩;refine kk _ F' H2 (x.trans (pZ.forget x.sub (at_.ntx x) x2)) ⟨[l],.ot h1 h2 (h3.flat λd hd=>?_),by simp,λc hc=>?_⟩
 .obtain⟨q,h6,rfl⟩:=Aj.mp hd
  exact Au.mp rO q h6
 .obtain rfl:c=l:=by simpa using hc
  exact⟨x.sub.free h5,x.hh.free h5⟩
def tSn(K:Ae)(r:HM.Env)(kvs:List (List pU×PyData)):TS:=λE J H=>sJ K r J H λF0 H0 F=>∀l vvs F' H',pZ F0 H0 F' H'->H' l=Z (.dT vvs)->kvs.map (·.1)=vvs.map (·.1)->Zq K F' (kvs.map (·.2)) (vvs.map (·.2))->F' l=Z_->H0 l=Z_->E.rt (.ref l) H'
def yE(X:Cx)(vo:List Stmt)(m:HM.NF):Prop:=∀r kvs,m r=Z kvs->rH X vo (tSn X.K r kvs)
theorem U9{rest:List Stmt}{g:HM.SF}{m:HM.NF}(h1:XS X st g)(h2:yE X rest m):yE X (st::rest) (HM.JX g m):=by
 intro r kvs h;unfold HM.JX at h;split at h
 .rename_i r' q
  refine rH.imp (Mf (h1 r _ q) (h2 r' kvs h)) λE J H ⟨F0,H0,F,at_,k⟩=>?_;exact⟨F0,H0,F,at_,λσ' F' H' at'=>⟨F0,H0,F',at',k⟩⟩
 .cases h
theorem eJ(j:Nat){p1:Pos}(hN:X.N[j]?=Z x:=by rfl)(hv:so X.env.scope x:=by first|exact AD rfl|exact Ap (AD rfl)|exact Ap (Ap rfl))(hd:(x==("__debug__":Str))=Ab:=by decide)(qw:(x==("__classdict__":Str))=Ab:=by decide):yE X [.Return (Z (.Name x p)) p1] (HM.JY j):=by
 intro r kvs h;unfold HM.JY at h;split at h
 .rename_i kvs' hs
  cases h;refine rH.imp (Mf (OH (CT hN hv hd qw)) Ml) λE J H ⟨F0,H0,F,⟨fp,at_⟩,k⟩=>?_;obtain⟨v,h1,h2⟩:=at_.at_ j _ hs;generalize ud:fp j=fj at h2;cases h2 with
  | @ot l _ vvs hl hk q=>have ho:=at_.own j l (by rw[ud];simp);exact⟨_,h1,k l vvs F H at_.ext hl hk q ho.1 ho.2⟩
 .cases h
theorem jo{P:Program}{w:World}{mg:Str->Option Value}{base:Heap}{k:Nat}{qual:Str}{f:Addr}{fd:FuncData}{N ps:List Str}{m:HM.NF}(Fn:sL K x qual st f fd)(S:Zv N ps (Ze st))(hm:mg x=Z (.ref f))(hb:Binds K fd ps [])(body:∀(pV:Value) (A:Around) (outer:List Env) (s:Shared) (H:Hp) (E:XK),Z9 k (A.deeper (envOfC qual (Ze st) s.heap.objs.size f pV))->yE (DL rY P w K mg base N qual (Ze st) f pV A outer s H E).nox (BW st) m):F6 P w K mg base (k+1) x (HM.vQ ps.length N.length m):=by
 have hpl:ps.length<=N.length:=by have:=congrArg Bx S.pre;rw[DG]at this;omega
 refine⟨f,fd,ps,λds d h=>?_,Fn.ok S (λvs H Q E h=>?_) (λpV A outer s H vs Q E hr h=>?_),hm,Fn.kp,hb⟩
 .unfold HM.vQ at h
  split at h
  .assumption
  .cases h
 .obtain⟨_,_,_,h,_⟩:=h
  exact h
 .obtain⟨F,ds,kvs,hl,sub,tb,nt,q,hM,kk⟩:=h
  unfold HM.vQ at hM;split at hM
  .rename_i qh
   exact⟨_,body pV A outer s H E hr _ _ hM,F,H,F,Kn (N:=N) sub tb nt q (by omega),λl vvs F' H' x h1 h2 h3 h4 h5=>kk l vvs F' H' x h1 h2 h3 h4 h5⟩
  .cases hM
theorem iI(hc:X.calm=Aa){pM:List (Addr×Obj)}{s:Shared}{J:L2.St}{H:Hp}{l:Addr}{ns:List Int}{Q:VK}(I:Inv X pM J H s)(hq:qD X.K H l (ns.map V.int))(q:Q (match ns.min? with|some i=>.int i|none=>.non) H):wpAny (model X.prog X.w) X.A (call (.builtin "min") [.ref l] [(GF "default",.none)]) (EP X pM J Q) X.xe s:=by
 obtain⟨pO,rv,pl,hz⟩:=I.list hq;have hi:=Ho rv;obtain⟨xs,e⟩:=hi.allInts.items;have qZ:ns=xs.toList.map (·.1):=by rw[<-hi.numsOf,<-nums_intItems,<-e]
 have hl:=pl.isList;rw[e]at hl;refine PyProof.Rows.kmk_tree PySem.F.kind_min PySem.F.plain_min PySem.F.entry_min (eu _ _) ?_;refine Ac (Ni (show Builtin.Builtins.bindParams "min" ["key","default"] 0 ⟨[],[(GF "default",.none)]⟩=pure [Z_,Z .none] from rfl) ?_);refine Ac (Ad ?_);refine Ac (iter_intList hl λs2 e2 st ud hlI=>?_);subst e2;refine Ac (D2 ?_);rw[L6];generalize hIT:s.heap.push {cls:=.type "list_iterator",data:=.fields #[.ref l,.int 0 0]}=h1 at st ud;have z1:h1.objs.size=s.heap.objs.size+1:=by rw[<-hIT];exact Fz ..
 have k1:∀b o,s.heap.get? b=Z o->h1.get? b=Z o:=λb o e=>by rw[<-hIT];exact Ar _ e
 have W:=Nd (prog:=X.prog) (w:=X.w) (A:=X.A.in1) (I.ok.hd hc) s.heap.objs.size l hlI (intItems xs);have uq:h1.objs.size∉[s.heap.objs.size,l]:=λz=>EO _ (ud _ z);have old:∀{h':Heap} {oS:Obj},(∀x o,x∉[s.heap.objs.size]->x≠h1.objs.size->(h1.push oS).get? x=Z o->h'.get? x=Z o)->∀b o,s.heap.get? b=Z o->h'.get? b=Z o:=λhk b o e=>by have hb:=Aq e;exact hk b o (λz=>by rw[AG.mp z]at hb;exact EO _ hb) (Aw (by rw[z1];exact HX hb)) (Ar _ (k1 b o e))
 refine Ad ⟨FH HY _,gr W (λi j=>decide (numAt xs i<numAt xs j)) (CmpOf.ints_lt (numAt xs) λ_ _=>intItems_at) uq .none (W.frame _ _ _ st λb _ o e=>Ar _ e) (AS _ rfl) (λh0 h' tk hk=>?_) λh0 v h' tk hP hk=>?_⟩
 .have e0:ns=[]:=by
   rw[qZ];have:xs.size=0:=by simpa [intItems]using h0
   rw[Array.eq_empty_of_size_eq_zero this];rfl
  subst e0;exact⟨.non,H,I.kept (t':=tk) (old hk),rfl,q⟩
 .have h0':0<xs.size:=by simpa [intItems]using h0
  have hP':(intItems xs)[argBest (λi j=>decide (numAt xs i<numAt xs j)) (xs.size-1)]?=Z v:=by simpa [intItems]using hP
  obtain⟨t,rfl⟩:=intItems_at hP';obtain⟨g1,g2⟩:=argBest_lt (numAt xs) (xs.size-1);have hm:ns.min?=Z (numAt xs (argBest (λi j=>decide (numAt xs i<numAt xs j)) (xs.size-1))):=by
   refine HN.mpr ⟨?_,λa ha=>?_⟩
   .rw[qZ,numAt_eq];exact getD_mem (by rw[Af,A2];omega)
   .rw[qZ]at ha
    obtain⟨j,hj,rfl⟩:=mem_getD ha;rw[Af,A2]at hj;rw[<-numAt_eq];exact g2 j (by omega)
  rw[hm]at q;exact⟨.int _,H,I.kept (t':=tk) (old hk),⟨t,rfl⟩,q⟩
theorem L8{f:HM.BF}{kp p2:Pos}{j:Nat}(hm:X.mg "min"=Z_)(hc:X.calm=Aa)(ha:XB X a f)(hg:Gl X "min":=by rfl)(hs:Ah [a] X.env=[(Ab,eval a X.env)]:=by rfl)(he:backTo pos (Ah [a] X.env)=(Ab,eval a X.env)::backTo pos (Ah [] X.env):=by rfl)(hpl:(backTo pos (Ah [a] X.env)).any (·.1)=Ab:=by rfl):XE X (.Call (.Name "min" p) [a] [⟨Z "default",.Constant .none j p2,kp⟩] pos) (HM.Eb f):=by
 intro r d h;unfold HM.Eb at h;split at h
 case h_2=>cases h
 rename_i x hx;split at h
 case h_2=>cases h
 rename_i ds qh;split at h
 case h_2=>cases h
 rename_i ns qZ;cases h;intro pM s J H Q I ⟨F0,H0,F,at_,k⟩;refine JD (J2 I hg hm TK ?_);refine callWith_kw (pW (Fc ha hx hs pos pM s J H (λvs H1=>∃v fp F1,vs=[v]/\pZ F H F1 H1/\ZZ X.K F1 H1 x v fp) I ⟨F0,H0,F,at_,λv fp F' H' x1 r1=>⟨v,fp,F',rfl,x1,r1⟩⟩) λus s1 ⟨vs,H1,I1,rv,v,fp,F1,e1,x1,r1⟩=>?_) he hpl;subst e1;obtain⟨u,rfl,ru⟩:=vals1 rv;obtain⟨l,ws,rfl,hq,rs⟩:=Hf x1.sub r1 qh;obtain rfl:u=A6 l:=ru;rw[Fo qZ rs]at hq;refine kws_cons (pW (TH pM s1 J H1 (λv' H'=>v'=.non/\H'=H1) I1 ⟨rfl,rfl⟩) λu2 s2 ⟨v',H2,I2,r2,e2,e3⟩=>?_);subst e2 e3;obtain rfl:u2=Bl:=r2;refine kws_nil ?_;refine iI hc I2 hq ?_;refine k _ F1 H2 x1 ?_;cases ns.min? with
 |none=>exact .non
 |some i=>exact .int i
end
end HP
namespace HP
open PySem PySem.Spec PyProof.Rows L2
section
variable{F:Hp}{K:Ae}
abbrev rJ:FX where
 tl:=[]
 fv:=λ_ _ _ _=>False
 sw:=λ_ _ h=>h
 drop:=λh=>h
 mono:=λh _=>h
structure sZ(K:Ae)(F:Hp)(p:Addr)(params:Arguments)(body:Expr)(scope:Scope)(names:List Str)(cs:List PyData):Prop where
 ex:∃(qual:Str) (pm sf:Value) (c:Addr) (oc:Obj) (pS:List (Str×Addr)),
  F p=Z (A5 p (Np "<lambda>" qual params body scope pS pm c sf))/\F c=Z (A5 c oc)/\Pz oc qual /\
  (∀x y a,pS.lookup x=Z a->pS.lookup y=Z a->x=y)/\(∀y∈scope.names,y.2=.free->(pS.lookup y.1).isSome=Aa) /\
  (∀x a,pS.lookup x=Z a->∃o v,F a=Z (A5 a o)/\o.data=.cell v) /\
  names.length=cs.length/\∀(i:Nat) (x:Str) (d:PyData),names[i]?=Z x->cs[i]?=Z d->∃a o u v,pS.lookup x=Z a/\F a=Z (A5 a o)/\o.data=.cell (Z u)/\RelV v u/\@Rep rJ K F d v
section
variable{K:Ae}{F F':Hp}{p:Addr}{params:Arguments}{body:Expr}{scope:Scope}{names:List Str}{cs:List PyData}
theorem sZ.mono(h:sZ K F p params body scope names cs)(s:Zp F F'):sZ K F' p params body scope names cs:=by
 obtain⟨qual,pm,sf,c,oc,pS,h1,h2,h3,h4,h5,h6,h7,h8⟩:=h.ex;refine⟨qual,pm,sf,c,oc,pS,s _ _ h1,s _ _ h2,h3,h4,h5,λx a e=>?_,h7,λi x d e1 e2=>?_⟩
 .obtain⟨o,u,q1,q2⟩:=h6 x a e
  exact⟨o,u,s _ _ q1,q2⟩
 .obtain⟨a,o,u,v,q1,q2,q3,q4,q5⟩:=h8 i x d e1 e2
  exact⟨a,o,u,v,q1,s _ _ q2,q3,q4,@Rep.mono rJ _ _ _ _ _ q5 s⟩
theorem sZ.drop(h:sZ K F p params body scope names cs):sZ K (CO F) p params body scope names cs:=by
 obtain⟨qual,pm,sf,c,oc,pS,h1,h2,h3,h4,h5,h6,h7,h8⟩:=h.ex;refine⟨qual,pm,sf,c,oc,pS,EL h1 rfl,EL h2 rfl,h3,h4,h5,λx a e=>?_,h7,λi x d e1 e2=>?_⟩
 .obtain⟨o,u,q1,q2⟩:=h6 x a e
  exact⟨o,u,EL q1 rfl,q2⟩
 .obtain⟨a,o,u,v,q1,q2,q3,q4,q5⟩:=h8 i x d e1 e2
  exact⟨a,o,u,v,q1,EL q2 rfl,q3,q4,@Rep.drop rJ _ _ _ _ q5⟩
theorem sZ.sw{a:Addr}{ob:HO}{vvs:List (List pU×V)}(hF:∀u,F a=Z u->Dk vvs u)(rn:Dk vvs ob)(h:sZ K F p params body scope names cs):sZ K (HP.sw a ob F) p params body scope names cs:=by
 have key:∀{b:Addr} {o:Obj},F b=Z (A5 b o)->HP.sw a ob F b=Z (A5 b o):=λ{b o} e=>by
  have hb:b≠a:=λz=>by subst z;have:=@Dk.te rJ _ _ (hF _ e);cases this
  unfold HP.sw;rw[if_neg hb];exact e
 obtain⟨qual,pm,sf,c,oc,pS,h1,h2,h3,h4,h5,h6,h7,h8⟩:=h.ex;refine⟨qual,pm,sf,c,oc,pS,key h1,key h2,h3,h4,h5,λx a e=>?_,h7,λi x d e1 e2=>?_⟩
 .obtain⟨o,u,q1,q2⟩:=h6 x a e
  exact⟨o,u,key q1,q2⟩
 .obtain⟨a,o,u,v,q1,q2,q3,q4,q5⟩:=h8 i x d e1 e2
  exact⟨a,o,u,v,q1,key q2,q3,q4,@Rep.sw rJ _ _ _ _ _ _ _ hF rn q5⟩
end
theorem Rep.up[FX]{d:PyData}{v:V}(r:@Rep rJ K F d v):Rep K F d v:=by
 induction r with
 |non=>exact .non
 |bl b=>exact .bl b
 |int i=>exact .int i
 |str x=>exact .str x
 |tup h hl _ ih=>exact .tup h hl ih
 |tupk h=>exact .tupk h
 |lst h hl _ ih=>exact .lst h hl ih
 |dct h he hk _ ih=>exact .dct h he hk ih
 |fn h=>exact h.elim
theorem Rep.cutF[FX]{F':Hp}(hF:∀b o,F b=Z o->te o=Ab->F' b=Z o){d:PyData}{v:V}(r:Rep K F d v):∀n,HM.rL n d=Aa->@Rep rJ K F' d v:=by
 induction r with
 |non=>intro _ _;exact @Rep.non rJ _ _
 |bl b=>intro _ _;exact @Rep.bl rJ _ _ b
 |int i=>intro _ _;exact @Rep.int rJ _ _ i
 |str x=>intro _ _;exact @Rep.str rJ _ _ x
 |tupk h=>intro _ _;exact @Rep.tupk rJ _ _ _ _ h
 |tup h hl _ ih =>
  intro n hn;cases n with
  |zero=>cases hn
  |succ n=>exact @Rep.tup rJ _ _ _ _ _ (hF _ _ h rfl) hl λi d v h1 h2=>ih i d v h1 h2 n (Au.mp hn d (Bf h1))
 |lst h hl _ ih =>
  intro n hn;cases n with
  |zero=>cases hn
  |succ n =>
   refine @Rep.lst rJ _ _ _ _ _ ?_ hl λi d v h1 h2=>ih i d v h1 h2 n (Au.mp hn d (Bf h1));rcases h with(h|⟨o,h⟩)|h
   .exact .inl (.inl (hF _ _ h rfl))
   .exact .inl (.inr ⟨o,hF _ _ h rfl⟩)
   .exact .inr h
 | @dct a es kvs vvs h he hk _ ih =>
  intro n hn;cases n with
  |zero=>cases hn
  |succ n =>
   refine @Rep.dct rJ _ _ _ _ kvs vvs ?_ he hk λi d v h1 h2=>ih i d v h1 h2 n ?_
   .rcases h with h|⟨o,h⟩
    .exact .inl (hF _ _ h rfl)
    .exact .inr ⟨o,hF _ _ h rfl⟩
   .subst he
    rw[AE]at h1;obtain⟨q,h3,h4⟩:=Al.mp h1;subst h4;have hm:(Cv (q.1.map HM.BL),q.2)∈HM.Zi kvs:=Aj.mpr ⟨q,Bf h3,rfl⟩;have:=Au.mp hn _ hm;rw[AJ]at this;exact this.2
 |fn h =>
  intro n hn;cases n with
  |zero=>cases hn
  |succ n=>have:=Au.mp hn _ (An ..);cases this
end
section
variable{a b:Addr}{G H:Hp}{C:List Addr}{o:Obj}
theorem Rep0.cut{K:Ae}{F F':Hp}(hF:∀b o,F b=Z o->te o=Ab->F' b=Z o){d:PyData}{v:V}(r:@Rep rJ K F d v):@Rep rJ K F' d v:=by
 induction r with
 |non=>exact @Rep.non rJ _ _
 |bl b=>exact @Rep.bl rJ _ _ b
 |int i=>exact @Rep.int rJ _ _ i
 |str x=>exact @Rep.str rJ _ _ x
 |tupk h=>exact @Rep.tupk rJ _ _ _ _ h
 |tup h hl _ ih=>exact @Rep.tup rJ _ _ _ _ _ (hF _ _ h rfl) hl ih
 |lst h hl _ ih =>
  refine @Rep.lst rJ _ _ _ _ _ ?_ hl ih;rcases h with(h|⟨o,h⟩)|h
  .exact .inl (.inl (hF _ _ h rfl))
  .exact .inl (.inr ⟨o,hF _ _ h rfl⟩)
  .exact .inr h
 | @dct a es kvs vvs h he hk _ ih =>
  refine @Rep.dct rJ _ _ _ _ kvs vvs ?_ he hk ih;rcases h with h|⟨o,h⟩
  .exact .inl (hF _ _ h rfl)
  .exact .inr ⟨o,hF _ _ h rfl⟩
 |fn h=>exact h.elim
def AY(C:List Addr)(H:Hp):Hp:=λb=>if b∈C then Z_ else H b
theorem Kb(h:b∈C):AY C H b=Z_:=by unfold AY;rw[if_pos h]
theorem BX(h:b∉C):AY C H b=H b:=by unfold AY;rw[if_neg h]
theorem Mg{o:HO}(h:AY C H b=Z o):b∉C/\H b=Z o:=by
 unfold AY at h;split at h
 .cases h
 .exact⟨by assumption,h⟩
def Ex(C:List Addr)(G H:Hp):Hp:=λb=>if b∈C then G b else H b
theorem GZ(h:b∈C):Ex C G H b=G b:=by unfold Ex;rw[if_pos h]
theorem De(h:b∉C):Ex C G H b=H b:=by unfold Ex;rw[if_neg h]
section
variable{P:Program}{w:World}{C:List Addr}{G H H':Hp}{h h':Heap}
theorem Gn(x:ZT P w H h a (A5 a o)):h.get? a=Z o:=x.1
theorem L4(e:h.get? a=Z o):ZT P w H h a (A5 a o):=⟨e,⟨o,e⟩,λh1 h2 q k=>k o q⟩
theorem qE.cut(x:qE P w H h)(hC:∀c∈C,∀o,H c=Z o->te o=Aa):qE P w (AY C H) h:=λa o e=>by
 obtain⟨_,e⟩:=Mg e;have out:∀{b:Addr} {u:HO},H b=Z u->te u=Ab->AY C H b=Z u:=λ{b u} q t=>by rw[BX λz=>by rw[hC b z u q]at t;cases t];exact q
 exact(x a o e).stay (λ_ _ _ q=>q) (λb q=>out q rfl) λb xs q=>out q rfl
theorem qE.put(x:qE P w H h)(hn:∀c∈C,H c=Z_)(hC:∀c∈C,∀u,G c=Z u->∃o,u=A5 c o/\h.get? c=Z o):qE P w (Ex C G H) h:=λa o e=>by
 have out:∀{b:Addr} {u:HO},H b=Z u->Ex C G H b=Z u:=λ{b u} q=>by rw[De λz=>by rw[hn b z]at q;cases q];exact q
 by_cases ha:a∈C
 .rw[GZ ha]at e
  obtain⟨ob,rfl,hb⟩:=hC a ha o e;exact L4 hb
 .rw[De ha]at e
  exact(x a o e).stay (λ_ _ _ q=>q) (λb q=>out q) λb xs q=>out q
end
structure PL(scope:Scope)(x:Str)(names:List Str):Prop where
 kind:scope.kind=.function
 co:scope.isCoroutine=Ab
 gen:scope.isGenerator=Ab
 nocell:∀y∈scope.names,y.2≠.cell
 par:scope.names.lookup x=Z .local
 free:∀n∈names,scope.names.lookup n=Z .free
 nd:(x::names).Nodup
def LL(P:Program)(w:World)(K:Ae)(mg:Str->Option Value)(base:Heap)(N:List Str)(qual:Str)(scope:Scope)(f:Addr)(cd:Value)(pS:List (Str×Addr))(A:Around)(outer:List Env)(s:Shared)(H:Hp):Cx where
 prog:=P
 w:=w
 K:=K
 mg:=mg
 base:=base
 A:=A.deeper (JA qual scope s.heap.objs.size f cd pS)
 N:=N
 s₀:=s
 H₀:=H
 env:=JA qual scope s.heap.objs.size f cd pS
 outer:=outer
 stack:=JA qual scope s.heap.objs.size f cd pS::outer
 ex:=[]
 calm:=Aa
 fn:=λ_=>Ab
 pn:=[]
 xe:=λ_ _=>False
section
variable{P:Program}{w:World}{K:Ae}{mg:Str->Option Value}{base:Heap}{A:Around}{outer:List Env}{s:Shared}{H:Hp}{k:Nat}
theorem i3{qual x:Str}{scope:Scope}{names:List Str}{f:Addr}{cd:Value}{pS:List (Str×Addr)}(S:PL scope x names)(hd:A.handled=Z_)(e0:Dr P w K mg base A outer s H)(inj:∀y z a,pS.lookup y=Z a->pS.lookup z=Z a->y=z)(has:∀y∈scope.names,y.2=.free->(pS.lookup y.1).isSome=Aa)(sQ:∀y a,pS.lookup y=Z a->H a=Z_/\∃o v,s.heap.get? a=Z o/\o.data=.cell v){v:V}{u:Value}(rv:RelV v u){vs:List V}(pP:names.length=vs.length)(t5:∀(i:Nat) (y:Str) (v':V),names[i]?=Z y->vs[i]?=Z v'->∃a o u',pS.lookup y=Z a/\s.heap.get? a=Z o/\o.data=.cell (Z u')/\RelV v' u'){h':Heap}{tk:Nat}(qZ:h'.Ns s.heap.objs.size λy=>[(x,u)].reverse.lookup y)(rE:El s.heap.objs.size (s.heap.push {cls:=.type "frame",data:=.dict #[]}) h'):Inv (LL P w K mg base (x::names) qual scope f cd pS A outer s H) [] (Z v::vs.map Z) H {s with heap:=h',toks:=tk}:=by
 have hk:∀b o,s.heap.get? b=Z o->h'.get? b=Z o:=λb o e=>rE.extBut b o (Aw (Aq e)) (Ar _ e);have uX:∀b:Addr,b∉(LL P w K mg base (x::names) qual scope f cd pS A outer s H).ex:=λb z=>absurd (show b∈([]:List Addr) from z) (by simp);refine⟨⟨e0.mod,S.kind,rfl,rfl,Ai _,inj,λy hy=>?_,λy c z=>absurd (show Ab=Aa from z) (by simp),λ_=>hd,Yl e0.frames,.inr ⟨rfl,rfl⟩,λb z=>absurd z (uX b),e0.bs,e0.bsz,λb _ _=>uX b,λb z=>absurd z (uX b),e0.funs,e0.frf⟩,
  rfl,e0.bare,Un.kept hk,⟨_,qZ,λi y v' h1 h2 h3=>?_⟩,λy c e=>?_,e0.hok.fresh (Ai _),λy c e=>(sQ y c e).1,λp hp=>absurd (show p∈([]:List (Addr×Obj)) from hp) (by simp),e0.hok.kept hk,?_⟩
 .have hy:scope.names.lookup y=Z .cell\/scope.names.lookup y=Z .free:=hy
  rcases hy with hy|hy
  .exact absurd rfl (S.nocell _ (Gz hy))
  .exact Dp.mp (has _ (Gz hy) rfl)
 .cases i with
  |zero=>have e1:x=y:=C0 h1;have e2:v=v':=C0 (C0 h2);subst e1 e2;exact⟨u,rv,.inl ⟨S.par,by simp⟩⟩
  |succ i=>have h1:names[i]?=Z y:=h1;have h2:(vs.map Z)[i]?=Z (Z v'):=h2;rw[AE]at h2;obtain⟨v2,h4,h5⟩:=Al.mp h2;cases h5;obtain⟨a,o,u',q1,q2,q3,q4⟩:=t5 i y v' h1 h4;exact⟨u',q4,.inr ⟨.inr (S.free y (Bf h1)),a,q1,o,hk _ _ q2,q3⟩⟩
 .obtain⟨_,o,v',q1,q2⟩:=sQ y c e
  exact⟨v',o,hk _ _ q1,q2⟩
 .show(Z v::vs.map Z).length=(x::names).length
  rw[Ay,Ay,Af,pP]
end
end
end HP
namespace HP
open PySem PySem.Spec PyProof.Rows L2
variable[FX]
def rQ(pS:List (Str×Addr)):List Addr:=pS.filterMap λq=>pS.lookup q.1
theorem V1{pS:List (Str×Addr)}{a:Addr}:a∈rQ pS↔∃y,pS.lookup y=Z a:=by unfold rQ;rw[Cf];exact⟨λ⟨q,_,h⟩=>⟨q.1,h⟩,λ⟨y,h⟩=>⟨(y,a),Gz h,h⟩⟩
theorem Tb.cut{P:Program}{w:World}{C:List Addr}{H:Hp}{h:Heap}(t:Tb H)(x:qE P w H h)(hC:∀c∈C,∃o v,H c=Z (A5 c o)/\o.data=.cell v):Tb (AY C H):=λT q hT=>by
 obtain⟨ps,h1,h2,h3⟩:=t T q hT;refine⟨ps,?_,h2,λpos c hc=>?_⟩
 .rw[BX λz=>by
   obtain⟨o,v,e,_⟩:=hC T z;rw[h1]at e;cases e]
  exact h1
 .obtain⟨a,o,e1,e2,e3⟩:=h3 pos c hc
  refine⟨a,o,e1,?_,e3⟩;rw[BX λz=>by obtain⟨o',v,f1,f2⟩:=hC a z;have g1:=Gn (x a _ e2);have g2:=Gn (x a _ f1);rw[g1]at g2;cases g2;obtain⟨vs,tt,d1,_⟩:=e3;rw[d1]at f2;cases f2];exact e2
section
variable{P:Program}{w:World}{K:Ae}{mg:Str->Option Value}{base:Heap}{k:Nat}
theorem dn{params:Arguments}{body:Expr}{scope:Scope}{x:Str}{names:List Str}{g:HM.EF}(S:PL scope x names)(rm:∀(qual:Str) (pS:List (Str×Addr)) (pm cd sf u:Value),bindArgs (PySem.W.kla_fn "<lambda>" qual params body scope pS pm cd sf) ⟨[u],[]⟩=pure [(x,u)])(sR:∀(qual:Str) (f:Addr) (cd:Value) (pS:List (Str×Addr)) (A:Around) (outer:List Env) (s:Shared) (H:Hp),Z9 k (A.deeper (JA qual scope s.heap.objs.size f cd pS))->XE (LL P w K mg base (x::names) qual scope f cd pS A outer s H) body g){A:Around}{outer:List Env}{s:Shared}{F H:Hp}{p:Addr}{cs:List PyData}(C:sZ K F p params body scope names cs)(e0:Dr P w K mg base A outer s H)(sub:Zp F H)(hr:Z9 (k+1) A)(tb:Tb H)(nt:rP F){us:List Value}{vs:List V}{ds:List PyData}{d:PyData}{Q:VK}(rv:pQ vs us)(rs:Zq K F ds vs)(vH:HM.Pt 1 names.length g cs ds=Z d)(kk:∀v F' H',pZ F H F' H'->Rep K F' d v->Q v H'):codeAny (model P w) A (.call (.ref p) ⟨us,[]⟩) (CR rY outer P w H s Q E0) s:=by
 unfold HM.Pt at vH;split at vH
 case isFalse=>cases vH
 rename_i hc;obtain⟨sV,sU,yt⟩:=hc;obtain⟨d0,rfl⟩:=List.length_eq_one_iff.mp sV;obtain⟨v0,vs',rfl,r0,rs'⟩:=rs.cons_inv;obtain rfl:=rs'.nil_inv;obtain⟨u0,rfl,ru0⟩:=vals1 rv;have hnf0:HM.rL 20 d0=Aa:=by rw[DF,AJ]at yt;exact yt.1
 obtain⟨qual,pm,sf,c,oc,pS,h1,h2,h3,h4,h5,h6,h7,h8⟩:=C.ex;generalize hCs:rQ pS=Cs;have wb:∀a,a∈Cs↔∃y,pS.lookup y=Z a:=λa=>by rw[<-hCs];exact V1
 have wa:∀a∈Cs,∃o v,F a=Z (A5 a o)/\o.data=.cell v/\s.heap.get? a=Z o:=λa ha=>by obtain⟨y,e⟩:=(wb a).mp ha;obtain⟨o,v,q1,q2⟩:=h6 y a e;exact⟨o,v,q1,q2,Gn (e0.hok a _ (sub _ _ q1))⟩
 have hCt:∀a∈Cs,∀o,H a=Z o->te o=Aa:=λa ha o e=>by obtain⟨ob,v,q1,_,_⟩:=wa a ha;rw[sub _ _ q1]at e;cases e;rfl
 have u5:∀a∈Cs,H a≠Z_:=λa ha z=>by obtain⟨ob,v,q1,_,_⟩:=wa a ha;rw[sub _ _ q1]at z;cases z
 have sO:∀b,H b=Z_->AY Cs H b=Z_:=λb e=>by
  by_cases hb:b∈Cs
  .exact Kb hb
  .rw[BX hb];exact e
 have e1:Dr P w K mg base A outer s (AY Cs H):=⟨e0.frames,e0.mod,λb o e=>⟨(e0.bs b o e).1,sO b (e0.bs b o e).2⟩,e0.bsz,e0.funs,λb hb=>sO b (e0.frf b hb),qE.cut e0.hok hCt,e0.bare⟩;have KX:K.In s.heap:=e0.mod.kin.keeps λb o e=>(e0.bs b o e).1;have yU:s.heap.NoLimit:=e0.mod.nolimit.keeps λb o e=>(e0.bs b o e).1;have qw:s.heap.CodeRec (.ref c) qual:=by obtain⟨vs,t,d1,d2⟩:=h3;exact⟨c,oc,vs,t,rfl,Gn (e0.hok c _ (sub _ _ h2)),d1,d2⟩
 refine PySem.W.kla_callFunE hr.depth (Gn (e0.hok p _ (sub _ _ h1))) rfl S.co S.gen rfl qw ?_;rw[rm];refine Ad (Sb S.nocell (λy hy=>by rw[AG.mp hy];exact S.par) (λh' qZ rE=>⟨yU.fresh _ rE,?_⟩) S.kind);show codeAny _ _ (.expr body (JA qual scope s.heap.objs.size p (.ref c) pS)) _ _;have hvs:∃wv:List V,names.length=wv.length/\(∀(i:Nat) (y:Str) (v':V),names[i]?=Z y->wv[i]?=Z v'->∃a o u',pS.lookup y=Z a/\s.heap.get? a=Z o/\o.data=.cell (Z u')/\RelV v' u')/\Zq K (AY Cs F) cs wv:=by
  have step:∀n,n<=cs.length->∃wv:List V,wv.length=n/\∀(i:Nat) (y:Str) (d:PyData) (v':V),names[i]?=Z y->cs[i]?=Z d->wv[i]?=Z v'->(∃a o u',pS.lookup y=Z a/\s.heap.get? a=Z o/\o.data=.cell (Z u')/\RelV v' u')/\Rep K (AY Cs F) d v':=by
   intro n
   induction n with
   |zero=>exact λ_=>⟨[],rfl,λi y d v' _ _ h=>by simp at h⟩
   |succ n ih =>
    intro hn;obtain⟨wv,l1,l2⟩:=ih (by omega);have hy:n<names.length:=by omega
    have hd:n<cs.length:=by omega
    obtain⟨a,o,u',v',q1,q2,q3,q4,q5⟩:=h8 n names[n] cs[n] (AN hy) (AN hd);refine⟨wv++[v'],by rw[AB,l1];rfl,λi y d v2 g1 g2 g3=>?_⟩
    by_cases hi:i<n
    .rw[Eo (by omega)]at g3
     exact l2 i y d v2 g1 g2 g3
    .have uR:i=n:=by
      have:=(A1.mp g3).1;rw[AB,l1]at this;have:i<n+1:=this;omega
     subst uR;rw[D4 (by omega),l1,Nat.sub_self]at g3;rw[AN hy]at g1;rw[AN hd]at g2;cases g1;cases g2;cases g3;refine⟨⟨a,o,u',q1,Gn (e0.hok a _ (sub _ _ q2)),q3,q4⟩,?_⟩;refine(Rep0.cut (λb ob z t=>?_) q5).up;rw[BX λhb=>by obtain⟨ob',v,w1,_,_⟩:=wa b hb;rw[w1]at z;cases z;cases t];exact z
  obtain⟨wv,l1,l2⟩:=step cs.length (Ai _);refine⟨wv,by omega,λi y v' g1 g3=>?_,by omega,λi d v' g2 g3=>?_⟩
  .have hi:=(A1.mp g3).1
   exact(l2 i y cs[i] v' g1 (AN (by omega)) g3).1
  .have hi:=(A1.mp g3).1
   exact(l2 i names[i] d v' (AN (by omega)) g2 g3).2
 obtain⟨wv,wl,wc,wr⟩:=hvs;have cutF:∀b o,F b=Z o->te o=Ab->AY Cs F b=Z o:=λb ob z t=>by rw[BX λhb=>by obtain⟨ob',v,w1,_,_⟩:=wa b hb;rw[w1]at z;cases z;cases t];exact z
 have r0':Rep K (AY Cs F) d0 v0:=(Rep.cutF cutF r0 20 hnf0).up;have zN:Zp (AY Cs F) (AY Cs H):=λb o e=>by obtain⟨hb,e⟩:=Mg e;rw[BX hb];exact sub _ _ e
 have vY:rP (AY Cs F):=λb o e=>nt b o (Mg e).2;have yP:Tb (AY Cs H):=tb.cut e0.hok λa ha=>by obtain⟨o,v,q1,q2,_⟩:=wa a ha;exact⟨o,v,sub _ _ q1,q2⟩
 have I:=i3 (qual:=qual) (f:=p) (cd:=.ref c) (tk:=s.toks+1) S hr.hd e1 h4 h5 (λy a e=>by obtain⟨o,v,q1,q2,q3⟩:=wa a ((wb a).mpr ⟨y,e⟩);exact⟨Kb ((wb a).mpr ⟨y,e⟩),o,v,q3,q2⟩) ru0 wl wc qZ rE;have a0:At K (AY Cs F) (AY Cs H) (AY Cs F) (AY Cs H) ((d0::cs).map λd=>Z (HM.B.pl d)) (Z v0::wv.map Z):=by
  have:=Kn (N:=x::names) zN yP vY (Zq.cons r0' wr) (by rw[Ay,Ay];omega);have e3:HM.X3 (x::names).length (d0::cs)=(d0::cs).map λd=>Z (HM.B.pl d):=by unfold HM.X3;rw[Ay,Ay,show names.length+1-(cs.length+1)=0 by omega];exact BK _
  have e4:L2.start (x::names) (v0::wv)=Z v0::wv.map Z:=by unfold L2.start;rw[Ay,Ay,show names.length+1-(wv.length+1)=0 by omega];exact BK _
  rw[e3,e4]at this;exact this
 refine PySem.W.kla_codeExpr (Cu (sR qual p (.ref c) pS A outer s (AY Cs H) (hr.deeper _) _ _ vH [] _ _ _ (λv' H'=>∃F',pZ (AY Cs F) (AY Cs H) F' H'/\Rep K F' d v') I ⟨_,_,_,a0,λv' F' H' x' q'=>⟨F',x',q'⟩⟩) (λu' s' hq=>?_) λe s' hq=>BZ hq);obtain⟨v',H',I',ru',F',x',q'⟩:=hq;have un:Un (tp outer) [] (AY Cs H) H' s.heap s'.heap:=I'.base;have nfs:∀a∈Cs,a∉tp outer:=λa ha hb=>u5 a ha (e0.frf a hb);have kc:∀a∈Cs,∃o,H a=Z (A5 a o)/\F a=Z (A5 a o)/\s'.heap.get? a=Z o/\H' a=Z_:=λa ha=>by obtain⟨o,v,q1,q2,q3⟩:=wa a ha;exact⟨o,sub _ _ q1,q1,un.keep a o q3 (Kb ha) (nfs a ha) (by simp),un.free a o q3 (Kb ha) (by simp)⟩
 have out:∀{b:Addr} {o:HO},H b=Z o->te o=Ab->b∉Cs:=λ{b o} e t hb=>by rw[hCt b hb o e]at t;cases t
 have zP:∀{b:Addr},H b=Z_->b∉Cs:=λ{b} e hb=>u5 b hb e;have zO:∀{b:Addr} {ps:Array Value},H b=Z (.tbl ps)->b∉Cs:=λ{b ps} e hb=>by obtain⟨o,q,_⟩:=kc b hb;rw[e]at q;cases q
 refine⟨v',Ex Cs H H',I'.os,I'.bare,⟨λb o e n hb hx=>?_,λb o e n hb hx=>?_,λb o e n hx=>?_,un.there,λb xs e=>?_,λb o u e=>?_,λb ps e=>?_⟩,qE.put I'.hok (λa ha=>by obtain⟨_,_,_,_,q⟩:=kc a ha;exact q) (λa ha u e=>?_),ru',kk v' (Ex Cs F F') (Ex Cs H H') ⟨λb o e=>?_,λb o e=>?_,λb o e=>?_,λb o e=>?_,λt=>?_,λn b o e=>?_⟩ (q'.mono λb o e=>?_)⟩
 .exact un.keep b o e (sO b n) hb hx
 .exact un.slot b o e (sO b n) hb hx
 .rw[De (zP n)];exact un.free b o e (sO b n) hx
 .have hb:=out e rfl
  rw[De hb];exact un.tups b xs (by rw[BX hb];exact e)
 .have hb:=out e rfl
  rw[De hb];exact un.frzs b o u (by rw[BX hb];exact e)
 .have hb:=zO e
  rw[De hb];exact un.tbls b ps (by rw[BX hb];exact e)
 .obtain⟨o,q1,_,q3,_⟩:=kc a ha
  rw[q1]at e;cases e;exact⟨o,rfl,q3⟩
 .by_cases hb:b∈Cs
  .rw[GZ hb];exact e
  .rw[De hb];exact x'.ff b o (by rw[BX hb];exact e)
 .by_cases hb:b∈Cs
  .exact .of (by rw[GZ hb];exact e)
  .exact(x'.hh b o (by rw[BX hb];exact e)).cong (De hb)
 .by_cases hb:b∈Cs
  .rw[GZ hb]at e ⊢;exact sub _ _ e
  .rw[De hb]at e ⊢;exact x'.sub _ _ e
 .by_cases hb:b∈Cs
  .rw[GZ hb]at e;exact .inl e
  .rw[De hb]at e
   rcases x'.new b o e with q|q
   .exact .inl (Mg q).2
   .refine .inr ?_
    unfold vP at q ⊢;rw[BX hb]at q;exact q
 .exact(x'.tab yP).keep λa o e _=>by rw[De λhb=>by obtain⟨_,_,_,_,q⟩:=kc a hb;rw[e]at q;cases q];exact e
 .by_cases hb:b∈Cs
  .rw[GZ hb]at e;exact n b o e
  .rw[De hb]at e;exact x'.nts vY b o e
 .rw[De λhb=>by
   obtain⟨_,_,_,_,q⟩:=kc b hb;rw[x'.sub _ _ e]at q;cases q]
  exact e
end
section
variable{b:Addr}{o:HO}{F H:Hp}
theorem jm{a b:Int}{cv:Value}(l:List Value)(h:TriplesOk l):∀(pos:Pos) (c:Value),Jq pos (l++[rawInt a,rawInt b,cv])=Z c->Jq pos l=Z c\/c=cv:=by
 fun_induction TriplesOk l with
 |case1 =>
  intro pos c e;simp only[Jz,Jq,rawInt]at e;split at e
  .cases e;exact .inr rfl
  .cases e
 |case2 x t y u z rest ih =>
  intro pos c e;simp only[RQ,Jq]at e ⊢;split at e
  .rename_i hq
   rw[if_pos hq];exact .inl e
  .rename_i hq
   rw[if_neg hq];exact ih h pos c e
 |case3=>exact h.elim
def BMod(base:Heap)(mg:Str->Option Value):Prop:=∃bm o,mg "__builtins__"=Z (.ref bm)/\bm≠Le/\bm≠Bg/\base.get? bm=Z o/\o.cls=.type "module"/\o.dict=Z Le/\o.data=.plain
structure Ov(X:Cx)(t:Nat)(params:Arguments)(body:Expr)(scope:Scope)(names:List Str)(is:List Nat):Prop where
 code:∃c P,X.env.code=.ref c/\FC X.K c P=Aa/\(P,X.env.qual ++ "<lambda>")∈FX.tl/\∀q,(P,q)∈FX.tl->q=X.env.qual ++ "<lambda>"
 bm:BMod X.base X.mg
 dflt:defaultsOf params X.env=([],[])
 len:is.length=names.length
 at_:∀(j i:Nat) (x:Str),is[j]?=Z i->names[j]?=Z x->X.N[i]?=Z x/\X.env.scope.names.lookup x=Z .cell
 cells:∀y∈scope.names,y.2=.free->X.env.scope.names.lookup y.1=Z .cell
 free:∀x∈names,(x,GA)∈scope.names
 own:∀x,X.fn x=Aa
 good:∀F p cs,sZ X.K F p params body scope names cs->FX.fv t cs F p
section
variable{X:Cx}{t:Nat}{params:Arguments}{body:Expr}{scope:Scope}{names:List Str}{is:List Nat}{pos rN p:Pos}
structure Made(X:Cx)(params:Arguments)(body:Expr)(scope:Scope)(H H':Hp)(q:Addr)(pS:List (Str×Addr)):Prop where
 ex:∃(pm sf:Value) (c:Addr) (oc:Obj),H' q=Z (A5 q (Np "<lambda>" (X.env.qual ++ "<lambda>") params body scope pS pm c sf))/\H' c=Z (A5 c oc)/\Pz oc (X.env.qual ++ "<lambda>")
 hh:AZ H H'
 tb:Tb H'
theorem fT(L:Ov X t params body scope names is){pM:List (Addr×Obj)}{s:Shared}{J:L2.St}(I:Inv X pM J H s)(tb:Tb H){pS:List (Str×Addr)}(qW:closureFor scope X.env=pure pS):wpAny (model X.prog X.w) X.A (eval (.Lambda params body scope rN) X.env) (λu s'=>∃q H',u=.ref q/\Inv X pM J H' s'/\Made X params body scope H H' q pS) X.xe s:=by
 obtain⟨c,P,hc,hh,hm,hu⟩:=L.code;obtain⟨ps,hP,ht,hg⟩:=tb P _ hm;have gP:s.heap.get? P=Z (Jv ps):=I.hok P _ hP;have Ns:=I.mod.glob.keeps I.bk;have CH:PySem.W.CodeHd s.heap c P:=X8 I.kIn hh;obtain⟨bm,ob,b1,b2,b3,b4,b5,b6,b7⟩:=L.bm;have gb:=I.bk _ _ b4;have hbP:bm≠P:=λz=>by rw[z,gP]at gb;cases gb;cases b5
 have hgP:Bg≠P:=λz=>by obtain⟨o,es,ep,e,hd,_⟩:=Ns;rw[z,gP]at e;cases e;cases hd
 have BA:s.heap.BuiltinsAt X.mg P:=⟨bm,ob,b1,b2,b3,hbP,gb,b5,b6,b7⟩;refine PySem.W.kla_eval L.dflt ?_;cases hq:Jq rN ps.toList with
 |some cv =>
  obtain⟨a,oc,rfl,h1,h2⟩:=hg rN cv hq;refine PySem.W.kla_makeFunctionHit qW I.ok.glob Ns hc CH gP ht hq BA λsf h' tk hk hz=>?_;generalize rn:Np "<lambda>" (X.env.qual ++ "<lambda>") params body scope pS ((X.mg "__name__").getD .none) a sf=fo;have hn:H h'.objs.size=Z_:=I.hok.fresh hz;have uQ:∀b o,s.heap.get? b=Z o->(h'.push fo).get? b=Z o:=λb o e=>Ar _ (hk b o e);have gq:(h'.push fo).get? h'.objs.size=Z fo:=by rw[<-rn];exact AS _ rfl
  refine⟨h'.objs.size,upd H h'.objs.size (A5 h'.objs.size fo),rfl,?_,⟨_,sf,a,oc,by rw[ZD,<-rn],?_,h2⟩,.of (GO hn),tb.same (GO hn)⟩
  .subst rn
   exact I.laid (t':=tk) uQ hz (L4 gq)
  .rw[ZA (CW h1 hn)];exact h1
 |none =>
  refine PySem.W.kla_makeFunction qW I.ok.glob Ns hc CH gP ht hq hgP BA λc' sf h' tk hx wG ql zX xI=>?_;generalize rn:Np "<lambda>" (X.env.qual ++ "<lambda>") params body scope pS ((X.mg "__name__").getD .none) c' sf=fo;generalize hps:ps++#[rawInt rN.line,rawInt rN.col,A6 c']=ps2 at xI;obtain⟨c2,oc,vs,tq,e2,goc,d1,d2⟩:=zX;cases e2;have zm:H c'=Z_:=I.hok.fresh wG;have y4:H h'.objs.size=Z_:=I.hok.fresh (BY wG (ET ql));have hcq:c'≠h'.objs.size:=Aw ql;have hcP:c'≠P:=λz=>by rw[z,hP]at zm;cases zm
  have hqP:h'.objs.size≠P:=λz=>by rw[z,hP]at y4;cases y4
  have gq:(h'.push fo).get? h'.objs.size=Z fo:=by rw[<-rn];exact AS _ rfl
  have gc:(h'.push fo).get? c'=Z oc:=Ar _ goc;have gP2:(h'.push fo).get? P=Z (Jv ps2):=Ar _ xI;have uQ:∀b o,b≠P->s.heap.get? b=Z o->(h'.push fo).get? b=Z o:=λb o hb e=>Ar _ (hx b o hb e);generalize hH':upd (upd (upd H P (.tbl ps2)) c' (A5 c' oc)) h'.objs.size (A5 h'.objs.size fo)=H';have aq:H' h'.objs.size=Z (A5 h'.objs.size fo):=by rw[<-hH',ZD]
  have ac:H' c'=Z (A5 c' oc):=by rw[<-hH',ZA hcq,ZD]
  have aP:H' P=Z (.tbl ps2):=by rw[<-hH',ZA (A7 hqP),ZA (A7 hcP),ZD]
  have ao:∀b,b≠h'.objs.size->b≠c'->b≠P->H' b=H b:=λb n1 n2 n3=>by rw[<-hH',ZA n1,ZA n2,ZA n3]
  have qO:∀b o,H b=Z o->b≠P->H' b=Z o:=λb o e n=>by rw[ao b (CW e y4) (CW e zm) n];exact e
  have nP:∀b o,H b=Z o->(∀ps,o≠.tbl ps)->b≠P:=λb o e n z=>by rw[z,hP]at e;cases e;exact n _ rfl
  have old:∀b o,s.heap.get? b=Z o->b≠h'.objs.size/\b≠c':=λb o e=>by have hb:=Aq e;exact⟨Aw (BC hb (BY wG (ET ql))),Aw (BC hb wG)⟩
  have hokN:qE X.prog X.w H' (h'.push fo):=λb o e=>by
   by_cases n1:b=h'.objs.size
   .subst n1;rw[aq]at e;cases e;exact L4 gq
   .by_cases n2:b=c'
    .subst n2;rw[ac]at e;cases e;exact L4 gc
    .by_cases n3:b=P
     .subst n3;rw[aP]at e;cases e;exact gP2
     .rw[ao b n1 n2 n3]at e
      refine(I.hok b o e).stay (λd u hd z=>uQ d u (λy=>?_) z) (λd z=>qO d _ z (nP d _ z λ_ y=>by cases y)) λd xs z=>qO d _ z (nP d _ z λ_ y=>by cases y);rcases hd with y2|y2
      .exact n3 (y2▸y)
      .exact nP d _ y2 (λ_ q=>by cases q) y
  have un:Un X.fs [] H H' s.heap (h'.push fo):=by
   refine⟨λb o e n hb hx=>?_,λb o e n hb hx=>?_,λb o e n hx=>?_,λb o e hx=>?_,λb xs e=>qO b _ e (nP b _ e λ_ y=>by cases y),λb o u e=>qO b _ e (nP b _ e λ_ y=>by cases y),λb pp e=>?_⟩
   .exact uQ b o (λz=>by rw[z,hP]at n;cases n) e
   .exact⟨o.slots,uQ b o (λz=>by rw[z,hP]at n;cases n) e⟩
   .obtain⟨n1,n2⟩:=old b o e
    rw[ao b n1 n2 (λz=>by rw[z,hP]at n;cases n)];exact n
   .by_cases n3:b=P
    .exact⟨_,by rw[n3];exact gP2⟩
    .exact⟨o,uQ b o n3 e⟩
   .by_cases n3:b=P
    .subst n3
     rw[hP]at e;cases e;exact⟨_,by rw[aP,<-hps]⟩
    .exact⟨#[],by rw[qO b _ e n3];simp⟩
  refine⟨h'.objs.size,H',rfl,?_,⟨_,sf,c',oc,by rw[aq,<-rn],ac,vs,tq,d1,d2⟩,λb o e=>?_,λT q hT=>?_⟩
  .exact I.un (t':=tk) un hokN
  .by_cases n3:b=P
   .subst n3
    rw[hP]at e;cases e;exact⟨_,aP⟩
   .exact .of (qO b o e n3)
  .by_cases n3:T=P
   .subst n3
    obtain rfl:=hu q hT;refine⟨ps2,aP,?_,λpos' cc uT=>?_⟩
    .rw[<-hps,Array.toList_append]
     exact TriplesOk_snoc _ _ _ _ ht
    .rw[<-hps,Array.toList_append]at uT
     rcases jm _ ht _ _ uT with e|e
     .obtain⟨a,o,q1,q2,q3⟩:=hg pos' cc e
      exact⟨a,o,q1,qO a _ q2 (nP a _ q2 λ_ y=>by cases y),q3⟩
     .exact⟨c',oc,e,ac,vs,tq,d1,d2⟩
   .obtain⟨ps',w1,w2,w3⟩:=tb T q hT
    refine⟨ps',qO T _ w1 n3,w2,λpos' cc uT=>?_⟩;obtain⟨a,o,q1,q2,q3⟩:=w3 pos' cc uT;exact⟨a,o,q1,qO a _ q2 (nP a _ q2 λ_ y=>by cases y),q3⟩
theorem VH{r:HM.Env}:∀{is:List Nat} {cs:List PyData},HM.WM is r=Z cs->cs.length=is.length/\∀(j i:Nat),is[j]?=Z i->∃d,cs[j]?=Z d/\r[i]?=Z (Z (.pl d))
 |[],cs,h=>by cases h;exact⟨rfl,λj i e=>by simp at e⟩
 |i::is,cs,h=>by
  unfold HM.WM at h;split at h
  .rename_i d hd
   obtain⟨cs',h1,h2⟩:=Al.mp h;subst h2;obtain⟨l,k⟩:=VH h1;refine⟨by rw[Ay,Ay,l],λj i' e=>?_⟩;cases j with
   |zero=>cases e;exact⟨d,rfl,hd⟩
   |succ j=>exact k j i' e
  .cases h
def Dq(F H:Hp):Hp:=λb=>match H b with
 |some (.ext φ)=>Z (.ext φ)
 |_=>F b
theorem Mi{a:Addr}{o:Obj}(h:H a=Z (A5 a o)):Dq F H a=Z (A5 a o):=by unfold Dq A5 at *;rw[h]
theorem Pk(h:Dq F H b=Z o):(H b=Z o/\te o=Aa)\/F b=Z o:=by
 unfold Dq at h;split at h
 .rename_i φ e
  cases h;exact .inl ⟨e,rfl⟩
 .exact .inr h
theorem dB(s:Zp F H)(h:F b=Z o):Dq F H b=Z o:=by have h2:=s b o h;unfold Dq;rw[h2];cases o<;>first|rfl|exact h
theorem jW{k:Nat}{x:Str}{M:List PyData->Option PyData}{e:Expr}{fa:HM.EF}(C:Callee X.prog X.w X.K X.mg X.base k x M)(hr:Z9 k X.A)(L:Ov X t params body scope names is)(ha:XE X e fa)(hg:Gl X x:=by rfl)(tm:(x==("__debug__":Str))=Ab:=by decide)(he:Ah [e,.Lambda params body scope rN] X.env=(Ab,eval e X.env)::Ah [.Lambda params body scope rN] X.env:=by rfl)(zk:Ah [.Lambda params body scope rN] X.env=[(Ab,eval (.Lambda params body scope rN) X.env)]:=by rfl)(hpl:(backTo pos (Ah [.Lambda params body scope rN] X.env)).any (·.1)=Ab:=by rfl):XE X (.Call (.Name x p) [e,.Lambda params body scope rN] [] pos) (HM.Xw M t is fa):=by
 intro r d hd;unfold HM.Xw at hd;split at hd
 case h_2=>cases hd
 rename_i d1 wI;split at hd
 case h_2=>cases hd
 rename_i cs yz;split at hd
 case isFalse=>cases hd
 rename_i hnc;split at hd
 case h_2=>cases hd
 rename_i d' hM;split at hd
 case isFalse=>cases hd
 rename_i rF;cases hd;obtain⟨fa',fd,ps,hl,FN,hm,hk,hb⟩:=C.ex;intro pM s J H Q I ⟨F0,H0,F,at_,kk⟩;obtain⟨pS,qW,vF,wJ⟩:=Q2 (scope:=scope) (env:=X.env) λy hy hf=>I.ok.has _ (.inl (L.cells y hy hf));refine JD (O6 I hg hm ?_ tm);have xQ:PE X (.Lambda params body scope rN) λσ' H' Q'=>Tb H'/\∀q H2,Made X params body scope H' H2 q pS->Q' (.ref q) H2:=λpins' s' σ' H' Q' I' ⟨tb',k'⟩=>pW (fT L I' tb' qW) λu s2 ⟨q,H2,e1,I2,m⟩=>by subst e1;exact⟨.ref q,H2,I2,rfl,k' q H2 m⟩
 refine X5 (h₀:=X.base) I.ok.mod.kin hk (pW (Z8 (ha r d1 wI) (Z8 xQ Cm zk) he pos pM s J H (λvs H2=>∃v1 F1 H1 q,vs=[v1,.ref q]/\pZ F H F1 H1/\Rep X.K F1 d1 v1/\Made X params body scope H1 H2 q pS) I
  ⟨F0,H0,F,at_,λv F1 H1 x1 r1=>⟨at_.tbx x1,λq H2 m=>⟨v,F1,H1,q,rfl,x1,r1,m⟩⟩⟩) λus s2 ⟨vs,H2,I2,rv,v1,F1,H1,q,ev,x1,r1,m⟩=>⟨I2.kIn,?_⟩) he hpl
 subst ev;have qO:=at_.grow x1;have yP:=at_.tbx x1;have vY:=at_.ntx x1;generalize hCs:rQ pS=Cs;have wb:∀a,a∈Cs↔∃y,pS.lookup y=Z a:=λa=>by rw[<-hCs];exact V1
 have wd:∀a∈Cs,∃y o v,X.env.cells.lookup y=Z a/\s2.heap.get? a=Z o/\o.data=.cell v/\H2 a=Z_:=λa ha=>by obtain⟨y,e⟩:=(wb a).mp ha;have e1:=vF y a e;obtain⟨v,o,h1,h2⟩:=I2.cell y a e1;exact⟨y,o,v,e1,h1,h2,I2.freeC y a e1⟩
 generalize hG:(λa:Addr=>(s2.heap.get? a).map (A5 a))=G;have hGo:∀{a:Addr} {o:Obj},s2.heap.get? a=Z o->G a=Z (A5 a o):=λ{a o} e=>by rw[<-hG];show DV _ _=_;rw[e];rfl
 generalize hH3:Ex Cs G H2=H3;have vk:∀{a:Addr},a∈Cs->∃o v,H3 a=Z (A5 a o)/\s2.heap.get? a=Z o/\o.data=.cell v:=λ{a} ha=>by obtain⟨y,o,v,_,g1,g2,_⟩:=wd a ha;exact⟨o,v,by rw[<-hH3,GZ ha];exact hGo g1,g1,g2⟩
 have rK:∀{a:Addr},a∉Cs->H3 a=H2 a:=λ{a} ha=>by rw[<-hH3,De ha]
 have vq:Zp H2 H3:=λb o z=>by rw[rK λhb=>by obtain⟨_,_,_,_,_,_,g⟩:=wd b hb;rw[g]at z;cases z];exact z
 have cge:∀a∈Cs,X.s₀.heap.objs.size<=a:=λa ha=>by obtain⟨y,_,_,e1,_⟩:=wd a ha;exact I.ok.cab y a (L.own y) e1
 have hok3:qE X.prog X.w H3 s2.heap:=by rw[<-hH3];refine qE.put I2.hok (λa ha=>by obtain⟨_,_,_,_,_,_,g⟩:=wd a ha;exact g) λa ha u e=>?_;obtain⟨y,o,v,_,g1,g2,_⟩:=wd a ha;rw[hGo g1]at e;cases e;exact⟨o,rfl,g1⟩
 have E2:=I2.env0;have cfr:∀b∈tp X.stack,b∉Cs:=λb hb hc=>by
  obtain⟨y,o,v,e1,g1,g2,_⟩:=wd b hc;rcases Ax.mp (I2.stkSub b hb)with z|z
  .exact I2.cne y b e1 z
  .obtain⟨_,o',ho',_⟩:=I.ok.funs.mem z
   exact absurd (BC (Aq ho') (cge b hc)) (EO _)
 have E3:Dr X.prog X.w X.K X.mg X.base X.A X.stack s2 H3:=⟨E2.frames,E2.mod,λb o z=>⟨(E2.bs b o z).1,by rw[rK λhb=>absurd (BC (Aq z) (BY I.ok.bsz (cge b hb))) (EO _)];exact(E2.bs b o z).2⟩,E2.bsz,E2.funs,λb hb=>by rw[rK (cfr b hb)];exact E2.frf b hb,hok3,E2.bare⟩;have s12:Zp F1 H2:=λb o z=>m.hh.ntb (x1.sub b o z) (vY b o z);have s13:Zp F1 H3:=s12.trans vq;have ff:Zp F1 (Dq F1 H3):=λb o z=>dB s13 z;have s33:Zp (Dq F1 H3) H3:=λb o z=>by
  rcases Pk z with⟨w,_⟩|w
  .exact w
  .exact s13 b o w
 have nt3:rP (Dq F1 H3):=λb o z=>by
  rcases Pk z with⟨w1,w2⟩|w
  .unfold Dq at z
   split at z
   .cases z;rfl
   .exact vY b o z
  .exact vY b o w
 have tb3:Tb H3:=m.tb.same vq;obtain⟨pm,sf,c,oc,m1,m2,m3⟩:=m.ex;obtain⟨cl1,cl2⟩:=VH yz;have clo:sZ X.K (Dq F1 H3) q params body scope names cs:=by
  refine⟨_,pm,sf,c,oc,pS,Mi (vq _ _ m1),Mi (vq _ _ m2),m3,λy z a g1 g2=>I.ok.inj y z a (vF y a g1) (vF z a g2),wJ,λy a g=>?_,by rw[cl1,L.len],λj y dj g1 g2=>?_⟩
  .obtain⟨o,v,w1,w2,w3⟩:=vk ((wb a).mpr ⟨y,g⟩)
   exact⟨o,v,Mi w1,w3⟩
  .have hj:j<is.length:=by rw[L.len];exact(A1.mp g1).1
   obtain⟨dj',g3,g4⟩:=cl2 j is[j] (AN hj);rw[g2]at g3;cases g3;obtain⟨hN,tU⟩:=L.at_ j is[j] y (AN hj) g1;obtain⟨v,w1,w2⟩:=qO.plain g4;obtain⟨mm,_,hloc⟩:=I2.loc;obtain⟨u,ru,lk⟩:=hloc is[j] y v hN w1 (.inr (.inl tU));have sW:=wJ _ (L.free y (Bf g1)) rfl;obtain⟨a,sI⟩:=Dp.mp sW;rcases lk with⟨k1,_⟩|⟨_,a',k1,o,k2,k3⟩
   .rw[show X.env.kindOf y=Z .cell from tU]at k1;cases k1
   .rw[vF y a sI]at k1
    cases k1;obtain⟨o',v',z1,z2,z3⟩:=vk ((wb a).mpr ⟨y,sI⟩);rw[k2]at z2;cases z2;refine⟨a,o,u,v,sI,Mi z1,k3,ru,Rep.cutF (λb ob z _=>ff b ob z) w2 20 ?_⟩;exact Au.mp hnc dj (Bf g2)
 have fv:=L.good _ _ _ clo;have pP:=hl _ _ hM;refine Ld (Ek (FN.run X.A X.stack s2 H3 ⟨us,[]⟩ us [v1,.ref q] (λv H4=>∃F4,pZ (Dq F1 H3) H3 F4 H4/\Rep X.K F4 d v) E0 hr E3 (by
  have:=hb s2 us I2.kIn (by rw[BK,<-rv.length];exact pP)
  rwa [BK]at this) rv ⟨Dq F1 H3,_,d,pP,s33,tb3,nt3,.cons (r1.mono ff) (.one (.fn fv)),hM,λv F4 H4 x4 q4=>⟨F4,x4,q4⟩⟩) λrs s4 hq=>?_)
 cases rs with
 |error e=>exact BZ hq
 |ok fl =>
  cases fl with
  |next=>exact BZ hq
  |brk=>exact BZ hq
  |cont=>exact BZ hq
  |ret u =>
   obtain⟨v,H4,os,bare,un,wu,ru,F4,x4,q4⟩:=hq;have c4:∀{a:Addr},a∈Cs->∃o v,H4 a=Z (A5 a o)/\s2.heap.get? a=Z o/\s4.heap.get? a=Z o/\o.data=.cell v:=λ{a} ha=>by obtain⟨o,v,w1,w2,w3⟩:=vk ha;have w4:H4 a=Z (A5 a o):=x4.hh.ntb w1 rfl;exact⟨o,v,w4,w2,Gn (wu a _ w4),w3⟩
   have uv:∀{b:Addr} {o:HO},H2 b=Z o->b∉Cs:=λ{b o} z hb=>by obtain⟨_,_,_,_,_,_,g⟩:=wd b hb;rw[g]at z;cases z
   generalize hF5:(λb:Addr=>match F4 b with|some o=>if te o=Aa then F1 b else Z o|none=>Z_)=F5;have f5:∀{b:Addr} {o:HO},F5 b=Z o->(F4 b=Z o/\te o=Ab)\/F1 b=Z o:=λ{b o} z=>by
    rw[<-hF5]at z;dsimp only at z;split at z
    .rename_i o' w
     split at z
     .exact .inr z
     .rename_i n
      cases z;exact .inl ⟨w,by simpa using n⟩
    .cases z
   have f5a:∀{b:Addr} {o:HO},F4 b=Z o->te o=Ab->F5 b=Z o:=λ{b o} z n=>by rw[<-hF5];dsimp only;rw[z];dsimp only;rw[if_neg (by rw[n];simp)]
   have f5b:∀{b:Addr} {o:HO},F1 b=Z o->F5 b=Z o:=λ{b o} z=>by
    have w:=x4.ff b o (ff b o z)
    by_cases n:te o=Aa
    .rw[<-hF5];dsimp only;rw[w];dsimp only;rw[if_pos n];exact z
    .exact f5a w (by simpa using n)
   have zM:Zp F5 (AY Cs H4):=λb o z=>by
    rcases f5 z with⟨w,n⟩|w
    .rw[BX λhb=>by
      obtain⟨_,_,g,_⟩:=c4 hb;rw[x4.sub b o w]at g;cases g;cases n]
     exact x4.sub b o w
    .rw[BX (uv (s12 b o w))]
     exact x4.sub b o (x4.ff b o (ff b o w))
   refine I2.after ⟨v,AY Cs H4,os,bare,⟨λb o e n hb hx=>?_,λb o e n hb hx=>?_,λb o e n hx=>?_,un.there,λb xs e=>?_,λb o w e=>?_,λb pp e=>?_⟩,qE.cut wu (λa ha o e=>?_),ru,kk v F5 (AY Cs H4) (x1.trans ⟨λb o z=>f5b z,λb o z=>?_,zM,λb o z=>?_,λtb=>?_,λ_ b o z=>?_⟩) ((Rep.cutF (λb o z n=>f5a z n) q4 20 rF).up)⟩
   .by_cases hc:b∈Cs
    .obtain⟨o',_,_,w2,w3,_⟩:=c4 hc
     rw[e]at w2;cases w2;exact w3
    .exact un.keep b o e (by rw[rK hc];exact n) hb hx
   .exact un.slot b o e (by rw[rK (cfr b hb)];exact n) hb hx
   .by_cases hc:b∈Cs
    .exact Kb hc
    .rw[BX hc];exact un.free b o e (by rw[rK hc];exact n) hx
   .rw[BX (uv e)];exact un.tups b xs (vq _ _ e)
   .rw[BX (uv e)];exact un.frzs b o w (vq _ _ e)
   .rw[BX (uv e)];exact un.tbls b pp (vq _ _ e)
   .obtain⟨o',_,g,_⟩:=c4 ha
    rw[g]at e;cases e;rfl
   ·-- sr things stay
    have z2:=m.hh b o z;have key:∀{u:HO},H2 b=Z u->C5 (AY Cs H4) b u:=λ{u} w=>(x4.hh b u (vq b u w)).cong (BX (uv w));cases o<;>first|exact key z2|(obtain⟨pp,w⟩:=z2;exact(show ∃ps',_ from key w))
   .rcases f5 z with⟨w,n⟩|w
    .rcases x4.new b o w with y|y
     .rcases Pk y with⟨_,y2⟩|y2
      .rw[n]at y2;cases y2
      .exact .inl y2
     .refine .inr ?_
      have xr:b∉Cs:=λhb=>by
       obtain⟨o',_,g,_⟩:=vk hb;rcases y with y|⟨xs,_,y⟩
       .rw[g]at y;cases y
       .rw[g]at y;cases y
      rcases y with y|⟨xs,y1,y2⟩
      .rw[rK xr]at y
       exact .inl (m.hh.free y)
      .rw[rK xr]at y2
       cases w1:H1 b with
       |none=>exact .inl w1
       |some u =>
        have:=m.hh.back w1 y2 λ_ q=>by cases q
        subst this;exact .inr ⟨xs,y1,w1⟩
    .exact .inl w
   .refine(x4.tab tb3).cut wu λa ha=>?_
    obtain⟨o,v',g1,_,_,g4⟩:=c4 ha;exact⟨o,v',g1,g4⟩
   .rcases f5 z with⟨w,_⟩|w
    .exact x4.nts nt3 b o w
    .exact vY b o w
end
end
end HP
namespace HP
open PySem
end HP
namespace HP
open PySem PySem.Spec PyProof.Rows L2
section
variable{a c f:Addr}{A:Around}{fd:FuncData}{base:Heap}{H:Hp}{tabs:List (Addr×Addr)}{outer:List Env}{N:List Str}{P:Program}{K:Ae}{s:Shared}{st:Stmt}{qual x:Str}{mg:Str->Option Value}
structure LJ(K:Ae)(x qual:Str)(st:Stmt)(f:Addr)(fd:FuncData)(c:Addr):Prop where
 ex:∃(oc:Value) (od:Option Addr) (kV qU pm:Value) (an:Option Addr) (ct:Value) (sA:Array (Option Value)),
  fd=Dh x qual (DN st) (BW st) (Ze st) .none kV qU pm an (.ref c) ct/\K.lookup f=Z ⟨oc,od,.func fd,sA⟩/\GD K (.ref c) qual=Aa
 kp:Et K (.ref f)=Aa
theorem dR{oc:Value}{od an:Option Addr}{sA:Array (Option Value)}{kV qU pm ct:Value}(l:K.lookup f=Z ⟨oc,od,.func (Dh x qual (DN st) (BW st) (Ze st) .none kV qU pm an (.ref c) ct),sA⟩)(h:GD K (.ref c) qual=Aa)(k:Et K (.ref f)=Aa):LJ K x qual st f (Dh x qual (DN st) (BW st) (Ze st) .none kV qU pm an (.ref c) ct) c:=⟨⟨oc,od,kV,qU,pm,an,ct,sA,rfl,l,h⟩,k⟩
section
variable[FX]
theorem jw{w:World}{k:Nat}{ps:List Str}{g:HM.SF}(Fn:LJ K x qual st f fd c)(S:Zv N ps (Ze st))(hm:mg x=Z (.ref f))(hb:Binds K fd ps [])(body:∀(A:Around) (outer:List Env) (s:Shared) (H:Hp) (E:XK),Z9 k (A.deeper (envOfC qual (Ze st) s.heap.objs.size f (.ref c)))->um (DL rY P w K mg base N qual (Ze st) f (.ref c) A outer s H E).nox (BW st) g):Callee P w K mg base (k+1) x (HM.fnOf ps.length N.length g):=by
 have hpl:ps.length<=N.length:=by have:=congrArg Bx S.pre;rw[DG]at this;omega
 refine⟨f,fd,ps,λds d h=>?_,?_,hm,Fn.kp,hb⟩
 .unfold HM.fnOf at h
  split at h
  .assumption
  .cases h
 .obtain⟨oc,od,kV,qU,pm,an,ct,sA,rfl,lk,qw⟩:=Fn.ex
  refine S5 lk qw S (λvs H Q E h=>by obtain⟨_,_,_,h,_⟩:=h;exact h) λA outer s H vs Q E hr h=>?_;obtain⟨F,ds,d,hl,sub,tb,nt,q,hM,kk⟩:=h;unfold HM.fnOf at hM;split at hM
  .rename_i qh
   have a0:=Kn (N:=N) sub tb nt q (by omega);split at hM
   .rename_i r hr'
    cases hM;exact⟨_,(body A outer s H E hr _ _ hr').nox,F,H,F,a0,λJ F' H' a'=>kk .non F' H' a'.ext .non⟩
   .rename_i d' hr'
    cases hM;exact⟨_,(body A outer s H E hr _ _ hr').nox,F,H,F,a0,λv F' H' x q=>kk v F' H' x q⟩
   .cases hM
  .cases hM
def Ou(N:List Str)(sc scope:Scope)(names:List Str)(is:List Nat):Bool :=
 decide (is.length=names.length)&&(is.zip names).all (λq=>decide (N[q.1]?=Z q.2)&&decide (sc.names.lookup q.2=Z .cell))&&scope.names.all (λy=>decide (y.2≠.free)||decide (sc.names.lookup y.1=Z .cell))&&names.all λx=>decide ((x,GA)∈scope.names)
theorem gX{X:Cx}{t:Nat}{params:Arguments}{body:Expr}{scope sc:Scope}{names:List Str}{is:List Nat}{T:Addr}{q:Str}(ck:Ou N sc scope names is=Aa)(h1:FC X.K c T=Aa)(h2:(T,q)∈FX.tl)(h3:∀q',(T,q')∈FX.tl->q'=q)(bm:BMod X.base X.mg)(good:∀F p cs,sZ X.K F p params body scope names cs->FX.fv t cs F p)(hN:X.N=N:=by rfl)(hs:X.env.scope=sc:=by rfl)(hc:X.env.code=.ref c:=by rfl)(hq:X.env.qual ++ "<lambda>"=q:=by rfl)(hd:defaultsOf params X.env=([],[]):=by rfl)(ho:∀x,X.fn x=Aa:=by exact λ_=>rfl):Ov X t params body scope names is:=by
 unfold Ou at ck;rw[AJ,AJ,AJ]at ck;obtain⟨⟨⟨k1,k2⟩,k3⟩,k4⟩:=ck;refine⟨⟨c,T,hc,h1,by rw[hq];exact h2,λq' z=>by rw[hq];exact h3 q' z⟩,bm,hd,of_decide_eq_true k1,λj i x e1 e2=>?_,λy hy hf=>?_,λx hx=>?_,ho,good⟩
 .have:(i,x)∈is.zip names:=Bf (i:=j) (by rw[Yh];exact⟨e1,e2⟩)
  have:=Au.mp k2 _ this;rw[AJ]at this;rw[hN,hs];exact⟨of_decide_eq_true this.1,of_decide_eq_true this.2⟩
 .have:=Au.mp k3 y hy
  rw[Dl]at this;rw[hs];rcases this with z|z
  .exact absurd hf (of_decide_eq_true z)
  .exact of_decide_eq_true z
 .exact of_decide_eq_true (Au.mp k4 x hx)
theorem Uh{w:World}(Fn:sL K x qual st f fd)(hm:mg x=Z (.ref f))(ha:mg x=Z (.ref a))(e0:Dr P w K mg base A outer s H):RL a s.heap:=by rw[hm]at ha;cases ha;obtain⟨oc,od,kV,qU,pm,an,pV,ct,sA,rfl,lk,qw⟩:=Fn.ex;have KX:K.In s.heap:=e0.mod.kin.keeps λb o e=>(e0.bs b o e).1;exact⟨_,_,_,_,KX _ _ lk⟩
theorem U0{w:World}{k:Nat}{M:List PyData->Option PyData}(C:Callee P w K mg base k x M)(ha:mg x=Z (.ref a)){F:Hp}(e0:Dr P w K mg base A outer s H)(sub:Zp F H){us:List Value}{vs:List V}{ds:List PyData}{d:PyData}{Q:VK}(hr:Z9 k A)(tb:Tb H)(nt:rP F)(rv:pQ vs us)(rs:Zq K F ds vs)(hM:M ds=Z d)(kk:∀v F' H',pZ F H F' H'->Rep K F' d v->Q v H'):codeAny (model P w) A (.call (.ref a) ⟨us,[]⟩) (CR rY outer P w H s Q E0) s:=by
 obtain⟨f,fd,ps,hl,FN,hm,hk,hb⟩:=C.ex;rw[hm]at ha;cases ha;have KX:K.In s.heap:=e0.mod.kin.keeps λb o e=>(e0.bs b o e).1;have pP:vs.length=ps.length:=by rw[<-rs.1];exact hl _ _ hM
 refine FN.run A outer s H ⟨us,[]⟩ us vs Q E0 hr e0 ?_ rv ⟨F,ds,d,pP,sub,tb,nt,rs,hM,kk⟩;have:=hb s us KX (by rw[BK,<-rv.length];exact pP)
 rwa [BK]at this
end
def LQ(tabs:List Addr)(H:Hp):Prop:=(∀b,H b=Z_\/(∃o xs,H b=Z (.frz o (.lst xs)))\/H b=Z (.tbl #[]))/\∀T∈tabs,H T=Z (.tbl #[])
theorem gE{w:World}{mb:Str->Option Value}{k:Nat}{fa:Addr}{sp:Sp}{s₁:Shared}{vs:List Value}{ns:List Int}(hT:∀q∈tabs,FC K q.1 q.2=Aa/\K.lookup q.2=Z_/\s₁.heap.get? q.2=Z (Jv #[]))(KX:K.In s₁.heap)(qZ:s₁.heap.Ns Bg mg)(hb:s₁.heap.Ns Le mb)(rS:∀x:Str,x ≠ "__name__"->mb x=Ce x)(hlim:s₁.heap.NoLimit)(hg:s₁.gens=#[])(ha:s₁.heap.get? a=Z {cls:=.type "list",data:=.seq vs.toArray})(hi:IntsAre vs ns)(hl:ns.length<=sizeLine)(hr:Z9 k callerA)(hbm:PyProof.Rows.BMain s₁.heap mg)(F:∀base:Heap,K.In base->base.Ns Bg mg->BMod base mg->Ck P w K mg base rY k fa fd [x] sp)(rm:∀(s:Shared) (u:Value),BindsTo s fd ⟨[u],[]⟩ [(x,u)])(vB:∀H:Hp,LQ (tabs.map (·.2)) H->qD K H a (ns.map V.int)->sp [.ref a] H (λv _=>v=.bl Aa) λ_ _ _=>False):codeAny (model P w) callerA (.call (.ref fa) ⟨[.ref a],[]⟩) (λr s'=>r=.ok (.ret (.bool Aa))/\OldK s₁.heap s'.heap/\s'.os=s₁.os/\AllBare s'.gens) s₁:=by
 have rv:=V9 hi;have zS:=hi.length;have tne:∀q∈tabs,q.2≠a:=λq hq z=>by have:=(hT q hq).2.2;rw[z,ha]at this;cases this
 have xN:∀oS:Option HO,(oS=Z_\/∃o xs,oS=Z (.frz o (.lst xs)))->(∀H:Hp,H a=oS->qD K H a (ns.map V.int))->(∀H:Hp,∀u,oS=Z u->ZT P w H s₁.heap a u)->(oS≠Z_->K.lookup a=Z_) ->
   codeAny (model P w) callerA (.call (.ref fa) ⟨[.ref a],[]⟩) (λr s'=>r=.ok (.ret (.bool Aa))/\OldK s₁.heap s'.heap/\s'.os=s₁.os/\AllBare s'.gens) s₁:=by
  intro oS hO hS hok0 hK;generalize hH:(λb:Addr=>if b=a then oS else if b∈tabs.map (·.2)then Z (HO.tbl #[])else Z_)=H;have Ha:H a=oS:=by rw[<-hH];exact if_pos rfl
  have Ht:∀T∈tabs.map (·.2),H T=Z (.tbl #[]):=λT hT'=>by obtain⟨q,hq,e⟩:=Aj.mp hT';rw[<-hH];show(if T=a then oS else if T∈tabs.map (·.2)then Z (HO.tbl #[])else Z_)=_;rw[if_neg (by rw[<-e];exact tne q hq),if_pos hT']
  have Hc:∀b u,H b=Z u->(b=a/\oS=Z u)\/(b∈tabs.map (·.2)/\u=.tbl #[]):=λb u e=>by
   rw[<-hH]at e;dsimp only at e;split at e
   .rename_i h;exact .inl ⟨h,e⟩
   .split at e
    .rename_i h;cases e;exact .inr ⟨h,rfl⟩
    .cases e
  have uu:∀T∈tabs.map (·.2),s₁.heap.get? T=Z (Jv #[])/\K.lookup T=Z_/\∃c,FC K c T=Aa:=λT hT'=>by obtain⟨q,hq,e⟩:=Aj.mp hT';subst e;exact⟨(hT q hq).2.2,(hT q hq).2.1,q.1,(hT q hq).1⟩
  have hok:qE P w H s₁.heap:=λb u e=>by
   rcases Hc b u e with⟨rfl,e'⟩|⟨h,rfl⟩
   .exact hok0 H u e'
   .exact(uu b h).1
  have su:∀{b:Addr} {o:Obj},s₁.heap.get? b=Z o->H b=Z_->(EA s₁.heap H).get? b=Z o:=λe n=>fL e n;have uX:∀{b:Addr} {o:Obj} {es:Array DictEntry} {ep:Nat},s₁.heap.get? b=Z o->o.data=.dict es ep->H b=Z_:=λ{b o es ep} e d=>by
   cases q:H b with
   |none=>rfl
   |some u =>
    rcases Hc b u q with⟨rfl,_⟩|⟨h,_⟩
    .rw[ha]at e;cases e
     have d':Data.seq vs.toArray _=Data.dict es ep:=d;cases d'
    .rw[(uu b h).1]at e;cases e;cases d
  have yf:∀{b:Addr} {m:Str->Option Value},s₁.heap.Ns b m->(EA s₁.heap H).Ns b m:=λ{b m} ⟨o,es,ep,e,d,r⟩=>⟨o,es,ep,su e (uX e d),d,r⟩;have hKb:K.In (EA s₁.heap H):=λb o e=>su (KX b o e) (by
   cases q:H b with
   |none=>rfl
   |some u =>
    rcases Hc b u q with⟨rfl,e'⟩|⟨h,_⟩
    .rw[hK (by rw[e'];simp)]at e;cases e
    .rw[(uu b h).2.1]at e;cases e)
  have hM:Mod K mg (EA s₁.heap H):=⟨hKb,yf qZ,⟨mb,yf hb,rS⟩,let ⟨mc,h1,h2⟩:=hlim;⟨mc,yf h1,h2⟩⟩;have e0:Dr P w K mg (EA s₁.heap H) callerA [] s₁ H:=⟨rfl,hM,λb o e=>di e,Lh (jG _ _),trivial,λb hb=>absurd (show b∈([]:List Addr) from hb) (by simp),hok,.of_eq hg⟩;have hOT:LQ (tabs.map (·.2)) H:=⟨λb=>by
   cases q:H b with
   |none=>exact .inl rfl
   |some u =>
    rcases Hc b u q with⟨_,e'⟩|⟨_,rfl⟩
    .rcases hO with z|⟨o,xs,z⟩
     .rw[z]at e';cases e'
     .rw[z]at e';cases e';exact .inr (.inl ⟨o,xs,rfl⟩)
    .exact .inr (.inr rfl),Ht⟩
  have hBM:BMod (EA s₁.heap H) mg:=by
   obtain⟨bm,ob,b1,b2,b3,b4,b5,b6⟩:=hbm;refine⟨bm,ob,b1,b2,λz=>?_,su b3 ?_,b4,b5,b6⟩
   .obtain⟨o,es,ep,e,d,_⟩:=qZ
    rw[z,e]at b3;cases b3;rw[b6]at d;cases d
   .cases q:H bm with
    |none=>rfl
    |some u =>
     rcases Hc bm u q with⟨z,_⟩|⟨h,_⟩
     .rw[z,ha]at b3;cases b3;exact absurd (show(Fy "list":Value)=.type "module" from b4) (by decide)
     .rw[(uu bm h).1]at b3;cases b3;cases b4
  refine Ek ((F _ hKb (yf qZ) hBM).run callerA [] s₁ H ⟨[.ref a],[]⟩ [.ref a] [.ref a] _ _ hr e0 (rm s₁ (.ref a)) (.cons rfl .nil) (vB H hOT (hS H Ha))) λr s' h=>?_;cases r with
  |error e=>exact BZ h
  |ok fl =>
   cases fl with
   |next=>exact BZ h
   |brk=>exact BZ h
   |cont=>exact BZ h
   |ret u =>
    obtain⟨v,H',os,bare,un,hok',r',q⟩:=h;have q':v=.bl Aa:=q;subst q';obtain rfl:u=Value.bool Aa:=r';refine⟨rfl,⟨λb o e=>?_,λb o e=>un.there b o e (by simp)⟩,os,bare⟩;cases q:H b with
    |none=>exact .inl (un.keep b o e q (by intro z;exact absurd (show b∈([]:List Addr) from z) (by simp)) (by simp))
    |some u =>
     rcases Hc b u q with⟨rfl,e'⟩|⟨h,rfl⟩
     .rcases hO with z|⟨ob,xs,z⟩
      .rw[z]at e';cases e'
      .rw[z]at e';cases e'
       have z2:=un.frzs _ ob _ q;obtain⟨e1,_⟩:=hok _ _ q;obtain⟨e2,_⟩:=hok' _ _ z2;rw[e]at e1;cases e1;exact .inl e2
     .obtain⟨g1,_,c,g3⟩:=uu b h
      rw[g1]at e;cases e;obtain⟨more,z2⟩:=un.tbls b _ q;have z3:s'.heap.get? b=Z {cls:=.none,data:=.fields (#[]++more)}:=hok' b _ z2;refine .inr (.inl ⟨((X8 KX g3).tab g1).isCodeTable,rfl,#[],more,rfl,z3⟩)
 cases hk:K.lookup a with
 |some o=>have e:=KX a o hk;rw[ha]at e;cases e;exact xN Z_ (.inl rfl) (λH _=>.inr ⟨_,vs.toArray,_,hk,rfl,rfl,rfl,by rw[AL,zS];exact hl,by simpa using rv⟩) (λH u z=>by cases z) λz=>absurd rfl z
 |none=>refine xN (Z (.frz {cls:=.type "list",data:=.seq vs.toArray} (.lst (ns.map V.int)))) (.inr ⟨_,_,rfl⟩) (λH e=>.inl (.inr ⟨_,e⟩)) (λH u z=>?_) λ_=>hk;cases z;exact⟨ha,by rw[Af];exact hl,vs,_,rv,ha⟩
theorem gT{l:RV}{n k:Nat}{q:Program}{sk:List Str}{XP:(Str->Option Value)->Heap->Prop}{YP:World->Heap->Prop}{d:DefRec}{K:Params->Ae}{sp:World->Sp}(hn:l.most=Z n)(zc:n<=sizeLine)(xp:d.params.defaults=[])(hr:Z9 k callerA)(hY:∀(w:World) (h:Heap),YP w h->(K w.params).In h)(zr:∀(w:World) (h:Heap),YP w h->∀q∈tabs,h.get? q.2=Z (Jv #[]))(hT:∀(w:World),∀q∈tabs,FC (K w.params) q.1 q.2=Aa/\(K w.params).lookup q.2=Z_)
  (F:∀(w:World) (mg:Str->Option Value) (fa:Addr) (h:Heap),(K w.params).In h->h.Ns Bg mg->mg d.name=Z (.ref fa) ->
   ∃fd:FuncData,(∀(s:Shared) (u:Value),BindsTo s fd ⟨[u],[]⟩ [(x,u)]) /\
    ∀base:Heap,(K w.params).In base->base.Ns Bg mg->BMod base mg->Ck l.prog w (K w.params) mg base rY k fa fd [x] (sp w))
  (vB:∀(w:World) (H:Hp) (a:Addr) (ns:List Int),ns.length<=n->LQ (tabs.map (·.2)) H->qD (K w.params) H a (ns.map V.int)->sp w [.ref a] H (λv _=>v=.bl Aa) λ_ _ _=>False):
  PySem.W.WalkO q sk XP YP l.row.toRowW d [] (λf vs=>PySem.call f vs):=by
 refine Att.oU hn xp λw s₀ s₁ mg mb fa o pm cd qU a vs ns G Y ho hd qw xj wx uG pP hg=>?_;have KX:=hY w _ Y;obtain⟨fd,hb,hF⟩:=F w mg fa _ KX G.T.g xj;exact gE (λq hq=>⟨(hT w q hq).1,(hT w q hq).2,zr w _ Y q hq⟩) KX G.T.g G.T.b G.T.builtins G.T.nolimit hg wx uG (BY pP zc) hr G.T.bmain hF hb λH hO hS=>vB w H a ns pP hO hS
end
def bF:Stmt->Option (Arguments×Expr×Scope)
 | .Return (Z (.Call _ [_,.Lambda a b s _] _ _)) _=>Z (a,b,s)
 | .Assign _ (.Call _ [_,.Lambda a b s _] _ _) _=>Z (a,b,s)
 | .Return (Z (.Call _ [_] [⟨_,.Lambda a b s _,_⟩] _)) _=>Z (a,b,s)
 |_=>Z_
def Pc(st:Stmt):Arguments×Expr×Scope:=((BW st).findSome? bF).getD default
abbrev SK(st:Stmt):Arguments:=(Pc st).1
abbrev Ot(st:Stmt):Expr:=(Pc st).2.1
abbrev Ig(st:Stmt):Scope:=(Pc st).2.2
theorem aT{P:Program}{w:World}{K:Ae}{mg:Str->Option Value}{base:Heap}{A:Around}{outer:List Env}{s:Shared}{F H:Hp}{p:Addr}{params:Arguments}{body:Expr}{scope:Scope}{names:List Str}{cs:List PyData}(C:sZ K F p params body scope names cs)(e0:Dr P w K mg base A outer s H)(sub:Zp F H):RL p s.heap:=by
 obtain⟨qual,pm,sf,c,oc,pS,h1,_⟩:=C.ex;exact⟨_,_,_,_,Gn (e0.hok p _ (sub _ _ h1))⟩
section
variable[FX]
theorem n9{K:Ae}{M:List PyData->Option PyData}{H:Hp}{a:Addr}{ns:List Int}{tabs:List Addr}(hO:LQ tabs H)(ht:∀T q,(T,q)∈FX.tl->T∈tabs)(hS:qD K H a (ns.map V.int))(hM:M [.list (HM.rW ns)]=Z (.bool Aa)):spD K 1 M [.ref a] H (λv _=>v=.bl Aa) λ_ _ _=>False:=by
 refine⟨CO H,[.list (HM.rW ns)],.bool Aa,rfl,V4,λT q hT=>⟨#[],hO.2 T (ht T q hT),trivial,λpos c hc=>by cases hc⟩,.drop,.one (Rep.drop (.lst hS (Hr (K:=K) (F:=H) ns).1 (Hr ns).2)),hM,λv F1 H1 _ r=>r.bool_inv⟩
end
end HP
namespace HP
open PySem PySem.Spec PyProof.Rows L2
variable[FX]
end HP
namespace HP
open PySem PySem.W PyProof.Rows
end HP
namespace HP
open PySem PySem.Spec PyProof.Rows L2
variable[FX]
end HP
namespace HT
open PySem PySem.Spec PyProof.Rows L2
end HT
namespace HP
open PySem PySem.Spec PyProof.Rows L2
end HP
namespace HP
open PySem PySem.Spec PyProof.Rows L2
variable[FX]
end HP
namespace HP
open PySem PySem.Spec PyProof.Rows L2
section
variable[FX]{X:Cx}{e:Expr}{t:HM.TF}
theorem bU(i:Nat)(h:XT X e t):XT X e (HM.JS i t):=by intro r c hc pM s J H Q I ⟨F0,H0,F,at_,k⟩;obtain⟨F1,_,s1,a1⟩:=at_.freeze i;exact h (HM.QA i r) c hc pM s J H Q I ⟨F0,H0,F1,a1,λF' H' x=>k F H' ⟨Zp.refl F,x.hh,(s1.trans x.ff).trans x.sub,λ_ _ h=>.inl h,x.tab,id⟩⟩
end
end HP
namespace HP
open PySem PySem.W PyProof.Rows
section
variable{prog:Program}{w:World}{A:Around}{E:Value->Shared->Prop}{s:Shared}
theorem Vp:∀{vs:List Value} {ns:List Int},IntsAre vs ns->ItemsAre (intKind prog w) ns vs
 |_,_,.nil=>.nil
 |_,_,.cons n t h=>.cons (Jn _ _ _ _) (Vp h)
theorem aH{h:Heap}{b:Addr}{t:List Int}(x:TI h b t):IsTupleKey (intKind prog w) h t b:=by obtain⟨o,pO,n,e1,e2,e3,e4⟩:=x;exact⟨o,pO,n,e1,e2,e3,Vp e4⟩
end
end HP
namespace HP
open PySem PySem.Spec PyProof.Rows L2
variable[FX]
section
variable{X:Cx}{pM:List (Addr×Obj)}{J:L2.St}{H FS:Hp}{s:Shared}
theorem lg{K:Ae}{F:Hp}{t:List Int}{v:V}(rp:Rep K F (.tuple (HM.rW t)) v):∃c,v=.ref c/\F c=Z (.tup (t.map V.int)):=by
 generalize hq:HM.rW t=q at rp;cases rp with
 | @tupk b x h1 =>
  exfalso;cases t with
  |nil=>cases hq
  |cons a t =>
   injection hq with e1 _
   cases e1
 | @tup b _ xs hb hl hr=>subst hq;have ev:=Fo (F:=F) (O9 t) ⟨hl,hr⟩;subst ev;exact⟨b,rfl,hb⟩
variable{k:Nat}{params:Arguments}{body:Expr}{scope:Scope}{x:Str}{q:Addr}{ts:List (List Int)}{ws:List V}{pO:List Value}{P:PySem.Fin->Shared->Prop}{E:Value->Shared->Prop}
end
end HP
namespace HP
open PySem PySem.W PyProof.Rows
end HP
namespace HP
open PySem PySem.Spec PyProof.Rows L2
variable[FX]
end HP
namespace HP
open PySem PySem.Spec PySem.W PySem.Calls PyProof.Rows L2
variable[FX]
end HP
namespace HP
open PySem PyProof.Rows
section
variable{i j m:Nat}
def uk(m:Nat)(p:C3):C3 :=
 if p.more > 0 then {p with j:=p.j+1,more:=p.more-1}else
 {p with j:=(B3 m p.i p.perturb).1,more:=B0 m (B3 m p.i p.perturb).1-(B3 m p.i p.perturb).1,i:=(B3 m p.i p.perturb).1,perturb:=(B3 m p.i p.perturb).2}
def AH(m:Nat):Nat->C3->C3
 |0,p=>p
 |n+1,p=>AH m n (uk m p)
theorem Gh{m:Nat}:∀(a b:Nat) (p:C3),AH m (a+b) p=AH m b (AH m a p)
 |0,b,p=>by rw[Nat.zero_add];rfl
 |a+1,b,p=>by rw[Sg];exact Gh a b (uk m p)
theorem jc(n:Nat)(p:C3):AH m (n+1) p=uk m (AH m n p):=Gh n 1 p
theorem VW(p:C3):(uk m p).dummy=p.dummy:=by unfold uk;split<;>rfl
theorem WO{m:Nat}:∀(n:Nat) (p:C3),(AH m n p).dummy=p.dummy
 |0,_=>rfl
 |n+1,p=>(WO n (uk m p)).trans (VW p)
def t9(m:Nat)(h:Int):C3:=⟨AW h%(m+1),B0 m (AW h%(m+1))-AW h%(m+1),AW h%(m+1),AW h,Z_⟩
def qc(m:Nat)(h:Int)(k:Nat):Nat:=(AH m k (t9 m h)).j
def lst(m i b:Nat):C3:=⟨i,B0 m i-i,i,b,Z_⟩
def rZ(m:Nat):Nat->Nat×Nat->Nat×Nat
 |0,x=>x
 |n+1,x=>rZ m n (B3 m x.1 x.2)
theorem Kf{m:Nat}:∀(a b:Nat) (x:Nat×Nat),rZ m (a+b) x=rZ m b (rZ m a x)
 |0,b,x=>by rw[Nat.zero_add];rfl
 |a+1,b,x=>by rw[Sg];exact Kf a b _
theorem bD(m i:Nat):B0 m i-i<=9:=by unfold B0;split<;>omega
theorem OP(m i:Nat):i<=B0 m i:=by unfold B0;split<;>omega
theorem Uv(h:i<=m):B0 m i<=m:=by unfold B0;split<;>omega
theorem OQ{m:Nat}:∀(k j more i b:Nat),k<=more->AH m k ⟨j,more,i,b,Z_⟩=⟨j+k,more-k,i,b,Z_⟩
 |0,j,more,i,b,_=>rfl
 |k+1,j,0,i,b,h=>by omega
 |k+1,j,more+1,i,b,h=>by have e:uk m ⟨j,more+1,i,b,Z_⟩=⟨j+1,more,i,b,Z_⟩:=rfl;show AH m k (uk m ⟨j,more+1,i,b,Z_⟩)=_;rw[e,OQ k (j+1) more i b (by omega)];congr 1<;>omega
theorem Ue(j more i b:Nat):AH m (more+1) ⟨j,more,i,b,Z_⟩=lst m (B3 m i b).1 (B3 m i b).2:=by rw[jc,OQ more j more i b (Ai _),Nat.sub_self];rfl
theorem reach{m:Nat}:∀(n i b:Nat),∃N,N<=10*n/\n<=N/\AH m N (lst m i b)=lst m (rZ m n (i,b)).1 (rZ m n (i,b)).2
 |0,i,b=>⟨0,Ai _,Ai _,rfl⟩
 |n+1,i,b=>by obtain⟨N,h1,h2,h3⟩:=reach n (B3 m i b).1 (B3 m i b).2;have hr:=bD m i;refine⟨(B0 m i-i+1)+N,by omega,by omega,?_⟩;rw[Gh];have:AH m (B0 m i-i+1) (lst m i b)=lst m (B3 m i b).1 (B3 m i b).2:=Ue _ _ _ _;rw[this,h3];rfl
theorem OR{m:Nat}:∀(n i b:Nat),(rZ m n (i,b)).2=b / 32 ^ n
 |0,i,b=>by simp[rZ]
 |n+1,i,b=>by have:=OR (m:=m) n ((i*5+1+b / 32)%(m+1)) (b / 32);show(rZ m n ((i*5+1+b / 32)%(m+1),b / 32)).2=_;rw[this,Nat.div_div_eq_div_mul,Nat.pow_succ,Nat.mul_comm 32]
theorem UL(m i b:Nat):(B3 m i b).1<=m:=Lm (Nk _ (Lg m))
theorem TJ{m:Nat}:∀(n i b:Nat),i<=m->(rZ m n (i,b)).1<=m
 |0,i,b,h=>h
 |n+1,i,b,h=>TJ n _ _ (UL m i b)
def yR(m:Nat):Nat->Nat×Nat->List Nat
 |0,_=>[]
 |n+1,x=>x.1::yR m n (B3 m x.1 x.2)
theorem T5{m:Nat}:∀(n:Nat) (x:Nat×Nat) {j:Nat},j∈yR m n x->∃k,k<n/\(rZ m k x).1=j
 |0,x,j,h=>by cases h
 |n+1,x,j,h=>by
  rcases Ax.mp h with rfl|h
  .exact⟨0,Lg _,rfl⟩
  .obtain⟨k,hk,e⟩:=T5 n _ h
   exact⟨k+1,by omega,e⟩
def Mk(m:Nat):Prop:=m=7\/m=31\/m=127
theorem d8(hm:Mk m):((Ag (m+1)).all λj=>(yR m (m+1) (0,0)).contains j)=Aa/\(rZ m (m+1) (0,0))=(0,0):=by rcases hm with rfl|rfl|rfl<;>exact⟨by decide +kernel,by decide +kernel⟩
theorem en(n i:Nat):rZ m n (i,0)=((rZ m n (i,0)).1,0):=by have:=OR (m:=m) n i 0;rw[Nat.zero_div]at this;exact Prod.ext rfl this
theorem Y2(hm:Mk m)(hi:i<=m)(hj:j<=m):∃n,n<=m/\(rZ m n (i,0)).1=j:=by
 obtain⟨h1,h2⟩:=d8 hm;have key:∀x,x<=m->∃k,k<=m/\(rZ m k (0,0)).1=x:=λx hx=>by have:=Au.mp h1 x (As.mpr (Nat.lt_succ_of_le hx));obtain⟨k,hk,e⟩:=T5 _ _ (Sd.mp this);exact⟨k,Lm hk,e⟩
 obtain⟨a,ha,ea⟩:=key i hi;obtain⟨b,hb,eb⟩:=key j hj;have ei:rZ m a (0,0)=(i,0):=by rw[en,ea]
 by_cases hab:a<=b
 .refine⟨b-a,by omega,?_⟩
  rw[<-ei,<-Kf,Nat.add_sub_cancel' hab,eb]
 .refine⟨m+1+b-a,by omega,?_⟩
  rw[<-ei,<-Kf,show a+(m+1+b-a)=(m+1)+b by omega,Kf,h2,eb]
theorem eO(h:Int):AW h<2 ^ 64:=by unfold AW;omega
theorem Va(hm:Mk m)(h:Int)(hj:j<=m):∃n,n<=13+m/\(rZ m n (AW h%(m+1),AW h)).1=j:=by
 have hb:=eO h;have h13:=OR (m:=m) 13 (AW h%(m+1)) (AW h);have h65:(32:Nat) ^ 13=2 ^ 65:=by decide
 have hz:AW h / 32 ^ 13=0:=Nat.div_eq_of_lt (by rw[h65];omega);rw[hz]at h13;obtain⟨n,hn,e⟩:=Y2 hm (TJ 13 (AW h%(m+1)) (AW h) (Lm (Nk _ (Lg m)))) hj;refine⟨13+n,by omega,?_⟩;rw[Kf,show rZ m 13 (AW h%(m+1),AW h)=((rZ m 13 (AW h%(m+1),AW h)).1,0) from Prod.ext rfl h13];exact e
theorem jE(hm:Mk m)(h:Int)(hj:j<=m):∃N,N<10*D3 m/\qc m h N=j:=by obtain⟨n,hn,e⟩:=Va hm h hj;obtain⟨N,h1,_,h3⟩:=reach (m:=m) n (AW h%(m+1)) (AW h);refine⟨N,by unfold D3;omega,?_⟩;unfold qc;have:t9 m h=lst m (AW h%(m+1)) (AW h):=rfl;rw[this,h3];exact e
def yG(m:Nat)(p:C3):Prop:=p.i<=m/\p.j+p.more<=m
theorem cV{p:C3}(h:yG m p):yG m (uk m p):=by
 unfold uk;split
 .exact⟨h.1,by have:=h.2;dsimp only;omega⟩
 .have h1:=UL m p.i p.perturb
  have h2:=Uv h1;have h3:=OP m (B3 m p.i p.perturb).1;refine⟨h1,?_⟩;dsimp only;omega
theorem Uj{m:Nat}:∀(n:Nat) {p:C3},yG m p->yG m (AH m n p)
 |0,_,h=>h
 |n+1,p,h=>Uj n (cV h)
theorem O7(m:Nat)(h:Int)(k:Nat):qc m h k<=m:=by have h1:AW h%(m+1)<=m:=Lm (Nk _ (Lg m));have h2:=Uv h1;have h3:=OP m (AW h%(m+1));have:=(Uj (m:=m) k (p:=t9 m h) ⟨h1,by unfold t9;dsimp only;omega⟩).2;unfold qc;omega
theorem iM{t:SetTable}(hd:t.dummies=#[])(hr:CQ t.place)(j:Nat):(j∈t.place.toList/\∃i,t.slot j=.live i/\t.place[i]?=Z j)\/(j∉t.place.toList/\t.slot j=.empty):=by
 by_cases q:t.place[Am t.place j]?=Z j
 .left
  refine⟨?_,Am t.place j,?_,q⟩
  .rw[<-B5]at q
   exact Bf q
  .unfold R5
   dsimp only;rw[if_pos (by simpa using q)]
 .right
  constructor
  .intro hj
   obtain⟨i,hi,e⟩:=JE hj;obtain⟨b1,b2,b3⟩:=Hj hr j;have hi':i<t.place.size:=by simpa using hi
   have ge:t.place.getD i 0=j:=by simpa [CJ,hi']using e
   have ql:Am t.place j<=i:=by apply JG;intro z;have:=b2 i z;omega
   by_cases hq:Am t.place j=i
   .apply q
    rw[hq,EU hi'];simpa using e
   .have hl:Am t.place j<i:=by omega
    have h1:=hr.lt hi' hl;have h2:=b3 _ (Ai _) (by omega);omega
  .unfold R5
   dsimp only;rw[if_neg (by simpa using q),hd,has_none,if_neg (by simp)]
theorem UJ{t:SetTable}(hd:t.dummies=#[])(hr:CQ t.place)(hashAt:Nat->Int)(h:Int):∀(qa N:Nat) (p:C3),p.dummy=Z_->N<qa->(AH t.mask N p).j∉t.place.toList ->∃k,k<=N/\(∀k',k'<k->(AH t.mask k' p).j∈t.place.toList/\∀i,t.place[i]?=Z (AH t.mask k' p).j->hashAt i≠h) /\
      (((AH t.mask k p).j∉t.place.toList /\ Gv t hashAt h qa p = Z (.empty (AH t.mask k p).j Z_)) \/
        ((AH t.mask k p).j∈t.place.toList/\k<N/\∃i,t.slot (AH t.mask k p).j=.live i/\t.place[i]?=Z (AH t.mask k p).j/\hashAt i=h/\Gv t hashAt h qa p=Z (.candidate (AH t.mask k p).j i (AH t.mask (k+1) p))))
  | 0,N,p,_,hN,_=>by omega
  | qa + 1, N, p, hp, hN, he => by
    have inj:∀{i i':Nat} {j:Nat},t.place[i]?=Z j->t.place[i']?=Z j->i=i':=λ{i i' j} e1 e2=>by
      obtain⟨l1,f1⟩:=GI.mp e1
      obtain⟨l2,f2⟩:=GI.mp e2
      rcases Si i i' with z | z | z
      · have := hr.lt l2 z
        simp[CJ,l1,l2,f1,f2]at this
      · exact z
      · have := hr.lt l1 z
        simp[CJ,l1,l2,f1,f2]at this
    rcases iM hd hr p.j with⟨q,i,e,ei⟩ | ⟨q,e⟩
    · have hN0 : N ≠ 0 := fun z => by subst z; exact he q
      obtain⟨N',rfl⟩:∃N',N=N'+1:=⟨N-1,by omega⟩
      by_cases hq:hashAt i=h
      · refine ⟨0, Bw _, fun k' hk => absurd hk (Jw _), .inr ⟨q, Lg _, i, e, ei, hq, ?_⟩⟩
        unfold Gv
        rw[e]
        dsimp only
        rw[if_pos (by simpa using hq)]
        rfl
      · obtain ⟨k, hk, hb, hor⟩ := UJ hd hr hashAt h qa N' (uk t.mask p) ((VW p).trans hp) (by omega) he
        have uD:Gv t hashAt h (qa+1) p=Gv t hashAt h qa (uk t.mask p):=by
          conv=>lhs; unfold Gv
          rw[e]
          dsimp only
          rw[if_neg (by simpa using hq)]
          rfl
        refine⟨k+1,by omega,λk' hk'=>?_,?_⟩
        · cases k' with
          | zero=>exact⟨q,λi' e'=>by rw[inj e' ei]; exact hq⟩
          | succ k'=>exact hb k' (by omega)
        · rw [uD]
          rcases hor with⟨a1,a2⟩ | ⟨a1,a2,a3⟩
          · exact .inl ⟨a1,a2⟩
          · exact .inr ⟨a1,by omega,a3⟩
    · refine ⟨0, Bw _, fun k' hk => absurd hk (Jw _), .inl ⟨q, ?_⟩⟩
      unfold Gv
      rw[e,hp]
      rfl
end
section
variable{owner:Array (Option Nat)}{b:Bool}{hs:List Int}{j m:Nat}
def Fr(owner:Array (Option Nat))(j:Nat):Prop:=(owner.getD j (Z 0)).isNone=Aa
theorem OO:Fr owner j↔owner[j]?=Z Z_:=by
 unfold Fr;rw[N8];cases h:owner[j]? with
 |none=>simp
 |some x=>cases x<;>simp
theorem Ul{m:Nat}{owner:Array (Option Nat)}:∀(qa n i b:Nat),n<qa->Fr owner (rZ m n (i,b)).1 ->∃k,(∀k',k'<k->¬Fr owner (AH m k' (lst m i b)).j)/\Fr owner (AH m k (lst m i b)).j/\NU m owner qa i b=Z (AH m k (lst m i b)).j
 |0,n,i,b,h,_=>by omega
 |qa+1,n,i,b,h,hf=>by
  have hr:=OP m i;have uR:∀k,k<B0 m i+1-i->(AH m k (lst m i b)).j=i+k:=λk hk=>by unfold lst;rw[OQ k i _ i b (by omega)]
  unfold NU;cases q:(Ag (B0 m i+1-i)).find? λk=>(owner.getD (i+k) (Z 0)).isNone with
  |some k =>
   obtain⟨q1,q2,q3⟩:=Yd.mp q;have q2:=As.mp q2;refine⟨k,λk' hk' sW=>?_,?_,?_⟩
   .rw[uR k' (by omega)]at sW
    have:=q3 k' hk';unfold Fr at sW;rw[sW]at this;cases this
   .rw[uR k q2]
    exact q1
   .rw[uR k q2]
  |none =>
   have q':=List.find?_eq_none.mp q;have rA:∀k,k<B0 m i+1-i->¬Fr owner (i+k):=λk hk sW=>q' k (As.mpr hk) sW;have hn:n≠0:=λz=>by subst z;exact rA 0 (by omega) hf
   obtain⟨n',rfl⟩:∃n',n=n'+1:=⟨n-1,by omega⟩;obtain⟨k,k1,k2,k3⟩:=Ul qa n' (B3 m i b).1 (B3 m i b).2 (by omega) hf;have sN:AH m (B0 m i-i+1) (lst m i b)=lst m (B3 m i b).1 (B3 m i b).2:=Ue _ _ _ _;refine⟨B0 m i-i+1+k,λk' hk'=>?_,?_,?_⟩
   .by_cases hk:k'<B0 m i+1-i
    .rw[uR k' hk]
     exact rA k' hk
    .obtain⟨k'',rfl⟩:∃k'',k'=B0 m i-i+1+k'':=⟨k'-(B0 m i-i+1),by omega⟩
     rw[Gh,sN];exact k1 k'' (by omega)
   .rw[Gh,sN]
    exact k2
   .rw[Gh,sN]
    exact k3
theorem iZ(hm:Mk m)(h:Int)(hj:j<=m)(hf:Fr owner j):∃k,(∀k',k'<k->¬Fr owner (qc m h k'))/\Fr owner (qc m h k)/\NU m owner (D3 m) (AW h%(m+1)) (AW h)=Z (qc m h k):=by
 obtain⟨n,hn,e⟩:=Va hm h hj;exact Ul (D3 m) n _ _ (by unfold D3;omega) (by rw[e];exact hf)
structure EZ(m:Nat)(owner:Array (Option Nat))(hs:List Int):Prop where
 size:owner.size=m+1
 at_:∀(j k:Nat),owner[j]?=Z (Z k)->k<hs.length/\∃n,qc m (hs.getD k 0) n=j/\∀n',n'<n->∃k',owner[qc m (hs.getD k 0) n']?=Z (Z k')
 all:∀k,k<hs.length->∃j:Nat,owner[j]?=Z (Z k)
 one:∀(j j' k:Nat),owner[j]?=Z (Z k)->owner[j']?=Z (Z k)->j=j'
theorem EZ.nil(m:Nat):EZ m (Nn (m+1) Z_) []:=by
 have no:∀j k,(Nn (m+1) (Z_:Option Nat))[j]?≠Z (Z k):=λj k h=>by rw[Array.getElem?_replicate]at h;split at h<;>simp at h
 exact⟨Array.size_replicate,λj k h=>absurd h (no j k),λk hk=>absurd hk (Jw _),λj j' k h _=>absurd h (no j k)⟩
theorem EZ.room(o:EZ m owner hs)(hl:hs.length<=m):∃j,j<=m/\Fr owner j:=by
 apply FI;intro rA;have hk:∀j,j∈Ag (m+1)->∃k,owner[j]?=Z (Z k):=λj hj=>by
  have hj':=As.mp hj;have ql:j<owner.size:=by rw[o.size];exact hj'
  cases q:owner[j]with
  |none=>exact absurd ⟨j,by omega,OO.mpr (by rw[EU ql,q])⟩ rA
  |some k=>exact⟨k,by rw[EU ql,q]⟩
 let f:Nat->Nat:=λj=>(owner.getD j Z_).getD 0
 have hf:∀j k,owner[j]?=Z (Z k)->f j=k:=λj k e=>by show(owner.getD j Z_).getD 0=k;rw[N8,e];rfl
 have rF:((Ag (m+1)).map f).Nodup:=by refine JH.mpr (Ss (R:=λa b=>a<b) (λ{a b} ha hb hab e=>?_) NT);obtain⟨ka,ea⟩:=hk a ha;obtain⟨kb,eb⟩:=hk b hb;rw[hf a ka ea,hf b kb eb]at e;subst e;have:=o.one a b ka ea eb;omega
 have:=FJ (l₂:=Ag hs.length) rF λx hx=>by obtain⟨j,hj,rfl⟩:=Aj.mp hx;obtain⟨k,e⟩:=hk j hj;rw[hf j k e];exact As.mpr (o.at_ j k e).1
 rw[Af,C1,C1]at this;omega
def Ke(m:Nat)(acc:Option (Array (Option Nat)×Nat))(h:Int):Option (Array (Option Nat)×Nat):=do
 let (owner,k) <-acc
 let j <-NU m owner (D3 m) (AW h%(m+1)) (AW h)
 pure (owner.setIfInBounds j (Z k),k+1)
theorem kU(m:Nat)(hs:List Int):N0 m hs.toArray=(hs.foldl (Ke m) (Z (Nn (m+1) Z_,0))).map (·.1):=by unfold N0;rw[<-Array.foldl_toList];rfl
theorem U8{m:Nat}(hm:Mk m):∀(rest done:List Int) (owner:Array (Option Nat)),EZ m owner done->(done++rest).length<=m ->∃owner',rest.foldl (Ke m) (Z (owner,done.length))=Z (owner',(done++rest).length)/\EZ m owner' (done++rest)
 |[],done,owner,o,_=>⟨owner,by rw[BK];rfl,by rw[BK];exact o⟩
 |h::rest,done,owner,o,hl=>by
  rw[AB,Ay]at hl;obtain⟨j0,ze,hf0⟩:=o.room (by omega);obtain⟨k,k1,k2,k3⟩:=iZ hm h ze hf0;have hple:=O7 m h k;generalize hj:qc m h k=j at *;have hsz:j<owner.size:=by rw[o.size];omega
  have vd:∀x,(owner.setIfInBounds j (Z done.length))[x]?=if j=x then Z (Z done.length)else owner[x]?:=λx=>by
   rw[Array.getElem?_setIfInBounds]
   by_cases q:j=x
   .subst q;rw[if_pos rfl,if_pos hsz,if_pos rfl]
   .rw[if_neg q,if_neg q]
  have qX:=OO.mp k2;have uA:∀x y,owner[x]?=Z (Z y)->(owner.setIfInBounds j (Z done.length))[x]?=Z (Z y):=λx y e=>by rw[vd,if_neg (λz=>by subst z;rw[qX]at e;cases e)];exact e
  have hgd:∀x,x<done.length->(done++[h]).getD x 0=done.getD x 0:=λx hx=>by rw[GH,GH,Eo hx]
  have hgn:(done++[h]).getD done.length 0=h:=by rw[GH,D4 (Ai _),Nat.sub_self];rfl
  have o':EZ m (owner.setIfInBounds j (Z done.length)) (done++[h]):=by
   refine⟨by rw[Array.size_setIfInBounds];exact o.size,λx y e=>?_,λy hy=>?_,λx x' y e e'=>?_⟩
   .rw[vd]at e
    by_cases q:j=x
    .subst q
     rw[if_pos rfl]at e;cases e;refine⟨by simp,k,by rw[hgn];exact hj,λn' hn'=>?_⟩;rw[hgn];have yt:=k1 n' hn';have hpl:=O7 m h n';have ql:qc m h n'<owner.size:=by rw[o.size];omega
     cases q:owner[qc m h n']with
     |none=>exact absurd (OO.mpr (by rw[EU ql,q])) yt
     |some z=>exact⟨z,uA _ _ (by rw[EU ql,q])⟩
    .rw[if_neg q]at e
     obtain⟨a1,n,a2,a3⟩:=o.at_ x y e;refine⟨by rw[AB];omega,n,by rw[hgd y a1];exact a2,λn' hn'=>?_⟩;obtain⟨z,hz⟩:=a3 n' hn';rw[hgd y a1];exact⟨z,uA _ _ hz⟩
   .rw[AB,HQ]at hy
    by_cases q:y=done.length
    .subst q
     exact⟨j,by rw[vd,if_pos rfl]⟩
    .obtain⟨x,hx⟩:=o.all y (by omega)
     exact⟨x,uA _ _ hx⟩
   .rw[vd]at e e'
    by_cases q:j=x
    .by_cases q':j=x'
     .omega
     .rw[if_pos q]at e
      cases e;rw[if_neg q']at e';have:=(o.at_ x' _ e').1;omega
    .rw[if_neg q]at e
     by_cases q':j=x'
     .rw[if_pos q']at e'
      cases e';have:=(o.at_ x _ e).1;omega
     .rw[if_neg q']at e'
      exact o.one x x' y e e'
  have uD:Ke m (Z (owner,done.length)) h=Z (owner.setIfInBounds j (Z done.length),(done++[h]).length):=by unfold Ke;simp only[Option.bind_eq_bind,Option.bind_some];rw[k3];simp
  obtain⟨owner',e1,e2⟩:=U8 hm rest (done++[h]) _ o' (by simp;omega);refine⟨owner',?_,by simpa using e2⟩;rw[Eu,uD,e1];simp
theorem je(hm:Mk m)(hl:hs.length<=m):∃owner,N0 m hs.toArray=Z owner/\EZ m owner hs:=by obtain⟨owner,e,o⟩:=U8 hm hs [] _ (EZ.nil m) (by simpa using hl);refine⟨owner,?_,by simpa using o⟩;rw[kU];have:(hs.foldl (Ke m) (Z (Nn (m+1) Z_,0)))=_:=e;rw[this];rfl
structure tE(b:Bool)(t:SetTable)(hs:List Int):Prop where
 dum:t.dummies=#[]
 rise:CQ t.place
 led:t.led=b
 plain:t.plain=Aa
 mask:Mk t.mask
 top:∀j∈t.place.toList,j<=t.mask
 len:hs.length=t.place.size
 few:t.place.size<=t.mask
 path:∀q∈t.place.toList.zip hs,∃k,qc t.mask q.2 k=q.1/\∀k',k'<k->qc t.mask q.2 k'∈t.place.toList
theorem tE.fresh(b:Bool):tE b (NL 0 0 b) []:=⟨rfl,.nil,rfl,rfl,.inl rfl,λj hj=>by simp[NL]at hj,rfl,Bw _,λq hq=>by simp at hq⟩
theorem tE.fits{b:Bool}{t:SetTable}{hs:List Int}(h:tE b t hs){n:Nat}(hn:n=t.place.size):t.fits n=Aa:=by have:=h.few;unfold Ju GG;rw[h.dum,hn];simpa using this
theorem tE.free{t:SetTable}(h:tE b t hs):∃j,j<=t.mask/\j∉t.place.toList:=by
 apply FI;intro rA;have:=FJ (l₁:=Ag (t.mask+1)) (l₂:=t.place.toList) List.nodup_range λx hx=>by apply FI;intro q;exact rA ⟨x,Lm (As.mp hx),q⟩
 have hf:=h.few;rw[C1,A2]at this;omega
theorem i5(hm:Mk m)(hl:hs.length<=m)(fg mv:Nat)(ld:Bool):∃t qk,R4 m fg mv ld Aa hs.toArray=Z (t,qk)/\qk.toList.Perm (Ag hs.length)/\tE ld t (qk.toList.map λk=>hs.getD k 0)/\t.mask=m:=by
 obtain⟨owner,e,o⟩:=je hm hl;generalize hlive:(Ag (m+1)).filterMap (λj=>(owner.getD j Z_).map (j,·))=live;have rR:∀j k,(owner.getD j Z_).map (j,·)=Z k↔k.1=j/\owner[j]?=Z (Z k.2):=λj k=>by
  rw[N8,Al]
  constructor
  .rintro ⟨y,hy,rfl⟩
   refine⟨rfl,?_⟩;cases q:owner[j]? with
   |none=>rw[q]at hy;cases hy
   |some z=>rw[q]at hy;exact congrArg Z hy
  .rintro ⟨h1,h2⟩
   exact⟨k.2,by rw[h2];rfl,by rw[<-h1]⟩
 have qi:∀k:Nat×Nat,k∈live↔owner[k.1]?=Z (Z k.2):=λk=>by
  rw[<-hlive,Cf]
  constructor
  .rintro ⟨j,_,h2⟩
   obtain⟨rfl,h4⟩:=(rR j k).mp h2;exact h4
  .intro h
   refine⟨k.1,As.mpr ?_,(rR k.1 k).mpr ⟨rfl,h⟩⟩;rw[<-o.size];exact(GI.mp h).1
 have hup:live.Pairwise λa b=>a.1<b.1:=by rw[<-hlive];refine List.Pairwise.filterMap _ (λa a' haa b hb b' hb'=>?_) NT;obtain⟨h1,_⟩:=(rR a b).mp hb;obtain⟨h2,_⟩:=(rR a' b').mp hb';omega
 have tT:(live.map (·.2)).Perm (Ag hs.length):=by
  refine(List.perm_ext_iff_of_nodup ?_ List.nodup_range).mpr λk=>?_
  .refine JH.mpr (Ss (λ{a b} ha hb hab e=>?_) hup)
   have h1:=(qi a).mp ha;have h2:=(qi b).mp hb;rw[e]at h1;have:=o.one _ _ _ h1 h2;omega
  .rw[As]
   constructor
   .intro h
    obtain⟨x,hx,rfl⟩:=Aj.mp h;exact(o.at_ _ _ ((qi x).mp hx)).1
   .intro h
    obtain⟨j,hj⟩:=o.all k h;exact Aj.mpr ⟨(j,k),(qi (j,k)).mpr hj,rfl⟩
 have pP:live.length=hs.length:=by
  have:=tT.length_eq
  rwa [Af,C1]at this
 refine⟨{mask:=m,place:=(live.map (·.1)).toArray,dummies:=#[],finger:=fg,led:=ld,moves:=mv,plain:=Aa},(live.map (·.2)).toArray,?_,by simpa using tT,⟨rfl,?_,rfl,rfl,hm,?_,by simp,?_,?_⟩,rfl⟩
 .unfold R4
  rw[e];show Z _=_;rw[hlive]
 .show(live.map (·.1)).Pairwise _
  exact JH.mpr hup
 .intro j hj
  obtain⟨x,hx,rfl⟩:=Aj.mp (show j∈live.map (·.1) from hj);have:=(GI.mp ((qi x).mp hx)).1;have:=o.size;dsimp only;omega
 .show(live.map (·.1)).length<=m
  rw[Af,pP];exact hl
 .intro q hq
  have hz:(live.map (·.1)).zip ((live.map (·.2)).map λk=>hs.getD k 0)=live.map λx=>(x.1,hs.getD x.2 0):=by rw[Av,List.zip_map'];rfl
  have hq':q∈(live.map (·.1)).zip ((live.map (·.2)).map λk=>hs.getD k 0):=hq;rw[hz]at hq';obtain⟨x,hx,rfl⟩:=Aj.mp hq';obtain⟨_,n,h1,h2⟩:=o.at_ _ _ ((qi x).mp hx);refine⟨n,h1,λn' hn'=>?_⟩;obtain⟨k',hk'⟩:=h2 n' hn';exact Aj.mpr ⟨(_,k'),(qi (_,k')).mpr hk',rfl⟩
theorem UM{α β:Type}:∀(n:Nat) (l:List α) (r:List β),(l.zip r).take n=(l.take n).zip (r.take n)
 |0,_,_=>rfl
 |n+1,[],_=>rfl
 |n+1,x::l,[]=>rfl
 |n+1,x::l,y::r=>congrArg ((x,y)::·) (UM n l r)
theorem UX{α β:Type}:∀(n:Nat) (l:List α) (r:List β),(l.zip r).drop n=(l.drop n).zip (r.drop n)
 |0,_,_=>rfl
 |n+1,[],_=>rfl
 |n+1,x::l,[]=>by simp
 |n+1,x::l,y::r=>UX n l r
theorem tE.ins{t:SetTable}(T:tE b t hs){h:Int}{k:Nat}(hj:qc t.mask h k∉t.place.toList)(hb:∀k',k'<k->qc t.mask h k'∈t.place.toList)(hf:t.place.size+1<=t.mask):tE b {t with place:=AK t.place (Am t.place (qc t.mask h k)) (qc t.mask h k)} (hs.take (Am t.place (qc t.mask h k))++h::hs.drop (Am t.place (qc t.mask h k))):=by
 have hpl:=O7 t.mask h k;generalize hjj:qc t.mask h k=j at *;have e2:t.place[Am t.place j]?≠Z j:=λe=>hj (by rw[<-B5]at e;exact Bf e);obtain⟨b1,_,_⟩:=Hj T.rise j;have hins:=LB t.place (Am t.place j) j;have qi:∀x,x∈t.place.toList->x∈(AK t.place (Am t.place j) j).toList:=λx hx=>by refine(FL t.place (Am t.place j) j).mem_iff.mpr ?_;rw[FF];exact Er _ hx
 have uR:j∈(AK t.place (Am t.place j) j).toList:=by refine(FL t.place (Am t.place j) j).mem_iff.mpr ?_;rw[FF];exact B6 _ (AG.mpr rfl)
 refine⟨T.dum,QL T.rise e2,T.led,T.plain,T.mask,λx hx=>?_,?_,?_,λq hq=>?_⟩
 .have:=(FL t.place (Am t.place j) j).mem_iff.mp hx
  rw[FF]at this;rcases A8.mp this with q|q
  .exact T.top x q
  .rw[AG.mp q];exact hpl
 .dsimp only
  rw[pX,AB,Ay,DG,HW,T.len];omega
 .dsimp only
  rw[pX];exact hf
 .dsimp only at hq ⊢
  rw[hins]at hq;rw[List.zip_append (by rw[DG,DG,T.len,A2])]at hq;have old:q∈t.place.toList.zip hs->∃k,qc t.mask q.2 k=q.1/\∀k',k'<k->qc t.mask q.2 k'∈(AK t.place (Am t.place j) j).toList:=λhq=>by obtain⟨k,h1,h2⟩:=T.path q hq;exact⟨k,h1,λk' hk'=>qi _ (h2 k' hk')⟩
  rcases A8.mp hq with z|z
  .refine old ?_
   rw[<-UM]at z;exact Sa z
  .rw[List.zip_cons_cons]at z
   rcases Ax.mp z with z|z
   .subst z
    exact⟨k,hjj,λk' hk'=>qi _ (hb k' hk')⟩
   .refine old ?_
    rw[<-UX]at z;exact List.mem_of_mem_drop z
end
section
variable{x:Addr}{Q:Bool->Shared->Prop}{ks:List Int}
section
variable{prog:Program}{w:World}{A:Around}{E:Value->Shared->Prop}{s:Shared}{a:Addr}
theorem U3(hk:IsTupleKey (intKind prog w) s.heap ks x)(h:Q Ab s):wpAny (model prog w) A (N7 8 (.ref x)) Q E s:=by
 have hT:=hk.typeIs;obtain⟨o,items,n,ho,_,hd,hi⟩:=hk;unfold N7;refine Ac (wpAny_typeOf hT ?_);dsimp only;rw[if_pos (by decide)];refine Ac (Ad ?_);simp only[Jt,BR,if_false];refine Ac (Lq ho hd ?_);dsimp only;refine Ac ?_;show wpAny _ _ (forIn items _ _) _ _ s;rw[<-Array.forIn_toList];refine RP _ (λrest r s'=>r.1=Z_/\s'=s/\∀v∈rest,NC v=Aa) _ ?_ ?_ _ _ ⟨rfl,rfl,hi.byValue⟩
 .rintro v rest r s' ⟨hr,rfl,qQ⟩
  have hv:=qQ v An;have e:N7 7 v=pure Ab:=by
   cases v with
   |ref a=>simp[NC]at hv
   |_=>unfold N7;rfl
  rw[e];refine Ac (Ad ?_);simp only[BR,if_false];exact Ad ⟨rfl,rfl,λu hu'=>qQ u (Ao _ hu')⟩
 .rintro ⟨r1,r2⟩ s' ⟨hr,rfl,_⟩
  simp only at hr;subst hr;exact Ad h
theorem dO(hk:IsTupleKey (intKind prog w) s.heap ks x)(ys:List Value)(hy:∀y∈ys,∃z t,y=.ref z/\IsTupleKey (intKind prog w) s.heap t z)(h:Q Ab s):wpAny (model prog w) A (searchCouldBeSeen (.ref x) ys) Q E s:=by
 unfold searchCouldBeSeen;refine Ac ?_;refine RP _ (λrest r s'=>r.1=Z_/\s'=s/\∀y∈rest,∃z t,y=.ref z/\IsTupleKey (intKind prog w) s.heap t z) _ ?_ ?_ _ _ ⟨rfl,rfl,hy⟩
 .rintro v rest r s' ⟨hr,rfl,qQ⟩
  obtain⟨z,t,rfl,hz⟩:=qQ v An;have vT:∀y∈rest,∃z t,y=.ref z/\IsTupleKey (intKind prog w) s'.heap t z:=λu hu'=>qQ u (Ao _ hu');dsimp only
  by_cases q:(x==z||NC (.ref x)&&NC (.ref z))=Aa
  .rw[if_pos q]
   exact Ad ⟨rfl,rfl,vT⟩
  .rw[if_neg q]
   refine Ac (wpAny_eqIsQuiet_tuple hk ?_);simp only[Jt,BR,if_false];refine Ac (wpAny_eqIsQuiet_tuple hz ?_);simp only[Jt,BR,if_false];refine Ac (U3 hk ?_);simp only[BR,if_false];refine Ac (U3 hz ?_);simp only[BR,if_false];exact Ad ⟨rfl,rfl,vT⟩
 .rintro ⟨r1,r2⟩ s' ⟨hr,rfl,_⟩
  simp only at hr;subst hr;exact Ad h
theorem jI(hk:IsTupleKey (intKind prog w) s.heap ks x)(h:Q Aa s):wpAny (model prog w) A (Nf 8 (.ref x)) Q E s:=by
 have hT:=hk.typeIs;obtain⟨o,items,n,ho,_,hd,hi⟩:=hk;have qQ:∀v∈items.toList,∃m t,v=.int m t:=by
  have:∀{l:List Int} {vs:List Value},ItemsAre (intKind prog w) l vs->∀v∈vs,∃m t,v=CZ m t:=by
   intro l vs hx
   induction hx with
   |nil=>intro v hv;cases hv
   | @cons k v ks vs h1 _ ih =>
    intro u hu;rcases Ax.mp hu with rfl|hu
    .obtain⟨t,rfl⟩:=Value.isInt_shape h1
     exact⟨_,_,rfl⟩
    .exact ih u hu
  exact this hi
 unfold Nf;refine Ac (RM hT F.slot_tuple_hash.lookup ?_);dsimp only;refine Ac (Lq ho hd ?_);refine Ac ?_;show wpAny _ _ (forIn items _ _) _ _ s;rw[<-Array.forIn_toList];refine RP _ (λrest r s'=>r.1=Z_/\s'=s/\∀v∈rest,∃m t,v=.int m t) _ ?_ ?_ _ _ ⟨rfl,rfl,qQ⟩
 .rintro v rest r s' ⟨hr,rfl,qQ⟩
  obtain⟨m,t,rfl⟩:=qQ v An;have e:Nf 7 (.int m t)=pure Aa:=by unfold Nf;rfl
  rw[e];refine Ac (Ad ?_);simp only[Jt,BR,if_false];exact Ad ⟨rfl,rfl,λu hu'=>qQ u (Ao _ hu')⟩
 .rintro ⟨r1,r2⟩ s' ⟨hr,rfl,_⟩
  simp only at hr;subst hr;exact Ad h
end
end
section
variable(prog:Program)(w:World)
abbrev hT(t:List Int):Int:=tupleKeyHash (intKind prog w) t
abbrev eT(q:List Int×Addr):Int×Value:=(hT prog w q.1,.ref q.2)
def Cj(h:Heap)(a:Addr)(X:List (List Int×Addr)):Prop:=∃(o:Obj) (es:Array (Int×Value)) (ep:Nat) (t:SetTable) (xs:List (List Int×Addr)),h.get? a=Z o/\o.ExactSet/\o.data=.set es ep t/\es.toList=xs.map (eT prog w) /\
 xs.Perm X/\tE (!w.params.followText "set-order") t (xs.map λq=>hT prog w q.1)/\t.place.size*5<t.mask*3
end
section
variable{prog:Program}{w:World}{A:Around}{E:Value->Shared->Prop}{s:Shared}{a:Addr}
theorem cz{m:Nat}(h:Mk m):(m%2==0)=Ab:=by rcases h with rfl|rfl|rfl<;>rfl
theorem er{o:Obj}{es:Array (Int×Value)}{ep:Nat}{t:SetTable}{xs:List (List Int×Addr)}{b:Bool}{x:Addr}{key:List Int}{Q:SetFound->Shared->Prop}(hu:A.units<cLine)(ho:s.heap.get? a=Z o)(hd:o.data=.set es ep t)(he:es.toList=xs.map (eT prog w))(hx:∀q∈xs,IsTupleKey (intKind prog w) s.heap q.1 q.2)(T:tE b t (xs.map λq=>hT prog w q.1))(hk:IsTupleKey (intKind prog w) s.heap key x)(h1:key∈xs.map (·.1)->Q (.there Z_) s)(h2:key∉xs.map (·.1)->∀k,qc t.mask (hT prog w key) k∉t.place.toList->(∀k',k'<k->qc t.mask (hT prog w key) k'∈t.place.toList)->Q (.free (qc t.mask (hT prog w key) k) Ab) s):wpAny (model prog w) A (setSearch a (.ref x) (hT prog w key) Aa) Q E s:=by
 have pP:es.size=xs.length:=by rw[<-A2,he,Af]
 have vC:t.place.size=xs.length:=by rw[<-T.len,Af]
 have sq:t.fits es.size=Aa:=T.fits (by rw[pP,vC]);have vG:∀i,es[i]?=xs[i]?.map (eT prog w):=λi=>by rw[<-B5,he,AE]
 obtain⟨j0,ze,xi⟩:=T.free;obtain⟨N,hN,zv⟩:=jE T.mask (hT prog w key) ze;rw[<-zv]at xi;have hturn:10*D3 t.mask<=1420:=by unfold D3;rcases T.mask with e|e|e<;>rw[e]<;>decide
 have main:∀(qa n:Nat) (rU:Option C3),N<n+qa->n<=N->rU.getD (t.probeStart (hT prog w key))=AH t.mask n (t9 t.mask (hT prog w key)) ->
   (∀k',k'<n->qc t.mask (hT prog w key) k'∈t.place.toList/\∀(i:Nat) (q:List Int×Addr),t.place[i]?=Z (qc t.mask (hT prog w key) k')->xs[i]?=Z q->q.1≠key) ->
   wpAny (model prog w) A (NN a (.ref x) (hT prog w key) Aa qa rU) Q E s:=by
  intro qa
  induction qa with
  |zero=>intro n rU h1 h2;omega
  |succ qa ih =>
   intro n rU hf hn sS hbef;unfold NN;refine Ac (FE ho hd sq ?_);dsimp only;have hgw:t.gaveWay=Ab:=cz T.mask;rw[hgw];simp only[BR,if_false];have vS:∀F:Nat->Int,(∀i,F i=(es[i]?.map (·.1)).getD 0)->∃k,k<=N-n/\(∀k',k'<k->qc t.mask (hT prog w key) (n+k')∈t.place.toList/\∀i:Nat,t.place[i]?=Z (qc t.mask (hT prog w key) (n+k'))->(es[i]?.map (·.1)).getD 0≠hT prog w key) /\
     ((qc t.mask (hT prog w key) (n+k)∉t.place.toList/\t.probe F (hT prog w key) (rU.getD (t.probeStart (hT prog w key)))=Z (.empty (qc t.mask (hT prog w key) (n+k)) Z_)) \/
     (qc t.mask (hT prog w key) (n+k)∈t.place.toList/\k<N-n/\∃i:Nat,t.slot (qc t.mask (hT prog w key) (n+k))=.live i/\t.place[i]?=Z (qc t.mask (hT prog w key) (n+k))/\(es[i]?.map (·.1)).getD 0=hT prog w key /\
      t.probe F (hT prog w key) (rU.getD (t.probeStart (hT prog w key)))=Z (.candidate (qc t.mask (hT prog w key) (n+k)) i (AH t.mask (n+k+1) (t9 t.mask (hT prog w key)))))):=λF hF=>by
    rw[sS];have hp:∀k,(AH t.mask k (AH t.mask n (t9 t.mask (hT prog w key)))).j=qc t.mask (hT prog w key) (n+k):=λk=>by rw[<-Gh];rfl
    have hp':∀k,AH t.mask k (AH t.mask n (t9 t.mask (hT prog w key)))=AH t.mask (n+k) (t9 t.mask (hT prog w key)):=λk=>(Gh n k _).symm;have:=UJ T.dum T.rise F (hT prog w key) (10*D3 t.mask) (N-n) (AH t.mask n (t9 t.mask (hT prog w key))) (by rw[WO];rfl) (by omega) (by rw[hp,show n+(N-n)=N by omega];exact xi);simp only[hp]at this;simp only[hp',hF]at this;exact this
   generalize hg:(rU.getD (t.probeStart (hT prog w key)))=st at vS ⊢;obtain⟨k,yx,uQ,hk3⟩:=vS _ (λi=>rfl);have hbef':∀k',k'<n+k->qc t.mask (hT prog w key) k'∈t.place.toList/\∀(i:Nat) (q:List Int×Addr),t.place[i]?=Z (qc t.mask (hT prog w key) k')->xs[i]?=Z q->q.1≠key:=λk' hk'=>by
    by_cases z:k'<n
    .exact hbef k' z
    .obtain⟨c,rfl⟩:∃c,k'=n+c:=⟨k'-n,by omega⟩
     obtain⟨z1,z2⟩:=uQ c (by omega);refine⟨z1,λi q e1 e2 e3=>z2 i e1 ?_⟩;rw[vG,e2];show hT prog w q.1=_;rw[e3]
   rcases hk3 with⟨a1,a2⟩|⟨a1,a2,i,a3,a4,a5,a6⟩
   .have a2':∀F:Nat->Int,F=(λi=>(es[i]?.map (·.1)).getD 0)->t.probe F (hT prog w key) st=Z (.empty (qc t.mask (hT prog w key) (n+k)) Z_):=λF e=>by rw[e];exact a2
    rw[a2']
    rotate_left
    .rfl
    dsimp only;refine Ad (h2 (λhm=>?_) (n+k) a1 λk' hk'=>(hbef' k' hk').1);obtain⟨q,hq,rfl⟩:=Aj.mp hm;obtain⟨i,hi,e⟩:=JE hq;have hi':i<t.place.size:=by omega
    have e1:xs[i]?=Z q:=by rw[AN hi,e]
    have e2:t.place[i]?=Z t.place[i]:=EU hi';have hz:(t.place[i],hT prog w q.1)∈t.place.toList.zip (xs.map λq=>hT prog w q.1):=by refine Bf (i:=i) ?_;rw[Yh];refine⟨by rw[B5];exact e2,?_⟩;rw[AE,e1];rfl
    obtain⟨kk,b1,b2⟩:=T.path _ hz;dsimp only at b1 b2;rcases Si kk (n+k)with z|z|z
    .exact(hbef' kk z).2 i q (by rw[b1];exact e2) e1 rfl
    .rw[<-z,b1]at a1
     exact a1 (Array.getElem_mem_toList hi')
    .exact a1 (b2 _ z)
   .have a6':∀F:Nat->Int,F=(λi=>(es[i]?.map (·.1)).getD 0)->t.probe F (hT prog w key) st=Z (.candidate (qc t.mask (hT prog w key) (n+k)) i (AH t.mask (n+k+1) (t9 t.mask (hT prog w key)))):=λF e=>by rw[e];exact a6
    rw[a6']
    rotate_left
    .rfl
    dsimp only;have hi:i<xs.length:=by have:=(GI.mp a4).1;omega
    have e1:xs[i]?=Z xs[i]:=AN hi;have ei:es[i]?=Z (eT prog w xs[i]):=by rw[vG,e1];rfl
    have hy:=hx _ (FD hi);generalize xs[i]=y at *;have rest:wpAny (model prog w) A (do
      let Z (_,y):=es[i]?|Nh "internal:set-entry"
      let equal <-holding [y] (eqBool y (.ref x))
      let (es',_,t') <-setState a
      if Aa&&equal then return .there Z_
      let Z same:=t'.sameMemory t.moves t.mask|Nh "set.changed-during-lookup:is-the-new-block-at-the-old-address"
      let still <-match(if same then t'.slot (qc t.mask (hT prog w key) (n+k))else .empty)with
       | .live i'=>match es'[i']? with
        |some (_,y')=>do pure (if <-isSame y' y then Z i' else Z_)
        |none=>pure Z_
       |_=>pure Z_
      match still with
      |none=>rule "set.search.anew";NN a (.ref x) (hT prog w key) Aa qa Z_
      |some i'=>if equal then return .there (Z i')else NN a (.ref x) (hT prog w key) Aa qa (Z (AH t.mask (n+k+1) (t9 t.mask (hT prog w key))))) Q E s:=by
     rw[ei];dsimp only;refine Ac (B4 (wpAny_eqBool_tuple hu hy hk ?_));refine Ac (FE ho hd sq ?_);dsimp only
     by_cases q:y.1=key
     .rw[decide_eq_true q]
      simp only[R3,↓reduceIte];exact Ad (h1 (Aj.mpr ⟨y,Bf e1,q⟩))
     .rw[decide_eq_false q]
      simp only[Ls,BR,↓reduceIte];have y0:t.sameMemory t.moves t.mask=Z Aa:=by unfold SetTable.sameMemory;rw[if_pos (beq_self_eq_true _)]
      rw[y0];dsimp only;simp only[↓reduceIte];rw[a3];dsimp only;rw[ei];dsimp only;refine Ac (wpAny_isSame_ref_self (Ac (Ad ?_)));simp only[↓reduceIte];refine ih (n+k+1) _ (by omega) (by omega) rfl λk' hk'=>?_
      by_cases z:k'<n+k
      .exact hbef' k' z
      .obtain rfl:k'=n+k:=by omega
       refine⟨a1,λi' q' f1 f2=>?_⟩;have:i'=i:=by
        obtain⟨l1,g1⟩:=GI.mp f1;obtain⟨l2,g2⟩:=GI.mp a4;rcases Si i' i with z|z|z
        .have:=T.rise.lt l2 z
         simp[CJ,l1,l2,g1,g2]at this
        .exact z
        .have:=T.rise.lt l1 z
         simp[CJ,l1,l2,g1,g2]at this
       subst this;rw[e1]at f2;cases f2;exact q
    by_cases hl:t.led=Aa
    .rw[hl]
     simp only[Jt,BR,if_false];exact rest
    .rw[Bool.not_eq_true]at hl
     rw[hl];simp only[NK,if_true];refine Ac (dO hk _ (λy hy=>?_) ?_)
     .obtain⟨e,he',rfl⟩:=Aj.mp hy
      have hm:e∈es.toList:=by have:=Yz.mp he';have:=(Array.mem_filter.mp this).1;exact Yz.mpr this
      rw[he]at hm;obtain⟨q,hq,rfl⟩:=Aj.mp hm;exact⟨q.2,q.1,rfl,hx q hq⟩
     .simp only[BR,if_false]
      exact rest
 exact main 100000 0 Z_ (by omega) (Bw _) rfl λk' hk'=>absurd hk' (Jw _)
end
section
variable{prog:Program}{w:World}{A:Around}{E:Value->Shared->Prop}{s:Shared}{a:Addr}{Y:List (List Int×Addr)}
theorem d7{t:SetTable}(h:t.dummies=#[])(j:Nat):t.put j=({t with place:=AK t.place (Am t.place j) j},Am t.place j):=by
 unfold SetTable.put;dsimp only;rw[h,has_none];cases t
 simp_all
def AU(Y:List (List Int×Addr))(q:List Int×Addr):List (List Int×Addr):=if(Y.map (·.1)).contains q.1 then Y else Y++[q]
theorem Cj.at'{h h':Heap}(x:Cj prog w h a Y)(k:∀o,h.get? a=Z o->h'.get? a=Z o):Cj prog w h' a Y:=let ⟨o,es,ep,t,xs,h1,r⟩:=x;⟨o,es,ep,t,xs,k _ h1,r⟩
theorem bu{b:Bool}{t:SetTable}{es:Array (Int×Value)}{xs:List (List Int×Addr)}(T:tE b t (xs.map λq=>hT prog w q.1))(he:es.toList=xs.map (eT prog w)){uJ m:Nat}(hw:N5 uJ-1=m)(hm:Mk m)(hl:xs.length<=m):∃(t':SetTable) (qk:Array Nat) (xs':List (List Int×Addr)),t.relaid (es.map (·.1)) uJ=Z (t',qk)/\(qk.filterMap (es[·]?)).toList=xs'.map (eT prog w)/\xs'.Perm xs/\tE b t' (xs'.map λq=>hT prog w q.1)/\t'.mask=m:=by
 have hh:es.map (·.1)=(xs.map λq=>hT prog w q.1).toArray:=by apply RS.mp;rw[Array.toList_map,he,Av];rfl
 obtain⟨t',qk,e1,e2,e3,e4⟩:=i5 hm (hs:=xs.map λq=>hT prog w q.1) (by rw[Af];exact hl) t.finger (t.movedTo m) t.led;rw[Af]at e2;have vG:∀i:Nat,es[i]?=xs[i]?.map (eT prog w):=λi=>by rw[<-B5,he,AE]
 have uR:∀k∈qk.toList,k<xs.length:=λk hk=>As.mp (e2.mem_iff.mp hk);have sE:∀k,k<xs.length->xs[k]?=Z (xs.getD k ([],0)):=λk hk=>by rw[GH,AN hk];rfl
 refine⟨t',qk,qk.toList.map λk=>xs.getD k ([],0),?_,?_,?_,?_,e4⟩
 .unfold SetTable.relaid
  rw[hw,hh,T.plain];exact e1
 .rw[Yv,Av]
  have:∀l:List Nat,(∀k∈l,k<xs.length)->l.filterMap (λk=>es[k]?)=l.map (eT prog w∘λk=>xs.getD k ([],0)):=by
   intro l
   induction l with
   |nil=>intro _;rfl
   |cons k l ih=>intro hl;have h1:=hl k (An ..);rw[DE,vG,sE k h1,ih λx hx=>hl x (Ao _ hx)];rfl
  exact this _ uR
 .refine(e2.map _).trans (.of_eq ?_)
  apply List.ext_getElem?;intro i;rw[AE]
  by_cases hi:i<xs.length
  .rw[R9 hi]
   exact(sE i hi).symm
  .rw[JC (by rw[C1];omega),JC (by omega)]
   rfl
 .have hc:(qk.toList.map λk=>xs.getD k ([],0)).map (λq=>hT prog w q.1)=qk.toList.map λk=>(xs.map λq=>hT prog w q.1).getD k 0:=by
   rw[Av];refine FK λk hk=>?_;rw[GH,AE,sE k (uR k hk)];rfl
  rw[hc,<-T.led];exact e3
theorem gR{x:Addr}{key:List Int}{Q:Bool->Shared->Prop}(hu:A.units<cLine)(hX:Cj prog w s.heap a Y)(hY:∀q∈Y,IsTupleKey (intKind prog w) s.heap q.1 q.2)(hk:IsTupleKey (intKind prog w) s.heap key x)(hL:Y.length<64)(h:∀b h',El a s.heap h'->Cj prog w h' a (AU Y (key,x))->Q b {s with heap:=h'}):wpAny (model prog w) A (Nc a (.ref x) (hT prog w key)) Q E s:=by
 obtain⟨o,es,ep,t,xs,ho,sC,hd,he,sm,T,xS⟩:=hX;have hx:∀q∈xs,IsTupleKey (intKind prog w) s.heap q.1 q.2:=λq hq=>hY q (sm.mem_iff.mp hq);have pP:es.size=xs.length:=by rw[<-A2,he,Af]
 have vC:t.place.size=xs.length:=by rw[<-T.len,Af]
 have hLx:Y.length=xs.length:=sm.length_eq.symm;have sq:t.fits es.size=Aa:=T.fits (by rw[pP,vC]);unfold Nc setAddHashedIn;refine B4 (Ac (FE ho hd sq ?_));dsimp only;have hbs:byScan (.ref x) es=Ab:=rfl;rw[hbs];simp only[BR,if_false];refine Ac (er hu ho hd he hx T hk (λhm=>?_) λhm k yx uQ=>?_)
 .dsimp only
  refine Ad ?_;have e:s={s with heap:=s.heap}:=by cases s;rfl
  rw[e];refine h Ab s.heap (Sl a s.heap) ⟨o,es,ep,t,xs,ho,sC,hd,he,?_,T,xS⟩;unfold AU;rw[if_pos (Sd.mpr ((sm.map _).mem_iff.mp hm))];exact sm
 .dsimp only
  refine Ac (FE ho hd sq ?_);dsimp only;rw[d7 T.dum];dsimp only;have uE:=T.mask;have hmle:t.mask<=127:=by rcases uE with e|e|e<;>omega
  have rf:t.place.size+1<=t.mask:=by rcases uE with e|e|e<;>omega
  have T1:=T.ins yx uQ rf;have hpl:=T.plain;generalize hp:Am t.place (qc t.mask (hT prog w key) k)=p at *;generalize hj:qc t.mask (hT prog w key) k=j at *;have hple:p<=xs.length:=by rw[<-hp,<-vC];exact(Hj T.rise j).1
  rw[hpl];simp only[↓reduceIte];refine Ac (jI hk ?_);simp only[↓reduceIte];have xo:(AK es p (hT prog w key,A6 x)).toList=(xs.take p++(key,x)::xs.drop p).map (eT prog w):=by rw[LB,he,Br,Ak,NA,Nz]
  have zi:(xs.map λq=>hT prog w q.1).take p++hT prog w key::(xs.map λq=>hT prog w q.1).drop p=(xs.take p++(key,x)::xs.drop p).map λq=>hT prog w q.1:=by rw[Br,Ak,NA,Nz]
  rw[zi]at T1;have t4:(xs.take p++(key,x)::xs.drop p).Perm (AU Y (key,x)):=by unfold AU;rw[if_neg (λz=>hm ((sm.map _).mem_iff.mpr (Sd.mp z)))];refine List.perm_middle.trans ?_;rw[Yn];exact(List.perm_append_singleton _ _).symm.trans (sm.append_right _)
  have sV:(xs.take p++(key,x)::xs.drop p).length=xs.length+1:=by rw[AB,Ay,DG,HW];omega
  have se:(AK es p (hT prog w key,A6 x)).size=es.size+1:=pX _ _ _;have tK:(AK t.place p j).size=t.place.size+1:=pX _ _ _;generalize hE:AK es p (hT prog w key,A6 x)=qT at xo se ⊢;generalize hX1:xs.take p++(key,x)::xs.drop p=xs1 at *;have xb:qT.size<=sizeLine:=by rw[BO];omega
  have hpw:({t with place:=AK t.place p j,plain:=Aa}:SetTable)={t with place:=AK t.place p j}:=by cases t;simp_all
  rw[hpw]
  clear hpw
  generalize ym:({t with place:=AK t.place p j}:SetTable)=t1 at *;have xk:t1.mask=t.mask:=by rw[<-ym]
  have hz2:t1.place.size=t.place.size+1:=by rw[<-ym];exact tK
  have wI:t1.dummies=#[]:=T1.dum;refine Ac (NZ ho hd ?_ xb);have uy:=DW s.heap a (CI qT t1);have hg:(s.heap.update a (CI qT t1)).get? a=Z {o with data:=.set qT (ep+1) t1}:=by
   have:=Em (CI qT t1) ho (by rw[Gq _ _ hd];rfl)
   rwa [Gq _ _ hd]at this
  by_cases hf:t1.tooFull=Aa
  .rw[hf]
   simp only[NK,R3,↓reduceIte];have hfull:(t.place.size+1)*5 ≥ t.mask*3:=by unfold HU GG at hf;rw[wI,hz2,xk]at hf;simpa using hf
   obtain⟨m,sG,hmk,wB,hsz⟩:∃m,N5 (RU (es.size+1))-1=m/\Mk m/\(xs.length+1)*5<m*3/\¬N5 (RU (es.size+1)) > sizeLine:=by
    rcases uE with e|e|e
    .have:es.size+1=5:=by omega
     rw[this];exact⟨31,by decide,.inr (.inl rfl),by omega,by rw[BO];decide⟩
    .have:es.size+1=19:=by omega
     rw[this];exact⟨127,by decide,.inr (.inr rfl),by omega,by rw[BO];decide⟩
    .omega
   obtain⟨t',qk,xs',r1,r2,r3,r4,r5⟩:=bu T1 xo sG hmk (by omega);have xV:t1.fits qT.size=Aa:=T1.fits (by rw[se,hz2,pP,vC]);unfold setRelay;refine Ac (Ac (FE (s:={s with heap:=s.heap.update a (CI qT t1)}) hg rfl xV ?_));dsimp only;rw[if_neg hsz,r1];have xJ:(qk.filterMap (qT[·]?)).size=qT.size:=by rw[<-A2,r2,Af,r3.length_eq,sV,se,pP]
   refine Ac ?_;show wpAny _ _ (if((qk.filterMap (qT[·]?)).size != qT.size)=Aa then _ else pure (qk.filterMap (qT[·]?),t')) _ _ _;rw[xJ,if_neg (by simp)];refine Ad ?_;dsimp only;refine NZ hg rfl ?_ (by rw[xJ];exact xb);have zW:=DW (s.heap.update a (CI qT t1)) a (CI (qk.filterMap (qT[·]?)) t');have tZ:((s.heap.update a (CI qT t1)).update a (CI (qk.filterMap (qT[·]?)) t')).get? a=Z {o with data:=.set (qk.filterMap (qT[·]?)) (ep+1+1) t'}:=by
    have:=Em (CI (qk.filterMap (qT[·]?)) t') hg (by rw[Gq (o:={o with data:=.set qT (ep+1) t1}) _ _ rfl];rfl)
    rwa [Gq (o:={o with data:=.set qT (ep+1) t1}) _ _ rfl]at this
   refine Ad (h Aa _ (uy.trans zW) ⟨_,_,_,_,xs',tZ,sC,rfl,r2,r3.trans t4,r4,?_⟩);have:=r4.len;rw[Af,r3.length_eq,sV]at this;rw[<-this,r5];exact wB
  .rw[Bool.not_eq_true]at hf
   rw[hf];simp only[Ls,BR,↓reduceIte];refine Ad (h Aa _ uy ⟨_,qT,ep+1,t1,xs1,hg,sC,rfl,xo,t4,T1,?_⟩);unfold HU GG at hf;rw[wI]at hf;simpa using hf
end
section
variable{h:Heap}{qs:List (List Int×Addr)}
section
variable{prog:Program}{w:World}{A:Around}{E:Value->Shared->Prop}{s:Shared}{a:Addr}{Y:List (List Int×Addr)}
theorem Oj{h':Heap}{t:List Int}{x:Addr}(k:IsTupleKey (intKind prog w) h t x)(m:∀b o,o.cls=.type "tuple"->h.get? b=Z o->h'.get? b=Z o):IsTupleKey (intKind prog w) h' t x :=
 let ⟨o,items,n,ho,hc,r⟩:=k;⟨o,items,n,m x o hc ho,hc,r⟩
theorem Cj.noT(x:Cj prog w h a Y){o:Obj}(e:h.get? a=Z o):o.cls≠.type "tuple":=by
 obtain⟨o',es,ep,t,xs,h1,h2,_⟩:=x;rw[h1]at e;cases e;rw[h2.1]
 decide
theorem gf{q z:List Int×Addr}(h:z∈AU Y q):z∈Y\/z=q:=by
 unfold AU at h;split at h
 .exact .inl h
 .rcases A8.mp h with y|y
  .exact .inl y
  .exact .inr (AG.mp y)
theorem ie(q:List Int×Addr):Y.length<=(AU Y q).length:=by
 unfold AU;split
 .exact Ai _
 .rw[AB];omega
theorem Wi:∀(l Y:List (List Int×Addr)),Y.length<=(l.foldl AU Y).length
 |[],_=>Ai _
 |q::l,Y=>BY (ie q) (Wi l _)
theorem P8:∀(l Y:List (List Int×Addr)) {z:List Int×Addr},z∈l.foldl AU Y->z∈Y\/z∈l
 |[],_,_,h=>.inl h
 |q::l,Y,z,h=>by
  rcases P8 l _ h with y|y
  .rcases gf y with y|y
   .exact .inl y
   .exact .inr (by rw[y];exact An ..)
  .exact .inr (Ao _ y)
theorem JY(h:Heap):Cj prog w (h.push (B1 w)) h.objs.size [] :=
 ⟨_,#[],0,_,[],AS _ rfl,⟨rfl,rfl,rfl⟩,rfl,rfl,.nil,tE.fresh _,(by decide:(0:Nat)*5<7*3)⟩
variable{R:Result->Shared->Prop}{I:Addr}{fp wr:List Addr}{G:Array GenState->Array GenState->Prop}{P:Nat->Value->Prop}{St:Nat->Shared->Prop}
theorem iY(hu:A.units+1<cLine)(W:WalksS prog w A.in1 I fp wr G qs.length P St)(S:Addr)(uq:S∉fp)(ux:∀i v,P i v->∃q,qs[i]?=Z q/\v=.ref q.2)(hwr:∀i (s:Shared),St i s->∀b∈wr,∀o,s.heap.get? b=Z o->o.cls≠.type "tuple")(hB:(qs.foldl AU []).length<64):∀(k i:Nat) (s:Shared),qs.length-i=k->i<=qs.length->St i s->Cj prog w s.heap S ((qs.take i).foldl AU [])->(∀q∈qs,IsTupleKey (intKind prog w) s.heap q.1 q.2) ->(∀s',Moved (S::wr) G s s'->Cj prog w s'.heap S (qs.foldl AU [])->R (.ok (.ret .none)) s') ->codeAny (model prog w) A (.builtin "set.update.loop" ⟨[.ref S,.ref I],[]⟩) R s:=by
 have xt:S∉wr:=λh=>uq (W.sub _ h);have rb:∀b∈wr,b∈S::wr:=λb hb=>Ao _ hb;intro k
 induction k with
 |zero =>
  intro i s hk hi sS hS _ hR;obtain rfl:i=qs.length:=by omega
  rw[List.take_length]at hS;refine Dj F.entry_set_update_loop ?_;rw[DX F.plain_set_update_loop _];show wpAny _ A.in1 (pyNext (.ref I) >>= _) _ _ s;refine Ac (W.done s _ _ sS λs' hm=>?_);show wpAny _ A.in1 (ret Bl) _ _ s';exact Ad (hR s' (hm.mono rb) (hS.at' λo e=>hm.heap S o xt e))
 |succ k ih =>
  intro i s hk hi sS hS hq hR;have ql:i<qs.length:=by omega
  refine Dj F.entry_set_update_loop ?_;rw[DX F.plain_set_update_loop _];show wpAny _ A.in1 (pyNext (.ref I) >>= _) _ _ s;refine Ac (W.item i s _ _ ql sS λv s' hP hst' hm=>?_);obtain⟨q,hqi,rfl⟩:=ux i v hP;have hqm:q∈qs:=Bf hqi;have hS':=hS.at' (h':=s'.heap) λo e=>hm.heap S o xt e;have hq':∀q∈qs,IsTupleKey (intKind prog w) s'.heap q.1 q.2:=λz hz=>Oj (hq z hz) λb o hc e=>hm.heap b o (λhb=>hwr i s sS b hb o e hc) e;show wpAny _ A.in1 (holding [A6 q.2] (setAdd S (.ref q.2)) >>= _) _ _ s';refine Ac (B4 ?_);unfold setAdd;refine B4 (Ac (wpAny_pyHash_tuple (A:=A.in1) hu (hq' q hqm) ?_));have e:AU ((qs.take i).foldl AU []) q=(qs.take (i+1)).foldl AU []:=by rw[List.take_succ,hqi];show _=(qs.take i++[q]).foldl AU [];rw[RT];rfl
  have qi:∀z∈(qs.take i).foldl AU [],z∈qs:=λz hz=>by
   rcases P8 _ _ hz with y|y
   .cases y
   .exact Sa y
  have pP:((qs.take i).foldl AU []).length<64:=by
   refine Nat.lt_of_le_of_lt ?_ hB;have:=Wi (qs.drop i) ((qs.take i).foldl AU [])
   rwa [<-RT,Yn]at this
  refine gR (A:=A.in1) (s:={s' with toks:=s'.toks+(q.1.length+1)}) hu hS' (λz hz=>hq' z (qi z hz)) (hq' q hqm) pP λb h' rE v9=>?_;rw[show(q.1,q.2)=q from rfl,e]at v9;have qq:∀{b:Addr} {o:Obj},o.cls=.type "tuple"->s'.heap.get? b=Z o->b≠S:=λhc e z=>by subst z;exact hS'.noT e hc
  refine Ad ⟨FH F.plain_set_update_loop _,ih (i+1) _ (by omega) ql (W.frame _ s' _ _ hst' (Nat.le_add_right _ _) λb hb o e=>?_) v9 (λz hz=>Oj (hq' z hz) λb o hc e=>?_) λs'' hm'' hS''=>?_⟩
  .rw[rE.2 b (λh:b=S=>uq (by rw[<-h];exact hb))];exact e
  .exact(rE.2 b (qq hc e)).trans e
  .refine hR s'' (Moved.trans W.gtrans ((hm.mono rb).then_heap (Nat.le_add_right _ _) λb o hb e=>?_) hm'') hS''
   rw[rE.2 b (λh:b=S=>hb (by rw[h];exact An))];exact e
set_option maxHeartbeats 3200000 in
theorem iz{l:Addr}{items:Array Value}{Q:Value->Shared->Prop}(hh:A.handled=Z_)(hu:A.units+3<cLine)(hl:s.heap.IsList l items)(hsz:items.size=qs.length)(hi:∀(i:Nat) v,items[i]?=Z v->∃q,qs[i]?=Z q/\v=.ref q.2)(hq:∀q∈qs,IsTupleKey (intKind prog w) s.heap q.1 q.2)(hB:(qs.foldl AU []).length<64)(h:∀(h':Heap) (tk:Nat),Cj prog w h' s.heap.objs.size (qs.foldl AU [])->(∀b o,b<s.heap.objs.size->s.heap.get? b=Z o->h'.get? b=Z o)->Q (.ref s.heap.objs.size) {s with heap:=h',toks:=tk}):wpAny (model prog w) A (call (.type "set") [.ref l]) Q E s:=by
 obtain⟨c,tl,hmro⟩:=Cw.mro;have xT:=Cw.made;have rb:=Cw.sub;refine Ld (RY ?_);show wpAny _ _ (callAny (.type "set") _) _ _ _;refine Ad ⟨Code.quiet_builtin _ (by decide +kernel),Dj Yb ?_⟩;rw[Around.under_plain (weight_type_call_type "set" [.ref l] []) rfl];have h1:=Cw.notType;have h2:=Cw.canCreate;have hct:=Yu (.ref l)
 repeat (any_goals (first|assumption|wp_step))
 refine Ek (XD (.ref l) (E:=E) (Q₁:=λobj s₁=>obj=.ref s.heap.objs.size/\s₁={s with heap:=s.heap.push (B1 w)}) ⟨rfl,rfl⟩) λr s₁ hr=>?_;cases r with
 |error e=>exact hr
 |ok fl =>
  cases fl with
  |ret obj =>
   obtain⟨rfl,rfl⟩:=hr;have hX:=JY (prog:=prog) (w:=w) s.heap;have hS:(s.heap.push (B1 w)).get? s.heap.objs.size=Z (B1 w):=AS _ rfl;have hT:R1 {s with heap:=s.heap.push (B1 w)} (.ref s.heap.objs.size) "set":=⟨_,hS,rfl⟩;have hli:=Cw.init.lookup;have zp:=Cw.init.bind (.ref s.heap.objs.size)
   repeat (any_goals (first|assumption|wp_step))
   refine Ek (codeAny_call_builtin (R:=wants (λr s₂=>r=.none/\∃h' tk,s₂={s with heap:=h',toks:=tk}/\Cj prog w h' s.heap.objs.size (qs.foldl AU []) /\
     (∀b o,b<s.heap.objs.size->s.heap.get? b=Z o->h'.get? b=Z o)) E) Cw.init.plain Yt (check_set_init_1 hT ?_)) λr₂ s₂ v5=>?_
   .obtain⟨⟨zQ,uB,xP,tO⟩,uZ,qW,nl,u3⟩:=hl
    simp only at qW u3;subst qW;subst u3;have hol':(s.heap.push (B1 w)).get? l=Z {cls:=.type "list",dict:=uB,data:=.seq items nl,slots:=tO}:=Ar _ uZ;have zU:=YA;have zV:=YD;have qq:(Fy "list" == Fy "dict")=Ab:=by decide
    have sV:(s.heap.push (B1 w)).IsList l items:=⟨_,hol',rfl,nl,rfl⟩;unfold Builtin.«set.__init__» noKeywords YK;generalize hPI:pyIter=PI
    wp_walk
    subst hPI;refine N4 sV (Ac (NJ ?_));have xl:l<s.heap.objs.size:=Aq uZ;have zh:A.in1.in1.in1.handled=Z_:=by simp[hh]
    have wz:l≠(s.heap.push (B1 w)).objs.size:=by rw[Fz];exact Aw (HX xl)
    have uq:s.heap.objs.size∉[(s.heap.push (B1 w)).objs.size,l]:=by rw[Fz];simp only[Ax,AG,Nx,or_false,not_or];exact⟨Aw (HV _),HD xl⟩
    have Wl:=(Nd (prog:=prog) (w:=w) zh _ l wz items).toS;rw[hsz]at Wl;refine iY (A:=A.in1.in1) hu Wl s.heap.objs.size uq (λi v hv=>hi i v hv) (λi s1 sS b hb o e hc=>?_) hB (qs.length-0) 0 _ (by omega) (Bw _)
     ⟨⟨_,AS _ rfl,rfl,rfl⟩,sV.push _⟩ (hX.at' λo e=>Ar _ e) (λz hz=>Oj (hq z hz) λb o _ e=>Ar _ (Ar _ e)) λs' hm hS'=>?_
    .obtain⟨⟨o1,f1,f2,_⟩,_⟩:=sS
     rw[AG.mp hb,f1]at e;cases e;rw[f2]at hc;exact absurd (Value.type.inj hc) (by decide)
    obtain⟨h',g',d',tk',os'⟩:=s';have eg:g'=s.gens:=hm.gens;have ed:d'=s.drawn:=hm.drawn;have eo:os'=s.os:=hm.os;subst eg;subst ed;subst eo
    show wpAny _ _ _ _ _ _;refine Ad ?_;show wpAny _ _ (ret Bl) _ _ _;refine Ad ⟨rfl,h',tk',rfl,hS',λb o hb e=>?_⟩;refine hm.heap b o ?_ (Ar _ (Ar _ e));simp only[Ax,AG,Nx,or_false,not_or];exact⟨Aw hb,by rw[Fz];exact Aw (HX hb)⟩
   .cases r₂ with
    |error e=>exact v5
    |ok fl₂ =>
     cases fl₂ with
     |ret r =>
      obtain⟨rfl,h',tk,rfl,hS',hk'⟩:=v5
      repeat (any_goals (first|assumption|wp_step))
      exact h _ _ hS' hk'
     |_=>exact v5.elim
  |_=>exact hr.elim
end
end
end HP
namespace HP
open PySem PySem.Spec PySem.W PySem.Calls PyProof.Rows L2
variable{F:Hp}{K:Ae}
theorem lx{α β:Type}{f:α->β}:∀{l m:List β},l.Perm m->∀xs:List α,m=xs.map f->∃zs:List α,zs.Perm xs/\zs.map f=l:=by
 intro l m h
 induction h with
 |nil =>
  intro xs e;cases xs with
  |nil=>exact⟨[],.nil,rfl⟩
  |cons _ _=>cases e
 |cons x _ ih =>
  intro xs e;cases xs with
  |nil=>cases e
  |cons y ys =>
   injection e with e1 e2
   obtain⟨zs,h1,h2⟩:=ih ys e2;exact⟨y::zs,h1.cons y,by rw[Ak,h2,e1]⟩
 |swap x y l =>
  intro xs e
  match xs,e with
  |a::b::ys,e =>
   injection e with e1 e2
   injection e2 with e2 e3
   exact⟨b::a::ys,.swap _ _ _,by rw[Ak,Ak,e1,e2,e3]⟩
 |trans _ _ ih1 ih2=>intro xs e;obtain⟨zs,h1,h2⟩:=ih2 xs e;obtain⟨ws,h3,h4⟩:=ih1 zs h2.symm;exact⟨ws,h3.trans h1,h4⟩
theorem ip(Y:List (List Int×Addr))(q:List Int×Addr):(AU Y q).map (·.1)=if(Y.map (·.1)).contains q.1 then Y.map (·.1)else Y.map (·.1)++[q.1]:=by
 unfold AU;split
 .rfl
 .rw[Br];rfl
theorem VQ:∀(qs Y:List (List Int×Addr)),(qs.foldl AU Y).map (·.1)=HM.BB (Y.map (·.1)) (qs.map (·.1))
 |[],Y=>rfl
 |q::qs,Y=>by
  rw[Eu,VQ qs,ip,Ak];show _=if(Y.map (·.1)).contains q.1 then HM.BB (Y.map (·.1)) (qs.map (·.1))else HM.BB (Y.map (·.1)++[q.1]) (qs.map (·.1))
  split<;>rfl
variable[FX]
section
variable{X:Cx}{a b c e:Expr}{fa fb fc:HM.EF}{pos p:Pos}{f:HM.BF}
theorem S2{pM:List (Addr×Obj)}{J:L2.St}{H:Hp}{s:Shared}(I:Inv X pM J H s){b:Addr}{t:List Int}(h:H b=Z (.tup (t.map V.int))):TI s.heap b t:=by obtain⟨z,pO,rt,o,h1,h2,n,h3⟩:=(show ZT X.prog X.w H s.heap b (.tup (t.map V.int)) from I.hok b _ h);exact⟨o,pO.toArray,n,h1,h2,h3,by simpa using Ho rt⟩
theorem jn(hc:X.calm=Aa)(hr:X.A.units+64<cLine):Be X (.type "set") (λxs H Q=>∃p,∃qs:List (List Int×Addr),xs=[.ref p]/\qD X.K H p (qs.map λq=>V.ref q.2)/\(∀q∈qs,H q.2=Z (.tup (q.1.map V.int)))/\(qs.foldl AU []).length<64 /\
  ∀l,H l=Z_->Q (.ref l) (upd H l (.ext λh=>Cj X.prog X.w h l (qs.foldl AU [])))):=by
 intro pM s J H xs us Q I r h;obtain⟨p,qs,rfl,hq,hH,hB,q⟩:=h;obtain⟨u,rfl,rx⟩:=vals1 r;cases rx;obtain⟨pO,rv,pl,hz⟩:=I.list hq;have pP:=rv.length;rw[Af]at pP;refine iz (I.ok.hd hc) (by omega) pl.isList (by rw[AL,pP]) (λi v e=>?_) (λz hz=>aH (S2 I (hH z hz))) hB λh' tk hS kp=>?_
 .rw[List.getElem?_toArray]at e
  have hi:i<qs.length:=by rw[pP];exact(A1.mp e).1
  obtain⟨u,hu,ru⟩:=rv.get (show(qs.map λq=>V.ref q.2)[i]?=Z (V.ref qs[i].2) by rw[AE,AN hi];rfl);rw[e]at hu;cases hu;cases ru;exact⟨qs[i],AN hi,rfl⟩
 .have hS':=hS
  obtain⟨o,es,ep,t,xs,ho,_⟩:=hS';refine⟨.ref s.heap.objs.size,_,I.laid (a:=s.heap.objs.size) (o:=.ext λh=>Cj X.prog X.w h s.heap.objs.size (qs.foldl AU [])) (λb o e=>kp b o (Aq e) e) (Ai _) ?_,rfl,q _ (I.hok.fresh (Ai _))⟩;exact⟨hS,⟨o,ho⟩,λh1 h2 x kk=>x.at' kk⟩
theorem lM(hc:X.calm=Aa):Be X (.builtin "sorted") (λxs H Q=>∃p,∃Y:List (List Int×Addr),xs=[.ref p]/\H p=Z (.ext λh=>Cj X.prog X.w h p Y)/\(∀q∈Y,H q.2=Z (.tup (q.1.map V.int))/\q.1≠[])/\Y.length<64 /\
  ∀l (us:List (List Int×Addr)),H l=Z_->us.Perm Y->us.map (·.1)=HM.BI (Y.map (·.1))->Q (.ref l) (upd H l (.lst (us.map λq=>V.ref q.2)))):=by
 intro pM s J H xs us Q I r h;obtain⟨p,Y,rfl,hp,hY,xx,q⟩:=h;obtain⟨u,rfl,rx⟩:=vals1 r;cases rx;obtain⟨hX,_,_⟩:=(show ZT X.prog X.w H s.heap p (.ext λh=>Cj X.prog X.w h p Y) from I.hok p _ hp);obtain⟨o,es,ep,t,xs,ho,sC,hd,he,sm,T,_⟩:=hX;have pP:es.size=xs.length:=by rw[<-A2,he,Af]
 have vC:es.size=t.place.size:=by rw[pP,<-T.len,Af]
 have hxl:=sm.length_eq;have yQ:CL X.w s.heap p es ep t:=⟨⟨o,ho,sC,hd⟩,T.fits vC,vC,T.rise,T.led,T.plain⟩;refine Sn kind_sorted plain_sorted entry_sorted (args_sorted1 _) ?_;unfold Builtin.«sorted»;refine Ac (m:=checkCount "sorted" 1 1 _) (Ad ?_);refine Ac (MP (Uk (es:=es) (ep:=ep) (t:=t)) (I.ok.hd hc) yQ (by rw[BO];omega) λh' tk acc kp _ qf=>?_);have sI:acc.toList.length=es.size:=by rw[A2];exact qf.1
 obtain⟨zs,z1,z2⟩:=lx (Mr X.w p es ep) xs he;have hzl:=z1.length_eq;have hacc':acc.toList=zs.map λq=>A6 q.2:=by apply List.ext_getElem (by rw[sI,Af];omega);intro i h1 h2;obtain⟨e,e1,e2⟩:=qf.2 i acc.toList[i] (by rw[<-B5];exact AN h1);rw[<-B5,<-z2,AE]at e1;obtain⟨y,y1,y2⟩:=Al.mp e1;rw[e2,<-y2];rw[Af]at h2;rw[AN h2]at y1;cases y1;simp
 refine Ac (NO ?_ (by rw[sI,BO];omega));have tj:(h'.push (seqObj "list" acc.toList.toArray 0)).get? h'.objs.size=Z (seqObj "list" acc.toList.toArray 0):=AS _ rfl;show wpAny _ _ _ _ _ {s with heap:=h'.push (seqObj "list" acc.toList.toArray 0),toks:=tk};have hzY:∀q∈zs,q∈Y:=λq hq=>sm.mem_iff.mp (z1.mem_iff.mp hq);have ql:(zs.map (·.1)).length=acc.toList.length:=by rw[hacc',Af,Af]
 have hT:∀(i:Nat) t,(zs.map (·.1))[i]?=Z t->∃b,acc.toList[i]?=Z (.ref b)/\TI (h'.push (seqObj "list" acc.toList.toArray 0)) b t:=λi t e=>by rw[AE]at e;obtain⟨y,y1,rfl⟩:=Al.mp e;refine⟨y.2,by rw[hacc',AE,y1];rfl,?_⟩;exact(S2 I (hY y (hzY y (Bf y1))).1).keep λo e=>Ar _ (kp _ o e)
 refine Ac (B4 (Ep NG ⟨_,tj,rfl⟩ Nq (UW tj ql hT (.inr λt ht=>?_) (by omega) λpm hpp hs=>⟨_,rfl,?_⟩) (ND _)))
 .obtain⟨y,hy,rfl⟩:=Aj.mp ht
  exact(hY y (hzY y hy)).2
 .refine Ad ⟨_,rfl,?_⟩
  have qi:∀i∈pm,i<zs.length:=λi hi=>by have:=As.mp (hpp.mem_iff.mp hi);omega
  have xa:∀i,i<zs.length->zs[i]?=Z (zs.getD i ([],0)):=λi hi=>by rw[GH,AN hi];rfl
  have zY:(pm.map λi=>zs.getD i ([],0)).Perm zs:=by
   refine(hpp.map _).trans (.of_eq ?_);apply List.ext_getElem?;intro i;rw[AE]
   by_cases hi:i<zs.length
   .rw[R9 (by omega)]
    exact(xa i hi).symm
   .rw[JC (by rw[C1];omega),JC (by omega)]
    rfl
  have y6:=zY.trans (z1.trans sm);have vh:(pm.map λi=>zs.getD i ([],0)).map (·.1)=pm.map λi=>(zs.map (·.1)).getD i []:=by rw[Av];refine FK λi hi=>?_;rw[GH (l:=zs.map (·.1)),AE,xa i (qi i hi)];rfl
  rw[<-vh]at hs;have qP:=UZ (y6.map (·.1)) hs;obtain⟨ee,hee⟩:=sortedHeap_at (vs:=acc.toList) (out:=(pm.map λi=>acc.toList.getD i Bl).toArray) tj;have I1:Inv X pM J H {s with heap:=h',toks:=tk}:=I.kept kp;have xR:pQ ((pm.map λi=>zs.getD i ([],0)).map λq=>V.ref q.2) (pm.map λi=>acc.toList.getD i Bl):=by rw[Av];refine ID (by simp) λk v u e1 e2=>?_;rw[AE]at e1 e2;obtain⟨i,hi,rfl⟩:=Al.mp e1;rw[hi]at e2;cases e2;have:=xa i (qi i (Bf hi));show RelV (V.ref (zs.getD i ([],0)).2) (acc.toList.getD i Bl);rw[hacc',GH (l:=zs.map λq=>A6 q.2),AE,this];rfl
  refine⟨.ref h'.objs.size,_,I1.laid (a:=h'.objs.size) (o:=.lst ((pm.map λi=>zs.getD i ([],0)).map λq=>V.ref q.2)) (t':=tk) (λb o e1=>?_) (Ai _) ⟨by rw[Af,y6.length_eq,BO];omega,_,ee,xR,by simpa using hee⟩,rfl,q _ _ (I1.hok.fresh (Ai _)) y6 qP⟩;exact QZ (Aw (Aq e1)) (Ar _ e1)
theorem gM{b:Addr}{t:List Int}(h:F b=Z (.tup (t.map V.int))):Rep K F (.tuple (HM.rW t)) (.ref b):=.tup h (Hr (K:=K) (F:=F) t).1 (Hr (K:=K) (F:=F) t).2
theorem iK(us:List (List Int×Addr))(h:∀q∈us,F q.2=Z (.tup (q.1.map V.int))):Zq K F (HM.M9 (us.map (·.1))) (us.map λq=>V.ref q.2):=by unfold HM.M9;refine⟨by simp,λi d v e1 e2=>?_⟩;rw[Av,AE]at e1;rw[AE]at e2;obtain⟨q,hq,rfl⟩:=Al.mp e1;rw[hq]at e2;cases e2;exact gM (h q (Bf hq))
theorem Vw{K:Ae}{F:Hp}:∀{ts:List (List Int)} {vs:List V},Zq K F (HM.M9 ts) vs->∃qs:List (List Int×Addr),vs=(qs.map λq=>V.ref q.2)/\qs.map (·.1)=ts/\∀q∈qs,F q.2=Z (.tup (q.1.map V.int))
 |[],vs,r=>⟨[],r.nil_inv,rfl,λq hq=>by cases hq⟩
 |t::ts,vs,r=>by
  obtain⟨v,us,rfl,r1,r2⟩:=r.cons_inv;obtain⟨c,rfl,hc⟩:=lg r1;obtain⟨qs,rfl,e2,h⟩:=Vw r2;refine⟨(t,c)::qs,rfl,by rw[Ak,e2],λq hq=>?_⟩;rcases Ax.mp hq with rfl|hq
  .exact hc
  .exact h q hq
theorem mQ(hm:X.mg "sorted"=Z_)(sG:X.mg "set"=Z_)(hc:X.calm=Aa)(hr:X.A.units+64<cLine){p' pos':Pos}(ha:XB X a f)(hg:Gl X "sorted":=by rfl)(tZ:Gl X "set":=by rfl)(hs:Ah [a] X.env=[(Ab,eval a X.env)]:=by rfl)(sd:Ah [Jo (.Name "set" p') [a] [] pos'] X.env=[(Ab,eval (Jo (.Name "set" p') [a] [] pos') X.env)]:=by rfl):XF X (.Call (.Name "sorted" p) [.Call (.Name "set" p') [a] [] pos'] [] pos) (HM.X4 f):=by
 intro r d h;unfold HM.X4 at h;split at h
 .rename_i x hx
  split at h
  .rename_i ds qh
   split at h
   .rename_i ts yX
    split at h
    .rename_i vg
     cases h;rw[AJ,decide_eq_true_eq]at vg;refine PE.imp (Fh (lM hc) hg hm P6 (Z8 (Gf (jn hc hr) tZ sG Ti (Fc ha hx hs) (he:=hs)) Cm sd) (he:=sd)) λJ H Q ⟨F0,H0,F,at_,k⟩=>?_;refine⟨F0,H0,F,at_,λv fp F1 H1 x1 r1=>?_⟩;obtain⟨l,vs,e1,hq,rs⟩:=Hf x1.sub r1 qh;subst e1;rw[PN yX]at rs;obtain⟨qs,rfl,e2,hF⟩:=Vw rs;have vh:(qs.foldl AU []).map (·.1)=HM.BB [] ts:=by rw[VQ,e2];rfl
     have hB:(qs.foldl AU []).length<64:=by have:=congrArg Bx vh;rw[Af]at this;omega
     have qi:∀q∈qs.foldl AU [],q∈qs:=λq hq=>(P8 qs [] hq).resolve_left (by simp);refine⟨l,qs,rfl,hq,λq hq=>x1.sub _ _ (hF q hq),hB,λl2 sU=>⟨l2,_,rfl,ZD,λq hq=>⟨?_,?_⟩,hB,λl3 us zd tT hu=>?_⟩⟩
     .have h1:=x1.sub _ _ (hF q (qi q hq))
      unfold upd;rw[if_neg (λz=>by rw[z,sU]at h1;cases h1)];exact h1
     .have ht:q.1∈ts:=by rw[<-e2];exact Aj.mpr ⟨q,qi q hq,rfl⟩
      have:=Au.mp vg.2 q.1 ht;intro z;rw[z]at this;cases this
     .have x2:=x1.lay' (o:=.ext λh=>Cj X.prog X.w h l2 (qs.foldl AU [])) sU
      have rp:=iK (K:=X.K) (F:=F1) us λq hq=>hF q (qi q (tT.mem_iff.mp hq));rw[hu,vh]at rp;exact Hh (P:=λv _ H'=>Q v H') x2 rp zd k
    .cases h
   .cases h
  .cases h
 .cases h
end
end HP
namespace HM
open PySem
variable{i:Int}{ds:List D}{n:Nat}
theorem DP{α:Type}{c:TF}{e:EF}{r:Env}(g:α->D)(p:α->Bool)(f:α->D):∀(xs:List α),(∀x∈xs,c (Z (.pl (g x))::r)=Z (p x))->(∀x∈xs,p x=Aa->e (Z (.pl (g x))::r)=Z (f x))->Bz c e r (xs.map g)=Z ((xs.filter p).map f)
 |[],_,_=>rfl
 |x::xs,h1,h2=>by
  have ih:=DP g p f xs (λy hy=>h1 y (Ao _ hy)) (λy hy=>h2 y (Ao _ hy));have hc:=h1 x (An ..);rw[Ak];unfold Bz;rw[hc];cases hp:p x with
  |true=>have he:=h2 x (An ..) hp;dsimp only;rw[he];dsimp only;rw[ih,Ya hp];rfl
  |false=>dsimp only;rw[ih,X9 (by simp[hp])]
theorem Dz{α:Type}{e:EF}{r:Env}(g:α->D)(f:α->D)(xs:List α)(h:∀x∈xs,e (Z (.pl (g x))::r)=Z (f x)):Bz A0 e r (xs.map g)=Z (xs.map f):=by rw[DP g (λ_=>Aa) f xs (λ_ _=>rfl) λx hx _=>h x hx,R7.mpr λ_ _=>rfl]
theorem L7{α:Type}{i:Nat}{body:SF}(g:α->D)(P:List α->Env->Prop)(xs:List α)(r:Env)(h0:P [] r)(hs:∀pre x post r,xs=pre++x::post->P pre r->∃r',body (r.set i (Z (.pl (g x))))=Z (.nx r')/\P (pre++[x]) r'):∃r',Bc i body (xs.map g) r=Z (.nx r')/\P xs r':=by
 have key:∀(post pre:List α) (r:Env),xs=pre++post->P pre r->∃r',Bc i body (post.map g) r=Z (.nx r')/\P xs r':=by
  intro post
  induction post with
  |nil=>intro pre r e h;rw[BK]at e;subst e;exact⟨r,rfl,h⟩
  |cons x post ih=>intro pre r e h;obtain⟨r1,h1,h2⟩:=hs pre x post r e h;obtain⟨r2,h3,h4⟩:=ih (pre++[x]) r1 (by rw[e,EW];rfl) h2;refine⟨r2,?_,h4⟩;rw[Ak];unfold Bc;rw[h1];exact h3
 exact key xs [] r rfl h0
abbrev dI(i:Int):D:=Bq i
abbrev dN(k:Nat):D:=Bq (k:Int)
theorem My(ns:List Int):rW ns=ns.map dI:=rfl
theorem DB(n:Nat):Jb 0 n=(Ag n).map dN:=by unfold Jb;refine FK λk _=>?_;show Bq (0+(k:Int))=Bq (k:Int);rw[Int.zero_add]
theorem Ef(ns:List Int):BM (ns.map dI)=Z ns:=by
 induction ns with
 |nil=>rfl
 |cons n ns ih=>show(BM (ns.map dI)).map (n::·)=_;rw[ih];rfl
theorem MB(bs:List Bool):G9 (bs.map λb=>Dm b)=Z bs:=by
 induction bs with
 |nil=>rfl
 |cons b bs ih=>show(G9 (bs.map λb=>Dm b)).map (b::·)=_;rw[ih];rfl
abbrev pN(ns:List Int):D:=Cv (ns.map dI)
theorem G8{j:Nat}{d:D}(h:ds[j]?=Z d):sY ds (j:Int)=Z d:=by have hj:j<ds.length:=(A1.mp h).1;unfold sY ub;rw[if_pos (by omega),if_pos (by omega)];simpa using h
theorem LX{d:D}(h0:0<=i)(h:ds[i.toNat]?=Z d):sY ds i=Z d:=by
 have e:i=((i.toNat:Nat):Int):=by omega
 rw[e];exact G8 (by simpa using h)
@[simp] theorem nE(d:D)(r:List D):sY (d::r) 0=Z d:=G8 (j:=0) rfl
@[simp] theorem nA(a d:D)(r:List D):sY (a::d::r) 1=Z d:=G8 (j:=1) rfl
@[simp] theorem nB(a b d:D)(r:List D):sY (a::b::d::r) 2=Z d:=G8 (j:=2) rfl
@[simp] theorem nC(a b c d:D)(r:List D):sY (a::b::c::d::r) 3=Z d:=G8 (j:=3) rfl
@[simp] theorem nD(a b c e d:D)(r:List D):sY (a::b::c::e::d::r) 4=Z d:=G8 (j:=4) rfl
theorem nU(i j:Int)(h:(ZR i||ZR j)=Aa):Ci (.int i) (.int j)=Z (.int (i*j)):=by show(if ZR i||ZR j then Z (Bq (i*j))else Z_)=_;rw[if_pos h]
@[simp] theorem nW:ZR 7=Aa:=rfl
@[simp] theorem n8:ZR 11=Aa:=rfl
@[simp] theorem nI:ZR 13=Aa:=rfl
@[simp] theorem nZ:ZR 17=Aa:=rfl
@[simp] theorem nJ:ZR 19=Aa:=rfl
@[simp] theorem nY:ZR 23=Aa:=rfl
@[simp] theorem n5:ZR 29=Aa:=rfl
@[simp] theorem nN:ZR 31=Aa:=rfl
@[simp] theorem nM:ZR 37=Aa:=rfl
@[simp] theorem nH:ZR 41=Aa:=rfl
@[simp] theorem n4:ZR 43=Aa:=rfl
@[simp] theorem n6:ZR 47=Aa:=rfl
@[simp] theorem nK:ZR 53=Aa:=rfl
@[simp] theorem nR:ZR 59=Aa:=rfl
@[simp] theorem nO:ZR 61=Aa:=rfl
@[simp] theorem nL:ZR 67=Aa:=rfl
@[simp] theorem n0:ZR 71=Aa:=rfl
@[simp] theorem nQ:ZR 73=Aa:=rfl
@[simp] theorem oo:ZR 48271=Aa:=rfl
@[simp] theorem nX:ZR 2=Aa:=rfl
@[simp] theorem nV:ZR 3=Aa:=rfl
@[simp] theorem nG:ZR 5=Aa:=rfl
theorem Qe(h1:-1000000000<i)(h2:i<1000000000):ZR i=Aa:=by
 unfold ZR;have:i.natAbs<18446744073709551616:=by omega
 exact HE.mpr this
theorem Ga(h:n<1000000):ua (n:Int)=Aa:=HE.mpr (by omega)
@[simp] theorem nS(i:Int):Z3 (.int i)=Aa:=rfl
@[simp] theorem oe(i:Bool):Z3 (.bool i)=Aa:=rfl
@[simp] theorem og:Z3 .none=Aa:=rfl
@[simp] theorem nF(i j:Int):BQ (.int i) (.int j)=(i==j):=rfl
structure Wk where
 many:Nat
 deeds:List (List (List Int))
 looks:List (List Int)
 beg:List Int
 goal:List Int
noncomputable def ZN (dd:List (List Int)):D:=.tuple (dd.map pN)
def Wk.d(w:Wk):D:=.tuple [.int w.many,.tuple (w.deeds.map ZN),.tuple (w.looks.map pN),pN w.beg,pN w.goal]
def Cr(n:Nat)(c:List Int):Prop:=c.Pairwise (· < ·)/\∀x∈c,0<=x/\x<(n:Int)
structure Wk.Ok(w:Wk):Prop where
 m1:2<=w.many
 m2:w.many<=5
 d1:1<=w.deeds.length
 d2:w.deeds.length<=3
 dl:∀dd∈w.deeds,dd.length=w.many
 dc:∀dd∈w.deeds,∀c∈dd,Cr w.many c
 l2:w.looks.length<=3
 ll:∀l∈w.looks,l.length=w.many
 lc:∀l∈w.looks,∀x∈l,0<=x/\x<=9
 b1:w.beg≠[]
 bc:Cr w.many w.beg
 g1:w.goal≠[]
 gc:Cr w.many w.goal
theorem Cr.len:∀{c:List Int},Cr n c->c.length<=n:=by
 have key:∀(c:List Int) (l:Int),c.Pairwise (· < ·)->(∀x∈c,l<=x/\x<(n:Int))->(c.length:Int)<=max 0 ((n:Int)-l):=by
  intro c
  induction c with
  |nil=>intro l _ _;simp;omega
  |cons x c ih=>intro l hp hb;have h1:=hb x (An ..);have h2:=ih (x+1) (Dg.mp hp).2 λy hy=>⟨by have:=(Dg.mp hp).1 y hy;omega,(hb y (Ao _ hy)).2⟩;rw[Ay];omega
 intro c h;have:=key c 0 h.1 h.2;omega
theorem sortI_perm(ns:List Int):(sortI ns).Perm ns:=NQ ns _
theorem fM(ns:List Int):(sortI ns).Pairwise (·<=·):=by have h:=Sq (le:=λa b:Int=>decide (a<=b)) (λa b c h1 h2=>by simp at *;omega) (λa b=>by simp;omega) ns;exact h.imp λh=>by simpa using h
theorem W4:∀{ns:List Int},ns.Pairwise (·<=·)->ns.Nodup->ns.Pairwise (· < ·)
 |[],_,_=>.nil
 |n::ns,h,hn=>by obtain⟨h1,h2⟩:=Dg.mp h;obtain⟨n1,n2⟩:=CG.mp hn;refine Dg.mpr ⟨λx hx=>?_,W4 h2 n2⟩;have:=h1 x hx;have:n≠x:=λe=>n1 (e▸hx);omega
theorem Md{ns:List Int}(hn:ns.Nodup)(hb:∀x∈ns,0<=x/\x<(n:Int)):Cr n (sortI ns) :=
 ⟨W4 (fM ns) ((sortI_perm ns).nodup_iff.mpr hn),λx hx=>hb x ((sortI_perm ns).mem_iff.mp hx)⟩
theorem Qz(ns:List Int)(h:ns.length<64):FY (ns.map dI)=Z ((sortI ns).map dI):=by unfold FY;rw[if_pos (by rw[Af];exact h),Ef];rfl
theorem Ku:∀(ns acc:List Int) (x:Int),x∈qA acc ns↔x∈acc\/x∈ns
 |[],acc,x=>by simp[qA]
 |n::ns,acc,x=>by
  unfold qA;split
  .rename_i h
   have h':n∈acc:=by simpa using h
   rw[Ku ns acc x]
   constructor
   .rintro (h|h)
    .exact .inl h
    .exact .inr (Ao _ h)
   .rintro (h|h)
    .exact .inl h
    .rcases Ax.mp h with e|e
     .exact .inl (e▸h')
     .exact .inr e
  .rw[Ku ns _ x,A8,AG,Ax]
   constructor
   .rintro ((h|h)|h)
    .exact .inl h
    .exact .inr (.inl h)
    .exact .inr (.inr h)
   .rintro (h|h|h)
    .exact .inl (.inl h)
    .exact .inl (.inr h)
    .exact .inr h
theorem MR:∀(ns acc:List Int),acc.Nodup->(qA acc ns).Nodup
 |[],acc,h=>h
 |n::ns,acc,h=>by
  unfold qA;split
  .exact MR ns acc h
  .rename_i hc
   have hc':n∉acc:=by simpa using hc
   refine MR ns _ ?_;rw[Gw];exact⟨h,by simp,λa ha b hb=>by simp at hb;subst hb;exact λe=>hc' (e▸ha)⟩
end HM
namespace HG
open PySem HM
def Xm:SF :=
 (Zw (qY (wW (tV (Iv (Za 0) .bool)) (D8 (tV (Iv (Za 0) .int)))) (ZE (eC (.bool Ab))) Bu)
  (ZE (WR we we (Za 1) (Za 0) (Za 2))))
def Fx:List D->Option D:=fnOf 3 3 Xm
def Wc:SF :=
 (ZE (CC (Iv (Za 0) .tuple) (WR we we (Za 1) (By (Zo 0)) (Za 2))))
def DD:List D->Option D:=fnOf 3 3 Wc
def Eg:SF :=
 (Zw (qY (D8 (tV (Zj Fx (Zc (Za 3) (Zc (Za 2) (Zc (pT JR (Za 1) (eC (.int 1))) Zk)))))) (ZE (eC (.bool Ab))) Bu)
  (ZX 2 (pT Bb (Za 3) (eC (.int 1)))))
def M3:SF :=
 (Zw (qY (D8 (tV (Iv (Za 0) .tuple))) (ZE (eC (.bool Ab))) Bu)
  (Zw (ZX 2 (eC (.int 0)))
  (Zw (Bi 3 (ZW (qg (Za 0))) Eg)
  (ZE (eC (.bool Aa))))))
def Z1:List D->Option D:=fnOf 2 4 M3
def Qv:SF :=
 (ZE (CC (Zj DD (Zc (Za 0) (Zc (Za 1) (Zc (Za 1) Zk)))) (Il (ZF (ZW (qg (Za 0))) A0 (Zj Z1 (Zc (Za 0) (Zc (Za 2) Zk)))))))
def Hn:List D->Option D:=fnOf 2 2 Qv
def Qu:SF :=
 (ZE (CC (Zj DD (Zc (Za 0) (Zc (Za 1) (Zc (Za 1) Zk)))) (Il (ZF (ZW (qg (Za 0))) A0 (Zj Fx (Zc (Za 0) (Zc (eC (.int 0)) (Zc (eC (.int 9)) Zk))))))))
def Hm:List D->Option D:=fnOf 2 2 Qu
def Xl:SF :=
 (ZE (CC (Zj DD (Zc (Za 0) (Zc (eC (.int 1)) (Zc (eC (.int 5)) Zk)))) (Il (ZF (ZW (qg (Za 0))) A0 (Zj Hn (Zc (Za 0) (Zc (Za 2) Zk)))))))
def K1:List D->Option D:=fnOf 2 2 Xl
def Xk:SF :=
 (ZE (CC (Zj DD (Zc (Za 0) (Zc (eC (.int 0)) (Zc (eC (.int 4)) Zk)))) (Il (ZF (ZW (qg (Za 0))) A0 (Zj Hm (Zc (Za 0) (Zc (Za 2) Zk)))))))
def K0:List D->Option D:=fnOf 2 2 Xk
def WU:SF :=
 (ZE (CC (Zj Z1 (Zc (Za 0) (Zc (Za 1) Zk))) (pT uf (By (Zo 0)) (eC (.int 0)))))
def KA:List D->Option D:=fnOf 2 2 WU
def Xj:SF :=
 (Zw (qY (wW (D8 (tV (Zj DD (Zc (Za 0) (Zc (eC (.int 5)) (Zc (eC (.int 5)) Zk)))))) (D8 (tV (Zj Fx (Zc (qy (Zo 0) (eC (.int 0))) (Zc (eC (.int 1)) (Zc (eC (.int 8)) Zk))))))) (ZE (eC (.bool Ab))) Bu)
  (Zw (ZX 1 (qy (Zo 0) (eC (.int 0))))
  (Zw (qY (wW (D8 (tV (Zj K1 (Zc (qy (Zo 0) (eC (.int 1))) (Zc (Za 1) Zk))))) (D8 (tV (Zj K0 (Zc (qy (Zo 0) (eC (.int 2))) (Zc (Za 1) Zk)))))) (ZE (eC (.bool Ab))) Bu)
  (ZE (CC (Zj KA (Zc (qy (Zo 0) (eC (.int 3))) (Zc (Za 1) Zk))) (Zj Z1 (Zc (qy (Zo 0) (eC (.int 4))) (Zc (Za 1) Zk))))))))
def KZ:List D->Option D:=fnOf 1 2 Xj
def WT:SF :=
 (ZE (qy (Zo 0) (eC (.int 1))))
def Fm:List D->Option D:=fnOf 1 1 WT
def WS:SF :=
 (ZE (qy (Zo 0) (eC (.int 2))))
def Hy:List D->Option D:=fnOf 1 1 WS
def WB:SF :=
 (Zw (qY (D8 (tV (Zj KZ (Zc (Za 0) Zk)))) Vg Bu)
  (ZE (Za 0)))
def Hl:List D->Option D:=fnOf 1 1 WB
def X2:SF :=
 (Zw (qY (D8 (tV (Zj Z1 (Zc (Za 1) (Zc (By (qg (Zj Hy (Zc (Za 0) Zk)))) Zk))))) Vg Bu)
  (ZE (Za 1)))
def Hz:List D->Option D:=fnOf 2 2 X2
def WA:SF :=
 (ZE (CF (ZF (ZW (qg (Za 1))) A0 (qy (qg (qy (qg (Zj Hy (Zc (Za 1) Zk))) (Za 0))) (Za 3)))))
def KC:List D->Option D:=fnOf 3 3 WA
def XX:SF :=
 (Zw (ZX 3 (qy (qg (Zj Fm (Zc (Za 0) Zk))) (Za 2)))
  (ZE (Il (ZF (ZW (qg (Za 1))) A0 (pT uf (By (qg (qy (Zo 4) (Za 0)))) (eC (.int 0)))))))
def KO:List D->Option D:=fnOf 3 4 XX
def XM:SF :=
 (ZE (tw (ZF (DA (By (qg (Zj Fm (Zc (Za 0) Zk))))) (tV (Zj KO (Zc (Za 1) (Zc (Za 2) (Zc (Za 0) Zk))))) (Za 0))))
def K5:List D->Option D:=fnOf 2 2 XM
def KN:SF :=
 (Ik 4 (Za 6) (eC (.bool Aa)))
def KL:SF :=
 (Bi 6 (ZW (qg (qy (Zo 3) (Za 5)))) KN)
def Wb:SF :=
 (Zw (ZX 3 (qy (qg (Zj Fm (Zc (Za 0) Zk))) (Za 2)))
  (Zw (ZL 4 fDk)
  (Zw (Bi 5 (ZW (qg (Za 1))) KL)
  (ZE (CF (MG (Zo 4)))))))
def IS:List D->Option D:=fnOf 3 7 Wb
def KJ:SF :=
 (lp 3 (Zj KC (Zc (Za 0) (Zc (Za 1) (Zc (Za 4) Zk)))) (Za 4))
def Wa:SF :=
 (Zw (ZL 3 SW)
  (Zw (Bi 4 (ZW (qg (Za 2))) KJ)
  (ZE (tw (ZF (ZW (qg (tw (MG (Zo 3))))) A0 (E5 (Zc (Za 0) (Zc (CF (UT 4 (Za 0))) Zk))))))))
def Z5:List D->Option D:=fnOf 3 5 Wa
def Xb:SF :=
 (Zw (qY (tV (pT xy (Za 1) (By (Zo 0)))) (ZE (qy (Zo 0) (Za 1))) Bu)
  (ZE (eC (.int 0))))
def DC:List D->Option D:=fnOf 2 2 Xb
def Wz:SF :=
 (ZE (pT SV (pT SV (pT Ci (Za 0) (eC (.int 48271))) (Za 1)) (Za 2)))
def ZJ:List D->Option D:=fnOf 3 3 Wz
def Ro:SF :=
 (Zw (ZL 3 (ZF (DA (Za 1)) (tV (pT xy (Zj ZJ (Zc (pT Bb (pT Bb (Za 1) (pT Ci (pT Ci (eC (.int 31)) (Za 0)) (Za 0))) (pT Ci (eC (.int 7)) (Za 0))) (Zc (eC (.int 9973)) (Zc (eC (.int 5)) Zk)))) (eC (.int 2)))) (Za 0)))
  (Zw (qY (tV (pT xy (By (Zo 3)) (Za 2))) (ZL 3 (B7 (Zc (Zj ZJ (Zc (Za 0) (Zc (eC (.int 9967)) (Zc (Za 1) Zk)))) Zk))) Bu)
  (ZE (CF (Zo 3)))))
def Hx:List D->Option D:=fnOf 3 4 Ro
def Hw:SF :=
 (Zw (ZX 4 (pT Bb (pT Bb (Za 0) (pT Ci (pT Ci (eC (.int 43)) (Za 3)) (Za 3))) (pT Ci (eC (.int 11)) (Za 3))))
  (Zw (ZX 5 (Zj ZJ (Zc (Za 4) (Zc (eC (.int 9949)) (Zc (eC (.int 10)) Zk)))))
  (Zw (ZL 6 (ly (Zj ZJ (Zc (Za 4) (Zc (eC (.int 9941)) (Zc (Za 1) Zk)))) (eC (.bool Aa))))
  (Zw (qY (tV (pT xy (Za 5) (eC (.int 3)))) (Ik 6 (Zj ZJ (Zc (Za 4) (Zc (eC (.int 9931)) (Zc (Za 1) Zk)))) (eC (.bool Aa))) Bu)
  (Zw (Kr 2 (CF (MG (Zo 6))))
  (qY (tV (pT ra (Za 5) (eC (.int 9)))) (kn 2 (eC (.int (-1))) (E5 Zk)) Bu))))))
def Xa:SF :=
 (Zw (ZL 2 (B7 Zk))
  (Zw (Bi 3 (DA (Za 1)) Hw)
  (ZE (CF (Zo 2)))))
def Kz:List D->Option D:=fnOf 2 7 Xa
def KY:SF :=
 (Zw (ZX 5 (pT cK (pT JR (Za 4) (eC (.int 1))) (eC (.int 0))))
  (Zw (ZX 6 (pT bC (pT Bb (Za 4) (eC (.int 1))) (pT JR (Za 1) (eC (.int 1)))))
  (Zw (ZX 7 (pT ra (Zj ZJ (Zc (pT Bb (Za 0) (pT Ci (eC (.int 17)) (Za 4))) (Zc (eC (.int 9929)) (Zc (eC (.int 6)) Zk)))) (eC (.int 1))))
  (Zw (Kr 2 (CF (XY (JW (B7 (Zc (Za 5) Zk)) (fz (B7 (Zc (Za 4) Zk)) (lG (Za 7)))))))
  (Kr 3 (E5 (Zc (Za 6) Zk)))))))
def W9:SF :=
 (Zw (ZL 2 (B7 Zk))
  (Zw (ZL 3 (B7 Zk))
  (Zw (Bi 4 (DA (Za 1)) KY)
  (ZE (E5 (Zc (CF (Zo 2)) (Zc (CF (Zo 3)) Zk)))))))
def Kx:List D->Option D:=fnOf 2 8 W9
def K4:SF :=
 (Zw (ZX 7 (pT Bb (Zj DC (Zc (Za 0) (Zc (pT Bb (pT Bb (Za 1) (eC (.int 4))) (Za 5)) Zk))) (pT Ci (eC (.int 71)) (Za 5))))
  (Zw (ZX 8 (pT Bb (eC (.int 2)) (Zj ZJ (Zc (Za 7) (Zc (eC (.int 9883)) (Zc (eC (.int 2)) Zk))))))
  (Kr 6 (CF (ZF (DA (Za 3)) A0 (Zj ZJ (Zc (pT Bb (Za 8) (pT Ci (pT Ci (eC (.int 13)) (Za 0)) (Za 0))) (Zc (eC (.int 9871)) (Zc (Za 9) Zk)))))))))
def MZ:SF :=
 (Kr 4 (Zj Kz (Zc (pT Bb (Zj DC (Zc (Za 0) (Zc (pT Bb (pT Bb (Za 1) (eC (.int 1))) (Za 5)) Zk))) (pT Ci (eC (.int 61)) (Za 5))) (Zc (Za 3) Zk))))
def KW:SF :=
 (Zw (ZX 2 (Zj DC (Zc (Za 0) (Zc (Za 1) Zk))))
  (Zw (ZX 3 (pT Bb (eC (.int 2)) (Zj ZJ (Zc (Za 2) (Zc (eC (.int 9923)) (Zc (eC (.int 4)) Zk))))))
  (Zw (qY (tV (pT uf (By (Zo 0)) (eC (.int 63)))) (ZX 3 (pT Bb (eC (.int 2)) (Zj ZJ (Zc (Za 2) (Zc (eC (.int 9923)) (Zc (eC (.int 6)) Zk)))))) Bu)
  (Zw (ZL 4 (B7 Zk))
  (Zw (Bi 5 (DA (pT Bb (eC (.int 1)) (Zj ZJ (Zc (Za 2) (Zc (eC (.int 9907)) (Zc (eC (.int 3)) Zk)))))) MZ)
  (Zw (qY (tV (pT ra (Zj ZJ (Zc (Za 2) (Zc (eC (.int 9901)) (Zc (eC (.int 3)) Zk)))) (eC (.int 1)))) (ZL 4 (JW (Mx (qg (Zj Kx (Zc (Zj DC (Zc (Za 0) (Zc (pT Bb (Za 1) (eC (.int 1))) Zk))) (Zc (Za 3) Zk))))) (gQ (Zo 4) Z_ (Z (eC (.int 1)))))) Bu)
  (Zw (ZL 6 (B7 Zk))
  (Zw (Bi 5 (DA (Zj ZJ (Zc (Za 2) (Zc (eC (.int 9887)) (Zc (eC (.int 4)) Zk))))) K4)
  (Zw (ZX 9 (Zj Hx (Zc (Zj DC (Zc (Za 0) (Zc (pT Bb (Za 1) (eC (.int 7))) Zk))) (Zc (Za 3) (Zc (eC (.int 1)) Zk)))))
  (Zw (qY (tV (pT ra (Zj ZJ (Zc (Za 2) (Zc (eC (.int 9859)) (Zc (eC (.int 3)) Zk)))) (eC (.int 1)))) (ZX 9 (nu (DA (Za 3)))) Bu)
  (Zw (ZX 10 (Zj Hx (Zc (Zj DC (Zc (Za 0) (Zc (pT Bb (Za 1) (eC (.int 8))) Zk))) (Zc (Za 3) (Zc (eC (.int 1)) Zk)))))
  (ZE (E5 (Zc (Za 3) (Zc (CF (Zo 4)) (Zc (CF (Zo 6)) (Zc (Za 9) (Zc (Za 10) Zk))))))))))))))))))
def Fw:List D->Option D:=fnOf 2 11 KW
def Xi:SF :=
 (ZE (CF (ZF (DA (By (qg (qy (Zo 0) (eC (.int 2)))))) (tV (pT uf (Zj ZJ (Zc (pT Bb (Za 2) (pT Ci (eC (.int 19)) (Za 0))) (Zc (eC (.int 9857)) (Zc (eC (.int 4)) Zk)))) (eC (.int 0)))) (Za 0))))
def KU:List D->Option D:=fnOf 2 2 Xi
def Ei:SF :=
 (Zw (qY (tV (pT ra (qy (qg (qy (qg (qy (Zo 0) (eC (.int 1)))) (Za 2))) (Za 4)) (E5 Zk))) (ZE (eC .none)) Bu)
  (ZL 3 (JW (Zo 3) (Mx (qg (qy (qg (qy (qg (qy (Zo 0) (eC (.int 1)))) (Za 2))) (Za 4)))))))
def Qt:SF :=
 (Zw (ZL 3 (B7 Zk))
  (Zw (Bi 4 (ZW (qg (Za 1))) Ei)
  (ZE (CF (XY (Zo 3))))))
def Jc:List D->Option D:=fnOf 3 5 Qt
def Jk:SF :=
 (Zw (ZX 5 (CF (ZF (ZW (qg (Za 1))) A0 (qy (qg (qy (qg (qy (Zo 1) (eC (.int 2)))) (Za 0))) (Za 5)))))
  (Zw (qY (tV (mX (Za 5) (Zo 3))) (mN 3 (Za 5)) Bu)
  (k5 3 (Za 5) (Za 4))))
def Xh:SF :=
 (Zw (ZL 3 SW)
  (Zw (Bi 4 (ZW (qg (Za 2))) Jk)
  (ZE (tw (ZF (ZW (qg (tw (MG (Zo 3))))) A0 (E5 (Zc (Za 0) (Zc (CF (UT 4 (Za 0))) Zk))))))))
def IW:List D->Option D:=fnOf 3 6 Xh
def Zx(ns:List Int)(k:Nat):Int:=if k<ns.length then ns.getD k 0 else 0
theorem G6(ns:List Int)(k:Nat):DC [.list (ns.map dI),.int k]=Z (.int (Zx ns k)):=by
 simp[DC,Xb,Zx]
 by_cases h:k<ns.length
 .have h':(k:Int)<(ns.length:Int):=by omega
  have e:sY (ns.map dI) (k:Int)=Z (.int ns[k]):=G8 (by simp[h]);simp[h,h',e]
 .have h':¬(k:Int)<(ns.length:Int):=by omega
  simp[h,h']
def ZQ(c p m:Int):Int:=c*48271%p%m
theorem C9(c p m:Int)(hp:0<p)(hm:0<m):ZJ [.int c,.int p,.int m]=Z (.int (ZQ c p m)):=by simp[ZJ,Wz,hp,hm,ZQ]
theorem DS(c p m:Int)(hm:0<m):0<=ZQ c p m/\ZQ c p m<m:=⟨Int.emod_nonneg _ (by omega),Int.emod_lt_of_pos _ hm⟩
def zB(c:Int)(k:Nat):Bool:=decide (ZQ (c+31*(k:Int)*(k:Int)+7*(k:Int)) 9973 5<2)
def wg(c:Int)(n:Nat):List Int:=((Ag n).filter (zB c)).map λ(k:Nat)=>(k:Int)
def vN(c:Int)(n:Nat):List Int:=if(wg c n).length<1 then[ZQ c 9967 n]else wg c n
theorem Po(n:Nat)(p:Nat->Bool):Cr n (((Ag n).filter p).map λ(k:Nat)=>(k:Int)):=by
 refine⟨?_,λx hx=>?_⟩
 .rw[JH]
  refine List.Pairwise.imp (λ{a b} h=>?_) (List.Pairwise.filter p NT);omega
 .obtain⟨k,hk,rfl⟩:=Aj.mp hx
  have:=As.mp (A9.mp hk).1;omega
theorem Tt(c:Int)(n:Nat)(hn:0<n):Cr n (vN c n)/\vN c n≠[]:=by
 unfold vN;split
 .refine⟨⟨by simp,λx hx=>?_⟩,by simp⟩
  have e:x=ZQ c 9967 n:=by simpa using hx
  rw[e];have:=DS c 9967 n (by omega);omega
 .rename_i h
  exact⟨Po n _,λe=>h (by rw[e];simp)⟩
theorem Us(c:Int)(n:Nat)(hn:0<n)(hb:n<1000):Hx [.int c,.int n,.int 1]=Z (pN (vN c n)):=by
 have hn':(0:Int)<(n:Int):=by omega
 have key:Bz (tV (pT xy (Zj ZJ (Zc (pT Bb (pT Bb (Za 1) (pT Ci (pT Ci (eC (.int 31)) (Za 0)) (Za 0))) (pT Ci (eC (.int 7)) (Za 0))) (Zc (eC (.int 9973)) (Zc (eC (.int 5)) Zk)))) (eC (.int 2)))) (Za 0)
   [Z (.pl (.int c)),Z (.pl (.int n)),Z (.pl (.int 1)),Z_] (Jb 0 n)=Z ((wg c n).map dI):=by
  rw[DB];rw[DP dN (zB c) dN]
  .unfold wg
   rw[Av];rfl
  .intro k hk
   have hk':=As.mp hk;have s2:ZR (31*(k:Int))=Aa:=Qe (by omega) (by omega);simp[C9,zB,s2]
  .intro k hk _
   simp
 have h1:ua (n:Int)=Aa:=Ga (by omega);have h2:(Jb 0 n).length<1000000:=by rw[DB];simp;omega
 by_cases hl:(wg c n).length<1
 .have hl':((wg c n).length:Int)<1:=by omega
  have hm:=C9 c 9967 n (by decide) hn';simp[Hx,Ro,h1,h2,key];simp[hl',vN,hl,hm]
 .have hl':¬((wg c n).length:Int)<1:=by omega
  simp[Hx,Ro,h1,h2,key];simp[hl',vN,hl]
def Oo(c:Int)(n k:Nat):List Int :=
 let s:=c+43*(k:Int)*(k:Int)+11*(k:Int)
 if ZQ s 9949 10<3/\ZQ s 9941 n≠ZQ s 9931 n then[ZQ s 9941 n,ZQ s 9931 n]else[ZQ s 9941 n]
def DJ(c:Int)(n k:Nat):List Int:=if ZQ (c+43*(k:Int)*(k:Int)+11*(k:Int)) 9949 10=9 then[]else sortI (Oo c n k)
theorem eM(c:Int)(n k:Nat)(hn:0<n):Cr n (DJ c n k):=by
 unfold DJ;split
 .exact⟨.nil,λx hx=>by simp at hx⟩
 .unfold Oo
  dsimp only;have b1:=DS (c+43*(k:Int)*(k:Int)+11*(k:Int)) 9941 n (by omega);have b2:=DS (c+43*(k:Int)*(k:Int)+11*(k:Int)) 9931 n (by omega);split
  .rename_i h
   refine Md (by simp[h.2]) λx hx=>?_;simp at hx;rcases hx with e|e<;>(subst e;assumption)
  .refine Md (by simp) λx hx=>?_
   simp at hx;subst hx;assumption
theorem gW(n:Nat):ub (n+1) (-1)=Z n:=by unfold ub;rw[if_neg (by decide),if_pos (by omega)];congr 1;omega
theorem i6(c:Int)(n k:Nat)(vb:List D)(o4 o5 o6:Option B)(hn:0<n)(hk:k<1000)(hl:vb.length<1000):∃r5 r6 r7,Hw [Z (.pl (.int c)),Z (.pl (.int n)),Z (.ol vb),Z (.pl (dN k)),o4,o5,o6]=Z (.nx [Z (.pl (.int c)),Z (.pl (.int n)),Z (.ol (vb++[pN (DJ c n k)])),Z (.pl (dN k)),r5,r6,r7]):=by
 have hn':(0:Int)<(n:Int):=by omega
 have s2:ZR (43*(k:Int))=Aa:=Qe (by omega) (by omega);have hl':vb.length<1000000:=by omega
 have m1:=C9 (c+43*(k:Int)*(k:Int)+11*(k:Int)) 9949 10 (by decide) (by decide);have m2:=C9 (c+43*(k:Int)*(k:Int)+11*(k:Int)) 9941 n (by decide) hn';have m3:=C9 (c+43*(k:Int)*(k:Int)+11*(k:Int)) 9931 n (by decide) hn';unfold DJ Oo;dsimp only;generalize ZQ (c+43*(k:Int)*(k:Int)+11*(k:Int)) 9949 10=wy at *;generalize ZQ (c+43*(k:Int)*(k:Int)+11*(k:Int)) 9941 n=a at *;generalize ZQ (c+43*(k:Int)*(k:Int)+11*(k:Int)) 9931 n=b at *;have t1:FY [Bq a]=Z ((sortI [a]).map dI):=Qz [a] (by simp);have t2:FY [Bq a,Bq b]=Z ((sortI [a,b]).map dI):=Qz [a,b] (by simp)
 by_cases w3:wy<3
 .have w9:(wy==9)=Ab:=by simp;omega
  have w9':¬wy=9:=by omega
  by_cases ab:a=b
  .subst ab
   simp[Hw,s2,m1,m2,m3,w3,w9,w9',qj,BL,hl',t1]
  .simp[Hw,s2,m1,m2,m3,w3,w9,w9',qj,ab,BL,hl',t2]
 .by_cases w9:wy=9
  .subst w9
   simp[Hw,s2,m1,m2,qj,BL,hl',t1,gW]
  .have w9':(wy==9)=Ab:=by simp[w9]
   simp[Hw,s2,m1,m2,w3,w9',w9,qj,BL,hl',t1]
theorem eF(c:Int)(n:Nat)(hn:0<n)(hb:n<1000):Kz [.int c,.int n]=Z (ZN ((Ag n).map λk=>DJ c n k)):=by
 have h1:ua (n:Int)=Aa:=Ga (by omega);have h2:(Jb 0 n).length<1000000:=by rw[DB];simp;omega
 obtain⟨r',e1,o3,o4,o5,o6,p1⟩:=L7 (i:=3) (body:=Hw) dN (λ(s:List Nat) r=>∃o3 o4 o5 o6,r=[Z (.pl (.int c)),Z (.pl (.int n)),Z (.ol (s.map λk=>pN (DJ c n k))),o3,o4,o5,o6]) (Ag n)
  [Z (.pl (.int c)),Z (.pl (.int n)),Z (.ol []),Z_,Z_,Z_,Z_] ⟨Z_,Z_,Z_,Z_,rfl⟩ (by
   rintro s k post r sE ⟨o3,o4,o5,o6,rfl⟩
   have hk':k<n:=As.mp (by rw[sE];simp);have hs:s.length<n:=by have:=congrArg Bx sE;simp at this;omega
   obtain⟨r5,r6,r7,e⟩:=i6 c n k (s.map λk=>pN (DJ c n k)) o4 o5 o6 hn (by omega) (by simp;omega);exact⟨_,e,Z (.pl (dN k)),r5,r6,r7,by simp⟩)
 subst p1;have hl:n<1000000:=by omega
 simp[Kz,Xa,h1,DB,hl,e1,ZN]
def ahV(k:Nat):Int:=if(0:Int) > (k:Int)-1 then 0 else(k:Int)-1
def ui(n k:Nat):Int:=if(n:Int)-1<(k:Int)+1 then(n:Int)-1 else(k:Int)+1
def uU(c:Int)(k:Nat):List Int:=sortI (qA [] (ahV k::(if ZQ (c+17*(k:Int)) 9929 6=1 then[(k:Int)]else[])))
theorem bz(c:Int)(n k:Nat)(hk:k<n):Cr n (uU c k):=by
 unfold uU;have ha:0<=ahV k/\ahV k<n:=by unfold ahV;split<;>omega
 refine Md (MR _ _ (by simp)) λx hx=>?_;rw[Ku]at hx;rcases hx with h|h
 .simp at h
 .rcases Ax.mp h with e|e
  .subst e;exact ha
  .split at e
   .simp at e;subst e;omega
   .simp at e
theorem cH(n k:Nat)(hk:k<n):Cr n [ui n k]:=by
 have ha:0<=ui n k/\ui n k<n:=by unfold ui;split<;>omega
 exact⟨by simp,λx hx=>by simp at hx;subst hx;exact ha⟩
theorem jD(c:Int)(n k:Nat)(ls rs:List D)(o4 o5 o6 o7:Option B)(hk:k<8)(h1:ls.length<1000)(h2:rs.length<1000):∃r4 r5 r6,KY [Z (.pl (.int c)),Z (.pl (.int n)),Z (.ol ls),Z (.ol rs),Z (.pl (dN k)),o5,o6,o7]=Z (.nx [Z (.pl (.int c)),Z (.pl (.int n)),Z (.ol (ls++[pN (uU c k)])),Z (.ol (rs++[pN [ui n k]])),Z (.pl (dN k)),r4,r5,r6]):=by
 have h1':ls.length<1000000:=by omega
 have h2':rs.length<1000000:=by omega
 have m1:=C9 (c+17*(k:Int)) 9929 6 (by decide) (by decide);have yw:k=0\/k=1\/k=2\/k=3\/k=4\/k=5\/k=6\/k=7:=by omega
 have l1:LF [if(k:Int)-1<0 then 0 else(k:Int)-1,(k:Int)]=Aa:=by rcases yw with rfl|rfl|rfl|rfl|rfl|rfl|rfl|rfl<;>rfl
 have l2:LF [if(k:Int)-1<0 then 0 else(k:Int)-1]=Aa:=by rcases yw with rfl|rfl|rfl|rfl|rfl|rfl|rfl|rfl<;>rfl
 unfold uU;generalize ZQ (c+17*(k:Int)) 9929 6=a at *
 by_cases e:a=1
 .subst e
  simp[KY,m1,h1',h2',ahV,ui,BM,My,l1]
 .have e':(a==1)=Ab:=by simp[e]
  simp[KY,m1,h1',h2',ahV,ui,e,e',BM,My,l2]
theorem eA(c:Int)(n:Nat)(hb:n<=8):Kx [.int c,.int n]=Z (.tuple [ZN ((Ag n).map λk=>uU c k),ZN ((Ag n).map λk=>[ui n k])]):=by
 have h1:ua (n:Int)=Aa:=Ga (by omega);obtain⟨r',e1,o4,o5,o6,o7,p1⟩:=L7 (i:=4) (body:=KY) dN (λ(s:List Nat) r=>∃o4 o5 o6 o7,r=[Z (.pl (.int c)),Z (.pl (.int n)),Z (.ol (s.map λk=>pN (uU c k))),Z (.ol (s.map λk=>pN [ui n k])),o4,o5,o6,o7]) (Ag n)
  [Z (.pl (.int c)),Z (.pl (.int n)),Z (.ol []),Z (.ol []),Z_,Z_,Z_,Z_] ⟨Z_,Z_,Z_,Z_,rfl⟩ (by
   rintro s k post r sE ⟨o4,o5,o6,o7,rfl⟩
   have hk':k<n:=As.mp (by rw[sE];simp);have hs:s.length<n:=by have:=congrArg Bx sE;simp at this;omega
   obtain⟨r5,r6,r7,e⟩:=jD c n k (s.map λk=>pN (uU c k)) (s.map λk=>pN [ui n k]) o4 o5 o6 o7 (by omega) (by simp;omega) (by simp;omega);exact⟨_,e,Z (.pl (dN k)),r5,r6,r7,by simp⟩)
 subst p1;have hl:n<1000000:=by omega
 simp[Kx,W9,h1,DB,hl,e1,ZN]
section
variable(ns:List Int)(at_:Nat)
def ZK:Nat:=(2+ZQ (Zx ns at_) 9923 4).toNat
def CD:List (List (List Int)):=(Ag (1+ZQ (Zx ns at_) 9907 3).toNat).map λk=>(Ag (ZK ns at_)).map λs=>DJ (Zx ns (at_+1+k)+61*(k:Int)) (ZK ns at_) s
def GY:List (List (List Int)) :=
 if ZQ (Zx ns at_) 9901 3=1 then[(Ag (ZK ns at_)).map λk=>uU (Zx ns (at_+1)) k,(Ag (ZK ns at_)).map λk=>[ui (ZK ns at_) k]]++(CD ns at_).take 1 else CD ns at_
def FR(k:Nat):List Int:=(Ag (ZK ns at_)).map λ(s:Nat)=>ZQ (Zx ns (at_+4+k)+71*(k:Int)+13*(s:Int)*(s:Int)) 9871 (2+ZQ (Zx ns (at_+4+k)+71*(k:Int)) 9883 2)
def GV:List (List Int):=(Ag (ZQ (Zx ns at_) 9887 4).toNat).map (FR ns at_)
def JK:List Int:=if ZQ (Zx ns at_) 9859 3=1 then(Ag (ZK ns at_)).map λ(k:Nat)=>(k:Int)else vN (Zx ns (at_+7)) (ZK ns at_)
def S9:List Int:=vN (Zx ns (at_+8)) (ZK ns at_)
def vV:Wk:=⟨ZK ns at_,GY ns at_,GV ns at_,JK ns at_,S9 ns at_⟩
theorem LZ:2<=ZK ns at_/\ZK ns at_<=5:=by have:=DS (Zx ns at_) 9923 4 (by decide);unfold ZK;omega
theorem dX:((ZK ns at_:Nat):Int)=2+ZQ (Zx ns at_) 9923 4:=by have:=DS (Zx ns at_) 9923 4 (by decide);unfold ZK;omega
theorem cL:(vV ns at_).Ok:=by
 have hm:=LZ ns at_;have hd3:=DS (Zx ns at_) 9907 3 (by decide);have dk:∀dd∈CD ns at_,dd.length=ZK ns at_/\∀c∈dd,Cr (ZK ns at_) c:=by intro dd h;unfold CD at h;obtain⟨k,_,rfl⟩:=Aj.mp h;refine⟨by simp,λc hc=>?_⟩;obtain⟨s,_,rfl⟩:=Aj.mp hc;exact eM _ _ _ (by omega)
 have dv:∀dd∈GY ns at_,dd.length=ZK ns at_/\∀c∈dd,Cr (ZK ns at_) c:=by
  intro dd h;unfold GY at h;split at h
  .rcases A8.mp h with h|h
   .simp at h
    rcases h with rfl|rfl
    .refine⟨by simp,λc hc=>?_⟩
     obtain⟨s,hs,rfl⟩:=Aj.mp hc;exact bz _ _ _ (As.mp hs)
    .refine⟨by simp,λc hc=>?_⟩
     obtain⟨s,hs,rfl⟩:=Aj.mp hc;exact cH _ _ (As.mp hs)
   .exact dk dd (Sa h)
  .exact dk dd h
 have lk:(CD ns at_).length=(1+ZQ (Zx ns at_) 9907 3).toNat:=by unfold CD;simp
 have lv:1<=(GY ns at_).length/\(GY ns at_).length<=3:=by
  unfold GY;split
  .simp;omega
  .omega
 have hl4:=DS (Zx ns at_) 9887 4 (by decide);have lo:∀l∈GV ns at_,l.length=ZK ns at_/\∀x∈l,0<=x/\x<=9:=by intro l h;unfold GV at h;obtain⟨k,_,rfl⟩:=Aj.mp h;unfold FR;refine⟨by simp,λx hx=>?_⟩;obtain⟨s,_,rfl⟩:=Aj.mp hx;have h2:=DS (Zx ns (at_+4+k)+71*(k:Int)) 9883 2 (by decide);have h3:=DS (Zx ns (at_+4+k)+71*(k:Int)+13*(s:Int)*(s:Int)) 9871 (2+ZQ (Zx ns (at_+4+k)+71*(k:Int)) 9883 2) (by omega);omega
 have ll:(GV ns at_).length<=3:=by unfold GV;simp;omega
 have cb:=Tt (Zx ns (at_+7)) (ZK ns at_) (by omega);have cg:=Tt (Zx ns (at_+8)) (ZK ns at_) (by omega);have hb:JK ns at_≠[]/\Cr (ZK ns at_) (JK ns at_):=by
  unfold JK;split
  .refine⟨λe=>?_,?_⟩
   .have:=congrArg Bx e
    simp at this;omega
   .have:=Po (ZK ns at_) λ_=>Aa
    rwa [R7.mpr λ_ _=>rfl]at this
  .exact⟨cb.2,cb.1⟩
 exact⟨hm.1,hm.2,lv.1,lv.2,λdd h=>(dv dd h).1,λdd h=>(dv dd h).2,ll,λl h=>(lo l h).1,λl h=>(lo l h).2,hb.1,hb.2,cg.2,cg.1⟩
theorem jZ(k n:Nat)(c:Option B)(ds:List D)(o6 o7 o8 o9 qu:Option B)(hk:k<1000)(h1:ds.length<1000)(hn:0<n)(hb:n<1000):MZ [Z (.pl (.list (ns.map dI))),Z (.pl (.int at_)),c,Z (.pl (.int n)),Z (.ol ds),Z (.pl (dN k)),o6,o7,o8,o9,qu] =Z (.nx [Z (.pl (.list (ns.map dI))),Z (.pl (.int at_)),c,Z (.pl (.int n)),Z (.ol (ds++[ZN ((Ag n).map λs=>DJ (Zx ns (at_+1+k)+61*(k:Int)) n s)])),Z (.pl (dN k)),o6,o7,o8,o9,qu]):=by
 have h1':ds.length<1000000:=by omega
 have hc:=G6 ns (at_+1+k);have e:((at_+1+k:Nat):Int)=(at_:Int)+1+(k:Int):=by omega
 rw[e]at hc;have hd:=eF (Zx ns (at_+1+k)+61*(k:Int)) n hn hb;simp[MZ,hc,hd,h1']
theorem ki(k n:Nat)(c o4:Option B)(ls:List D)(o7 o8 o9 qu:Option B)(hk:k<1000)(h1:ls.length<1000)(hn:n=ZK ns at_):∃r7 r8,K4 [Z (.pl (.list (ns.map dI))),Z (.pl (.int at_)),c,Z (.pl (.int n)),o4,Z (.pl (dN k)),Z (.ol ls),o7,o8,o9,qu] =Z (.nx [Z (.pl (.list (ns.map dI))),Z (.pl (.int at_)),c,Z (.pl (.int n)),o4,Z (.pl (dN k)),Z (.ol (ls++[pN (FR ns at_ k)])),r7,r8,o9,qu]):=by
 have hb:=LZ ns at_;have h1':ls.length<1000000:=by omega
 have hc:=G6 ns (at_+4+k);have e:((at_+4+k:Nat):Int)=(at_:Int)+4+(k:Int):=by omega
 rw[e]at hc;have m1:=C9 (Zx ns (at_+4+k)+71*(k:Int)) 9883 2 (by decide) (by decide);have b1:=DS (Zx ns (at_+4+k)+71*(k:Int)) 9883 2 (by decide);have hok:ua (n:Int)=Aa:=Ga (by omega);have hl:n<1000000:=by omega
 unfold FR;rw[<-hn];generalize ZQ (Zx ns (at_+4+k)+71*(k:Int)) 9883 2=mo at *;generalize Zx ns (at_+4+k)=cc at *;simp[K4,hc,m1,hok,h1',DB,hl];rw[Dz dN λ(s:Nat)=>dI (ZQ (cc+71*(k:Int)+13*(s:Int)*(s:Int)) 9871 (2+mo))]
 .refine⟨Z (.pl (.int (cc+71*(k:Int)))),Z (.pl (.int (2+mo))),?_⟩
  simp
 .intro s hs
  have hs':=As.mp hs;have s2:ZR (13*(s:Int))=Aa:=Qe (by omega) (by omega);have m2:=C9 (cc+71*(k:Int)+13*(s:Int)*(s:Int)) 9871 (2+mo) (by decide) (by omega);simp[s2,m2]
theorem ia(h:ns.length<=63):Fw [.list (ns.map dI),.int at_]=Z (vV ns at_).d:=by
 have hb:=LZ ns at_;have v7:=dX ns at_;have c0:=G6 ns at_;have c1:=G6 ns (at_+1);have c7:=G6 ns (at_+7);have c8:=G6 ns (at_+8);have e1:((at_+1:Nat):Int)=(at_:Int)+1:=by omega
 have e7:((at_+7:Nat):Int)=(at_:Int)+7:=by omega
 have e8:((at_+8:Nat):Int)=(at_:Int)+8:=by omega
 rw[e1]at c1;rw[e7]at c7;rw[e8]at c8;have m4:=C9 (Zx ns at_) 9923 4 (by decide) (by decide);have m3:=C9 (Zx ns at_) 9907 3 (by decide) (by decide);have b3:=DS (Zx ns at_) 9907 3 (by decide);have mw:=C9 (Zx ns at_) 9901 3 (by decide) (by decide);have ml:=C9 (Zx ns at_) 9887 4 (by decide) (by decide);have bl:=DS (Zx ns at_) 9887 4 (by decide);have mb:=C9 (Zx ns at_) 9859 3 (by decide) (by decide);have wk:=eA (Zx ns (at_+1)) (ZK ns at_) (by omega);have k7:=Us (Zx ns (at_+7)) (ZK ns at_) (by omega) (by omega);have k8:=Us (Zx ns (at_+8)) (ZK ns at_) (by omega) (by omega);have pP:¬(63:Int)<(ns.length:Int):=by omega
 have ye:ua (1+ZQ (Zx ns at_) 9907 3)=Aa:=HE.mpr (by omega);have yd:ua (ZQ (Zx ns at_) 9887 4)=Aa:=HE.mpr (by omega);have yc:ua ((ZK ns at_:Nat):Int)=Aa:=Ga (by omega);obtain⟨r1,f1,o5,q1⟩:=L7 (i:=5) (body:=MZ) dN (λ(s:List Nat) r=>∃o5,r=[Z (.pl (.list (ns.map dI))),Z (.pl (.int at_)),Z (.pl (.int (Zx ns at_))),Z (.pl (.int (ZK ns at_))),
   Z (.ol (s.map λk=>ZN ((Ag (ZK ns at_)).map λs=>DJ (Zx ns (at_+1+k)+61*(k:Int)) (ZK ns at_) s))),o5,Z_,Z_,Z_,Z_,Z_]) (Ag (1+ZQ (Zx ns at_) 9907 3).toNat)
  [Z (.pl (.list (ns.map dI))),Z (.pl (.int at_)),Z (.pl (.int (Zx ns at_))),Z (.pl (.int (ZK ns at_))),Z (.ol []),Z_,Z_,Z_,Z_,Z_,Z_] ⟨Z_,rfl⟩ (by
   rintro s k post r sE ⟨o5,rfl⟩
   have hk':=As.mp (show k∈Ag (1+ZQ (Zx ns at_) 9907 3).toNat by rw[sE];simp);have hs:s.length<4:=by have:=congrArg Bx sE;simp at this;omega
   have e:=jZ ns at_ k (ZK ns at_) (Z (.pl (.int (Zx ns at_)))) (s.map λk=>ZN ((Ag (ZK ns at_)).map λs=>DJ (Zx ns (at_+1+k)+61*(k:Int)) (ZK ns at_) s)) Z_ Z_ Z_ Z_ Z_ (by omega) (by simp;omega) (by omega) (by omega);exact⟨_,e,Z (.pl (dN k)),by simp⟩)
 subst q1;have yT:∀(o4 o5:Option B),∃r2,Bc 5 K4 ((Ag (ZQ (Zx ns at_) 9887 4).toNat).map dN) [Z (.pl (.list (ns.map dI))),Z (.pl (.int at_)),Z (.pl (.int (Zx ns at_))),Z (.pl (.int (ZK ns at_))),o4,o5,Z (.ol []),Z_,Z_,Z_,Z_]=Z (.nx r2) /\
   ∃o5 o7 o8,r2=[Z (.pl (.list (ns.map dI))),Z (.pl (.int at_)),Z (.pl (.int (Zx ns at_))),Z (.pl (.int (ZK ns at_))),o4,o5,Z (.ol ((Ag (ZQ (Zx ns at_) 9887 4).toNat).map λk=>pN (FR ns at_ k))),o7,o8,Z_,Z_]:=by
  intro o4 o5;refine L7 (i:=5) (body:=K4) dN (λ(s:List Nat) r=>∃o5 o7 o8,r=[Z (.pl (.list (ns.map dI))),Z (.pl (.int at_)),Z (.pl (.int (Zx ns at_))),Z (.pl (.int (ZK ns at_))),
   o4,o5,Z (.ol (s.map λk=>pN (FR ns at_ k))),o7,o8,Z_,Z_]) (Ag (ZQ (Zx ns at_) 9887 4).toNat) _ ⟨o5,Z_,Z_,rfl⟩ ?_
  rintro s k post r sE ⟨o5,o7,o8,rfl⟩
  have hk':=As.mp (show k∈Ag (ZQ (Zx ns at_) 9887 4).toNat by rw[sE];simp);have hs:s.length<4:=by have:=congrArg Bx sE;simp at this;omega
  obtain⟨r7,r8,e⟩:=ki ns at_ k (ZK ns at_) (Z (.pl (.int (Zx ns at_)))) o4 (s.map λk=>pN (FR ns at_ k)) o7 o8 Z_ Z_ (by omega) (by simp;omega) rfl;exact⟨_,e,Z (.pl (dN k)),r7,r8,by simp⟩
 have n3:(1+ZQ (Zx ns at_) 9907 3).toNat<1000000:=by omega
 have nl:(ZQ (Zx ns at_) 9887 4).toNat<1000000:=by omega
 have nm:ZK ns at_<1000000:=by omega
 have hdk:((Ag (1+ZQ (Zx ns at_) 9907 3).toNat).map λk=>ZN ((Ag (ZK ns at_)).map λs=>DJ (Zx ns (at_+1+k)+61*(k:Int)) (ZK ns at_) s))=(CD ns at_).map ZN:=by unfold CD;simp
 have qN:((Ag (ZQ (Zx ns at_) 9887 4).toNat).map λk=>pN (FR ns at_ k))=(GV ns at_).map pN:=by unfold GV;simp
 rw[hdk]at f1;simp only[qN]at yT;have dkl:(CD ns at_).length<10:=by unfold CD;simp;omega
 unfold vV Wk.d GY JK S9;simp only
 by_cases w1:ZQ (Zx ns at_) 9901 3=1
 .have w1':(ZQ (Zx ns at_) 9901 3==1)=Aa:=by simp[w1]
  have cut:cutD ((CD ns at_).map ZN) Z_ (Z 1)=((CD ns at_).take 1).map ZN:=by unfold cutD wY;simp
  obtain⟨r2,f2,p5,p7,p8,q2⟩:=yT (Z (.ol (ZN ((Ag (ZK ns at_)).map λk=>uU (Zx ns (at_+1)) k)::ZN ((Ag (ZK ns at_)).map λk=>[ui (ZK ns at_) k])::List.take 1 ((CD ns at_).map ZN)))) o5;subst q2;have c2:min 1 (CD ns at_).length+1+1<1000000:=by omega
  have c3:(2:Nat)+min 1 (CD ns at_).length<1000000:=by omega
  by_cases w2:ZQ (Zx ns at_) 9859 3=1
  .have w2':(ZQ (Zx ns at_) 9859 3==1)=Aa:=by simp[w2]
   simp[Fw,KW,c0,m4,<-v7,pP,m3,ye,DB,n3,f1,mw,w1',c1,wk,cut,w1,ml,yd,nl,f2,c7,k7,mb,w2',yc,nm,c8,k8,w2,c2,c3]
  .have w2':(ZQ (Zx ns at_) 9859 3==1)=Ab:=by simp[w2]
   simp[Fw,KW,c0,m4,<-v7,pP,m3,ye,DB,n3,f1,mw,w1',c1,wk,cut,w1,ml,yd,nl,f2,c7,k7,mb,w2',yc,nm,c8,k8,w2,c2,c3]
 .have w1':(ZQ (Zx ns at_) 9901 3==1)=Ab:=by simp[w1]
  obtain⟨r2,f2,p5,p7,p8,q2⟩:=yT (Z (.ol ((CD ns at_).map ZN))) o5;subst q2
  by_cases w2:ZQ (Zx ns at_) 9859 3=1
  .have w2':(ZQ (Zx ns at_) 9859 3==1)=Aa:=by simp[w2]
   simp[Fw,KW,c0,m4,<-v7,pP,m3,ye,DB,n3,f1,mw,w1',w1,ml,yd,nl,f2,c7,k7,mb,w2',yc,nm,c8,k8,w2]
  .have w2':(ZQ (Zx ns at_) 9859 3==1)=Ab:=by simp[w2]
   simp[Fw,KW,c0,m4,<-v7,pP,m3,ye,DB,n3,f1,mw,w1',w1,ml,yd,nl,f2,c7,k7,mb,w2',yc,nm,c8,k8,w2]
end
section
variable{c:List Int}{n:Nat}
theorem Vi{e:EF}{r:HM.Env}{f:D->D}(xs:List D)(h:∀x∈xs,e (Z (.pl x)::r)=Z (f x)):Bz A0 e r xs=Z (xs.map f):=by
 have:=Dz (e:=e) (r:=r) id f xs h
 rwa [List.map_id]at this
theorem UR(xs:List D)(p:D->Bool):G9 (xs.map λx=>Dm (p x))=Z (xs.map p):=by
 have:=MB (xs.map p)
 rwa [Av]at this
def Ey(d:D)(lo hi:Int):Bool:=match d with
 | .int i=>decide (lo<=i)&&decide (i<=hi)
 |_=>Ab
def uY:D->Prop
 | .dict _=>False
 |_=>True
theorem QI(d:D)(lo hi:Int)(nd:uY d:=by trivial):Fx [d,.int lo,.int hi]=Z (.bool (Ey d lo hi)):=by
 cases d<;>first|exact nd.elim|simp[Fx,Xm,Ey]
 rename_i i
 by_cases h:lo<=i<;>simp[h]
def CA(d:D)(lo hi:Int):Bool:=match d with
 | .tuple ds=>decide (lo<=(ds.length:Int))&&decide ((ds.length:Int)<=hi)
 |_=>Ab
theorem Kv(d:D)(lo hi:Int)(nd:uY d:=by trivial):DD [d,.int lo,.int hi]=Z (.bool (CA d lo hi)):=by
 cases d<;>first|exact nd.elim|simp[DD,Wc,CA]
 rename_i ds
 by_cases h:lo<=(ds.length:Int)<;>simp[h]
def Dc(many:Int):Int->List D->Bool
 |_,[]=>Aa
 |l,.int i::r=>(decide (l<=i)&&decide (i<=many-1))&&Dc many (i+1) r
 |_,_::_=>Ab
def Ih(d:D)(many:Int):Bool:=match d with
 | .tuple ds=>Dc many 0 ds
 |_=>Ab
theorem Ub(d:D)(many:Int):∀(ds:List D) (l:Int) (o:Option B),(∀x∈ds,uY x) ->(Dc many l ds=Aa->∃l' o',Bc 3 Eg ds [Z (.pl d),Z (.pl (.int many)),Z (.pl (.int l)),o]=Z (.nx [Z (.pl d),Z (.pl (.int many)),Z (.pl (.int l')),o'])) /\ (Dc many l ds=Ab->Bc 3 Eg ds [Z (.pl d),Z (.pl (.int many)),Z (.pl (.int l)),o]=Z (.rt (.bool Ab)))
 |[],l,o,_=>⟨λ_=>⟨l,o,rfl⟩,λh=>by simp[Dc]at h⟩
 |x::ds,l,o,nd=>by
  have key:=QI x l (many-1) (nd x (An ..));cases hx:Ey x l (many-1)with
  |false =>
   have e:Eg [Z (.pl d),Z (.pl (.int many)),Z (.pl (.int l)),Z (.pl x)]=Z (.rt (.bool Ab)):=by rw[hx]at key;simp[Eg,key]
   have e2:Dc many l (x::ds)=Ab:=by cases x<;>simp[Dc];rename_i i;simp[Ey]at hx;intro h1 h2;exact absurd (hx h1) (by omega)
   refine⟨λh=>?_,λ_=>?_⟩
   .rw[e2]at h;cases h
   .unfold Bc
    show(match Eg [Z (.pl d),Z (.pl (.int many)),Z (.pl (.int l)),Z (.pl x)]with|some (.nx r')=>_|some (.ct r')=>_|some (.bk r')=>_|some (.rt d)=>_|none=>_)=_;rw[e]
  |true =>
   cases x with
   |int i =>
    have e:Eg [Z (.pl d),Z (.pl (.int many)),Z (.pl (.int l)),Z (.pl (.int i))]=Z (.nx [Z (.pl d),Z (.pl (.int many)),Z (.pl (.int (i+1))),Z (.pl (.int i))]):=by rw[hx]at key;simp[Eg,key]
    have e2:Dc many l (.int i::ds)=Dc many (i+1) ds:=by have:(decide (l<=i)&&decide (i<=many-1))=Aa:=hx;simp only[Dc,this,Js]
    obtain⟨a1,a2⟩:=Ub d many ds (i+1) (Z (.pl (.int i))) λx hx=>nd x (Ao _ hx);rw[e2];have e3:Bc 3 Eg (.int i::ds) [Z (.pl d),Z (.pl (.int many)),Z (.pl (.int l)),o]=Bc 3 Eg ds [Z (.pl d),Z (.pl (.int many)),Z (.pl (.int (i+1))),Z (.pl (.int i))]:=by show(match Eg [Z (.pl d),Z (.pl (.int many)),Z (.pl (.int l)),Z (.pl (.int i))]with|some (.nx r')=>_|some (.ct r')=>_|some (.bk r')=>_|some (.rt d)=>_|none=>_)=_;rw[e]
    rw[e3];exact⟨a1,a2⟩
   |_=>simp[Ey]at hx
theorem Xs(d:D)(many:Int)(hl:∀ds,d=.tuple ds->ds.length<1000000/\∀x∈ds,uY x)(nd:uY d:=by trivial):Z1 [d,.int many]=Z (.bool (Ih d many)):=by
 cases d with
 |tuple ds =>
  obtain⟨hl,hn⟩:=hl ds rfl;obtain⟨a1,a2⟩:=Ub (.tuple ds) many ds 0 Z_ hn;cases h:Dc many 0 ds with
  |true=>obtain⟨l',o',e⟩:=a1 h;simp[Z1,M3,Ih,h,hl,e]
  |false=>have e:=a2 h;simp[Z1,M3,Ih,h,hl,e]
 |dict _=>exact nd.elim
 |_=>simp[Z1,M3,Ih]
def small:D->Prop
 | .tuple ds=>ds.length<1000000/\∀x∈ds,uY x
 | .dict _=>False
 |_=>True
theorem WG(h:(c.map dI).length<1000000):small (pN c):=⟨h,λx hx=>by obtain⟨i,_,rfl⟩:=Aj.mp hx;trivial⟩
theorem UQ{d:D}(h:small d):uY d:=by cases d<;>first|exact h.elim|trivial
theorem iV{d:D}(h:small d):∀ds,d=.tuple ds->ds.length<1000000/\∀x∈ds,uY x:=by rintro ds rfl;exact h
def J6(d:D)(many:Int):Bool:=CA d many many&&(match d with | .tuple ds=>ds.all λc=>Ih c many|_=>Ab)
def WK(d:D):Prop:=match d with | .tuple ds=>ds.length<1000000/\∀x∈ds,small x | .dict _=>False|_=>True
theorem fm{d:D}(h:WK d):uY d:=by cases d<;>first|exact h.elim|trivial
theorem jY(d:D)(many:Int)(hs:WK d):Hn [d,.int many]=Z (.bool (J6 d many)):=by
 have h1:=Kv d many many (fm hs);cases hr:CA d many many with
 |false=>rw[hr]at h1;simp[Hn,Qv,h1,J6,hr]
 |true =>
  rw[hr]at h1;cases d with
  |tuple ds =>
   have hs':ds.length<1000000/\∀x∈ds,small x:=hs;simp[Hn,Qv,h1,J6,hr,hs'.1];rw[Vi (f:=λc=>.bool (Ih c many))]
   .simp[UR]
   .intro x hx
    simp[Xs x many (iV (hs'.2 x hx)) (UQ (hs'.2 x hx))]
  |_=>simp[CA]at hr
def J5(d:D)(many:Int):Bool:=CA d many many&&(match d with | .tuple ds=>ds.all λc=>Ey c 0 9|_=>Ab)
theorem jx(d:D)(many:Int)(hs:small d):Hm [d,.int many]=Z (.bool (J5 d many)):=by
 have h1:=Kv d many many (UQ hs);cases hr:CA d many many with
 |false=>rw[hr]at h1;simp[Hm,Qu,h1,J5,hr]
 |true =>
  rw[hr]at h1;cases d with
  |tuple ds =>
   have hs':ds.length<1000000:=hs.1;simp[Hm,Qu,h1,J5,hr,hs'];rw[Vi (f:=λc=>.bool (Ey c 0 9))]
   .simp[UR]
   .intro x hx
    simp[QI x 0 9 (hs.2 x hx)]
  |_=>simp[CA]at hr
structure Wk.V(w:Wk):Prop where
 m1:1<=w.many
 m2:w.many<=8
 d1:1<=w.deeds.length
 d2:w.deeds.length<=5
 dl:∀dd∈w.deeds,dd.length=w.many
 dc:∀dd∈w.deeds,∀c∈dd,Cr w.many c
 l2:w.looks.length<=4
 ll:∀l∈w.looks,l.length=w.many
 lc:∀l∈w.looks,∀x∈l,0<=x/\x<=9
 b1:w.beg≠[]
 bc:Cr w.many w.beg
 gc:Cr w.many w.goal
theorem Wk.Ok.v{w:Wk}(h:w.Ok):Wk.V w:=by obtain⟨m1,m2,d1,d2,dl,dc,l2,ll,lc,b1,bc,g1,gc⟩:=h;exact⟨by omega,by omega,d1,by omega,dl,dc,by omega,ll,lc,b1,bc,gc⟩
theorem Pg(n:Nat):∀(c:List Int) (l:Int),c.Pairwise (· < ·)->(∀x∈c,l<=x/\x<(n:Int))->Dc n l (c.map dI)=Aa
 |[],_,_,_=>rfl
 |x::c,l,hp,hb=>by have h1:=hb x (An ..);have ih:=Pg n c (x+1) (Dg.mp hp).2 λy hy=>⟨by have:=(Dg.mp hp).1 y hy;omega,(hb y (Ao _ hy)).2⟩;show((decide (l<=x)&&decide (x<=(n:Int)-1))&&Dc n (x+1) (c.map dI))=Aa;rw[ih,decide_eq_true h1.1,decide_eq_true (show x<=(n:Int)-1 by omega)];rfl
theorem Qf(h:Cr n c)(hn:n<1000):Z1 [pN c,.int n]=Z (.bool Aa):=by have hl:=h.len;rw[Xs (pN c) n (by intro ds e;cases e;exact⟨by simp;omega,λx hx=>by obtain⟨i,_,rfl⟩:=Aj.mp hx;trivial⟩)];show Z (Dm (Dc n 0 (c.map dI)))=_;rw[Pg n c 0 h.1 h.2]
theorem kP(h:Cr n c)(h0:c≠[])(hn:n<1000):KA [pN c,.int n]=Z (.bool Aa):=by
 have h1:=Qf h hn;have h2:(0:Int)<(c.length:Int):=by have:=NP.mpr h0;omega
 simp[KA,WU,h1];exact NP.mpr h0
theorem eI{w:Wk}(h:Wk.V w){dd:List (List Int)}(hd:dd∈w.deeds):Hn [ZN dd,.int w.many]=Z (.bool Aa):=by
 have hl:=h.dl dd hd;have m2:=h.m2;rw[jY (ZN dd) _ (show(dd.map pN).length<1000000/\∀x∈dd.map pN,small x by refine⟨by simp;omega,λx hx=>?_⟩;obtain⟨c,hc,rfl⟩:=Aj.mp hx;have:=(h.dc dd hd c hc).len;refine WG ?_;simp;omega)];have e:J6 (ZN dd) w.many=Aa:=by unfold J6 ZN CA;simp[hl];intro c hc;exact Pg w.many c 0 (h.dc dd hd c hc).1 (h.dc dd hd c hc).2
 rw[e]
theorem eD{w:Wk}(h:Wk.V w){l:List Int}(hd:l∈w.looks):Hm [pN l,.int w.many]=Z (.bool Aa):=by
 have hl:=h.ll l hd;have m2:=h.m2;rw[jx (pN l) _ (WG (show(l.map dI).length<1000000 by simp;omega))];have e:J5 (pN l) w.many=Aa:=by unfold J5 CA;simp[hl];intro x hx;have:=h.lc l hd x hx;simp[Ey];omega
 rw[e]
theorem allTrue(α:Type)(xs:List α):G9 (xs.map λ_=>Dm Aa)=Z (xs.map λ_=>Aa):=by
 have:=MB (xs.map λ_=>Aa)
 rwa [Av]at this
theorem lI{w:Wk}(h:Wk.V w):K1 [.tuple (w.deeds.map ZN),.int w.many]=Z (.bool Aa):=by
 have h1:=Kv (.tuple (w.deeds.map ZN)) 1 5;have d1:=h.d1;have d2:=h.d2;have e:CA (.tuple (w.deeds.map ZN)) 1 5=Aa:=by simp[CA];omega
 rw[e]at h1;have hl:w.deeds.length<1000000:=by omega
 simp[K1,Xl,h1,hl];rw[Dz ZN (λ_=>.bool Aa)]
 .simp[allTrue]
 .intro x hx
  simp[eI h hx]
theorem lH{w:Wk}(h:Wk.V w):K0 [.tuple (w.looks.map pN),.int w.many]=Z (.bool Aa):=by
 have h1:=Kv (.tuple (w.looks.map pN)) 0 4;have d2:=h.l2;have e:CA (.tuple (w.looks.map pN)) 0 4=Aa:=by simp[CA];omega
 rw[e]at h1;have hl:w.looks.length<1000000:=by omega
 simp[K0,Xk,h1,hl];rw[Dz pN (λ_=>.bool Aa)]
 .simp[allTrue]
 .intro x hx
  simp[eD h hx]
theorem la{w:Wk}(h:Wk.V w):KZ [w.d]=Z (.bool Aa):=by
 have h1:=Kv w.d 5 5;have e:CA w.d 5 5=Aa:=by simp[CA,Wk.d]
 rw[e]at h1;have h2:=QI (.int w.many) 1 8;have m1:=h.m1;have m2:=h.m2;have e2:Ey (.int w.many) 1 8=Aa:=by simp[Ey];omega
 rw[e2]at h2;have h3:=lI h;have h4:=lH h;have h5:=kP h.bc h.b1 (by omega);have h6:=Qf h.gc (by omega);unfold Wk.d at h1 ⊢;simp[KZ,Xj,h1,h2,h3,h4,h5,h6]
theorem WQ{w:Wk}(h:Wk.V w):Hl [w.d]=Z w.d:=by simp[Hl,WB,la h]
theorem QJ(w:Wk):Fm [w.d]=Z (.tuple (w.deeds.map ZN)):=by simp[Fm,WT,Wk.d]
theorem W6(w:Wk):Hy [w.d]=Z (.tuple (w.looks.map pN)):=by simp[Hy,WS,Wk.d]
theorem X1{w:Wk}(h:Wk.V w){ls:List Int}(hl:Cr w.looks.length ls):Hz [w.d,pN ls]=Z (pN ls):=by have l2:=h.l2;have h1:=Qf hl (by omega);simp[Hz,X2,W6,h1]
end
section
variable{l s:Int}{c:List Int}
def Bh(w:Wk)(d s:Int):List Int:=(w.deeds[d.toNat]?.getD [])[s.toNat]?.getD []
def JV(w:Wk)(l s:Int):Int:=(w.looks[l.toNat]?.getD [])[s.toNat]?.getD 0
def AV(w:Wk)(c:List Int)(d:Int):Bool:=c.all λs=>decide (0<(Bh w d s).length)
def Bo(w:Wk)(c:List Int)(d:Int):List Int:=c.flatMap λs=>Bh w d s
def Z4(w:Wk)(c:List Int)(d:Int):List Int:=sortI (qA [] (Bo w c d))
def Zz(w:Wk)(ls:List Int)(s:Int):List Int:=ls.map λl=>JV w l s
theorem O4{w:Wk}{d:Int}(h0:0<=d)(h1:d<w.deeds.length):sY (w.deeds.map ZN) d=Z (ZN (w.deeds[d.toNat]?.getD [])):=by
 refine LX h0 ?_;have h:d.toNat<w.deeds.length:=by omega
 simp[h,Cq]
theorem OF{w:Wk}(hv:Wk.V w){d:Int}(h0:0<=d)(h1:d<w.deeds.length)(h2:0<=s)(h3:s<w.many):sY ((w.deeds[d.toNat]?.getD []).map pN) s=Z (pN (Bh w d s)):=by
 refine LX h2 ?_;have h:d.toNat<w.deeds.length:=by omega
 have hl:(w.deeds[d.toNat]?.getD []).length=w.many:=by
  have:w.deeds[d.toNat]?.getD []=w.deeds[d.toNat]:=by simp[h,Cq]
  rw[this];exact hv.dl _ (FD h)
 have h':s.toNat<(w.deeds[d.toNat]?.getD []).length:=by omega
 unfold Bh;rw[AE,AN h'];simp[Cq,h']
theorem OU{w:Wk}(hv:Wk.V w){d:Int}(h0:0<=d)(h1:d<w.deeds.length)(h2:0<=s)(h3:s<w.many):Cr w.many (Bh w d s):=by
 have h:d.toNat<w.deeds.length:=by omega
 have e:w.deeds[d.toNat]?.getD []=w.deeds[d.toNat]:=by simp[h,Cq]
 have hl:=hv.dl _ (FD h);unfold Bh;rw[e];have h':s.toNat<(w.deeds[d.toNat]).length:=by omega
 have e2:(w.deeds[d.toNat])[s.toNat]?.getD []=(w.deeds[d.toNat])[s.toNat]:=by simp[h',Cq]
 rw[e2];exact hv.dc _ (FD h) _ (FD h')
theorem T7{w:Wk}(h0:0<=l)(h1:l<w.looks.length):sY (w.looks.map pN) l=Z (pN (w.looks[l.toNat]?.getD [])):=by
 refine LX h0 ?_;have h:l.toNat<w.looks.length:=by omega
 simp[h,Cq]
theorem UK{w:Wk}(hv:Wk.V w)(h0:0<=l)(h1:l<w.looks.length)(h2:0<=s)(h3:s<w.many):sY ((w.looks[l.toNat]?.getD []).map dI) s=Z (.int (JV w l s)):=by
 refine LX h2 ?_;have h:l.toNat<w.looks.length:=by omega
 have hl:(w.looks[l.toNat]?.getD []).length=w.many:=by
  have:w.looks[l.toNat]?.getD []=w.looks[l.toNat]:=by simp[h,Cq]
  rw[this];exact hv.ll _ (FD h)
 have h':s.toNat<(w.looks[l.toNat]?.getD []).length:=by omega
 unfold JV;rw[AE,AN h'];simp[Cq,h']
theorem jj{w:Wk}(hv:Wk.V w){ls:List Int}(hl:Cr w.looks.length ls)(h2:0<=s)(h3:s<w.many):KC [w.d,pN ls,.int s]=Z (pN (Zz w ls s)):=by
 have l2:=hv.l2;have pP:=hl.len;have hb:ls.length<1000000:=by omega
 simp[KC,WA,hb];rw[Dz dI (λl=>dI (JV w l s))]
 .simp[Zz]
 .intro l hl'
  have hb:=hl.2 l hl';simp[W6,T7 hb.1 hb.2,UK hv hb.1 hb.2 h2 h3]
theorem m6{w:Wk}(hv:Wk.V w)(hc:Cr w.many c){d:Int}(h0:0<=d)(h1:d<w.deeds.length):KO [w.d,pN c,.int d]=Z (.bool (AV w c d)):=by
 have m2:=hv.m2;have pP:=hc.len;have hb:c.length<1000000:=by omega
 simp[KO,XX,QJ,O4 h0 h1,hb];rw[Dz dI (λs=>.bool (decide (0<(Bh w d s).length)))]
 .have e:=MB (c.map λs=>decide (0<(Bh w d s).length))
  rw[Av]at e;have e':((λb=>Dm b)∘λs=>decide (0<(Bh w d s).length))=λs=>Dm (decide (0<(Bh w d s).length)):=rfl;rw[e']at e;simp[e,AV]
 .intro s hs
  have hb:=hc.2 s hs;simp[ZN,OF hv h0 h1 hb.1 hb.2]
def tS(w:Wk)(c:List Int):List Int:=((Ag w.deeds.length).filter λ(d:Nat)=>AV w c (d:Int)).map λ(k:Nat)=>(k:Int)
theorem mx{w:Wk}(hv:Wk.V w)(hc:Cr w.many c):K5 [w.d,pN c]=Z (.list ((tS w c).map dI)):=by
 have d2:=hv.d2;have hok:ua (w.deeds.length:Int)=Aa:=Ga (by omega);have hb:w.deeds.length<1000000:=by omega
 simp[K5,XM,QJ,hok,DB,hb];rw[DP dN (λk:Nat=>AV w c k) dN]
 .simp[tS]
 .intro k hk
  have hk':=As.mp hk;simp[m6 hv hc (show(0:Int)<=(k:Int) by omega) (by omega)]
 .intro k hk _
  simp
def CB(acc:List Int)(x:Int):List Int:=if acc.contains x then acc else acc++[x]
theorem MA:∀(l acc:List Int),qA acc l=l.foldl CB acc
 |[],acc=>rfl
 |x::l,acc=>by
  unfold qA;rw[Eu];unfold CB;split
  .rw[MA l acc];rfl
  .rw[MA l (acc++[x])];rfl
def sy(acc:List Int):List (Ky×D):=acc.map λi=>(Cd i,Dm Aa)
theorem cw(acc:List Int)(x:Int):qj (sy acc) (Cd x) (Dm Aa)=sy (CB acc x):=by
 unfold qj CB sy
 by_cases h:x∈acc
 .have e1:((acc.map λi=>((Cd i:Ky),Dm Aa)).any λp=>decide (p.1=Cd x))=Aa:=by
   simp;exact h
  have e2:acc.contains x=Aa:=by simpa using h
  rw[if_pos e1,if_pos e2,Av];refine FK λi _=>?_;simp
 .have e1:¬((acc.map λi=>((Cd i:Ky),Dm Aa)).any λp=>decide (p.1=Cd x))=Aa:=by
   simp;exact h
  have e2:¬acc.contains x=Aa:=by simpa using h
  rw[if_neg e1,if_neg e2];simp
theorem VP(acc:List Int)(x:Int):(CB acc x).length<=acc.length+1:=by unfold CB;split<;>simp
theorem UN:∀(l acc:List Int),(l.foldl CB acc).length<=acc.length+l.length
 |[],acc=>by simp
 |x::l,acc=>by rw[Eu];have:=UN l (CB acc x);have:=VP acc x;simp;omega
theorem TQ(e0 e1 e2 e3 e5:Option B):∀(l acc:List Int) (o:Option B),acc.length+l.length<1000000 ->∃o',Bc 6 KN (l.map dI) [e0,e1,e2,e3,Z (.ok (sy acc)),e5,o]=Z (.nx [e0,e1,e2,e3,Z (.ok (sy (l.foldl CB acc))),e5,o'])
 |[],acc,o,_=>⟨o,rfl⟩
 |x::l,acc,o,h=>by
  rw[Ay]at h;have hb:acc.length<1000000:=by omega
  have e:KN [e0,e1,e2,e3,Z (.ok (sy acc)),e5,Z (.pl (dI x))]=Z (.nx [e0,e1,e2,e3,Z (.ok (sy (CB acc x))),e5,Z (.pl (dI x))]):=by
   have hl:(sy acc).length<1000000:=by unfold sy;simp;exact hb
   simp[KN,hl,cw]
  have hd:=VP acc x;obtain⟨o',e'⟩:=TQ e0 e1 e2 e3 e5 l (CB acc x) (Z (.pl (dI x))) (by omega);refine⟨o',?_⟩;rw[Ak,Eu,<-e'];unfold Bc;show(match KN [e0,e1,e2,e3,Z (.ok (sy acc)),e5,Z (.pl (dI x))]with|some (.nx r')=>_|some (.ct r')=>_|some (.bk r')=>_|some (.rt d)=>_|none=>_)=_;rw[e];cases l<;>rfl
theorem Tf{w:Wk}(hv:Wk.V w){d:Int}(h0:0<=d)(h1:d<w.deeds.length)(e1 e2:Option B):∀(c acc:List Int) (o5 o6:Option B),(∀s∈c,0<=s/\s<(w.many:Int))->acc.length+c.length*10<100000 ->∃o5' o6',Bc 5 KL (c.map dI) [Z (.pl w.d),e1,e2,Z (.pl (ZN (w.deeds[d.toNat]?.getD []))),Z (.ok (sy acc)),o5,o6]=Z (.nx [Z (.pl w.d),e1,e2,Z (.pl (ZN (w.deeds[d.toNat]?.getD []))),Z (.ok (sy ((Bo w c d).foldl CB acc))),o5',o6'])
 |[],acc,o5,o6,_,_=>⟨o5,o6,rfl⟩
 |s::c,acc,o5,o6,hs,hl=>by
  rw[Ay]at hl;have hb:=hs s (An ..);have hr:=(OU hv h0 h1 hb.1 hb.2).len;have m2:=hv.m2;have y3:(Bh w d s).length<1000000:=by omega
  obtain⟨o',e⟩:=TQ (Z (.pl w.d)) e1 e2 (Z (.pl (ZN (w.deeds[d.toNat]?.getD [])))) (Z (.pl (dI s))) (Bh w d s) acc o6 (by omega);have e':KL [Z (.pl w.d),e1,e2,Z (.pl (ZN (w.deeds[d.toNat]?.getD []))),Z (.ok (sy acc)),Z (.pl (dI s)),o6]=Z (.nx [Z (.pl w.d),e1,e2,Z (.pl (ZN (w.deeds[d.toNat]?.getD []))),Z (.ok (sy ((Bh w d s).foldl CB acc))),Z (.pl (dI s)),o']):=by unfold ZN at e ⊢;simp[KL,OF hv h0 h1 hb.1 hb.2,y3,e]
  have hf:=UN (Bh w d s) acc;obtain⟨p5,p6,ih⟩:=Tf hv h0 h1 e1 e2 c ((Bh w d s).foldl CB acc) (Z (.pl (dI s))) o' (λx hx=>hs x (Ao _ hx)) (by omega);refine⟨p5,p6,?_⟩;have ef:Bo w (s::c) d=Bh w d s++Bo w c d:=rfl;rw[ef,RT,<-ih,Ak];show(match KL [Z (.pl w.d),e1,e2,Z (.pl (ZN (w.deeds[d.toNat]?.getD []))),Z (.ok (sy acc)),Z (.pl (dI s)),o6]with|some (.nx r')=>_|some (.ct r')=>_|some (.bk r')=>_|some (.rt d)=>_|none=>_)=_;rw[e']
theorem Tw{w:Wk}(hv:Wk.V w)(hc:Cr w.many c){d:Int}(h0:0<=d)(h1:d<w.deeds.length):∀x∈Bo w c d,0<=x/\x<(w.many:Int):=by intro x hx;obtain⟨s,hs,h⟩:=D1.mp hx;exact(OU hv h0 h1 (hc.2 s hs).1 (hc.2 s hs).2).2 x h
theorem Fe{w:Wk}(hv:Wk.V w)(hc:Cr w.many c){d:Int}(h0:0<=d)(h1:d<w.deeds.length):Cr w.many (Z4 w c d):=by refine Md (MR _ _ (by simp)) λx hx=>Tw hv hc h0 h1 x ?_;rw[Ku]at hx;simpa using hx
theorem iu{w:Wk}(hv:Wk.V w)(hc:Cr w.many c){d:Int}(h0:0<=d)(h1:d<w.deeds.length):IS [w.d,pN c,.int d]=Z (pN (Z4 w c d)):=by
 have m2:=hv.m2;have pP:=hc.len;have hb:c.length<1000000:=by omega
 obtain⟨o5,o6,e⟩:=Tf hv h0 h1 (Z (.pl (pN c))) (Z (.pl (.int d))) c [] Z_ Z_ hc.2 (by simp;omega);have hl:(qA [] (Bo w c d)).length<64:=by have h:=(Fe hv hc h0 h1).len;have:=(sortI_perm (qA [] (Bo w c d))).length_eq;unfold Z4 at h;omega
 have hs:=Qz _ hl;rw[MA]at hs;have ek:(sy ((Bo w c d).foldl CB [])).map (λp=>BL p.1)=((Bo w c d).foldl CB []).map dI:=by unfold sy;rw[Av];rfl
 simp[IS,Wb,QJ,O4 h0 h1,hb];rw[show Z (B.ok [])=Z (B.ok (sy [])) from rfl,e];simp[ek,hs,Z4,MA]
end
abbrev Gs:=List (List Int×List Int)
abbrev Az(k:List Int):List Ky:=k.map Cd
def AM(g:Gs):List (List Ky×List D):=g.map λp=>(Az p.1,p.2.map dI)
theorem Kq{a b:List Int}(h:Az a=Az b):a=b:=by
 induction a generalizing b with
 |nil=>cases b with
  |nil=>rfl
  |cons _ _=>simp at h
 |cons x a ih=>cases b with
  |nil=>simp at h
  |cons y b=>simp at h;rw[h.1,ih (by simpa using h.2)]
theorem Pf(a b:List Int):(Az a=Az b)↔a=b:=⟨Kq,λh=>by rw[h]⟩
theorem j4(k:List Int):LS (k.map dI)=Z (Az k):=by
 induction k with
 |nil=>rfl
 |cons x k ih=>show(LS (k.map dI)).map (Cd x::·)=_;rw[ih];rfl
theorem Df(k:List Int):Bv (pN k)=Z (Az k):=j4 k
theorem Kh(g:Gs)(k:List Int):Zg (AM g) (Az k)=(Zg g k).map λp=>p.map dI:=by
 unfold Zg AM;rw[List.find?_map];have e:((λp:List Ky×List D=>decide (p.1=Az k))∘λp:List Int×List Int=>(Az p.1,p.2.map dI))=λp=>decide (p.1=k):=by
  funext p
  simp only[Lw];exact decide_eq_decide.mpr (Pf p.1 k)
 rw[e];cases g.find? λp=>decide (p.1=k)<;>rfl
theorem Ux(g:Gs)(k:List Int):Ca (AM g) (Az k)=AM (Ca g k):=by
 unfold Ca;rw[Kh];cases Zg g k with
 |none=>simp[AM]
 |some p=>rfl
theorem LY(k:List Int)(s:Int):∀(g:Gs),C6 (AM g) (Az k) (dI s)=AM (C6 g k s)
 |[]=>rfl
 |(x,p)::g=>by
  show C6 ((Az x,p.map dI)::AM g) (Az k) (dI s)=AM (C6 ((x,p)::g) k s);unfold C6
  by_cases h:x=k
  .rw[if_pos (by rw[h]),if_pos h]
   simp[AM]
  .rw[if_neg (λe=>h (Kq e)),if_neg h,LY k s g]
   rfl
def Cz(g:Gs)(k:List Int)(s:Int):Gs:=C6 (Ca g k) k s
theorem II(k:List Int):Zg ([]:Gs) k=Z_:=rfl
theorem EK(x:List Int)(p:List Int)(g:Gs)(k:List Int):Zg ((x,p)::g) k=if x=k then Z p else Zg g k:=by
 unfold Zg;rw[Ct]
 by_cases h:x=k<;>simp[h]
theorem Vy(k:List Int)(s:Int)(k':List Int):∀(g:Gs),Zg (C6 g k s) k'=if k=k' then(Zg g k).map (·++[s])else Zg g k'
 |[]=>by simp[C6,II]
 |(x,p)::g=>by
  unfold C6
  by_cases h:x=k
  .subst h
   rw[if_pos rfl,EK,EK,EK,if_pos rfl];split<;>rfl
  .rw[if_neg h,EK,Vy k s k' g,EK,EK,if_neg h]
   by_cases h2:x=k'
   .subst h2
    rw[if_pos rfl,if_pos rfl,if_neg (A7 h)]
   .rw[if_neg h2,if_neg h2]
theorem Ww(x:List Int)(p:List Int)(k:List Int):∀(g:Gs),Zg (g++[(x,p)]) k=match Zg g k with|some q=>Z q|none=>if x=k then Z p else Z_
 |[]=>by simp[II,EK]
 |(y,q)::g=>by rw[RQ,EK,EK,Ww x p k g];split<;>rfl
theorem Mj(g:Gs)(k k':List Int):Zg (Ca g k) k'=if k=k' then Z ((Zg g k).getD [])else Zg g k':=by
 unfold Ca;cases h:Zg g k with
 |some p =>
  by_cases e:k=k'
  .subst e;rw[if_pos rfl];exact h
  .rw[if_neg e]
 |none =>
  show Zg (g++[(k,[])]) k'=_;rw[Ww]
  by_cases e:k=k'
  .subst e;rw[if_pos rfl,if_pos rfl,h];rfl
  .rw[if_neg e,if_neg e]
   cases Zg g k'<;>rfl
theorem fH(g:Gs)(k k':List Int)(s:Int):Zg (Cz g k s) k'=if k=k' then Z ((Zg g k).getD []++[s])else Zg g k':=by
 unfold Cz;rw[Vy,Mj,Mj,if_pos rfl]
 by_cases e:k=k'
 .rw[if_pos e,if_pos e];rfl
 .rw[if_neg e,if_neg e,if_neg e]
theorem Vm(k:List Int)(s:Int):∀(g:Gs),(C6 g k s).map (·.1)=g.map (·.1)
 |[]=>rfl
 |(x,p)::g=>by
  unfold C6;split
  .rfl
  .rw[Ak,Vm k s g];rfl
theorem Pn(g:Gs)(k:List Int):(Zg g k).isSome=Aa↔k∈g.map (·.1):=by
 induction g with
 |nil=>simp[II]
 |cons p g ih =>
  obtain⟨x,q⟩:=p;rw[EK,Ak,Ax]
  by_cases h:x=k
  .simp[h]
  .rw[if_neg h,ih]
   constructor
   .exact .inr
   .rintro (e|e)
    .exact absurd e.symm h
    .exact e
theorem ib(g:Gs)(k:List Int):(Ca g k).map (·.1)=if k∈g.map (·.1)then g.map (·.1)else g.map (·.1)++[k]:=by
 unfold Ca;cases h:Zg g k with
 |some p=>rw[if_pos ((Pn g k).mp (by rw[h];rfl))]
 |none=>rw[if_neg (λm=>by have:=(Pn g k).mpr m;rw[h]at this;cases this)];simp
theorem eZ(g:Gs)(k:List Int)(s:Int):(Cz g k s).map (·.1)=if k∈g.map (·.1)then g.map (·.1)else g.map (·.1)++[k]:=by unfold Cz;rw[Vm,ib]
def B9(f:Int->List Int)(c:List Int):Gs:=c.foldl (λg s=>Cz g (f s) s) []
structure uo(f:Int->List Int)(pre:List Int)(g:Gs):Prop where
 nd:(g.map (·.1)).Nodup
 look:∀k,Zg g k=if k∈pre.map f then Z (pre.filter λs=>f s==k)else Z_
theorem uo.mem{f:Int->List Int}{pre:List Int}{g:Gs}(h:uo f pre g)(k:List Int):k∈g.map (·.1)↔k∈pre.map f:=by
 rw[<-Pn,h.look];split
 .rename_i m;exact⟨λ_=>m,λ_=>rfl⟩
 .rename_i m;exact⟨(λe=>by cases e),λe=>absurd e m⟩
theorem uo.step{f:Int->List Int}{pre:List Int}{g:Gs}(h:uo f pre g)(s:Int):uo f (pre++[s]) (Cz g (f s) s):=by
 refine⟨?_,λk=>?_⟩
 .rw[eZ]
  split
  .exact h.nd
  .rename_i m
   rw[Gw];exact⟨h.nd,by simp,λa ha b hb=>by simp at hb;subst hb;exact λe=>m (e▸ha)⟩
 .rw[fH,h.look,h.look,Br,List.filter_append]
  by_cases e:f s=k
  .subst e
   have e0:f s∈pre.map f++[s].map f:=by simp
   rw[if_pos rfl,if_pos e0];have e2:[s].filter (λx=>f x==f s)=[s]:=by simp
   rw[e2];split
   .rfl
   .rename_i m
    have:pre.filter (λx=>f x==f s)=[]:=by rw[Sx];intro a ha q;exact m (Aj.mpr ⟨a,ha,by simpa using q⟩)
    rw[this];rfl
  .have e2:[s].filter (λx=>f x==k)=[]:=by simp[e]
   rw[if_neg e,e2,BK];have e3:(k∈pre.map f++[s].map f)↔k∈pre.map f:=by
    rw[A8]
    constructor
    .rintro (q|q)
     .exact q
     .simp at q;exact absurd q.symm e
    .exact .inl
   by_cases q:k∈pre.map f
   .rw[if_pos q,if_pos (e3.mpr q)]
   .rw[if_neg q,if_neg (λz=>q (e3.mp z))]
theorem T6(f:Int->List Int):∀(c pre:List Int) (g:Gs),uo f pre g->uo f (pre++c) (c.foldl (λg s=>Cz g (f s) s) g)
 |[],pre,g,h=>by rw[BK];exact h
 |s::c,pre,g,h=>by have:=T6 f c (pre++[s]) _ (h.step s);rw[EW]at this;exact this
theorem G1(f:Int->List Int)(c:List Int):uo f c (B9 f c):=by
 have:=T6 f c [] [] ⟨Es,λk=>by simp[II]⟩
 rwa [Jz]at this
def Bd(w:Wk)(ls c:List Int):Gs:=(BI ((B9 (Zz w ls) c).map (·.1))).map λk=>(k,c.filter λs=>Zz w ls s==k)
def Bk(p:List Int×List Int):D:=.tuple [pN p.1,pN p.2]
theorem Vk(ks:List (List Int)):Iu (ks.map pN)=Z ks:=by
 induction ks with
 |nil=>rfl
 |cons k ks ih=>show(match BM (k.map dI)with|some ns=>(Iu (ks.map pN)).map (ns::·)|none=>Z_)=_;rw[Ef,ih];rfl
theorem jh(ks:List (List Int))(h:ks.length<64)(hn:ks.length<2\/∀k∈ks,k≠[]):FY (ks.map pN)=Z ((BI ks).map pN):=by
 unfold FY;rw[if_pos (by rw[Af];exact h)];cases ks with
 |nil=>simp[BM,sortI,BI,rW]
 |cons k ks =>
  have e:BM (Gp pN (k::ks))=Z_:=rfl;rw[e,Vk];have e2:(decide ((Gp pN (k::ks)).length<2)||(k::ks).all λt=>!t.isEmpty)=Aa:=by
   rw[Dl,Af];rcases hn with q|q
   .exact .inl (by simpa using q)
   .refine .inr (Au.mpr λt ht=>?_)
    have:=q t ht;cases t with
    |nil=>exact absurd rfl this
    |cons _ _=>rfl
  dsimp only;rw[if_pos e2];unfold M9;simp only[My]
theorem Ej(ks:List (List Int)):(BI ks).Perm ks:=NQ ks _
theorem T9(w:Wk)(ls c:List Int)(hc:c.length<60):FY ((AM (B9 (Zz w ls) c)).map λp=>Cv (p.1.map BL))=Z ((BI ((B9 (Zz w ls) c).map (·.1))).map pN):=by
 have hg:=G1 (Zz w ls) c;have e:((AM (B9 (Zz w ls) c)).map λp=>Cv (p.1.map BL))=((B9 (Zz w ls) c).map (·.1)).map pN:=by unfold AM;rw[Av,Av];refine FK λp _=>?_;simp only[Lw];unfold Az pN;rw[Av];rfl
 rw[e];have rb:∀k∈(B9 (Zz w ls) c).map (·.1),k∈c.map (Zz w ls):=λk hk=>(hg.mem k).mp hk;refine jh _ ?_ ?_
 .have:(B9 (Zz w ls) c).map (·.1) ⊆ c.map (Zz w ls):=rb
  have:=(FJ hg.nd this);rw[Af,Af]at this;rw[Af];omega
 .cases ls with
  |nil =>
   left
   have:(B9 (Zz w []) c).map (·.1) ⊆ [[]]:=λk hk=>by obtain⟨s,_,e⟩:=Aj.mp (rb k hk);rw[<-e];simp[Zz]
   have:=(FJ hg.nd this);simp at this ⊢;omega
  |cons l ls =>
   right
   intro k hk e;obtain⟨s,_,e'⟩:=Aj.mp (rb k hk);rw[e]at e';simp[Zz]at e'
theorem WL(w:Wk)(ls c:List Int)(e:EF)(r:HM.Env)(h:∀k∈(B9 (Zz w ls) c).map (·.1),e (Z (.pl (pN k))::r)=Z (.tuple [pN k,.tuple ((c.filter λs=>Zz w ls s==k).map dI)])):Bz A0 e r ((BI ((B9 (Zz w ls) c).map (·.1))).map pN)=Z ((Bd w ls c).map Bk):=by
 rw[Dz pN (λk=>.tuple [pN k,.tuple ((c.filter λs=>Zz w ls s==k).map dI)])]
 .unfold Bd
  rw[Av];rfl
 .intro k hk
  exact h k ((Ej _).mem_iff.mp hk)
theorem Vb(w:Wk)(ls c:List Int)(k:List Int)(hk:k∈(B9 (Zz w ls) c).map (·.1)):Zg (AM (B9 (Zz w ls) c)) (Az k)=Z ((c.filter λs=>Zz w ls s==k).map dI):=by have hg:=G1 (Zz w ls) c;rw[Kh,hg.look,if_pos ((hg.mem k).mp hk)];rfl
theorem UH(f:Int->List Int)(pre:List Int)(g:Gs)(h:uo f pre g)(k:List Int)(p:List Int)(e:Zg g k=Z p):p.length<=pre.length:=by
 rw[h.look]at e;split at e
 .cases e;exact HL _ _
 .cases e
theorem JT(f:Int->List Int)(pre:List Int)(g:Gs)(h:uo f pre g):g.length<=pre.length:=by have h2:g.map (·.1) ⊆ pre.map f:=λk hk=>(h.mem k).mp hk;have:=FJ h.nd h2;simpa using this
theorem V6{w:Wk}(hv:Wk.V w){ls:List Int}(hl:Cr w.looks.length ls)(e2:Option B):∀(c pre:List Int) (g:Gs) (o:Option B),uo (Zz w ls) pre g->(∀s∈c,0<=s/\s<(w.many:Int))->pre.length+c.length<1000 ->∃o',Bc 4 KJ (c.map dI) [Z (.pl w.d),Z (.pl (pN ls)),e2,Z (.otl (AM g)),o]=Z (.nx [Z (.pl w.d),Z (.pl (pN ls)),e2,Z (.otl (AM (c.foldl (λg s=>Cz g (Zz w ls s) s) g))),o'])
 |[],pre,g,o,_,_,_=>⟨o,rfl⟩
 |s::c,pre,g,o,hg,hb,hn=>by
  rw[Ay]at hn;have hs:=hb s (An ..);have pP:(AM g).length<1000000:=by have:=JT _ _ _ hg;unfold AM;rw[Af];omega
  have h1:Zg (Ca (AM g) (Az (Zz w ls s))) (Az (Zz w ls s))=Z (((Zg g (Zz w ls s)).getD []).map dI):=by rw[Ux,Kh,Mj,if_pos rfl];rfl
  have h2:(((Zg g (Zz w ls s)).getD []).map dI).length<1000000:=by
   rw[Af];cases e:Zg g (Zz w ls s)with
   |none=>simp
   |some p=>have:=UH _ _ _ hg _ _ e;simp;omega
  have h2':((Zg g (Zz w ls s)).getD []).length<1000000:=by rwa [Af]at h2
  have e:KJ [Z (.pl w.d),Z (.pl (pN ls)),e2,Z (.otl (AM g)),Z (.pl (dI s))]=Z (.nx [Z (.pl w.d),Z (.pl (pN ls)),e2,Z (.otl (AM (Cz g (Zz w ls s) s))),Z (.pl (dI s))]):=by have ek:=jj hv hl hs.1 hs.2;simp[KJ,ek,Df,pP,h1,h2'];rw[Ux,LY];rfl
  obtain⟨o',ih⟩:=V6 hv hl e2 c (pre++[s]) (Cz g (Zz w ls s) s) (Z (.pl (dI s))) (hg.step s) (λx hx=>hb x (Ao _ hx)) (by simp;omega);refine⟨o',?_⟩;rw[Ak,Eu,<-ih];show(match KJ [Z (.pl w.d),Z (.pl (pN ls)),e2,Z (.otl (AM g)),Z (.pl (dI s))]with|some (.nx r')=>_|some (.ct r')=>_|some (.bk r')=>_|some (.rt d)=>_|none=>_)=_;rw[e]
theorem Mm{w:Wk}(hv:Wk.V w){ls:List Int}(hl:Cr w.looks.length ls){c:List Int}(hc:Cr w.many c):Z5 [w.d,pN ls,pN c]=Z (.list ((Bd w ls c).map Bk)):=by
 have m2:=hv.m2;have pP:=hc.len;have hb:c.length<1000000:=by omega
 obtain⟨o',e⟩:=V6 hv hl (Z (.pl (pN c))) c [] [] Z_ ⟨Es,λk=>by simp[II]⟩ hc.2 (by simp;omega);have hk:=T9 w ls c (by omega);have hg:c.foldl (λg s=>Cz g (Zz w ls s) s) []=B9 (Zz w ls) c:=rfl;rw[hg]at e;have hn:(BI ((B9 (Zz w ls) c).map (·.1))).length<1000000:=by rw[(Ej _).length_eq,Af];have:=JT _ _ _ (G1 (Zz w ls) c);omega
 simp[Z5,Wa,hb];rw[show Z (B.otl [])=Z (B.otl (AM [])) from rfl,e];simp[hk,hn];rw[WL]
 .simp
 .intro k hk'
  simp[Df,Vb w ls c k hk']
section
variable{ds:List D}{m n:Nat}
def qV:Nat->D->Bool
 |_,.none=>Aa
 |_,.int _=>Aa
 |_,.str x=>PyData.canLay0 (.str x)
 |0,_=>Ab
 |n+1,.list ds=>ds.all (qV n)
 |n+1,.tuple ds=>ds.all (qV n)
 |_,_=>Ab
theorem Xq(h:∀d∈ds,d.canLay0=Aa):Ln ds=Aa:=by
 induction ds with
 |nil=>rfl
 |cons d ds ih=>show(d.canLay0&&Ln ds)=Aa;rw[h d (An ..),ih λx hx=>h x (Ao _ hx)];rfl
theorem W2(h:∀d∈ds,d.depth<=n):Nm ds<=n:=by
 induction ds with
 |nil=>exact Bw _
 |cons d ds ih=>show max d.depth (Nm ds)<=n;have h1:=h d (An ..);have h2:=ih λx hx=>h x (Ao _ hx);omega
theorem J3:∀(n:Nat) (d:D),qV n d=Aa->d.canLay0=Aa/\d.depth<=n
 |n,.none,_=>⟨rfl,by show 0<=n;omega⟩
 |n,.int _,_=>⟨rfl,by show 0<=n;omega⟩
 |n,.str x,h=>by refine⟨?_,by show 0<=n;omega⟩;cases n<;>exact h
 |0,.bool _,h=>by cases h
 |0,.list _,h=>by cases h
 |0,.tuple _,h=>by cases h
 |0,.dict _,h=>by cases h
 |n+1,.bool _,h=>by cases h
 |n+1,.dict _,h=>by cases h
 |n+1,.list ds,h=>by have h':ds.all (qV n)=Aa:=h;have hh:=Au.mp h';refine⟨Xq λd hd=>(J3 n d (hh d hd)).1,?_⟩;show Nm ds+1<=n+1;have:=W2 λd hd=>(J3 n d (hh d hd)).2;omega
 |n+1,.tuple ds,h=>by have h':ds.all (qV n)=Aa:=h;have hh:=Au.mp h';refine⟨Xq λd hd=>(J3 n d (hh d hd)).1,?_⟩;show Nm ds+1<=n+1;have:=W2 λd hd=>(J3 n d (hh d hd)).2;omega
theorem IJ{d:D}(h:qV n d=Aa)(hn:n<=60):Z3 d=Aa:=by obtain⟨h1,h2⟩:=J3 n d h;unfold Z3;rw[h1,decide_eq_true (show d.depth<=60 by omega)];rfl
theorem Wr(ih:∀d∈ds,∀e,(∃m,qV m e=Aa)->(BQ d e=Aa↔d=e)):∀(es:List D),(∀e∈es,∃m,qV m e=Aa)->(NM ds es=Aa↔ds=es):=by
 induction ds with
 |nil =>
  intro es _;cases es with
  |nil=>exact⟨λ_=>rfl,λ_=>rfl⟩
  |cons e es=>exact⟨(λh=>by cases h),(λh=>by cases h)⟩
 |cons d ds ihl =>
  intro es he;cases es with
  |nil=>exact⟨(λh=>by cases h),(λh=>by cases h)⟩
  |cons e es=>show((BQ d e&&NM ds es)=Aa)↔_;rw[AJ,ih d (An ..) e (he e (An ..)),ihl (λx hx=>ih x (Ao _ hx)) es (λx hx=>he x (Ao _ hx)),List.cons.injEq]
theorem ez(h:qV m (.list ds)=Aa):∀d∈ds,∃m,qV m d=Aa:=by
 cases m with
 |zero=>cases h
 |succ m=>have h':ds.all (qV m)=Aa:=h;exact λd hd=>⟨m,Au.mp h' d hd⟩
theorem gh(h:qV m (.tuple ds)=Aa):∀d∈ds,∃m,qV m d=Aa:=by
 cases m with
 |zero=>cases h
 |succ m=>have h':ds.all (qV m)=Aa:=h;exact λd hd=>⟨m,Au.mp h' d hd⟩
theorem G2{b:Bool}(h:qV m (.bool b)=Aa):False:=by cases m<;>cases h
theorem G7{b:List (D×D)}(h:qV m (.dict b)=Aa):False:=by cases m<;>cases h
theorem Py:∀(n:Nat) (d e:D),qV n d=Aa->(∃m,qV m e=Aa)->(BQ d e=Aa↔d=e):=by
 intro n
 induction n with
 |zero =>
  intro d e hd ⟨m,he⟩;cases d<;>first|cases hd|skip
  all_goals cases e<;>first
   |exact(G2 he).elim
   |exact(G7 he).elim
   |exact⟨λ_=>rfl,λ_=>rfl⟩
   |exact⟨(λh=>by cases h),(λh=>by cases h)⟩
   |(rename_i a b;show((a==b)=Aa)↔_;simp)
 |succ n ih =>
  intro d e hd ⟨m,he⟩;cases d with
  |bool _=>exact(G2 hd).elim
  |dict _=>exact(G7 hd).elim
  |list ds =>
   cases e with
   |list es=>show(NM ds es=Aa)↔_;rw[Wr (λd h e he=>ih d e (Au.mp (show ds.all (qV n)=Aa from hd) d h) he) es (ez he)];simp
   |bool _=>exact(G2 he).elim
   |dict _=>exact(G7 he).elim
   |_=>exact⟨(λh=>by cases h),(λh=>by cases h)⟩
  |tuple ds =>
   cases e with
   |tuple es=>show(NM ds es=Aa)↔_;rw[Wr (λd h e he=>ih d e (Au.mp (show ds.all (qV n)=Aa from hd) d h) he) es (gh he)];simp
   |bool _=>exact(G2 he).elim
   |dict _=>exact(G7 he).elim
   |_=>exact⟨(λh=>by cases h),(λh=>by cases h)⟩
  |none=>cases e<;>first
   |exact(G2 he).elim
   |exact(G7 he).elim
   |exact⟨λ_=>rfl,λ_=>rfl⟩
   |exact⟨(λh=>by cases h),(λh=>by cases h)⟩
  |int i=>cases e<;>first
   |exact(G2 he).elim
   |exact(G7 he).elim
   |exact⟨(λh=>by cases h),(λh=>by cases h)⟩
   |(rename_i b;show((i==b)=Aa)↔_;simp)
  |str i=>cases e<;>first
   |exact(G2 he).elim
   |exact(G7 he).elim
   |exact⟨(λh=>by cases h),(λh=>by cases h)⟩
   |(rename_i b;show((i==b)=Aa)↔_;simp)
theorem d6{d e:D}(hd:qV n d=Aa)(he:qV m e=Aa)(hn:n<=60)(hm:m<=60)[Decidable (d=e)]:ra d e=Z (.bool (decide (d=e))):=by
 unfold ra;rw[IJ hd hn,IJ he hm,if_pos (by rfl)];congr 2;have h:=Py n d e hd ⟨m,he⟩;cases q:BQ d e with
 |true=>exact(decide_eq_true (h.mp q)).symm
 |false=>exact(decide_eq_false λz=>by rw[h.mpr z]at q;cases q).symm
theorem Mh{d:D}(hd:qV n d=Aa)(hn:n<=60):ra d d=Z (.bool Aa):=by unfold ra;rw[IJ hd hn,(Py n d d hd ⟨n,hd⟩).mpr rfl];rfl
theorem J4{d e:D}(hd:qV n d=Aa)(he:qV m e=Aa)(hn:n<=60)(hm:m<=60)(h:d≠e):ra d e=Z (.bool Ab):=by have:Decidable (d=e):=isFalse h;rw[d6 hd he hn hm,decide_eq_false h]
theorem Gb(n:Nat)(ns:List Int):qV (n+1) (pN ns)=Aa:=by show(ns.map dI).all (qV n)=Aa;rw[Au];intro d hd;obtain⟨i,_,rfl⟩:=Aj.mp hd;cases n<;>rfl
theorem Pp(n:Nat)(ns:List Int):qV (n+1) (.list (ns.map dI))=Aa:=Gb n ns
theorem cU(h:∀d∈ds,qV n d=Aa):qV (n+1) (.list ds)=Aa:=Au.mpr h
theorem FZ(n:Nat)(i:Int):qV n (.int i)=Aa:=by cases n<;>rfl
theorem cu(n:Nat):qV n .none=Aa:=by cases n<;>rfl
end
section
variable{c:List Int}
def yg(n:Nat)(c:Int):List Int:=((Ag n).filter λ(k:Nat)=>decide (0<ZQ (c+19*(k:Int)) 9857 4)).map λ(k:Nat)=>(k:Int)
theorem aX(n:Nat)(c:Int):Cr n (yg n c):=Po n _
theorem fQ{w:Wk}(hv:Wk.V w)(c:Int):KU [w.d,.int c]=Z (pN (yg w.looks.length c)):=by
 have l2:=hv.l2;have hok:ua (w.looks.length:Int)=Aa:=Ga (by omega);have hb:w.looks.length<1000000:=by omega
 have e2:sY [Bq w.many,.tuple (w.deeds.map ZN),.tuple (w.looks.map pN),pN w.beg,pN w.goal] 2=Z (.tuple (w.looks.map pN)):=by simp
 unfold Wk.d;simp[KU,Xi,hok,DB,hb];rw[DP dN (λk:Nat=>decide (0<ZQ (c+19*(k:Int)) 9857 4)) dN]
 .simp[yg]
 .intro k hk
  have m:=C9 (c+19*(k:Int)) 9857 4 (by decide) (by decide);simp[m]
 .intro k hk _
  simp
def Oh(w:Wk)(c:List Int)(d:Int):D:=if AV w c d then pN (Z4 w c d)else .none
theorem WD{w:Wk}(hv:Wk.V w){d:Int}(h0:0<=d)(h1:d<w.deeds.length)(e1:Option B):∀(c acc:List Int) (o:Option B),(∀s∈c,0<=s/\s<(w.many:Int))->acc.length+c.length*10<100000 ->(AV w c d=Aa->∃o',Bc 4 Ei (c.map dI) [Z (.pl w.d),e1,Z (.pl (.int d)),Z (.ol (acc.map dI)),o]=Z (.nx [Z (.pl w.d),e1,Z (.pl (.int d)),Z (.ol ((acc++Bo w c d).map dI)),o'])) /\ (AV w c d=Ab->Bc 4 Ei (c.map dI) [Z (.pl w.d),e1,Z (.pl (.int d)),Z (.ol (acc.map dI)),o]=Z (.rt .none))
 |[],acc,o,_,_=>⟨λ_=>⟨o,by simp[Bo];rfl⟩,λh=>by simp[AV]at h⟩
 |s::c,acc,o,hs,hl=>by
  rw[Ay]at hl;have hb:=hs s (An ..);have hr:=(OU hv h0 h1 hb.1 hb.2).len;have m2:=hv.m2;have hd:=O4 h0 h1 (w:=w);have uz:=OF hv h0 h1 hb.1 hb.2;have g1:sY [Bq w.many,.tuple (w.deeds.map ZN),.tuple (w.looks.map pN),pN w.beg,pN w.goal] 1=Z (.tuple (w.deeds.map ZN)):=by simp
  have ec:AV w (s::c) d=(decide (0<(Bh w d s).length)&&AV w c d):=rfl;have ef:Bo w (s::c) d=Bh w d s++Bo w c d:=rfl;cases hz:Bh w d s with
  |nil =>
   have e:Ei [Z (.pl w.d),e1,Z (.pl (.int d)),Z (.ol (acc.map dI)),Z (.pl (dI s))]=Z (.rt .none):=by rw[hz]at uz;have e3:ra (pN []) (.tuple [])=Z (.bool Aa):=Mh (Gb 0 []) (by decide);unfold Wk.d;simp[Ei,hd,ZN,uz,-ra];rw[e3]
   have ec':AV w (s::c) d=Ab:=by rw[ec,hz];rfl
   refine⟨λh=>(by rw[ec']at h;cases h),λ_=>?_⟩;rw[Ak];show(match Ei [Z (.pl w.d),e1,Z (.pl (.int d)),Z (.ol (acc.map dI)),Z (.pl (dI s))]with|some (.nx r')=>_|some (.ct r')=>_|some (.bk r')=>_|some (.rt d)=>_|none=>_)=_;rw[e]
  |cons x xs =>
   have pP:acc.length+(Bh w d s).length<1000000:=by omega
   have e:Ei [Z (.pl w.d),e1,Z (.pl (.int d)),Z (.ol (acc.map dI)),Z (.pl (dI s))]=Z (.nx [Z (.pl w.d),e1,Z (.pl (.int d)),Z (.ol ((acc++Bh w d s).map dI)),Z (.pl (dI s))]):=by rw[hz]at uz pP;rw[Ay]at pP;have e3:ra (pN (x::xs)) (.tuple [])=Z (.bool Ab):=J4 (Gb 0 (x::xs)) (Gb 0 []) (by decide) (by decide) (by simp);unfold Wk.d;simp[Ei,hd,ZN,uz,hz,-ra];rw[e3];simp[hd,ZN,uz,pP]
   have ec':AV w (s::c) d=AV w c d:=by rw[ec,hz];rfl
   obtain⟨i1,i2⟩:=WD hv h0 h1 e1 c (acc++Bh w d s) (Z (.pl (dI s))) (λx hx=>hs x (Ao _ hx)) (by rw[AB];omega);have e5:Bc 4 Ei ((s::c).map dI) [Z (.pl w.d),e1,Z (.pl (.int d)),Z (.ol (acc.map dI)),o]=Bc 4 Ei (c.map dI) [Z (.pl w.d),e1,Z (.pl (.int d)),Z (.ol ((acc++Bh w d s).map dI)),Z (.pl (dI s))]:=by rw[Ak];show(match Ei [Z (.pl w.d),e1,Z (.pl (.int d)),Z (.ol (acc.map dI)),Z (.pl (dI s))]with|some (.nx r')=>_|some (.ct r')=>_|some (.bk r')=>_|some (.rt d)=>_|none=>_)=_;rw[e]
   rw[e5,ec',ef,<-EW];exact⟨i1,i2⟩
theorem jO{w:Wk}(hv:Wk.V w)(h7:w.many<=7)(hc:Cr w.many c){d:Int}(h0:0<=d)(h1:d<w.deeds.length):Jc [w.d,pN c,.int d]=Z (Oh w c d):=by
 have m2:=hv.m2;have pP:=hc.len;have hb:c.length<1000000:=by omega
 obtain⟨i1,i2⟩:=WD hv h0 h1 (Z (.pl (pN c))) c [] Z_ hc.2 (by simp;omega);unfold Oh;cases h:AV w c d with
 |false=>have e:=i2 h;rw[FG]at e;simp[Jc,Qt,hb,e]
 |true =>
  obtain⟨o',e⟩:=i1 h;rw[FG,Jz]at e;have hf:LF (Bo w c d)=Aa:=Au.mpr λx hx=>by have:=Tw hv hc h0 h1 x hx;rw[AJ,decide_eq_true_eq,decide_eq_true_eq];omega
  simp[Jc,Qt,hb,e,Ef,hf,Z4,My]
theorem Xt{w:Wk}(hv:Wk.V w){ls:List Int}(hl:Cr w.looks.length ls)(e2:Option B):∀(c pre:List Int) (g:Gs) (o o':Option B),uo (Zz w ls) pre g->(∀s∈c,0<=s/\s<(w.many:Int))->pre.length+c.length<1000 ->∃p p',Bc 4 Jk (c.map dI) [Z (.pl w.d),Z (.pl (pN ls)),e2,Z (.otl (AM g)),o,o']=Z (.nx [Z (.pl w.d),Z (.pl (pN ls)),e2,Z (.otl (AM (c.foldl (λg s=>Cz g (Zz w ls s) s) g))),p,p'])
 |[],pre,g,o,o',_,_,_=>⟨o,o',rfl⟩
 |s::c,pre,g,o,o',hg,hb,hn=>by
  rw[Ay]at hn;have hs:=hb s (An ..);have pP:(AM g).length<1000000:=by have:=JT _ _ _ hg;unfold AM;rw[Af];omega
  have l2:=hv.l2;have hll:=hl.len;have yv:ls.length<1000000:=by omega
  have ec:Bz A0 (qy (qg (qy (qg (qy (Zo 1) (eC (.int 2)))) (Za 0))) (Za 5)) [Z (.pl w.d),Z (.pl (pN ls)),e2,Z (.otl (AM g)),Z (.pl (dI s)),o'] (ls.map dI)=Z ((Zz w ls s).map dI):=by
   rw[Dz dI (λl=>dI (JV w l s))]
   .simp[Zz]
   .intro l hl'
    have hb:=hl.2 l hl';unfold Wk.d;simp[T7 hb.1 hb.2,UK hv hb.1 hb.2 hs.1 hs.2]
  have e:Jk [Z (.pl w.d),Z (.pl (pN ls)),e2,Z (.otl (AM g)),Z (.pl (dI s)),o']=Z (.nx [Z (.pl w.d),Z (.pl (pN ls)),e2,Z (.otl (AM (Cz g (Zz w ls s) s))),Z (.pl (dI s)),Z (.pl (pN (Zz w ls s)))]):=by
   have ek:=Kh g (Zz w ls s);have et:=Df (Zz w ls s);cases h:Zg g (Zz w ls s)with
   |none =>
    rw[h]at ek;have ea:Ca g (Zz w ls s)=g++[(Zz w ls s,[])]:=by unfold Ca;rw[h]
    have eb:AM g++[(Az (Zz w ls s),[])]=AM (Ca g (Zz w ls s)):=by rw[ea];simp[AM]
    have h1:Zg (AM (Ca g (Zz w ls s))) (Az (Zz w ls s))=Z []:=by rw[Kh,Mj,if_pos rfl,h];rfl
    simp[Jk,yv,ec,et,ek,pP];rw[eb,h1];simp[LY];rfl
   |some p =>
    rw[h]at ek;have ea:Ca g (Zz w ls s)=g:=by unfold Ca;rw[h]
    have hp:p.length<1000000:=by have:=UH _ _ _ hg _ _ h;omega
    simp[Jk,yv,ec,et,ek,pP,hp,LY];unfold Cz;rw[ea]
  obtain⟨p,p',ih⟩:=Xt hv hl e2 c (pre++[s]) (Cz g (Zz w ls s) s) (Z (.pl (dI s))) (Z (.pl (pN (Zz w ls s)))) (hg.step s) (λx hx=>hb x (Ao _ hx)) (by simp;omega);refine⟨p,p',?_⟩;rw[Ak,Eu,<-ih];show(match Jk [Z (.pl w.d),Z (.pl (pN ls)),e2,Z (.otl (AM g)),Z (.pl (dI s)),o']with|some (.nx r')=>_|some (.ct r')=>_|some (.bk r')=>_|some (.rt d)=>_|none=>_)=_;rw[e]
theorem Xr{w:Wk}(hv:Wk.V w){ls:List Int}(hl:Cr w.looks.length ls)(hc:Cr w.many c):IW [w.d,pN ls,pN c]=Z (.list ((Bd w ls c).map Bk)):=by
 have m2:=hv.m2;have pP:=hc.len;have hb:c.length<1000000:=by omega
 obtain⟨p,p',e⟩:=Xt hv hl (Z (.pl (pN c))) c [] [] Z_ Z_ ⟨Es,λk=>by simp[II]⟩ hc.2 (by simp;omega);have hk:=T9 w ls c (by omega);have hg:c.foldl (λg s=>Cz g (Zz w ls s) s) []=B9 (Zz w ls) c:=rfl;rw[hg]at e;have hn:(BI ((B9 (Zz w ls) c).map (·.1))).length<1000000:=by rw[(Ej _).length_eq,Af];have:=JT _ _ _ (G1 (Zz w ls) c);omega
 simp[IW,Xh,hb];rw[show Z (B.otl [])=Z (B.otl (AM [])) from rfl,e];simp[hk,hn];rw[WL]
 .simp
 .intro k hk'
  simp[Df,Vb w ls c k hk']
theorem He{w:Wk}{d:Int}(h:d∈tS w c):0<=d/\d<w.deeds.length/\AV w c d=Aa:=by unfold tS at h;obtain⟨k,hk,rfl⟩:=Aj.mp h;obtain⟨h1,h2⟩:=A9.mp hk;have:=As.mp h1;exact⟨by omega,by omega,h2⟩
end
end HG
namespace HG4
open PySem HM HG
end HG4
namespace HM
open PySem
theorem P9{α:Type}{c:TF}{e:EF}{r:Env}(a b:α->D)(p:α->Bool)(f:α->D):∀(xs:List α),(∀x∈xs,c (Z (.pl (a x))::Z (.pl (b x))::r)=Z (p x))->(∀x∈xs,p x=Aa->e (Z (.pl (a x))::Z (.pl (b x))::r)=Z (f x)) ->Hd c e r (xs.map λx=>.tuple [a x,b x])=Z ((xs.filter p).map f)
 |[],_,_=>rfl
 |x::xs,h1,h2=>by
  have ih:=P9 a b p f xs (λy hy=>h1 y (Ao _ hy)) (λy hy=>h2 y (Ao _ hy));have hc:=h1 x (An ..);rw[Ak];unfold Hd;rw[hc];cases hp:p x with
  |true=>have he:=h2 x (An ..) hp;dsimp only;rw[he];dsimp only;rw[ih,Ya hp];rfl
  |false=>dsimp only;rw[ih,X9 (by simp[hp])]
theorem ZY{P:Option tF->Prop}{a b:SF}{r r':Env}(h:a r=Z (.nx r'))(k:P (b r')):P (Zw a b r):=by show P (match a r with|some (.nx r')=>b r'|some (.rt d)=>Z (.rt d)|some (.bk r')=>Z (.bk r')|some (.ct r')=>Z (.ct r')|none=>Z_);rw[h];exact k
end HM
namespace HG4
open PySem HM HG
variable{x:Int}{c:List Int}
def Ox(w:Wk)(ls c:List Int)(s:Int):List Int:=c.filter λx=>Zz w ls x==Zz w ls s
theorem cE{n:Nat}(p:Int->Bool)(h:Cr n c):Cr n (c.filter p):=⟨h.1.filter p,λx hx=>h.2 x (A9.mp hx).1⟩
theorem VF{w:Wk}{ls:List Int}{s:Int}:x∈Ox w ls c s↔x∈c/\Zz w ls x=Zz w ls s:=by unfold Ox;rw[A9,beq_iff_eq]
theorem dq{w:Wk}{d:Int}:x∈Z4 w c d↔∃s∈c,x∈Bh w d s:=by
 unfold Z4;rw[(sortI_perm _).mem_iff,Ku];unfold Bo;rw[D1]
 constructor
 .rintro (h|h)
  .cases h
  .exact h
 .exact .inr
end HG4
namespace HM
open PySem
def AO:Option tF->Option D
 |some (.nx _)=>Z .none
 |some (.rt d)=>Z d
 |_=>Z_
end HM
namespace HG4
open PySem HM HG
end HG4
namespace HG5
open PySem HM HG HG4
variable{c ls p:List Int}{n:Nat}
def Zt(w:Wk)(ls c:List Int):List (List Int):=(Bd w ls c).map (·.2)
theorem VY{w:Wk}:p∈Zt w ls c↔∃s∈c,p=Ox w ls c s:=by
 unfold Zt Bd;rw[Av,Aj];have hg:=G1 (Zz w ls) c
 constructor
 .rintro ⟨k,hk,rfl⟩
  obtain⟨s,hs,e⟩:=Aj.mp ((hg.mem k).mp ((Ej _).mem_iff.mp hk));refine⟨s,hs,?_⟩;subst e;rfl
 .rintro ⟨s,hs,rfl⟩
  exact⟨Zz w ls s,(Ej _).mem_iff.mpr ((hg.mem _).mpr (Aj.mpr ⟨s,hs,rfl⟩)),rfl⟩
theorem G5{w:Wk}(hc:Cr w.many c)(h:p∈Zt w ls c):Cr w.many p/\p≠[]/\∀x∈p,x∈c:=by obtain⟨s,hs,rfl⟩:=VY.mp h;exact⟨cE _ hc,Sf (VF.mpr ⟨hs,rfl⟩),λx hx=>(VF.mp hx).1⟩
theorem WZ(w:Wk)(ls c:List Int):(Zt w ls c).Nodup:=by unfold Zt Bd;rw[Av];have hg:=G1 (Zz w ls) c;have hn:(BI ((B9 (Zz w ls) c).map (·.1))).Nodup:=(Ej _).nodup_iff.mpr hg.nd;rw[YM,JH];refine Ss (λ{a b} ha hb qq e=>?_) (YM.mp hn);obtain⟨s,hs,es⟩:=Aj.mp ((hg.mem a).mp ((Ej _).mem_iff.mp ha));have h1:s∈c.filter λs=>Zz w ls s==a:=A9.mpr ⟨hs,beq_iff_eq.mpr es⟩;have e':(c.filter λs=>Zz w ls s==a)=c.filter λs=>Zz w ls s==b:=e;rw[e']at h1;have:=beq_iff_eq.mp (A9.mp h1).2;exact qq (es.symm.trans this)
theorem IH{w:Wk}(h:c≠[]):Zt w ls c≠[]:=by
 cases c with
 |nil=>exact absurd rfl h
 |cons s c=>exact Sf (VY.mpr ⟨s,An ..,rfl⟩)
def FP:Nat->List (List Int)
 |0=>[[]]
 |n+1=>FP n++(FP n).map (·++[(n:Int)])
theorem UY:∀n,(FP n).length=2 ^ n
 |0=>rfl
 |n+1=>by show(FP n++(FP n).map (·++[(n:Int)])).length=_;rw[AB,Af,UY n,Nat.pow_succ];omega
theorem PK:∀(n:Nat) (c:List Int),Cr n c->c∈FP n
 |0,c,h=>by
  cases c with
  |nil=>exact AG.mpr rfl
  |cons x c=>have:=h.2 x (An ..);omega
 |n+1,c,h=>by
  show c∈FP n++(FP n).map (·++[(n:Int)])
  by_cases hm:(n:Int)∈c
  ·-- the last is n
   have key:∀(c:List Int),c.Pairwise (· < ·)->(∀x∈c,0<=x/\x<((n+1:Nat):Int))->(n:Int)∈c->∃c',c=c'++[(n:Int)]/\c'.Pairwise (· < ·)/\∀x∈c',0<=x/\x<(n:Int):=by
    intro c
    induction c with
    |nil=>intro _ _ h;simp at h
    |cons x c ih =>
     intro hp hb hm;obtain⟨p1,p2⟩:=Dg.mp hp
     by_cases hx:x=(n:Int)
     .cases c with
      |nil=>exact⟨[],by rw[hx];rfl,.nil,λy hy=>by simp at hy⟩
      |cons y c=>have h1:=p1 y (An ..);have h2:=hb y (Ao _ (An ..));omega
     .have hm':(n:Int)∈c:=by
       rcases Ax.mp hm with e|e
       .exact absurd e.symm hx
       .exact e
      obtain⟨c',e,q1,q2⟩:=ih p2 (λy hy=>hb y (Ao _ hy)) hm';refine⟨x::c',by rw[e];rfl,Dg.mpr ⟨λy hy=>p1 y (by rw[e];exact Er _ hy),q1⟩,λy hy=>?_⟩;rcases Ax.mp hy with e'|hy
      .have h1:=p1 (n:Int) hm'
       have h2:=hb x (An ..);rw[e'];omega
      .exact q2 y hy
   obtain⟨c',e,q1,q2⟩:=key c h.1 h.2 hm;exact B6 _ (Aj.mpr ⟨c',PK n c' ⟨q1,q2⟩,e.symm⟩)
  .refine Er _ (PK n c ⟨h.1,λx hx=>?_⟩)
   have h1:=h.2 x hx;have:x≠(n:Int):=λe=>hm (e▸hx);omega
theorem IL{L:List (List Int)}(hn:L.Nodup)(h:∀c∈L,Cr n c):L.length<=2 ^ n:=by rw[<-UY n];exact FJ hn λc hc=>PK n c (h c hc)
def Zs(w:Wk)(c:List Int):Bool:=c.all λs=>w.goal.contains s
def qr(w:Wk)(ls:List Int):Nat->List Int->Bool
 |0,c=>Zs w c
 |n+1,c=>Zs w c||(Ag w.deeds.length).any λd=>AV w c d&&(Zt w ls (Z4 w c d)).all λp=>qr w ls n p
theorem Vq{w:Wk}{ls:List Int}:∀(n:Nat) (c:List Int),qr w ls n c=Aa->qr w ls (n+1) c=Aa
 |0,c,h=>by show(Zs w c||_)=Aa;rw[show Zs w c=Aa from h];rfl
 |n+1,c,h=>by
  have h':(Zs w c||(Ag w.deeds.length).any λd=>AV w c d&&(Zt w ls (Z4 w c d)).all λp=>qr w ls n p)=Aa:=h;show(Zs w c||(Ag w.deeds.length).any λd=>AV w c d&&(Zt w ls (Z4 w c d)).all λp=>qr w ls (n+1) p)=Aa;rw[Dl]at h' ⊢;rcases h' with h'|h'
  .exact .inl h'
  .right
   obtain⟨d,hd,hq⟩:=AA.mp h';rw[AJ]at hq;refine AA.mpr ⟨d,hd,?_⟩;rw[AJ];exact⟨hq.1,Au.mpr λp hp=>Vq n p (Au.mp hq.2 p hp)⟩
theorem IA{w:Wk}{m:Nat}(h:n<=m)(q:qr w ls n c=Aa):qr w ls m c=Aa:=by
 induction h with
 |refl=>exact q
 |step _ ih=>exact Vq _ _ ih
def EH(w:Wk)(ls:List Int)(L:List (List Int)):Prop:=∀c∈L,∀d:Nat,d<w.deeds.length->AV w c d=Aa->∀p∈Zt w ls (Z4 w c d),p∈L
theorem WI{w:Wk}{ls:List Int}{L:List (List Int)}(hL:EH w ls L){n:Nat}(h:∀c∈L,qr w ls (n+1) c=Aa->qr w ls n c=Aa):∀(m:Nat),∀c∈L,qr w ls m c=Aa->qr w ls n c=Aa
 |0,c,_,q=>IA (Bw n) q
 |m+1,c,hc,q=>by
  refine h c hc ?_;have q':(Zs w c||(Ag w.deeds.length).any λd=>AV w c d&&(Zt w ls (Z4 w c d)).all λp=>qr w ls m p)=Aa:=q;show(Zs w c||(Ag w.deeds.length).any λd=>AV w c d&&(Zt w ls (Z4 w c d)).all λp=>qr w ls n p)=Aa;rw[Dl]at q' ⊢;rcases q' with q'|q'
  .exact .inl q'
  .right
   obtain⟨d,hd,hq⟩:=AA.mp q';rw[AJ]at hq;refine AA.mpr ⟨d,hd,?_⟩;rw[AJ];exact⟨hq.1,Au.mpr λp hp=>WI hL h m p (hL c hc d (As.mp hd) hq.1 p hp) (Au.mp hq.2 p hp)⟩
theorem Xz{α:Type}{p q:α->Bool}:∀{L:List α},(∀x∈L,p x=Aa->q x=Aa)->(∃x∈L,q x=Aa/\p x=Ab)->(L.filter p).length<(L.filter q).length
 |[],_,⟨x,hx,_⟩=>by simp at hx
 |y::L,h,⟨x,hx,h1,h2⟩=>by
  have le:∀{L:List α},(∀x∈L,p x=Aa->q x=Aa)->(L.filter p).length<=(L.filter q).length:=by
   intro L
   induction L with
   |nil=>intro _;exact Ai _
   |cons z L ih =>
    intro h;have:=ih λx hx=>h x (Ao _ hx);have hz:=h z (An ..);rw[FA,FA];cases hp:p z with
    |true=>rw[hz hp];simpa using this
    |false =>
     cases q z
     .simpa using this
     .simp;omega
  have hL:=λx hx=>h x (Ao y hx);have hy:=h y (An ..);rw[FA,FA];rcases Ax.mp hx with e|hx
  .subst e
   rw[h2,h1];have:=le hL;simp;omega
  .have:=Xz hL ⟨x,hx,h1,h2⟩
   cases hp:p y with
   |true=>rw[hy hp];simpa using this
   |false =>
    cases q y
    .simpa using this
    .simp;omega
end HG5
namespace HG5
open PySem HM HG
def mj:SF :=
 (ZE (CC (Iv (Za 0) .int) (ig (Iv (Za 0) .bool))))
def M7:List D->Option D:=fnOf 1 1 mj
def Xg:SF :=
 (ZE (pT ra (tw (ZF (ZW (qg (Za 1))) (tV (Xu (Za 0) (qg (qy (Zo 1) (eC (.int 4)))))) (Za 0))) (tw (B7 Zk))))
def Fv:List D->Option D:=fnOf 2 2 Xg
end HG5
namespace HG5
open PySem HM HG HG4
theorem eX{a b:List Int}(h:pN a=pN b):a=b:=by
 injection h with h
 have:=congrArg BM h;rw[Ef,Ef]at this;exact C0 this
theorem Wq(p:List Int):Z3 (pN p)=Aa:=IJ (Gb 0 p) (by decide)
theorem d4(a b:List Int):BQ (pN a) (pN b)=(a==b):=by have h:=Py 1 (pN a) (pN b) (Gb 0 a) ⟨1,Gb 0 b⟩;apply Jx.mpr;rw[h,beq_iff_eq];exact⟨eX,λe=>by rw[e]⟩
theorem gk(L:List (List Int))(p:List Int):OI (L.map pN) (pN p)=Z (L.contains p):=by
 unfold OI;have h1:(L.map pN).all Z3=Aa:=Au.mpr λd hd=>by obtain⟨c,_,rfl⟩:=Aj.mp hd;exact Wq c
 rw[Wq,h1,if_pos (by rfl)];congr 1
 induction L with
 |nil=>rfl
 |cons c L ih=>rw[Ak,EN,d4,List.contains_cons,ih (by rw[Ak,DF,AJ]at h1;exact h1.2)];rw[show(c==p)=(p==c) from Jx.mpr ⟨λh=>beq_iff_eq.mpr (beq_iff_eq.mp h).symm,λh=>beq_iff_eq.mpr (beq_iff_eq.mp h).symm⟩]
theorem LV{w:Wk}{c:List Int}{d:Int}(h0:c≠[])(hc:AV w c d=Aa):Z4 w c d≠[]:=by
 cases c with
 |nil=>exact absurd rfl h0
 |cons s c =>
  unfold AV at hc;have h1:=Au.mp hc s (An ..);have h2:0<(Bh w d s).length:=by simpa using h1
  cases hr:Bh w d s with
  |nil=>rw[hr]at h2;simp at h2
  |cons x xs=>exact Sf (dq.mpr ⟨s,An ..,by rw[hr];exact An ..⟩)
theorem lJ{α:Type}(ns:List Int):ra (.list (ns.map dI)) (.list [])=Z (.bool ns.isEmpty):=by
 cases ns with
 |nil=>exact Mh (Pp 0 []) (by decide)
 |cons n ns=>exact J4 (Pp 0 (n::ns)) (Pp 0 []) (by decide) (by decide) (by simp)
theorem sx{α:Type}(p:α->Bool)(L:List α):(L.filter λx=>!p x).isEmpty=L.all p:=by
 induction L with
 |nil=>rfl
 |cons x L ih =>
  rw[FA,DF];cases p x with
  |true=>simpa using ih
  |false=>rfl
theorem lq{w:Wk}(hv:Wk.V w){c:List Int}(hc:c.length<1000):Fv [w.d,pN c]=Z (.bool (Zs w c)):=by
 have hb:c.length<1000000:=by omega
 have i0:DQ (.pl w.d)=Z [Bq w.many,.tuple (w.deeds.map ZN),.tuple (w.looks.map pN),pN w.beg,pN w.goal]:=rfl;have e:∀r:HM.Env,r[0]?=Z (Z (.pl w.d))->Bz (tV (Xu (Za 0) (qg (qy (Zo 1) (eC (.int 4)))))) (Za 0) r (c.map dI)=Z ((c.filter λs=>!w.goal.contains s).map dI):=λr r0=>by
  rw[DP dI (λs=>!w.goal.contains s) dI]
  .intro s _
   simp[r0,i0,JP,Ef,-DQ,-HK];simp[JP,Ef,-HK]
  .intro s _ _
   simp
 have g:=lJ (α:=Int) (c.filter λs=>!w.goal.contains s);rw[sx (λs=>w.goal.contains s) c]at g;simp[Fv,Xg,hb,e,g,Zs,-ra,-HK]
abbrev Tb:=List (List Int×Int)
def encM(M:Tb):List (List Ky×D):=M.map λp=>(Az p.1,dI p.2)
theorem Hq(M:Tb)(k:List Int):Zg (encM M) (Az k)=(Zg M k).map dI:=by
 unfold Zg encM;rw[List.find?_map];have e:((λp:List Ky×D=>decide (p.1=Az k))∘λp:List Int×Int=>(Az p.1,dI p.2))=λp=>decide (p.1=k):=by
  funext p
  simp only[Lw];exact decide_eq_decide.mpr (Pf p.1 k)
 rw[e];cases M.find? λp=>decide (p.1=k)<;>rfl
theorem VG(M:Tb)(k:List Int)(v:Int):qj (encM M) (Az k) (dI v)=encM (qj M k v):=by
 unfold qj;have e1:((encM M).any λp=>decide (p.1=Az k))=M.any λp=>decide (p.1=k):=by
  unfold encM;rw[List.any_map];congr 1
  funext p
  simp only[Lw];exact decide_eq_decide.mpr (Pf p.1 k)
 rw[e1];split
 .unfold encM
  rw[Av,Av];refine FK λp _=>?_;simp only[Lw]
  by_cases h:p.1=k
  .rw[if_pos h,if_pos (by rw[h])]
  .rw[if_neg h,if_neg (λe=>h (Kq e))]
 .unfold encM
  rw[Br];rfl
theorem Qa(k:List Int):Zg ([]:Tb) k=Z_:=rfl
theorem EJ(x:List Int)(v:Int)(M:Tb)(k:List Int):Zg ((x,v)::M) k=if x=k then Z v else Zg M k:=by
 unfold Zg;rw[Ct]
 by_cases h:x=k<;>simp[h]
theorem iU(x k:List Int)(v:Int)(M:Tb):Zg (qj M x v) k=if x=k then Z v else Zg M k:=by
 have rep:∀M:Tb,Zg (M.map λp=>if p.1=x then(p.1,v)else p) k=if x=k then(Zg M k).map (λ_=>v)else Zg M k:=by
  intro M
  induction M with
  |nil=>rw[FG,Qa];split<;>rfl
  |cons p M ih =>
   obtain⟨a,b⟩:=p;rw[Ak]
   by_cases ha:a=x
   .rw[if_pos (show(a,b).1=x from ha),EJ,EJ,ih]
    show(if a=k then Z v else _)=_
    by_cases hk:x=k
    .rw[if_pos (by rw[ha,hk]),if_pos hk,if_pos (by rw[ha,hk])];rfl
    .rw[if_neg (by rw[ha];exact hk),if_neg hk,if_neg hk,if_neg (by rw[ha];exact hk)]
   .rw[if_neg (show ¬(a,b).1=x from ha),EJ,EJ,ih]
    by_cases hk:a=k
    .rw[if_pos hk,if_pos hk]
     have:x≠k:=λe=>ha (hk.trans e.symm);rw[if_neg this]
    .rw[if_neg hk,if_neg hk]
 have app:∀M:Tb,Zg (M++[(x,v)]) k=match Zg M k with|some u=>Z u|none=>if x=k then Z v else Z_:=by
  intro M
  induction M with
  |nil=>rw[Jz,EJ,Qa]
  |cons p M ih =>
   obtain⟨a,b⟩:=p;rw[RQ,EJ,EJ,ih]
   by_cases hk:a=k
   .rw[if_pos hk,if_pos hk]
   .rw[if_neg hk,if_neg hk]
 have has:∀M:Tb,(M.any λp=>decide (p.1=x))=(Zg M x).isSome:=by
  intro M
  induction M with
  |nil=>rfl
  |cons p M ih =>
   obtain⟨a,b⟩:=p;rw[EN,EJ,ih]
   by_cases ha:a=x<;>simp[ha]
 unfold qj;split
 .rename_i h
  rw[rep]
  by_cases hk:x=k
  .subst hk
   rw[has]at h;rw[if_pos rfl,if_pos rfl];obtain⟨u,hu⟩:=Dp.mp h;rw[hu];rfl
  .rw[if_neg hk,if_neg hk]
 .rename_i h
  rw[app]
  by_cases hk:x=k
  .subst hk
   rw[has]at h;rw[if_pos rfl,if_pos rfl];cases hq:Zg M x with
   |none=>rfl
   |some u=>rw[hq]at h;exact absurd rfl h
  .rw[if_neg hk,if_neg hk]
   cases Zg M k<;>rfl
theorem Ui(x:List Int)(v:Int)(M:Tb):(qj M x v).length<=M.length+1:=by
 unfold qj;split
 .rw[Af];omega
 .rw[AB];exact Ai _
def Zy(M:Tb)(p:List Int):Bool:=(Zg M p).isSome
def DK(w:Wk)(ls c:List Int)(M:Tb):Bool:=(Ag w.deeds.length).any λd=>AV w c d&&(Zt w ls (Z4 w c d)).all λp=>Zy M p
section
variable{L:List (List Int)}{c ls:List Int}
def CP(w:Wk)(ls:List Int)(t:Nat)(c:List Int):Option Int:=((Ag (t+1)).find? λn=>qr w ls n c).map λ(n:Nat)=>(n:Int)
theorem Hk{w:Wk}{t:Nat}:(CP w ls t c).isSome=qr w ls t c:=by
 unfold CP;rw[EV];cases h:qr w ls t c with
 |true=>rw[N6];exact⟨t,As.mpr (by omega),h⟩
 |false =>
  cases q:(Ag (t+1)).find? λn=>qr w ls n c with
  |none=>rfl
  |some n=>have h1:=Nl q;have h2:=As.mp (Lx q);rw[IA (show n<=t by omega) h1]at h;cases h
theorem jf{w:Wk}{t:Nat}:CP w ls (t+1) c=match CP w ls t c with
  |some k=>Z k
  |none=>if qr w ls (t+1) c then Z ((t+1:Nat):Int)else Z_:=by
 unfold CP;rw[List.range_succ (n:=t+1),N2];cases(Ag (t+1)).find? λn=>qr w ls n c with
 |some n=>rfl
 |none=>show DV _ (Option.or Z_ ([t+1].find? λn=>qr w ls n c))=_;rw[Option.none_or,Ct];cases qr w ls (t+1) c<;>rfl
theorem Wu{w:Wk}{t:Nat}{k:Int}(h:CP w ls t c=Z k):∃n:Nat,k=(n:Int)/\n<=t/\qr w ls n c=Aa/\∀m,m<n->qr w ls m c=Ab:=by
 unfold CP at h;obtain⟨n,hn,rfl⟩:=Al.mp h;refine⟨n,rfl,?_,Nl (p:=λn=>qr w ls n c) hn,λm hm=>?_⟩
 .have:=As.mp (Lx hn)
  omega
 .cases q:qr w ls m c with
  |false=>rfl
  |true =>
   obtain⟨_,as,bs,e,rA⟩:=List.find?_eq_some_iff_append.mp hn;have qi:m∈Ag (t+1):=As.mpr (by have:=As.mp (Lx hn);omega);have hp:(as++n::bs).Pairwise (· < ·):=by rw[<-e];exact NT
   rw[e]at qi;rcases A8.mp qi with h1|h1
   .have:=rA m h1
    rw[q]at this;cases this
   .rcases Ax.mp h1 with h2|h2
    .omega
    .have:=(Dg.mp (List.pairwise_append.mp hp).2.1).1 m h2
     omega
structure E1(w:Wk)(ls:List Int)(L:List (List Int))(t:Nat)(M:Tb):Prop where
 look:∀c,Zg M c=if c∈L then CP w ls t c else Z_
theorem IQ(v:Int)(k:List Int):∀(ms:List (List Int)) (M:Tb),Zg (ms.foldl (λM c=>qj M c v) M) k=if k∈ms then Z v else Zg M k
 |[],M=>by simp
 |c::ms,M=>by
  rw[Eu,IQ v k ms,iU]
  by_cases h1:k∈ms
  .rw[if_pos h1,if_pos (Ao _ h1)]
  .rw[if_neg h1]
   by_cases h2:c=k
   .rw[if_pos h2,if_pos (by rw[h2];exact An ..)]
   .rw[if_neg h2,if_neg]
    intro h;rcases Ax.mp h with e|e
    .exact h2 e.symm
    .exact h1 e
theorem Wj(v:Int):∀(ms:List (List Int)) (M:Tb),(ms.foldl (λM c=>qj M c v) M).length<=M.length+ms.length
 |[],M=>Ai _
 |c::ms,M=>by rw[Eu,Ay];have:=Wj v ms (qj M c v);have:=Ui c v M;omega
def E7(w:Wk)(ls:List Int)(L:List (List Int))(M:Tb):List (List Int):=L.filter λc=>!Zy M c&&DK w ls c M
theorem Vj{w:Wk}(hL:EH w ls L){t:Nat}{M:Tb}(T:E1 w ls L t M):E1 w ls L (t+1) ((E7 w ls L M).foldl (λM c=>qj M c ((t+1:Nat):Int)) M):=by
 have wA:∀c∈L,Zy M c=qr w ls t c:=λc hc=>by unfold Zy;rw[T.look,if_pos hc,Hk]
 refine⟨λc=>?_⟩;rw[IQ,T.look]
 by_cases hc:c∈L
 .rw[if_pos hc,if_pos hc,jf]
  have sh:DK w ls c M=(Ag w.deeds.length).any λd=>AV w c d&&(Zt w ls (Z4 w c d)).all λp=>qr w ls t p:=by
   unfold DK;apply Jx.mpr;rw[AA,AA]
   constructor
   .rintro ⟨d,hd,hq⟩
    rw[AJ]at hq;refine⟨d,hd,?_⟩;rw[AJ];refine⟨hq.1,Au.mpr λp hp=>?_⟩;rw[<-wA p (hL c hc d (As.mp hd) hq.1 p hp)];exact Au.mp hq.2 p hp
   .rintro ⟨d,hd,hq⟩
    rw[AJ]at hq;refine⟨d,hd,?_⟩;rw[AJ];refine⟨hq.1,Au.mpr λp hp=>?_⟩;rw[wA p (hL c hc d (As.mp hd) hq.1 p hp)];exact Au.mp hq.2 p hp
  have qi:c∈E7 w ls L M↔(qr w ls t c=Ab/\DK w ls c M=Aa):=by
   unfold E7;rw[A9,AJ,wA c hc]
   constructor
   .rintro ⟨_,h1,h2⟩
    exact⟨by simpa using h1,h2⟩
   .rintro ⟨h1,h2⟩
    exact⟨hc,by simp[h1],h2⟩
  cases hw:qr w ls t c with
  |true =>
   have hs:(CP w ls t c).isSome=Aa:=by rw[Hk];exact hw
   obtain⟨k,hk⟩:=Dp.mp hs;rw[if_neg (λh=>by rw[hw]at qi;cases(qi.mp h).1),hk]
  |false =>
   have hs:CP w ls t c=Z_:=by
    have:=Hk (w:=w) (ls:=ls) (t:=t) (c:=c);rw[hw]at this;cases q:CP w ls t c with
    |none=>rfl
    |some k=>rw[q]at this;cases this
   have yY:Zs w c=Ab:=by
    cases q:Zs w c with
    |false=>rfl
    |true=>have:qr w ls t c=Aa:=IA (Bw t) (show qr w ls 0 c=Aa from q);rw[hw]at this;cases this
   have vc:qr w ls (t+1) c=DK w ls c M:=by rw[sh];show(Zs w c||_)=_;rw[yY,NB]
   rw[hs];dsimp only;rw[vc];cases hcw:DK w ls c M with
   |true=>rw[if_pos (qi.mpr ⟨hw,hcw⟩),if_pos rfl]
   |false=>rw[if_neg (λh=>by have:=(qi.mp h).2;rw[hcw]at this;cases this)];rfl
 .rw[if_neg hc,if_neg hc,if_neg]
  intro h;exact hc (A9.mp h).1
def M0(w:Wk)(L:List (List Int)):Tb:=(L.filter λc=>Zs w c).foldl (λM c=>qj M c 0) []
theorem VB{w:Wk}:E1 w ls L 0 (M0 w L):=by
 refine⟨λc=>?_⟩;unfold M0;rw[IQ,Qa];have e:CP w ls 0 c=if Zs w c then Z 0 else Z_:=by unfold CP;show DV _ (([0]:List Nat).find? λn=>qr w ls n c)=_;rw[Ct];show DV _ (match qr w ls 0 c with|true=>Z 0|false=>_)=_;have:qr w ls 0 c=Zs w c:=rfl;rw[this];cases Zs w c<;>rfl
 rw[e]
 by_cases hc:c∈L
 .rw[if_pos hc]
  cases ht:Zs w c with
  |true=>rw[if_pos (A9.mpr ⟨hc,ht⟩)];rfl
  |false=>rw[if_neg (λh=>by have:=(A9.mp h).2;rw[ht]at this;cases this)];rfl
 .rw[if_neg hc,if_neg λh=>hc (A9.mp h).1]
end
def LI(w:Wk)(ls:List Int)(n:Nat):Prop:=∀p∈Zt w ls w.beg,qr w ls n p=Aa
def Few(w:Wk)(ls:List Int)(d:D):Prop:=(∃n:Nat,d=.int n/\LI w ls n/\∀m,m<n->¬LI w ls m)\/(d=.none/\∀n,¬LI w ls n)
end HG5
namespace HG5
open PySem HM HG
def kH:SF :=
 (ZE (qy (Zo 0) (eC (.int 3))))
def DT:List D->Option D:=fnOf 1 1 kH
def kf:SF :=
 (ZE (qy (Zo 0) (eC (.int 4))))
def KI:List D->Option D:=fnOf 1 1 kf
def W8:SF :=
 (ZE (Il (ZF (ZW (qg (Za 1))) A0 (Vu (Za 0) (qg (Zj KI (Zc (Za 1) Zk)))))))
def Gm:List D->Option D:=fnOf 2 2 W8
def Xf:SF :=
 (ZE (tw (ZF (ZW (qg (Za 0))) A0 (qy (Zo 0) (eC (.int 1))))))
def ZC:List D->Option D:=fnOf 1 1 Xf
def K9(ap:AP):SF :=
 (WX 3 (P7 ZC (Zc (qy (Zo 5) (eC (.int 1))) Zk)))
def Jh(ap:AP):SF :=
 (Zw (eV 4 3)
  (qY (tV (KG (Za 4) (Zo 2))) (Zw (Ik 2 (Za 4) (Kp ap 1 (Zc (Za 4) Zk)))
  (Bi 5 (ZW (qg (Bp (Zo 2) (Za 4)))) (K9 ap))) Bu))
def Na(ap:AP):SF :=
 (Zw (ZL 2 yB)
  (Zw (ZL 3 (Mx (Zo 0)))
  (Zw (Pu 100000 (tV (pT uf (By (Zo 3)) (eC (.int 0)))) (Jh ap))
  (D7 2 (ZE (Za 2))))))
def La(ap:AP):List D->Option D:=fnOf 2 6 (Na ap)
def RC(ap:AP):SF :=
 (Zw (ZL 3 (ZF (ZW (qg (Za 0))) A0 (Kp ap 3 (Zc (Za 0) (Zc (Za 2) Zk)))))
  (D7 3 (ZE (Eb (ZF (ZW (qg (Za 3))) (tV (pT Iw (Za 0) (eC .none))) (Za 0))))))
def Jj(ap:AP):List D->Option D:=fnOf 3 4 (RC ap)
def ZU(ap:AP):SF :=
 (qY (tV (KG (Za 4) (Zo 1))) (Zw (ZX 5 (Zj (Jj ap) (Zc (Bp (Zo 0) (Za 4)) (Zc (Za 1) (Zc (Za 2) Zk)))))
  (qY (tV (pT Iw (Za 5) (eC .none))) (Ik 3 (Za 4) (Za 5)) Bu)) Bu)
def Gj(ap:AP):List D->Option (List (List Ky×D)):=vQ 3 6
 (JX (ZL 3 yB)
 (JX (FW 0 (Bi 4 (BH 0) (ZU ap)))
 (JY 3)))
def KS(ap:AP):SF :=
 (Ik 3 (Za 6) (Za 4))
def KR(ap:AP):SF :=
 (Zw (D7 5 (Bi 6 (ZW (qg (Za 5))) (KS ap)))
  (Zw (ZL 7 (P5 (Gj ap) (Zc (Za 1) (Zc (Ur (Zo 3)) (Zc (Za 2) Zk)))))
  (Zw (D7 7 (FW 7 (ZX 4 (Eb (ZF (BH 7) A0 (Bp (Zo 8) (Za 0)))))))
  (D7 7 (FW 7 (ZL 5 (ZF (BH 7) (tV (pT ra (Bp (Zo 8) (Za 0)) (Za 5))) (Za 0))))))))
def MV(ap:AP):SF :=
 (Zw (ZL 3 yB)
  (Zw (ZX 4 (eC (.int 0)))
  (Zw (FW 1 (ZL 5 (ZF (BH 1) (tV (Zj Gm (Zc (Za 1) (Zc (Za 0) Zk)))) (Za 0))))
  (Zw (Pu 100000 (tV (pT uf (By (Zo 5)) (eC (.int 0)))) (KR ap))
  (D7 3 (ZE (Za 3)))))))
def Gk(ap:AP):List D->Option D:=fnOf 3 8 (MV ap)
def RD:SF :=
 (Zw (ZL 2 (ZF (ZW (qg (Zj ZC (Zc (Za 0) Zk)))) (tV (GW (Za 0) (Zo 2))) (Bp (Zo 2) (Za 0))))
  (ZE (yC (tV (pT ra (By (Zo 2)) (By (Zo 0)))) (Pw (Zo 2)) (eC .none))))
def Fq:List D->Option D:=fnOf 2 3 RD
def Xe:SF :=
 (ZE (tw (ZF (ZW (qg (Zj K5 (Zc (Za 0) (Zc (Za 2) Zk))))) A0 (E5 (Zc (Za 0) (Zc (Zj Z5 (Zc (Za 1) (Zc (Za 2) (Zc (Zj IS (Zc (Za 1) (Zc (Za 3) (Zc (Za 0) Zk)))) Zk)))) Zk))))))
def Fu:List D->Option D:=fnOf 3 3 Xe
def Rv(ap:AP):SF :=
 (ZE (Xw (La ap) 1 [0,1] (Zj ZC (Zc (Zj Z5 (Zc (Za 0) (Zc (Za 1) (Zc (Za 2) Zk)))) Zk))))
def Hu(ap:AP):List D->Option D:=fnOf 3 3 (Rv ap)
def QY:SF :=
 (Zw (ZX 2 (Zj Fq (Zc (qy (Zo 0) (eC (.int 1))) (Zc (Za 1) Zk))))
  (ZE (yC (tV (pT B8 (Za 2) (eC .none))) (eC .none) (pT Bb (Za 2) (eC (.int 1))))))
def Kw:List D->Option D:=fnOf 2 3 QY
def Rn(ap:AP):SF :=
 (ZE (Zj (Gk ap) (Zc (Za 0) (Zc (Za 1) (Zc (eC (pY 0 [])) Zk)))))
def M6(ap:AP):List D->Option D:=fnOf 2 2 (Rn ap)
def P4(ap:AP):SF :=
 (Zw (LW (Zj Hl (Zc (Za 0) Zk)))
  (Zw (LW (Zj Hz (Zc (Za 0) (Zc (Za 1) Zk))))
  (Zw (ZX 2 (Zj DT (Zc (Za 0) Zk)))
  (Zw (ZX 3 (Zj (M6 ap) (Zc (Za 0) (Zc (Zj (Hu ap) (Zc (Za 0) (Zc (Za 1) (Zc (Za 2) Zk)))) Zk))))
  (ZE (Zj Fq (Zc (Zj Z5 (Zc (Za 0) (Zc (Za 1) (Zc (Za 2) Zk)))) (Zc (Za 3) Zk))))))))
def Gg(ap:AP):List D->Option D:=fnOf 2 4 (P4 ap)
end HG5
namespace HG5
open PySem HM HG HG4
section
variable{c:List Int}
theorem Q0(w:Wk):DT [w.d]=Z (pN w.beg):=rfl
theorem ji(w:Wk):KI [w.d]=Z (pN w.goal):=rfl
theorem fF{α:Type}(xs:List α)(p:α->Bool):G9 (xs.map λx=>Dm (p x))=Z (xs.map p):=by
 have:=MB (xs.map p)
 rwa [Av]at this
theorem kM{w:Wk}(hc:c.length<1000):Gm [w.d,pN c]=Z (.bool (Zs w c)):=by
 have hb:c.length<1000000:=by omega
 have e:∀r:HM.Env,r[0]?=Z (Z (.pl w.d))->Bz A0 (Vu (Za 0) (qg (Zj KI (Zc (Za 1) Zk)))) r (c.map dI)=Z (c.map λs=>Dm (w.goal.contains s)):=λr r0=>by
  rw[Dz dI (λs=>Dm (w.goal.contains s))]
  .intro s _
   simp[r0,ji,JP,Ef,-HK]
 simp[Gm,W8,hb,e,fF,Zs,-HK]
theorem K6(g:Gs)(h:g.length<1000000):ZC [.list (g.map Bk)]=Z (.list ((g.map (·.2)).map pN)):=by
 have e:∀r:HM.Env,Bz A0 (qy (Zo 0) (eC (.int 1))) r (g.map Bk)=Z ((g.map (·.2)).map pN):=λr=>by
  rw[Dz Bk (λp=>pN p.2),Av]
  .rfl
  .intro p _
   rfl
 simp[ZC,Xf,h,e]
def LD(w:Wk)(ls c:List Int)(d:Int):D:=.tuple [dI d,.list ((Bd w ls (Z4 w c d)).map Bk)]
def LR(w:Wk)(ls c:List Int):D:=.list ((tS w c).map (LD w ls c))
theorem split_len{w:Wk}{ls:List Int}:(Bd w ls c).length<=c.length:=by unfold Bd;rw[Af,(Ej _).length_eq,Af];exact JT _ _ _ (G1 (Zz w ls) c)
theorem Pa(w:Wk)(c:List Int):(tS w c).length<=w.deeds.length:=by
 unfold tS;rw[Af];have:=HL (λ(d:Nat)=>AV w c (d:Int)) (Ag w.deeds.length)
 rwa [C1]at this
theorem PH{w:Wk}{d:Nat}(hd:d<w.deeds.length)(hc:AV w c d=Aa):(d:Int)∈tS w c:=by unfold tS;exact Aj.mpr ⟨d,A9.mpr ⟨As.mpr hd,hc⟩,rfl⟩
section
variable{w:Wk}(hv:Wk.V w){ls:List Int}(hl:Cr w.looks.length ls)
include hv hl
theorem lh(hc:Cr w.many c):Fu [w.d,pN ls,pN c]=Z (LR w ls c):=by
 have hdo:=mx hv hc;have hb:(tS w c).length<1000000:=by have:=Pa w c;have:=hv.d2;omega
 have e:∀r:HM.Env,r[0]?=Z (Z (.pl w.d))->r[1]?=Z (Z (.pl (pN ls)))->r[2]?=Z (Z (.pl (pN c))) ->
   Bz A0 (E5 (Zc (Za 0) (Zc (Zj Z5 (Zc (Za 1) (Zc (Za 2) (Zc (Zj IS (Zc (Za 1) (Zc (Za 3) (Zc (Za 0) Zk)))) Zk)))) Zk))) r ((tS w c).map dI)=Z ((tS w c).map (LD w ls c)):=λr r0 r1 r2=>by
  rw[Dz dI (LD w ls c)];intro d hd;obtain⟨d0,d1,_⟩:=He hd;have h1:=iu hv hc d0 d1;have h2:=Mm hv hl (Fe hv hc d0 d1);simp[r0,r1,r2,h1,h2,LD]
 simp[Fu,Xe,hdo,hb,e,LR]
end
end
section
variable{C:List (List Int)}{ds:List D}{p:List Int}{n:Nat}{wf:Wf}
abbrev Wy:=D×Gs
def qM(y:Wy):D:=.tuple [y.1,.list (y.2.map Bk)]
def qm(y:Wy):List (List Int):=y.2.map (·.2)
abbrev Wf:=List Int->List Wy
inductive Ia(wf:Wf)(B:List (List Int)):List Int->Prop where
 |beg {p:List Int} (h:p∈B):Ia wf B p
 |step {c p:List Int} {y:Wy} (r:Ia wf B c) (hy:y∈wf c) (h:p∈qm y):Ia wf B p
structure Ez(wf:Wf)(Ok:List Int->Prop)(B C W:List (List Int)):Prop where
 nd:C.Nodup
 cr:∀c∈C,Ok c
 wr:∀c∈W,Ok c
 rc:∀c∈C,Ia wf B c
 rw:∀c∈W,Ia wf B c
 cl:∀c∈C,∀y∈wf c,∀p∈qm y,p∈C\/p∈W
 bg:∀p∈B,p∈C\/p∈W
def Zu(wf:Wf)(C:List (List Int)):List (List Ky×D):=C.map λc=>(Az c,.list ((wf c).map qM))
theorem Qc(wf:Wf)(C:List (List Int))(k:List Int):Zg (Zu wf C) (Az k)=if k∈C then Z (.list ((wf k).map qM))else Z_:=by
 unfold Zg Zu
 induction C with
 |nil=>rfl
 |cons c C ih =>
  rw[Ak,Ct]
  by_cases h:c=k
  .subst h
   rw[if_pos (An ..)];simp
  .have h':decide ((Az c,(PyData.list ((wf c).map qM))).1=Az k)=Ab:=decide_eq_false λe=>h (Kq e)
   rw[h'];dsimp only;rw[ih]
   by_cases q:k∈C
   .rw[if_pos q,if_pos (Ao _ q)]
   .rw[if_neg q,if_neg λz=>by
     rcases Ax.mp z with e|e
     .exact h e.symm
     .exact q e]
theorem hZ{k:List Int}(h:k∉C):qj (Zu wf C) (Az k) (.list ((wf k).map qM))=Zu wf (C++[k]):=by
 unfold qj;rw[if_neg]
 .unfold Zu
  rw[Br];rfl
 .intro z
  obtain⟨p,hp,e⟩:=AA.mp z;unfold Zu at hp;obtain⟨c,hc,rfl⟩:=Aj.mp hp;have e:=Kq (of_decide_eq_true e);subst e;exact h hc
theorem V8(wf:Wf)(L:List (List Int)):((Zu wf L).map λp=>Cv (p.1.map BL))=L.map pN:=by unfold Zu;rw[Av];refine FK λc _=>?_;show Cv ((c.map Cd).map BL)=Cv (c.map dI);rw[Av];rfl
def Ic(wf:Wf)(c:List Int):List (List Int):=(wf c).flatMap qm
theorem Ez.old{Ok:List Int->Prop}{B V:List (List Int)}(I:Ez wf Ok B C (V++[p]))(hp:p∈C):Ez wf Ok B C V:=by
 have key:∀q,q∈C\/q∈V++[p]->q∈C\/q∈V:=λq h=>by
  rcases h with h|h
  .exact .inl h
  .rcases A8.mp h with h|h
   .exact .inr h
   .rw[AG.mp h];exact .inl hp
 exact⟨I.nd,I.cr,λc h=>I.wr c (Er _ h),I.rc,λc h=>I.rw c (Er _ h),λc hc y hy q hq=>key q (I.cl c hc y hy q hq),λq hq=>key q (I.bg q hq)⟩
structure LC(wf:Wf)(Ok:List Int->Prop):Prop where
 ok:∀c,Ok c->∀y∈wf c,∀p∈qm y,Ok p
 ys:∀c,Ok c->(wf c).length<=10
 ps:∀c,Ok c->∀y∈wf c,y.2.length<=8
 cs:∀C:List (List Int),C.Nodup->(∀c∈C,Ok c)->C.length<=128
theorem Ez.new{Ok:List Int->Prop}(O:LC wf Ok){B V:List (List Int)}(I:Ez wf Ok B C (V++[p]))(hp:p∉C):Ez wf Ok B (C++[p]) (V++Ic wf p):=by
 have xg:=I.wr p (B6 _ (AG.mpr rfl));have hpr:=I.rw p (B6 _ (AG.mpr rfl));have key:∀q,q∈C\/q∈V++[p]->q∈C++[p]\/q∈V++Ic wf p:=λq h=>by
  rcases h with h|h
  .exact .inl (Er _ h)
  .rcases A8.mp h with h|h
   .exact .inr (Er _ h)
   .exact .inl (B6 _ h)
 refine⟨?_,λc h=>?_,λc h=>?_,λc h=>?_,λc h=>?_,λc h y hy q hq=>?_,λq hq=>key q (I.bg q hq)⟩
 .rw[Gw]
  refine⟨I.nd,by simp,λx hx y hy e=>?_⟩;rw[AG.mp hy]at e;exact hp (e▸hx)
 .rcases A8.mp h with h|h
  .exact I.cr c h
  .rw[AG.mp h];exact xg
 .rcases A8.mp h with h|h
  .exact I.wr c (Er _ h)
  .obtain⟨y,hy,hq⟩:=D1.mp h
   exact O.ok p xg y hy c hq
 .rcases A8.mp h with h|h
  .exact I.rc c h
  .rw[AG.mp h];exact hpr
 .rcases A8.mp h with h|h
  .exact I.rw c (Er _ h)
  .obtain⟨y,hy,hq⟩:=D1.mp h
   exact .step hpr hy hq
 .rcases A8.mp h with h|h
  .exact key q (I.cl c h y hy q hq)
  .rw[AG.mp h]at hy
   exact .inr (B6 _ (D1.mpr ⟨y,hy,hq⟩))
theorem g8{Ok:List Int->Prop}(O:LC wf Ok){c:List Int}(hc:Ok c):(Ic wf c).length<=80:=by
 have key:∀ys:List Wy,(∀y∈ys,y∈wf c)->(ys.flatMap qm).length<=8*ys.length:=by
  intro ys
  induction ys with
  |nil=>intro _;exact Ai 0
  |cons y ys ih =>
   intro h;rw[Ll,AB,Ay];have h1:=ih λx hx=>h x (Ao _ hx);have h2:=O.ps c hc y (h y (An ..));have h3:(qm y).length=y.2.length:=by unfold qm;rw[Af]
   omega
 have h1:=key (wf c) λ_ h=>h;have h2:=O.ys c hc;unfold Ic;omega
theorem Tp(ap:AP)(e0 e1 e2 e4:Option B):∀(ys:List Wy) (W:List (List Int)) (o:Option B),(∀y∈ys,y.2.length<=8)->W.length+8*ys.length<900000 ->∃o',Bc 5 (K9 ap) (ys.map qM) [e0,e1,e2,Z (.ol (W.map pN)),e4,o]=Z (.nx [e0,e1,e2,Z (.ol ((W++ys.flatMap qm).map pN)),e4,o'])
 |[],W,o,_,_=>⟨o,by rw[RO,BK];rfl⟩
 |y::ys,W,o,qh,pP=>by
  rw[Ay]at pP;have hb:=qh y (An ..);have u4:=K6 y.2 (by omega);have hpl:(qm y).length<=8:=by unfold qm;rw[Af];exact hb
  have body:K9 ap [e0,e1,e2,Z (.ol (W.map pN)),e4,Z (.pl (qM y))]=Z (.nx [e0,e1,e2,Z (.ol ((W++qm y).map pN)),e4,Z (.pl (qM y))]):=by
   have h1:P7 ZC (Zc (qy (Zo 5) (eC (.int 1))) Zk) [e0,e1,e2,Z (.ol (W.map pN)),e4,Z (.pl (qM y))]=Z (.ol ((qm y).map pN)):=by unfold P7;show(match ZC [.list (y.2.map Bk)]with|some (.list ys)=>Z (B.ol ys)|_=>Z_)=_;rw[u4];rfl
   unfold K9 WX;rw[h1];show(if _ then _ else _)=_;rw[if_pos (by rw[Af,Af];show _<1000000;omega),Br];rfl
  obtain⟨o',ih⟩:=Tp ap e0 e1 e2 e4 ys (W++qm y) (Z (.pl (qM y))) (λx hx=>qh x (Ao _ hx)) (by rw[AB];omega);refine⟨o',?_⟩;rw[Ll,<-EW,<-ih,Ak];show(match K9 ap [e0,e1,e2,Z (.ol (W.map pN)),e4,Z (.pl (qM y))]with|some (.nx r')=>_|some (.ct r')=>_|some (.bk r')=>_|some (.rt d)=>_|none=>_)=_;rw[body]
theorem W0(wf:Wf)(C:List (List Int))(p:List Int)(r:HM.Env)(i j:Nat)(h1:r[i]?=Z (Z (.pl (pN p))))(h2:r[j]?=Z (Z (.ot (Zu wf C)))):tV (KG (Za i) (Zo j)) r=Z (!decide (p∈C)):=by
 have hk:Bv (pN p)=Z (Az p):=Df p;have qN:=Qc wf C p
 by_cases hp:p∈C
 .rw[if_pos hp]at qN
  simp[h1,h2,hk,qN,hp]
 .rw[if_neg hp]at qN
  simp[h1,h2,hk,qN,hp]
theorem UB(t:Nat)(cs:List D):LU (pY t cs)=Z (t,cs):=rfl
section
variable{ap:AP}{wf:Wf}{Ok:List Int->Prop}(O:LC wf Ok){t:Nat}{cs:List D}(ha:∀c,Ok c->ap t cs [pN c]=Z (.list ((wf c).map qM)))
include O ha
omit ha O in
theorem e9{V:List (List Int)}(e0 e1 o4 o5:Option B)(hp:p∈C):Jh ap [e0,e1,Z (.ot (Zu wf C)),Z (.ol ((V++[p]).map pN)),o4,o5]=Z (.nx [e0,e1,Z (.ot (Zu wf C)),Z (.ol (V.map pN)),Z (.pl (pN p)),o5]):=by
 unfold Jh;refine ZY (P:=λq=>q=_) (r':=[e0,e1,Z (.ot (Zu wf C)),Z (.ol (V.map pN)),Z (.pl (pN p)),o5]) ?_ ?_
 .rw[Br]
  simp
 .have ht:=W0 wf C p [e0,e1,Z (.ot (Zu wf C)),Z (.ol (V.map pN)),Z (.pl (pN p)),o5] 4 2 rfl rfl
  rw[decide_eq_true hp]at ht;unfold qY;rw[ht];rfl
theorem fO{V:List (List Int)}(e0 o4 o5:Option B)(hp:p∉C)(hc:Ok p)(hC:C.length<1000)(hV:V.length<100000):∃o5',Jh ap [e0,Z (.pl (pY t cs)),Z (.ot (Zu wf C)),Z (.ol ((V++[p]).map pN)),o4,o5]=Z (.nx [e0,Z (.pl (pY t cs)),Z (.ot (Zu wf (C++[p]))),Z (.ol ((V++Ic wf p).map pN)),Z (.pl (pN p)),o5']):=by
 have u3:=O.ys p hc;obtain⟨o5',go⟩:=Tp ap e0 (Z (.pl (pY t cs))) (Z (.ot (Zu wf (C++[p])))) (Z (.pl (pN p))) (wf p) V o5 (λy hy=>O.ps p hc y hy) (by omega);refine⟨o5',?_⟩;unfold Jh;refine ZY (P:=λq=>q=_) (r':=[e0,Z (.pl (pY t cs)),Z (.ot (Zu wf C)),Z (.ol (V.map pN)),Z (.pl (pN p)),o5]) ?_ ?_
 .rw[Br]
  simp
 .have ht:=W0 wf C p [e0,Z (.pl (pY t cs)),Z (.ot (Zu wf C)),Z (.ol (V.map pN)),Z (.pl (pN p)),o5] 4 2 rfl rfl
  rw[decide_eq_false hp]at ht;unfold qY;rw[ht];show Zw _ _ _=_;have hk:Bv (pN p)=Z (Az p):=Df p;have hww:=ha p hc;have qW:(Zu wf C).length<1000000:=by unfold Zu;rw[Af];omega
  refine ZY (P:=λq=>q=_) (r':=[e0,Z (.pl (pY t cs)),Z (.ot (Zu wf (C++[p]))),Z (.ol (V.map pN)),Z (.pl (pN p)),o5]) ?_ ?_
  .rw[<-hZ hp]
   have hv:Kp ap 1 (Zc (Za 4) Zk) [e0,Z (.pl (pY t cs)),Z (.ot (Zu wf C)),Z (.ol (V.map pN)),Z (.pl (pN p)),o5]=Z (.list ((wf p).map qM)):=by unfold Kp;show(match LU (pY t cs)with|some (t,cs)=>_|none=>Z_)=_;rw[UB];exact hww
   unfold Ik;rw[hv];show(match Bv (pN p)with|some y=>_|none=>Z_)=_;rw[hk];dsimp only;rw[if_pos (show _<big from qW)];rfl
  .have qN:=Qc wf (C++[p]) p
   rw[if_pos (B6 _ (AG.mpr rfl))]at qN;have hi:ZW (qg (Bp (Zo 2) (Za 4))) [e0,Z (.pl (pY t cs)),Z (.ot (Zu wf (C++[p]))),Z (.ol (V.map pN)),Z (.pl (pN p)),o5]=Z ((wf p).map qM):=by simp[hk,qN]
   unfold Bi;rw[hi];dsimp only;rw[if_pos (by rw[Af];show _<1000000;omega)];exact go
theorem Rx(B:List (List Int))(e0:Option HM.B):∀(qa:Nat) (C W:List (List Int)) (o4 o5:Option HM.B),Ez wf Ok B C W->(128-C.length)*81+W.length<qa->(128-C.length)*81+W.length<60000 ->∃C' o4' o5',Cp (tV (pT uf (By (Zo 3)) (eC (.int 0)))) (Jh ap) qa [e0,Z (.pl (pY t cs)),Z (.ot (Zu wf C)),Z (.ol (W.map pN)),o4,o5]=Z (.nx [e0,Z (.pl (pY t cs)),Z (.ot (Zu wf C')),Z (.ol []),o4',o5'])/\Ez wf Ok B C' []
 |0,C,W,o4,o5,I,h,_=>by omega
 |qa+1,C,W,o4,o5,I,h,hW=>by
  have pP:=O.cs C I.nd I.cr
  by_cases hw:W=[]
  .subst hw
   refine⟨C,o4,o5,?_,I⟩;unfold Cp;have ht:(tV (pT uf (By (Zo 3)) (eC (.int 0)))) [e0,Z (.pl (pY t cs)),Z (.ot (Zu wf C)),Z (.ol (([]:List (List Int)).map pN)),o4,o5]=Z Ab:=by simp
   rw[ht];rfl
  .obtain⟨V,p,rfl⟩:∃V p,W=V++[p]:=⟨W.dropLast,W.getLast hw,(List.dropLast_concat_getLast hw).symm⟩
   rw[AB,HQ]at h hW;have ht:(tV (pT uf (By (Zo 3)) (eC (.int 0)))) [e0,Z (.pl (pY t cs)),Z (.ot (Zu wf C)),Z (.ol ((V++[p]).map pN)),o4,o5]=Z Aa:=by simp
   by_cases hp:p∈C
   .obtain⟨C',o4',o5',g,zZ⟩:=Rx B e0 qa C V (Z (.pl (pN p))) o5 (I.old hp) (by omega) (by omega)
    refine⟨C',o4',o5',?_,zZ⟩;unfold Cp;rw[ht];dsimp only;rw[e9 e0 _ o4 o5 hp];exact g
   .have xg:=I.wr p (B6 _ (AG.mpr rfl))
    have J0:=I.new O hp;have sU:=O.cs _ J0.nd J0.cr;rw[AB,HQ]at sU;have wK:=g8 O xg;obtain⟨q5,e⟩:=fO O ha (V:=V) e0 o4 o5 hp xg (by omega) (by omega);obtain⟨C',o4',o5',g,zZ⟩:=Rx B e0 qa (C++[p]) (V++Ic wf p) (Z (.pl (pN p))) q5 J0 (by rw[AB,AB,HQ];omega) (by rw[AB,AB,HQ];omega);refine⟨C',o4',o5',?_,zZ⟩;unfold Cp;rw[ht];dsimp only;rw[e];exact g
theorem jv{B:List (List Int)}(hB:∀c∈B,Ok c)(hl:B.length<=100):∃L,La ap [.list (B.map pN),pY t cs]=Z (.dict (Zi (Zu wf L)))/\Ez wf Ok B L []:=by
 have I0:Ez wf Ok B [] B:=⟨.nil,λc h=>(by simp at h),hB,λc h=>(by simp at h),λc h=>.beg h,λc h=>(by simp at h),λp h=>.inr h⟩;obtain⟨L,o4,o5,g,zZ⟩:=Rx O ha B (Z (.pl (.list (B.map pN)))) 100000 [] B Z_ Z_ I0 (by simp;omega) (by simp;omega);refine⟨L,?_,zZ⟩;show AO (Na ap [Z (.pl (.list (B.map pN))),Z (.pl (pY t cs)),Z_,Z_,Z_,Z_])=_;have e:Na ap [Z (.pl (.list (B.map pN))),Z (.pl (pY t cs)),Z_,Z_,Z_,Z_]=Z (.rt (.dict (Zi (Zu wf L)))):=by unfold Na;refine ZY (P:=λq=>q=_) (r':=[Z (.pl (.list (B.map pN))),Z (.pl (pY t cs)),Z (.ot (Zu wf [])),Z_,Z_,Z_]) rfl ?_;refine ZY (P:=λq=>q=_) (r':=[Z (.pl (.list (B.map pN))),Z (.pl (pY t cs)),Z (.ot (Zu wf [])),Z (.ol (B.map pN)),Z_,Z_]) rfl ?_;refine ZY (P:=λq=>q=_) g ?_;simp
 rw[e];rfl
end
theorem F8(n:Nat)(p:List Int):rL (n+1) (pN p)=Aa:=by show(p.map dI).all (rL n)=Aa;rw[List.all_map];exact Au.mpr λx _=>by cases n<;>rfl
theorem de(n:Nat)(i:Int):rL n (.int i)=Aa:=by cases n<;>rfl
theorem IP(h:∀d∈ds,rL n d=Aa):rL (n+1) (.tuple ds)=Aa:=Au.mpr h
theorem Vs(h:∀d∈ds,rL n d=Aa):rL (n+1) (.list ds)=Aa:=Au.mpr h
theorem gY(n:Nat)(p:List Int×List Int):rL (n+2) (Bk p)=Aa:=IP λd hd=>by
 rcases Ax.mp hd with e|hd
 .subst e;exact F8 n _
 .rw[AG.mp hd];exact F8 n _
theorem aJ{y:Wy}(h:rL (n+3) y.1=Aa):rL (n+4) (qM y)=Aa:=IP λd hd=>by
 rcases Ax.mp hd with e|hd
 .subst e;exact h
 .rw[AG.mp hd]
  exact Vs λd hd=>by obtain⟨p,_,rfl⟩:=Aj.mp hd;exact gY n p
theorem bf{L:List (List Int)}(h:∀c∈L,∀y∈wf c,rL (n+3) y.1=Aa):rL (n+6) (.dict (Zi (Zu wf L)))=Aa:=by show(Zi (Zu wf L)).all _=Aa;refine Au.mpr λp hp=>?_;unfold Zi Zu at hp;rw[Av]at hp;obtain⟨c,hc,rfl⟩:=Aj.mp hp;show rL (n+5) (.list ((wf c).map qM))=Aa;exact Vs λd hd=>by obtain⟨y,hy,rfl⟩:=Aj.mp hd;exact aJ (h c hc y hy)
theorem bI(w:Wk):rL 20 w.d=Aa:=by
 refine IP λd hd=>?_;have h:∀x:List (List Int),∀d∈x.map pN,rL 17 d=Aa:=λx d hd=>by obtain⟨p,_,rfl⟩:=Aj.mp hd;exact F8 16 p
 have hd:=Ax.mp hd;rcases hd with e|hd
 .subst e;rfl
 rcases Ax.mp hd with e|hd
 .subst e
  exact IP λd hd=>by obtain⟨x,_,rfl⟩:=Aj.mp hd;exact IP (h x)
 rcases Ax.mp hd with e|hd
 .subst e
  exact IP λd hd=>by obtain⟨x,_,rfl⟩:=Aj.mp hd;exact F8 17 x
 rcases Ax.mp hd with e|hd
 .subst e;exact F8 18 _
 .rw[AG.mp hd];exact F8 18 _
end
section
variable{cb:Cb}{c:List Int}{M:Tb}
def oI:Option Int->D
 |some k=>.int k
 |none=>.none
abbrev Cb:=Wy->Tb->Option Int
def Cn(cb:Cb)(ys:List Wy)(M:Tb):Option Int:=(ys.filterMap λy=>cb y M).min?
def AI(wf:Wf)(cb:Cb)(L:List (List Int))(M:Tb):Tb:=L.filterMap λc=>if Zy M c then Z_ else(Cn cb (wf c) M).map λk=>(c,k)
def Bn(T:Tb):Option Int:=(T.map (·.2)).min?
def CM(T:Tb):List (List Int):=(T.filter λp=>Z p.2==Bn T).map (·.1)
def AX(found:List (List Int))(k:Int)(M:Tb):Tb:=found.foldl (λM c=>qj M c k) M
inductive Ew(wf:Wf)(cb:Cb)(L:List (List Int)):Tb->Option Int->List (List Int)->Tb->Prop where
 |done {M:Tb} {k:Option Int}:Ew wf cb L M k [] M
 |step {M R:Tb} {k:Int} {found:List (List Int)} (hf:found≠[]) (h:Ew wf cb L (AX found k M) (Bn (AI wf cb L (AX found k M))) (CM (AI wf cb L (AX found k M))) R):Ew wf cb L M (Z k) found R
theorem OX:∀os:List (Option Int),BM ((os.filter Jr).map oI)=Z (os.filterMap id)
 |[]=>rfl
 |none::os=>OX os
 |some k::os=>by show(BM ((os.filter Jr).map oI)).map (k::·)=_;rw[OX os];rfl
theorem my{ap:AP}{t:Nat}{cs:List D}{ys:List Wy}(hy:ys.length<1000)(ha:∀y∈ys,ap t cs [qM y,.dict (Zi (encM M))]=Z (oI (cb y M))):Jj ap [.list (ys.map qM),.dict (Zi (encM M)),pY t cs]=Z (oI (Cn cb ys M)):=by
 show AO (RC ap [Z (.pl (.list (ys.map qM))),Z (.pl (.dict (Zi (encM M)))),Z (.pl (pY t cs)),Z_])=_;have hb:ys.length<big:=by show _<1000000;omega
 have e1:Bz A0 (Kp ap 3 (Zc (Za 0) (Zc (Za 2) Zk))) [Z (.pl (.list (ys.map qM))),Z (.pl (.dict (Zi (encM M)))),Z (.pl (pY t cs)),Z_] (ys.map qM)=Z ((ys.map λy=>cb y M).map oI):=by
  rw[Dz qM (λy=>oI (cb y M)),Av]
  .rfl
  .intro y h
   show(match LU (pY t cs)with|some (t,cs)=>_|none=>Z_)=_;rw[UB];exact ha y h
 have e2:Bz (tV (pT Iw (Za 0) (eC .none))) (Za 0) [Z (.pl (.list (ys.map qM))),Z (.pl (.dict (Zi (encM M)))),Z (.pl (pY t cs)),Z (.pl (.list ((ys.map λy=>cb y M).map oI)))] ((ys.map λy=>cb y M).map oI)=Z (((ys.map λy=>cb y M).filter Jr).map oI):=by
  rw[DP oI Jr oI]
  .intro o _
   cases o<;>rfl
  .intro o _ _
   rfl
 unfold RC;refine ZY (P:=λq=>AO q=_) (r':=[Z (.pl (.list (ys.map qM))),Z (.pl (.dict (Zi (encM M)))),Z (.pl (pY t cs)),Z (.ol ((ys.map λy=>cb y M).map oI))]) ?_ ?_
 .unfold ZL ZF
  show DV _ (if(ys.map qM).length<big then _ else _)=_;rw[if_pos (by rw[Af];exact hb),e1];rfl
 .show AO (DV tF.rt (Eb _ [Z (.pl (.list (ys.map qM))),Z (.pl (.dict (Zi (encM M)))),Z (.pl (pY t cs)),Z (.pl (.list ((ys.map λy=>cb y M).map oI)))]))=_
  have e3:ZF (ZW (qg (Za 3))) (tV (pT Iw (Za 0) (eC .none))) (Za 0) [Z (.pl (.list (ys.map qM))),Z (.pl (.dict (Zi (encM M)))),Z (.pl (pY t cs)),Z (.pl (.list ((ys.map λy=>cb y M).map oI)))]=Z (.ol (((ys.map λy=>cb y M).filter Jr).map oI)):=by unfold ZF;show(if((ys.map λy=>cb y M).map oI).length<big then _ else Z_)=_;rw[if_pos (by rw[Af,Af];exact hb),e2];rfl
  unfold Eb;rw[e3];show AO (DV tF.rt (match BM (((ys.map λy=>cb y M).filter Jr).map oI)with|some ns=>Z (match ns.min? with|some i=>Bq i|none=>.none)|none=>Z_))=_;rw[OX];show Z (match((ys.map λy=>cb y M).filterMap id).min? with|some i=>Bq i|none=>.none)=_;unfold Cn;rw[List.filterMap_map];show Z (match(ys.filterMap λy=>cb y M).min? with|some i=>Bq i|none=>.none)=_;cases(ys.filterMap λy=>cb y M).min?<;>rfl
theorem iq{k:Int}(h:Zy M c=Ab):qj M c k=M++[(c,k)]:=by unfold qj;rw[if_neg];intro z;obtain⟨p,hp,e⟩:=AA.mp z;have e:=of_decide_eq_true e;unfold Zy Zg at h;rw[EV]at h;have:(M.find? λp=>decide (p.1=c)).isSome=Aa:=N6.mpr ⟨p,hp,decide_eq_true e⟩;rw[h]at this;cases this
theorem j6(M N:Tb)(c:List Int):Zy (M++N) c=(Zy M c||Zy N c):=by unfold Zy Zg;rw[N2,EV,EV,EV,Option.isSome_or]
theorem eQ:Zy M c=Aa↔∃k,(c,k)∈M:=by
 unfold Zy Zg;rw[EV,N6]
 constructor
 .rintro ⟨⟨c',k⟩,h,e⟩
  have e:=of_decide_eq_true e;exact⟨k,by rw[<-e];exact h⟩
 .rintro ⟨k,h⟩
  exact⟨_,h,decide_eq_true rfl⟩
theorem eN{wf:Wf}{L:List (List Int)}{k:Int}:(c,k)∈AI wf cb L M↔c∈L/\Zy M c=Ab/\Cn cb (wf c) M=Z k:=by
 unfold AI;rw[Cf]
 constructor
 .rintro ⟨c',h1,h2⟩
  split at h2
  .cases h2
  .rename_i hn
   obtain⟨k',h3,h4⟩:=Al.mp h2;cases h4;exact⟨h1,by simpa using hn,h3⟩
 .rintro ⟨h1,h2,h3⟩
  exact⟨c,h1,by rw[h2,h3];rfl⟩
section
variable{ap:AP}{wf:Wf}{L:List (List Int)}{t:Nat}{cs:List D}{cb:Cb}(rF:L.Nodup)(pP:L.length<=128)(uc:∀c∈L,(wf c).length<1000)(ha:∀c∈L,∀y∈wf c,∀M,ap t cs [qM y,.dict (Zi (encM M))]=Z (oI (cb y M)))
include uc ha
theorem Ug{M:Tb}:∀(K:List (List Int)) (acc:Tb) (o4 o5:Option B),(∀c∈K,c∈L)->K.Nodup->(∀c∈K,Zy acc c=Ab)->Bj o4=Ab->Bj o5=Ab->acc.length+K.length<100000 ->∃p4 p5,Bj p4=Ab/\Bj p5=Ab/\Bc 4 (ZU ap) (K.map pN) [Z (.hd (Zi (Zu wf L))),Z (.pl (.dict (Zi (encM M)))),Z (.pl (pY t cs)),Z (.ot (encM acc)),o4,o5] =Z (.nx [Z (.hd (Zi (Zu wf L))),Z (.pl (.dict (Zi (encM M)))),Z (.pl (pY t cs)),Z (.ot (encM (acc++AI wf cb K M))),p4,p5])
 |[],acc,o4,o5,_,_,_,h4,h5,_=>⟨o4,o5,h4,h5,by show Z (tF.nx _)=_;rw[show AI wf cb [] M=[] from rfl,BK]⟩
 |c::K,acc,o4,o5,hK,hn,qf,h4,h5,hl=>by
  rw[Ay]at hl;have hc:=hK c (An ..);have hk:Bv (pN c)=Z (Az c):=Df c;have qN:=Hq M c;have hlr:=Qc wf L c;rw[if_pos hc]at hlr;have hlc:=my (ap:=ap) (t:=t) (cs:=cs) (cb:=cb) (ys:=wf c) (M:=M) (uc c hc) λy hy=>ha c hc y hy M;have uH:AI wf cb (c::K) M=(if Zy M c then[]else match Cn cb (wf c) M with|some k=>[(c,k)]|none=>[])++AI wf cb K M:=by
   unfold AI;rw[DE];cases Zy M c with
   |true=>rfl
   |false=>cases Cn cb (wf c) M<;>rfl
  have step:∀(acc':Tb) (p5:Option B),Bj p5=Ab->(∀x∈K,Zy acc' x=Ab)->acc'.length+K.length<100000->ZU ap [Z (.hd (Zi (Zu wf L))),Z (.pl (.dict (Zi (encM M)))),Z (.pl (pY t cs)),Z (.ot (encM acc)),Z (.pl (pN c)),o5] =
     Z (.nx [Z (.hd (Zi (Zu wf L))),Z (.pl (.dict (Zi (encM M)))),Z (.pl (pY t cs)),Z (.ot (encM acc')),Z (.pl (pN c)),p5])->acc'++AI wf cb K M=acc++AI wf cb (c::K) M ->
    ∃p4 p5,Bj p4=Ab/\Bj p5=Ab/\Bc 4 (ZU ap) ((c::K).map pN) [Z (.hd (Zi (Zu wf L))),Z (.pl (.dict (Zi (encM M)))),Z (.pl (pY t cs)),Z (.ot (encM acc)),o4,o5] =
     Z (.nx [Z (.hd (Zi (Zu wf L))),Z (.pl (.dict (Zi (encM M)))),Z (.pl (pY t cs)),Z (.ot (encM (acc++AI wf cb (c::K) M))),p4,p5]):=λacc' p5 yp hx hl' e eq=>by
   obtain⟨q4,q5,g4,g5,ih⟩:=Ug (M:=M) K acc' (Z (.pl (pN c))) p5 (λx hx=>hK x (Ao _ hx)) (CG.mp hn).2 hx rfl yp hl';refine⟨q4,q5,g4,g5,?_⟩;rw[<-eq,<-ih,Ak];show(match ZU ap [Z (.hd (Zi (Zu wf L))),Z (.pl (.dict (Zi (encM M)))),Z (.pl (pY t cs)),Z (.ot (encM acc)),Z (.pl (pN c)),o5]with|some (.nx r')=>_|some (.ct r')=>_|some (.bk r')=>_|some (.rt d)=>_|none=>_)=_;rw[e]
  have zw:∀x∈K,Zy acc x=Ab:=λx hx=>qf x (Ao _ hx);cases hq:Zg M c with
  |some k =>
   have hh:Zy M c=Aa:=by unfold Zy;rw[hq];rfl
   rw[hq]at qN;refine step acc o5 h5 zw (by omega) ?_ (by rw[uH,hh];rfl);have ht:tV (KG (Za 4) (Zo 1)) [Z (.hd (Zi (Zu wf L))),Z (.pl (.dict (Zi (encM M)))),Z (.pl (pY t cs)),Z (.ot (encM acc)),Z (.pl (pN c)),o5]=Z Ab:=by simp[qe,hk,qN]
   unfold ZU qY;rw[ht];rfl
  |none =>
   have hh:Zy M c=Ab:=by unfold Zy;rw[hq];rfl
   rw[hq]at qN;have ht:tV (KG (Za 4) (Zo 1)) [Z (.hd (Zi (Zu wf L))),Z (.pl (.dict (Zi (encM M)))),Z (.pl (pY t cs)),Z (.ot (encM acc)),Z (.pl (pN c)),o5]=Z Aa:=by simp[qe,hk,qN]
   have zo:Zj (Jj ap) (Zc (Bp (Zo 0) (Za 4)) (Zc (Za 1) (Zc (Za 2) Zk))) [Z (.hd (Zi (Zu wf L))),Z (.pl (.dict (Zi (encM M)))),Z (.pl (pY t cs)),Z (.ot (encM acc)),Z (.pl (pN c)),o5]=Z (oI (Cn cb (wf c) M)):=by
    have hg:Bp (Zo 0) (Za 4) [Z (.hd (Zi (Zu wf L))),Z (.pl (.dict (Zi (encM M)))),Z (.pl (pY t cs)),Z (.ot (encM acc)),Z (.pl (pN c)),o5]=Z (.list ((wf c).map qM)):=by simp[qe,hk,hlr]
    unfold Zj Zc;rw[hg];exact hlc
   have yo:ZX 5 (Zj (Jj ap) (Zc (Bp (Zo 0) (Za 4)) (Zc (Za 1) (Zc (Za 2) Zk)))) [Z (.hd (Zi (Zu wf L))),Z (.pl (.dict (Zi (encM M)))),Z (.pl (pY t cs)),Z (.ot (encM acc)),Z (.pl (pN c)),o5]=Z (.nx [Z (.hd (Zi (Zu wf L))),Z (.pl (.dict (Zi (encM M)))),Z (.pl (pY t cs)),Z (.ot (encM acc)),Z (.pl (pN c)),Z (.pl (oI (Cn cb (wf c) M)))]):=by unfold ZX;rw[zo];rfl
   cases uP:Cn cb (wf c) M with
   |none=>rw[uP]at yo;refine step acc (Z (.pl .none)) rfl zw (by omega) ?_ (by rw[uH,hh,uP];rfl);unfold ZU qY;rw[ht];dsimp only;refine ZY (P:=λq=>q=_) yo ?_;rfl
   |some k =>
    rw[uP]at yo;have wq:=iq (k:=k) (qf c (An ..));have hpe:=VG acc c k;have sI:(encM acc).length<1000000:=by unfold encM;rw[Af];omega
    refine step (acc++[(c,k)]) (Z (.pl (.int k))) rfl (λx hx=>?_) (by rw[AB,HQ];omega) ?_ (by rw[uH,hh,uP,EW];rfl)
    .rw[j6,zw x hx,NB]
     cases hb:Zy [(c,k)] x with
     |false=>rfl
     |true=>obtain⟨k',hm⟩:=eQ.mp hb;cases AG.mp hm;exact absurd hx (CG.mp hn).1
    .unfold ZU qY
     rw[ht];dsimp only;refine ZY (P:=λq=>q=_) yo ?_;have h2:tV (pT Iw (Za 5) (eC .none)) [Z (.hd (Zi (Zu wf L))),Z (.pl (.dict (Zi (encM M)))),Z (.pl (pY t cs)),Z (.ot (encM acc)),Z (.pl (pN c)),Z (.pl (oI (Z k)))]=Z Aa:=rfl;rw[h2,<-wq,<-hpe];show(match Bv (pN c)with|some y=>_|none=>Z_)=_;rw[hk];show(if(encM acc).length<big then _ else Z_)=_;rw[if_pos (show _<big from sI)];rfl
include rF pP
theorem mq(M:Tb):Gj ap [.dict (Zi (Zu wf L)),.dict (Zi (encM M)),pY t cs]=Z (encM (AI wf cb L M)):=by
 obtain⟨p4,p5,g4,g5,go⟩:=Ug uc ha (M:=M) L [] Z_ Z_ (λ_ h=>h) rF (λ_ _=>rfl) rfl rfl (by simp;omega);have hw:BH 0 [Z (.hd (Zi (Zu wf L))),Z (.pl (.dict (Zi (encM M)))),Z (.pl (pY t cs)),Z (.ot (encM [])),Z_,Z_]=Z (L.map pN):=by show(EG (Zi (Zu wf L))).map _=_;rw[qe,<-V8 wf L];rfl
 have hf:Bi 4 (BH 0) (ZU ap) [Z (.hd (Zi (Zu wf L))),Z (.pl (.dict (Zi (encM M)))),Z (.pl (pY t cs)),Z (.ot (encM [])),Z_,Z_]=Z (.nx [Z (.hd (Zi (Zu wf L))),Z (.pl (.dict (Zi (encM M)))),Z (.pl (pY t cs)),Z (.ot (encM (AI wf cb L M))),p4,p5]):=by unfold Bi;rw[hw];dsimp only;rw[if_pos (by rw[Af];show _<1000000;omega),go];rfl
 have hh:FW 0 (Bi 4 (BH 0) (ZU ap)) [Z (.pl (.dict (Zi (Zu wf L)))),Z (.pl (.dict (Zi (encM M)))),Z (.pl (pY t cs)),Z (.ot (encM [])),Z_,Z_]=Z (.nx [Z (.pl (.dict (Zi (Zu wf L)))),Z (.pl (.dict (Zi (encM M)))),Z (.pl (pY t cs)),Z (.ot (encM (AI wf cb L M))),p4,p5]):=by
  show(match Bi 4 (BH 0) (ZU ap) [Z (.hd (Zi (Zu wf L))),Z (.pl (.dict (Zi (encM M)))),Z (.pl (pY t cs)),Z (.ot (encM [])),Z_,Z_]with|some (.nx r')=>_|some (.rt d)=>_|_=>Z_)=_;rw[hf];have a2:([Z_,Z (B.pl (.dict (Zi (encM M)))),Z (.pl (pY t cs)),Z (.ot (encM (AI wf cb L M))),p4,p5]:HM.Env).all (λq=>!Bj q)=Aa:=by simp only[DF,RK,g4,g5];rfl
  show(if([Z_,Z (B.pl (.dict (Zi (encM M)))),Z (.pl (pY t cs)),Z (.ot (encM (AI wf cb L M))),p4,p5]:HM.Env).all (λq=>!Bj q)=Aa then _ else _)=_;rw[if_pos a2];rfl
 unfold Gj vQ;rw[if_pos (show([PyData.dict (Zi (Zu wf L)),PyData.dict (Zi (encM M)),pY t cs]:List D).length=3 from rfl)];show(match ZL 3 yB [Z (.pl (.dict (Zi (Zu wf L)))),Z (.pl (.dict (Zi (encM M)))),Z (.pl (pY t cs)),Z_,Z_,Z_]with|some (.nx r')=>JX (FW 0 (Bi 4 (BH 0) (ZU ap))) (JY 3) r'|_=>Z_)=_;show JX (FW 0 (Bi 4 (BH 0) (ZU ap))) (JY 3) [Z (.pl (.dict (Zi (Zu wf L)))),Z (.pl (.dict (Zi (encM M)))),Z (.pl (pY t cs)),Z (.ot (encM [])),Z_,Z_]=_;unfold JX;rw[hh];rfl
end
end
section
variable{cb:Cb}{M T:Tb}{wf:Wf}
theorem UE(ap:AP)(e0 e1 e2 e5 e7:Option B)(v:Int):∀(ms:List (List Int)) (M:Tb) (o:Option B),M.length+ms.length<100000->Bj o=Ab ->∃p,Bj p=Ab/\Bc 6 (KS ap) (ms.map pN) [e0,e1,e2,Z (.ot (encM M)),Z (.pl (dI v)),e5,o,e7]=Z (.nx [e0,e1,e2,Z (.ot (encM (AX ms v M))),Z (.pl (dI v)),e5,p,e7])
 |[],M,o,_,h=>⟨o,h,rfl⟩
 |c::ms,M,o,pP,_=>by
  rw[Ay]at pP;have hml:(encM M).length<1000000:=by unfold encM;rw[Af];omega
  have hk:Bv (pN c)=Z (Az c):=Df c;have wq:=VG M c v;have hpl:=Ui c v M;have e:KS ap [e0,e1,e2,Z (.ot (encM M)),Z (.pl (dI v)),e5,Z (.pl (pN c)),e7]=Z (.nx [e0,e1,e2,Z (.ot (encM (qj M c v))),Z (.pl (dI v)),e5,Z (.pl (pN c)),e7]):=by rw[<-wq];simp[KS,hk,hml]
  obtain⟨p,hp,ih⟩:=UE ap e0 e1 e2 e5 e7 v ms (qj M c v) (Z (.pl (pN c))) (by omega) rfl;refine⟨p,hp,?_⟩;show _=Z (tF.nx [e0,e1,e2,Z (.ot (encM (AX ms v (qj M c v)))),Z (.pl (dI v)),e5,p,e7]);rw[Ak,<-ih];show(match KS ap [e0,e1,e2,Z (.ot (encM M)),Z (.pl (dI v)),e5,Z (.pl (pN c)),e7]with|some (.nx r')=>_|some (.ct r')=>_|some (.bk r')=>_|some (.rt d)=>_|none=>_)=_;rw[e]
theorem V2(T:Tb):((encM T).map λp=>Cv (p.1.map BL))=(T.map (·.1)).map pN:=by unfold encM;rw[Av,Av];refine FK λp _=>?_;show Cv ((p.1.map Cd).map BL)=Cv (p.1.map dI);rw[Av];rfl
def wQ(T:Tb):Prop:=(T.map (·.1)).Nodup
theorem Ut(h:wQ T){p:List Int×Int}(hp:p∈T):Zg T p.1=Z p.2:=by
 induction T with
 |nil=>simp at hp
 |cons q T ih =>
  obtain⟨c,k⟩:=q;rw[EJ];unfold wQ at h;rw[Ak,CG]at h;rcases Ax.mp hp with e|e
  .subst e;rw[if_pos rfl]
  .rw[if_neg λz=>h.1 (by rw[z];exact Aj.mpr ⟨p,e,rfl⟩)]
   exact ih h.2 e
theorem cW:∀{L:List (List Int)},L.Nodup->wQ (AI wf cb L M):=by
 intro L h;unfold wQ;have:((AI wf cb L M).map (·.1)).Sublist L:=by
  unfold AI;rw[List.map_filterMap]
  clear h
  induction L with
  |nil=>exact .slnil
  |cons c L ih =>
   rw[DE];cases Zy M c with
   |true=>exact ih.cons c
   |false=>cases Cn cb (wf c) M with
    |none=>exact ih.cons c
    |some k=>exact ih.cons₂ c
 exact h.sublist this
theorem Ud{L:List (List Int)}:(AI wf cb L M).length<=L.length:=Yc ..
section
variable{T:Tb}(hT:wQ T)(hl:T.length<100000)
include hT hl
theorem iH(r:HM.Env)(h7:r[7]?=Z (Z (.hd (Zi (encM T))))):ZF (BH 7) A0 (Bp (Zo 8) (Za 0)) r=Z (.ol ((T.map (·.2)).map dI)):=by
 have hw:BH 7 r=Z ((T.map (·.1)).map pN):=by unfold BH;rw[h7];show(EG (Zi (encM T))).map _=_;rw[qe,<-V2 T];rfl
 have hg:Bz A0 (Bp (Zo 8) (Za 0)) r ((T.map (·.1)).map pN)=Z ((T.map (·.2)).map dI):=by rw[Av,Av];have:=Dz (e:=Bp (Zo 8) (Za 0)) (r:=r) (λp:List Int×Int=>pN p.1) (λp=>dI p.2) T (λp hp=>by have hk:Bv (pN p.1)=Z (Az p.1):=Df p.1;have qN:=Hq T p.1;rw[Ut hT hp]at qN;simp[h7,qe,hk,qN]);exact this
 unfold ZF;rw[hw];dsimp only;rw[if_pos (by rw[Af,Af];show _<1000000;omega),hg];rfl
theorem jd{k:Option Int}(r:HM.Env)(h7:r[7]?=Z (Z (.hd (Zi (encM T)))))(h4:r[4]?=Z (Z (.pl (oI k)))):ZF (BH 7) (tV (pT ra (Bp (Zo 8) (Za 0)) (Za 5))) (Za 0) r=Z (.ol (((T.filter λp=>Z p.2==k).map (·.1)).map pN)):=by
 have hw:BH 7 r=Z ((T.map (·.1)).map pN):=by unfold BH;rw[h7];show(EG (Zi (encM T))).map _=_;rw[qe,<-V2 T];rfl
 have hg:Bz (tV (pT ra (Bp (Zo 8) (Za 0)) (Za 5))) (Za 0) r ((T.map (·.1)).map pN)=Z (((T.filter λp=>Z p.2==k).map (·.1)).map pN):=by
  rw[Av,Av];have:=DP (c:=tV (pT ra (Bp (Zo 8) (Za 0)) (Za 5))) (e:=Za 0) (r:=r) (λp:List Int×Int=>pN p.1) (λp=>Z p.2==k) (λp=>pN p.1) T (λp hp=>by
   have hk:Bv (pN p.1)=Z (Az p.1):=Df p.1;have qN:=Hq T p.1;rw[Ut hT hp]at qN;have h1:Bp (Zo 8) (Za 0) (Z (.pl (pN p.1))::r)=Z (.int p.2):=by simp[h7,qe,hk,qN]
   have h2:Za 5 (Z (B.pl (pN p.1))::r)=Z (oI k):=by simp[h4]
   unfold tV pT;rw[h1,h2];cases k with
   |none=>show(match ra (.int p.2) .none with|some (.bool b)=>Z b|_=>Z_)=_;rw[J4 (FZ 1 _) (cu 1) (by decide) (by decide) (by simp)];rfl
   |some k =>
    show(match ra (.int p.2) (.int k)with|some (.bool b)=>Z b|_=>Z_)=_
    by_cases e:p.2=k
    .rw[e,Mh (FZ 1 _) (by decide)]
     simp
    .rw[J4 (FZ 1 _) (FZ 1 _) (by decide) (by decide) (by simpa using e)]
     simp[e]) (λp _ _=>by simp)
  exact this
 unfold ZF;rw[hw];dsimp only;rw[if_pos (by rw[Af,Af];show _<1000000;omega),hg];rfl
end
section
variable{w:Wk}(hv:Wk.V w){ap:AP}{wf:Wf}{L:List (List Int)}{t:Nat}{cs:List D}{cb:Cb}(rF:L.Nodup)(pP:L.length<=128)(rX:∀c∈L,Cr w.many c)(uc:∀c∈L,(wf c).length<1000)(ha:∀c∈L,∀y∈wf c,∀M,ap t cs [qM y,.dict (Zi (encM M))]=Z (oI (cb y M)))
include rF pP uc ha
theorem kh{k:Int}{found:List (List Int)}{o6 o7:Option B}(h6:Bj o6=Ab)(h7:Bj o7=Ab)(hf:found.length<=128)(hM:M.length<50000):∃p6 p7,Bj p6=Ab/\Bj p7=Ab/\KR ap [Z (.pl w.d),Z (.pl (.dict (Zi (Zu wf L)))),Z (.pl (pY t cs)),Z (.ot (encM M)),Z (.pl (dI k)),Z (.ol (found.map pN)),o6,o7] =Z (.nx [Z (.pl w.d),Z (.pl (.dict (Zi (Zu wf L)))),Z (.pl (pY t cs)),Z (.ot (encM (AX found k M))),Z (.pl (oI (Bn (AI wf cb L (AX found k M))))),Z (.ol ((CM (AI wf cb L (AX found k M))).map pN)),p6,p7]):=by
 obtain⟨p6,y8,e1⟩:=UE ap (Z (.pl w.d)) (Z (.pl (.dict (Zi (Zu wf L))))) (Z (.pl (pY t cs))) (Z (.pl (.list (found.map pN)))) o7 k found M o6 (by omega) h6;generalize hM':AX found k M=M' at *;have hnx:=mq rF pP uc ha M';have hT:wQ (AI wf cb L M'):=cW rF;have hTl:(AI wf cb L M').length<100000:=by have:=Ud (wf:=wf) (cb:=cb) (L:=L) (M:=M');omega
 generalize hO:AI wf cb L M'=T at *;refine⟨p6,Z (.pl (.dict (Zi (encM T)))),y8,rfl,?_⟩;unfold KR;refine ZY (P:=λq=>q=_) (r':=[Z (.pl w.d),Z (.pl (.dict (Zi (Zu wf L)))),Z (.pl (pY t cs)),Z (.ot (encM M')),Z (.pl (dI k)),Z (.pl (.list (found.map pN))),p6,o7]) ?_ ?_
 .unfold D7 QA Bi
  have hfb:found.length<1000000:=by omega
  simp[hfb];exact e1
 .refine ZY (P:=λq=>q=_) (r':=[Z (.pl w.d),Z (.pl (.dict (Zi (Zu wf L)))),Z (.pl (pY t cs)),Z (.ot (encM M')),Z (.pl (dI k)),Z (.pl (.list (found.map pN))),p6,Z (.ot (encM T))]) ?_ ?_
  .have qW:P5 (Gj ap) (Zc (Za 1) (Zc (Ur (Zo 3)) (Zc (Za 2) Zk))) [Z (.pl w.d),Z (.pl (.dict (Zi (Zu wf L)))),Z (.pl (pY t cs)),Z (.ot (encM M')),Z (.pl (dI k)),Z (.pl (.list (found.map pN))),p6,o7]=Z (.ot (encM T)):=by
    unfold P5;show(match Gj ap [.dict (Zi (Zu wf L)),.dict (Zi (encM M')),pY t cs]with|some kvs=>if kvs.all (λp=>Px p.2)then Z (B.ot kvs)else Z_|none=>Z_)=_;rw[hnx];have rO:(encM T).all (λp=>Px p.2)=Aa:=by unfold encM;rw[List.all_map];exact Au.mpr λp _=>rfl
    dsimp only;rw[if_pos rO]
   unfold ZL;rw[qW];rfl
  .have a1:∀x4 x5:D,([Z (B.pl w.d),Z (.pl (.dict (Zi (Zu wf L)))),Z (.pl (pY t cs)),Z (.ot (encM M')),Z (.pl x4),Z (.pl x5),p6,Z (.pl (.dict (Zi (encM T))))]:HM.Env).all (λq=>!Bj q)=Aa:=λx4 x5=>by
    simp only[DF,RK,y8];rfl
   have a2:∀x4:D,∀x5:B,Bj (Z x5)=Ab->([Z (B.pl w.d),Z (.pl (.dict (Zi (Zu wf L)))),Z (.pl (pY t cs)),Z (.ot (encM M')),Z (.pl x4),Z x5,p6,Z_]:HM.Env).all (λq=>!Bj q)=Aa:=λx4 x5 hx=>by simp only[DF,RK,y8,hx];rfl
   have hv1:=iH hT hTl [Z (.pl w.d),Z (.pl (.dict (Zi (Zu wf L)))),Z (.pl (pY t cs)),Z (.ot (encM M')),Z (.pl (dI k)),Z (.pl (.list (found.map pN))),p6,Z (.hd (Zi (encM T)))] rfl;have xk:ZX 4 (Eb (ZF (BH 7) A0 (Bp (Zo 8) (Za 0)))) [Z (.pl w.d),Z (.pl (.dict (Zi (Zu wf L)))),Z (.pl (pY t cs)),Z (.ot (encM M')),Z (.pl (dI k)),Z (.pl (.list (found.map pN))),p6,Z (.hd (Zi (encM T)))]=Z (.nx [Z (.pl w.d),Z (.pl (.dict (Zi (Zu wf L)))),Z (.pl (pY t cs)),Z (.ot (encM M')),Z (.pl (oI (Bn T))),Z (.pl (.list (found.map pN))),p6,Z (.hd (Zi (encM T)))]):=by
    have:Eb (ZF (BH 7) A0 (Bp (Zo 8) (Za 0))) [Z (.pl w.d),Z (.pl (.dict (Zi (Zu wf L)))),Z (.pl (pY t cs)),Z (.ot (encM M')),Z (.pl (dI k)),Z (.pl (.list (found.map pN))),p6,Z (.hd (Zi (encM T)))]=Z (oI (Bn T)):=by unfold Eb;rw[hv1];show(match BM ((T.map (·.2)).map dI)with|some ns=>Z (match ns.min? with|some i=>Bq i|none=>.none)|none=>Z_)=_;rw[Ef];show Z (match(T.map (·.2)).min? with|some i=>Bq i|none=>.none)=_;unfold Bn;cases(T.map (·.2)).min?<;>rfl
    unfold ZX;rw[this];rfl
   refine ZY (P:=λq=>q=_) (r':=[Z (.pl w.d),Z (.pl (.dict (Zi (Zu wf L)))),Z (.pl (pY t cs)),Z (.ot (encM M')),Z (.pl (oI (Bn T))),Z (.pl (.list (found.map pN))),p6,Z (.pl (.dict (Zi (encM T))))]) ?_ ?_
   .show(if([Z (B.pl w.d),Z (.pl (.dict (Zi (Zu wf L)))),Z (.pl (pY t cs)),Z (.ot (encM M')),Z (.pl (dI k)),Z (.pl (.list (found.map pN))),p6,Z (.pl (.dict (Zi (encM T))))]:HM.Env).all (λq=>!Bj q)=Aa then _ else _)=_
    rw[if_pos (a1 _ _)];show(match ZX 4 _ [Z (.pl w.d),Z (.pl (.dict (Zi (Zu wf L)))),Z (.pl (pY t cs)),Z (.ot (encM M')),Z (.pl (dI k)),Z (.pl (.list (found.map pN))),p6,Z (.hd (Zi (encM T)))]with|some (.nx r')=>_|some (.rt d)=>_|_=>Z_)=_;rw[xk];show(if([Z (B.pl w.d),Z (.pl (.dict (Zi (Zu wf L)))),Z (.pl (pY t cs)),Z (.ot (encM M')),Z (.pl (oI (Bn T))),Z (.pl (.list (found.map pN))),p6,Z_]:HM.Env).all (λq=>!Bj q)=Aa then _ else _)=_;rw[if_pos (a2 _ _ rfl)];rfl
   .have yx:=jd hT hTl (k:=Bn T) [Z (.pl w.d),Z (.pl (.dict (Zi (Zu wf L)))),Z (.pl (pY t cs)),Z (.ot (encM M')),Z (.pl (oI (Bn T))),Z (.pl (.list (found.map pN))),p6,Z (.hd (Zi (encM T)))] rfl rfl
    have sG:ZL 5 (ZF (BH 7) (tV (pT ra (Bp (Zo 8) (Za 0)) (Za 5))) (Za 0)) [Z (.pl w.d),Z (.pl (.dict (Zi (Zu wf L)))),Z (.pl (pY t cs)),Z (.ot (encM M')),Z (.pl (oI (Bn T))),Z (.pl (.list (found.map pN))),p6,Z (.hd (Zi (encM T)))]=Z (.nx [Z (.pl w.d),Z (.pl (.dict (Zi (Zu wf L)))),Z (.pl (pY t cs)),Z (.ot (encM M')),Z (.pl (oI (Bn T))),Z (.ol ((CM T).map pN)),p6,Z (.hd (Zi (encM T)))]):=by unfold ZL;rw[yx];rfl
    show(if([Z (B.pl w.d),Z (.pl (.dict (Zi (Zu wf L)))),Z (.pl (pY t cs)),Z (.ot (encM M')),Z (.pl (oI (Bn T))),Z (.pl (.list (found.map pN))),p6,Z (.pl (.dict (Zi (encM T))))]:HM.Env).all (λq=>!Bj q)=Aa then _ else _)=_;rw[if_pos (a1 _ _)];show(match ZL 5 _ [Z (.pl w.d),Z (.pl (.dict (Zi (Zu wf L)))),Z (.pl (pY t cs)),Z (.ot (encM M')),Z (.pl (oI (Bn T))),Z (.pl (.list (found.map pN))),p6,Z (.hd (Zi (encM T)))]with|some (.nx r')=>_|some (.rt d)=>_|_=>Z_)=_;rw[sG];show(if([Z (B.pl w.d),Z (.pl (.dict (Zi (Zu wf L)))),Z (.pl (pY t cs)),Z (.ot (encM M')),Z (.pl (oI (Bn T))),Z (.ol ((CM T).map pN)),p6,Z_]:HM.Env).all (λq=>!Bj q)=Aa then _ else _)=_;rw[if_pos (a2 _ _ rfl)];rfl
omit rF pP uc ha in
theorem UU{c:List Int}(h:c∈CM (AI wf cb L M)):c∈L/\Zy M c=Ab:=by obtain⟨⟨c',k⟩,h1,rfl⟩:=Aj.mp h;have:=eN.mp (A9.mp h1).1;exact⟨this.1,this.2.1⟩
omit rF pP uc ha in
theorem jH(h:CM T≠[]):∃k,Bn T=Z k:=by
 cases hq:Bn T with
 |some k=>exact⟨k,rfl⟩
 |none=>refine absurd ?_ h;unfold Bn at hq;rw[Ly]at hq;have:=List.map_eq_nil_iff.mp hq;subst this;rfl
theorem Xo:∀(qa n:Nat) (M:Tb) (k:Option Int) (found:List (List Int)) (o6 o7:Option B),Bj o6=Ab->Bj o7=Ab->(∀c∈found,c∈L/\Zy M c=Ab)->found.length<=128->M.length<=128*n->n<=(L.filter λc=>Zy M c).length->130<=n+qa->(found≠[]->∃i,k=Z i) ->∃R p4 p5 p6 p7,Cp (tV (pT uf (By (Zo 5)) (eC (.int 0)))) (KR ap) qa [Z (.pl w.d),Z (.pl (.dict (Zi (Zu wf L)))),Z (.pl (pY t cs)),Z (.ot (encM M)),Z (.pl (oI k)),Z (.ol (found.map pN)),o6,o7]=Z (.nx [Z (.pl w.d),Z (.pl (.dict (Zi (Zu wf L)))),Z (.pl (pY t cs)),Z (.ot (encM R)),p4,p5,p6,p7])/\Ew wf cb L M k found R
 |0,n,M,k,found,o6,o7,_,_,_,_,_,ht,hfu,_=>by have:=HL (λc=>Zy M c) L;omega
 |qa+1,n,M,k,found,o6,o7,h6,h7,hfo,rO,hM,ht,hfu,hks=>by
  have htl:=HL (λc=>Zy M c) L
  by_cases hf:found=[]
  .subst hf
   refine⟨M,Z (.pl (oI k)),Z (.ol []),o6,o7,?_,.done⟩;unfold Cp;have e:(tV (pT uf (By (Zo 5)) (eC (.int 0)))) [Z (.pl w.d),Z (.pl (.dict (Zi (Zu wf L)))),Z (.pl (pY t cs)),Z (.ot (encM M)),Z (.pl (oI k)),Z (.ol (([]:List (List Int)).map pN)),o6,o7]=Z Ab:=by simp
   rw[e];rfl
  .obtain⟨i,rfl⟩:=hks hf
   have e:(tV (pT uf (By (Zo 5)) (eC (.int 0)))) [Z (.pl w.d),Z (.pl (.dict (Zi (Zu wf L)))),Z (.pl (pY t cs)),Z (.ot (encM M)),Z (.pl (oI (Z i))),Z (.ol (found.map pN)),o6,o7]=Z Aa:=by have:0<found.length:=NP.mpr hf;simp;omega
   obtain⟨p6,p7,g6,g7,ym⟩:=kh rF pP uc ha (w:=w) (M:=M) (k:=i) (found:=found) h6 h7 rO (by omega);have hml:(AX found i M).length<=M.length+found.length:=Wj i found M;have qN:∀k,Zg (AX found i M) k=if k∈found then Z i else Zg M k:=λk=>IQ i k found M
   have hcnt:(L.filter λc=>Zy M c).length<(L.filter λc=>Zy (AX found i M) c).length:=by
    refine Xz (λx _ hx=>?_) ?_
    .unfold Zy at hx ⊢
     rw[qN];split
     .rfl
     .exact hx
    .obtain⟨c,cs,rfl⟩:=YL hf
     refine⟨c,(hfo c (An ..)).1,?_,(hfo c (An ..)).2⟩;unfold Zy;rw[qN,if_pos (An ..)];rfl
   have uZ:(CM (AI wf cb L (AX found i M))).length<=128:=by
    have h1:(CM (AI wf cb L (AX found i M))).length<=(AI wf cb L (AX found i M)).length:=by unfold CM;rw[Af];exact HL ..
    have h2:=Ud (wf:=wf) (cb:=cb) (L:=L) (M:=AX found i M);omega
   obtain⟨R,q4,q5,q6,q7,g,zZ⟩:=Xo qa (n+1) (AX found i M) (Bn (AI wf cb L (AX found i M))) (CM (AI wf cb L (AX found i M))) p6 p7 g6 g7 (λc hc=>UU hc) uZ (by omega) (by omega) (by omega) jH;refine⟨R,q4,q5,q6,q7,?_,.step hf zZ⟩;unfold Cp;rw[e];dsimp only;show(match KR ap [Z (.pl w.d),Z (.pl (.dict (Zi (Zu wf L)))),Z (.pl (pY t cs)),Z (.ot (encM M)),Z (.pl (dI i)),Z (.ol (found.map pN)),o6,o7]with|some (.nx r')=>_|some (.ct r')=>_|some (.bk r')=>_|some (.rt d)=>_|none=>_)=_;rw[ym];exact g
include hv rX
theorem W5:∃R,Gk ap [w.d,.dict (Zi (Zu wf L)),pY t cs]=Z (.dict (Zi (encM R)))/\Ew wf cb L [] (Z 0) (L.filter λc=>Zs w c) R:=by
 have yv:L.length<1000000:=by omega
 have rO:(L.filter λc=>Zs w c).length<=128:=BY (HL _ _) pP;obtain⟨R,p4,p5,p6,p7,g,zZ⟩:=Xo rF pP uc ha (w:=w) 100000 0 [] (Z 0) (L.filter λc=>Zs w c) Z_ Z_ rfl rfl (λc hc=>⟨(A9.mp hc).1,rfl⟩) rO (by simp) (Bw _) (by omega) λ_=>⟨0,rfl⟩;refine⟨R,?_,zZ⟩;have hw:BH 1 [Z (.pl w.d),Z (.hd (Zi (Zu wf L))),Z (.pl (pY t cs)),Z (.ot (encM [])),Z (.pl (dI 0)),Z_,Z_,Z_]=Z (L.map pN):=by show(EG (Zi (Zu wf L))).map _=_;rw[qe,<-V8 wf L];rfl
 have rR:∀r:HM.Env,r[0]?=Z (Z (.pl w.d))->Bz (tV (Zj Gm (Zc (Za 1) (Zc (Za 0) Zk)))) (Za 0) r (L.map pN)=Z ((L.filter λc=>Zs w c).map pN):=λr r0=>by
  rw[DP pN (λc=>Zs w c) pN]
  .intro c hc
   have:=kM (w:=w) (c:=c) (by have:=(rX c hc).len;have:=hv.m2;omega);simp[r0,this]
  .intro c _ _
   simp
 have hc:ZF (BH 1) (tV (Zj Gm (Zc (Za 1) (Zc (Za 0) Zk)))) (Za 0) [Z (.pl w.d),Z (.hd (Zi (Zu wf L))),Z (.pl (pY t cs)),Z (.ot (encM [])),Z (.pl (dI 0)),Z_,Z_,Z_]=Z (.ol ((L.filter λc=>Zs w c).map pN)):=by unfold ZF;rw[hw];dsimp only;rw[if_pos (by rw[Af];exact yv),rR _ rfl];rfl
 have hh:FW 1 (ZL 5 (ZF (BH 1) (tV (Zj Gm (Zc (Za 1) (Zc (Za 0) Zk)))) (Za 0))) [Z (.pl w.d),Z (.pl (.dict (Zi (Zu wf L)))),Z (.pl (pY t cs)),Z (.ot (encM [])),Z (.pl (dI 0)),Z_,Z_,Z_]=Z (.nx [Z (.pl w.d),Z (.pl (.dict (Zi (Zu wf L)))),Z (.pl (pY t cs)),Z (.ot (encM [])),Z (.pl (dI 0)),Z (.ol ((L.filter λc=>Zs w c).map pN)),Z_,Z_]):=by show(match ZL 5 _ [Z (.pl w.d),Z (.hd (Zi (Zu wf L))),Z (.pl (pY t cs)),Z (.ot (encM [])),Z (.pl (dI 0)),Z_,Z_,Z_]with|some (.nx r')=>_|some (.rt d)=>_|_=>Z_)=_;unfold ZL;rw[hc];rfl
 show AO (MV ap [Z (.pl w.d),Z (.pl (.dict (Zi (Zu wf L)))),Z (.pl (pY t cs)),Z_,Z_,Z_,Z_,Z_])=_;have e:MV ap [Z (.pl w.d),Z (.pl (.dict (Zi (Zu wf L)))),Z (.pl (pY t cs)),Z_,Z_,Z_,Z_,Z_]=Z (.rt (.dict (Zi (encM R)))):=by unfold MV;refine ZY (P:=λq=>q=_) (r':=[Z (.pl w.d),Z (.pl (.dict (Zi (Zu wf L)))),Z (.pl (pY t cs)),Z (.ot (encM [])),Z_,Z_,Z_,Z_]) rfl ?_;refine ZY (P:=λq=>q=_) (r':=[Z (.pl w.d),Z (.pl (.dict (Zi (Zu wf L)))),Z (.pl (pY t cs)),Z (.ot (encM [])),Z (.pl (dI 0)),Z_,Z_,Z_]) rfl ?_;refine ZY (P:=λq=>q=_) hh ?_;refine ZY (P:=λq=>q=_) g ?_;simp
 rw[e];rfl
end
end
end HG5
namespace HG5
open PySem HM HG
end HG5
namespace HG5
open PySem HM HG HG4
section
variable{ps:List (List Int)}{b c:List Int}{M R:Tb}
inductive JQ(w:Wk)(ls b:List Int):List Int->Prop where
 |beg {p:List Int} (h:p∈Zt w ls b):JQ w ls b p
 |step {c p:List Int} {d:Nat} (r:JQ w ls b c) (hd:d<w.deeds.length) (hc:AV w c d=Aa) (h:p∈Zt w ls (Z4 w c d)):JQ w ls b p
def GN(w:Wk)(ls c:List Int)(d:Int):Wy:=(dI d,Bd w ls (Z4 w c d))
def qB(w:Wk)(ls:List Int):Wf:=λc=>(tS w c).map (GN w ls c)
abbrev LK(w:Wk)(ls:List Int)(L:List (List Int)):List (List Ky×D):=Zu (qB w ls) L
theorem iG(w:Wk)(ls c:List Int):LR w ls c=.list ((qB w ls c).map qM):=by unfold LR qB;rw[Av];rfl
abbrev OkC(w:Wk)(c:List Int):Prop:=Cr w.many c/\c≠[]
abbrev zK(ap:AP):Prop:=∀cs ds,ap 1 cs ds=Pt 1 2 (Zj Fu (Zc (Za 1) (Zc (Za 2) (Zc (Za 0) Zk)))) cs ds
structure zL(ap:AP):Prop where
 d0:∀ds,ap 0 [] ds=Kw ds
 l1:zK ap
section
variable{w:Wk}(hv:Wk.V w)(h7:w.many<=7){ls:List Int}(hl:Cr w.looks.length ls)
include hv h7
theorem Td:LC (qB w ls) (OkC w):=by
 refine⟨λc hc y hy p hp=>?_,λc hc=>?_,λc hc y hy=>?_,λC hn hC=>?_⟩
 .obtain⟨d,hd,rfl⟩:=Aj.mp hy
  obtain⟨d0,d1,_⟩:=He hd;have:=G5 (Fe hv hc.1 d0 d1) (show p∈Zt w ls (Z4 w c d) from hp);exact⟨this.1,this.2.1⟩
 .unfold qB
  rw[Af];have:=Pa w c;have:=hv.d2;omega
 .obtain⟨d,hd,rfl⟩:=Aj.mp hy
  obtain⟨d0,d1,_⟩:=He hd;have:=split_len (w:=w) (ls:=ls) (c:=Z4 w c d);have:=(Fe hv hc.1 d0 d1).len;show(Bd w ls (Z4 w c d)).length<=8;omega
 .have h1:=IL hn λc hc=>(hC c hc).1
  have h2:2 ^ w.many<=2 ^ 7:=NR (by decide) h7;have h3:2 ^ 7=128:=rfl;omega
omit hv h7 in
theorem aR(r:Ia (qB w ls) (Zt w ls b) c):JQ w ls b c:=by
 induction r with
 |beg h=>exact .beg h
 | @step c p y _ hy hp ih=>obtain⟨d,hd,rfl⟩:=Aj.mp hy;obtain⟨d0,d1,d2⟩:=He hd;have e:((d.toNat:Nat):Int)=d:=R6 d0;exact .step (d:=d.toNat) ih (by omega) (by rw[e];exact d2) (by rw[e];exact hp)
include hl
theorem Rt{ap:AP}(A:zK ap)(hb:Cr w.many b):∃L,Hu ap [w.d,pN ls,pN b]=Z (.dict (Zi (LK w ls L)))/\L.Nodup/\L.length<=128/\(∀c∈L,Cr w.many c/\c≠[])/\(∀c∈L,JQ w ls b c)/\EH w ls L/\∀p∈Zt w ls b,p∈L:=by
 have hp:=Mm hv hl hb;have v3:=split_len (w:=w) (ls:=ls) (c:=b);have wK:=hb.len;have u4:=K6 (Bd w ls b) (by omega);have hpl:(Zt w ls b).length<=100:=by unfold Zt;rw[Af];omega
 have O:=Td hv h7 (ls:=ls);have ha:∀c,OkC w c->ap 1 [w.d,pN ls] [pN c]=Z (.list ((qB w ls c).map qM)):=λc hc=>by rw[A,<-iG];unfold Pt;rw[if_pos ⟨rfl,rfl,by rw[DF,F8 19];rfl⟩];exact lh hv hl hc.1
 obtain⟨L,e,zZ⟩:=jv O ha (B:=Zt w ls b) (λc h=>⟨(G5 hb h).1,(G5 hb h).2.1⟩) hpl;refine⟨L,?_,zZ.nd,O.cs L zZ.nd zZ.cr,zZ.cr,λc hc=>aR (zZ.rc c hc),λc hc d hd uh p hp=>?_,λp hp=>?_⟩
 .show AO (Rv ap [Z (.pl w.d),Z (.pl (pN ls)),Z (.pl (pN b))])=_
  have h1:Zj ZC (Zc (Zj Z5 (Zc (Za 0) (Zc (Za 1) (Zc (Za 2) Zk)))) Zk) [Z (.pl w.d),Z (.pl (pN ls)),Z (.pl (pN b))]=Z (.list ((Zt w ls b).map pN)):=by unfold Zj Zc;show(match(match Z5 [w.d,pN ls,pN b]with|some x=>(Zk _).map (x::·)|none=>Z_)with|some ds=>ZC ds|none=>Z_)=_;rw[hp];exact u4
  have yu:[w.d,pN ls].all (rL 20)=Aa:=by rw[DF,DF,bI,F8 19];rfl
  have zc:rL 20 (.dict (Zi (LK w ls L)))=Aa:=bf (n:=14) λc _ y hy=>by obtain⟨d,_,rfl⟩:=Aj.mp hy;exact de _ _
  unfold Rv ZE Xw;rw[h1];show AO (DV tF.rt (if[w.d,pN ls].all (rL 20)=Aa then(match La ap [.list ((Zt w ls b).map pN),pY 1 [w.d,pN ls]]with|some d=>if rL 20 d=Aa then Z d else Z_|none=>Z_)else Z_))=_;rw[if_pos yu,e];dsimp only;rw[if_pos zc];rfl
 .rcases zZ.cl c hc (GN w ls c d) (Aj.mpr ⟨(d:Int),PH hd uh,rfl⟩) p hp with h|h
  .exact h
  .simp at h
 .rcases zZ.bg p hp with h|h
  .exact h
  .simp at h
end
def Dx(ps:List (List Int))(M:Tb):Option Int:=if ps.all (Zy M)then(ps.filterMap λp=>Zg M p).max? else Z_
def tD:Cb:=λy M=>(Dx (qm y) M).map (·+1)
theorem Xy{α β:Type}{f:α->Option β}:∀{xs:List α},((xs.filterMap f).length=xs.length↔xs.all (λx=>(f x).isSome)=Aa)
 |[]=>by simp
 |x::xs=>by
  have ih:=Xy (f:=f) (xs:=xs);have hl:(xs.filterMap f).length<=xs.length:=Yc f xs;rw[DE,DF];cases h:f x with
  |none=>simp;omega
  |some y=>simpa using ih
theorem XR{g:Gs}(hg:g.length<1000)(h0:g≠[]):Fq [.list (g.map Bk),.dict (Zi (encM M))]=Z (oI (Dx (g.map (·.2)) M)):=by
 have u4:=K6 g (by omega);have pP:((g.map (·.2)).map pN).length<big:=by rw[Af,Af];show _<1000000;omega
 have h1:ZW (qg (Zj ZC (Zc (Za 0) Zk))) [Z (.pl (.list (g.map Bk))),Z (.pl (.dict (Zi (encM M)))),Z_]=Z ((g.map (·.2)).map pN):=by unfold ZW qg;show(match DV B.pl (ZC [.list (g.map Bk)])with|some x=>DQ x|none=>Z_)=_;rw[u4];rfl
 have h2:Bz (tV (GW (Za 0) (Zo 2))) (Bp (Zo 2) (Za 0)) [Z (.pl (.list (g.map Bk))),Z (.pl (.dict (Zi (encM M)))),Z_] ((g.map (·.2)).map pN)=Z (((g.map (·.2)).filterMap λp=>Zg M p).map dI):=by
  rw[DP pN (Zy M) (λp=>dI ((Zg M p).getD 0))]
  .congr 1
   generalize g.map (·.2)=ps
   induction ps with
   |nil=>rfl
   |cons p ps ih =>
    rw[FA,DE];unfold Zy at ih ⊢;cases hq:Zg M p with
    |none=>rw[if_neg (by simp)];exact ih
    |some k=>rw[if_pos (by rfl),Ak,Ak,ih,hq];rfl
  .intro p _
   have hk:Bv (pN p)=Z (Az p):=Df p;simp[qe,hk,Hq,Zy]
  .intro p _ hp
   have hk:Bv (pN p)=Z (Az p):=Df p;unfold Zy at hp;obtain⟨k,hk'⟩:=Dp.mp hp;have qN:=Hq M p;rw[hk']at qN;simp[qe,hk,qN,hk']
 have rO:=Xy (f:=λp=>Zg M p) (xs:=g.map (·.2));rw[Af]at rO;have qQ:(g.map (·.2)).all (λx=>(Zg M x).isSome)=(g.map (·.2)).all (Zy M):=rfl;rw[qQ]at rO;generalize hN:(g.map (·.2)).filterMap (λp=>Zg M p)=ns at *;show AO (RD [Z (.pl (.list (g.map Bk))),Z (.pl (.dict (Zi (encM M)))),Z_])=_;unfold RD;refine ZY (P:=λq=>AO q=_) (r':=[Z (.pl (.list (g.map Bk))),Z (.pl (.dict (Zi (encM M)))),Z (.ol (ns.map dI))]) ?_ ?_
 .unfold ZL ZF
  rw[h1];dsimp only;rw[if_pos pP,h2];rfl
 .have h3:pT ra (By (Zo 2)) (By (Zo 0)) [Z (.pl (.list (g.map Bk))),Z (.pl (.dict (Zi (encM M)))),Z (.ol (ns.map dI))]=Z (.bool (decide (ns.length=g.length))):=by
   show ra (.int ((ns.map dI).length:Int)) (.int ((g.map Bk).length:Int))=_;rw[Af,Af]
   by_cases e:ns.length=g.length
   .rw[e,Mh (FZ 1 _) (by decide)]
    simp
   .rw[J4 (FZ 1 _) (FZ 1 _) (by decide) (by decide) (λz=>e (by injection z with z;omega))]
    simp[e]
  have h4:Pw (Zo 2) [Z (.pl (.list (g.map Bk))),Z (.pl (.dict (Zi (encM M)))),Z (.ol (ns.map dI))]=ns.max?.map λi=>Bq i:=by show(match BM (ns.map dI)with|some ns=>ns.max?.map λi=>Bq i|none=>Z_)=_;rw[Ef]
  unfold ZE yC tV;rw[h3];unfold Dx;rw[hN]
  by_cases e:ns.length=g.length
  .rw[if_pos (rO.mp e),decide_eq_true e]
   show AO (DV tF.rt (Pw (Zo 2) _))=_;rw[h4];have qq:ns≠[]:=λz=>by rw[z]at e;exact h0 (So e.symm)
   cases hq:ns.max? with
   |none=>rw[Ym]at hq;exact absurd hq qq
   |some m=>rfl
  .rw[if_neg λz=>e (rO.mpr z),decide_eq_false e]
   rfl
theorem kW{y:Wy}(hy:y.2.length<1000)(h0:y.2≠[])(M:Tb):Kw [qM y,.dict (Zi (encM M))]=Z (oI (tD y M)):=by
 have h:=XR hy h0 (M:=M);have h':Fq [.list (y.2.map Bk),.dict (Zi (encM M))]=Z (oI (Dx (qm y) M)):=h;show AO (QY [Z (.pl (qM y)),Z (.pl (.dict (Zi (encM M)))),Z_])=_;unfold QY tD;refine ZY (P:=λq=>AO q=_) (r':=[Z (.pl (qM y)),Z (.pl (.dict (Zi (encM M)))),Z (.pl (oI (Dx (qm y) M)))]) ?_ ?_
 .unfold ZX Zj
  show DV _ (Fq [.list (y.2.map Bk),.dict (Zi (encM M))])=_;rw[h'];rfl
 .cases Dx (qm y) M<;>rfl
def FO(w:Wk)(ls:List Int)(L:List (List Int))(M:Tb):Prop:=∃t,E1 w ls L t M/\E7 w ls L M=[]
theorem Ws{m:Int}(h:Dx ps M=Z m):(∀p∈ps,∃k,Zg M p=Z k/\k<=m)/\∃p∈ps,Zg M p=Z m:=by
 unfold Dx at h;split at h
 .rename_i ha
  obtain⟨m1,m2⟩:=Yp.mp h;refine⟨λp hp=>?_,?_⟩
  .have hh:=Au.mp ha p hp
   unfold Zy at hh;obtain⟨k,hk⟩:=Dp.mp hh;exact⟨k,hk,m2 _ (Cf.mpr ⟨p,hp,hk⟩)⟩
  .obtain⟨p,hp,e⟩:=Cf.mp m1
   exact⟨p,hp,e⟩
 .cases h
theorem WH(h0:ps≠[])(h:Dx ps M=Z_):ps.all (Zy M)=Ab:=by
 cases hq:ps.all (Zy M)with
 |false=>rfl
 |true=>unfold Dx at h;rw[hq,if_pos rfl,Ym]at h;obtain⟨p,r,rfl⟩:=YL h0;have hh:=Au.mp hq p (An ..);unfold Zy at hh;obtain⟨k,hk⟩:=Dp.mp hh;rw[DE,hk]at h;cases h
section
variable{w:Wk}{ls:List Int}{L:List (List Int)}(hL:EH w ls L)(qq:∀c∈L,c≠[])
include hL qq
theorem js{t:Nat}(T:E1 w ls L t M)(hc:c∈L)(hn:Zy M c=Ab):Cn tD (qB w ls c) M=if DK w ls c M then Z ((t+1:Nat):Int)else Z_:=by
 have uC:∀{p:List Int} {k:Int},Zg M p=Z k->∃n:Nat,k=(n:Int)/\n<=t/\qr w ls n p=Aa:=λ{p k} h=>by
  rw[T.look]at h;split at h
  .obtain⟨n,h1,h2,h3,_⟩:=Wu h
   exact⟨n,h1,h2,h3⟩
  .cases h
 have val:∀y∈qB w ls c,∀k,tD y M=Z k->k=((t+1:Nat):Int)/\DK w ls c M=Aa:=λy hy k hk=>by
  obtain⟨d,hd,rfl⟩:=Aj.mp hy;obtain⟨d0,d1,d2⟩:=He hd;have e:((d.toNat:Nat):Int)=d:=R6 d0;obtain⟨m,h1,h2⟩:=Al.mp hk;have h1:Dx (Zt w ls (Z4 w c d)) M=Z m:=h1;obtain⟨w1,p,hp,w2⟩:=Ws h1;obtain⟨n,rfl,zb,_⟩:=uC w2;refine⟨?_,AA.mpr ⟨d.toNat,As.mpr (by omega),?_⟩⟩
  .subst h2
   by_cases ql:n<t
   ·-- then the crowd would be uC already
    have hw:qr w ls (n+1) c=Aa:=by show(Zs w c||_)=Aa;rw[Dl];refine .inr (AA.mpr ⟨d.toNat,As.mpr (by omega),?_⟩);rw[e,d2,Js];refine Au.mpr λq hq=>?_;obtain⟨k,k1,k2⟩:=w1 q hq;obtain⟨n',rfl,_,hw'⟩:=uC k1;exact IA (by omega) hw'
    have:Zy M c=Aa:=by unfold Zy;rw[T.look,if_pos hc,Hk];exact IA (by omega) hw
    rw[hn]at this;cases this
   .show(n:Int)+1=_
    omega
  .rw[e,d2,Js]
   refine Au.mpr λq hq=>?_;obtain⟨k,k1,_⟩:=w1 q hq;unfold Zy;rw[k1];rfl
 have uK:∀k∈(qB w ls c).filterMap (λy=>tD y M),k=((t+1:Nat):Int)/\DK w ls c M=Aa:=λk hk=>by obtain⟨y,hy,e⟩:=Cf.mp hk;exact val y hy k e
 unfold Cn;cases sh:DK w ls c M with
 |false =>
  have:(qB w ls c).filterMap (λy=>tD y M)=[]:=List.eq_nil_iff_forall_not_mem.mpr λk hk=>by have:=(uK k hk).2;rw[sh]at this;cases this
  rw[this];rfl
 |true =>
  obtain⟨d,hd,hq⟩:=AA.mp sh;rw[AJ]at hq;have hd':=As.mp hd;have hy:GN w ls c (d:Int)∈qB w ls c:=Aj.mpr ⟨(d:Int),PH hd' hq.1,rfl⟩;have xf:Zt w ls (Z4 w c d)≠[]:=IH (LV (qq c hc) hq.1);have hk:∃k,tD (GN w ls c d) M=Z k:=by
   unfold tD;cases hw:Dx (qm (GN w ls c d)) M with
   |none=>have:=WH xf hw;rw[show(Zt w ls (Z4 w c d)).all (Zy M)=Aa from hq.2]at this;cases this
   |some m=>exact⟨m+1,rfl⟩
  obtain⟨k,hk⟩:=hk;have hm:k∈(qB w ls c).filterMap (λy=>tD y M):=Cf.mpr ⟨_,hy,hk⟩;cases tL:((qB w ls c).filterMap λy=>tD y M).min? with
  |none=>rw[Ly]at tL;rw[tL]at hm;simp at hm
  |some m=>have:=(HN.mp tL).1;rw[(uK m this).1];rfl
theorem fJ{t:Nat}(T:E1 w ls L t M):AI (qB w ls) tD L M=(E7 w ls L M).map λc=>(c,((t+1:Nat):Int)):=by
 unfold AI E7;have key:∀K:List (List Int),(∀c∈K,c∈L)->(K.filterMap λc=>if Zy M c then Z_ else(Cn tD (qB w ls c) M).map λk=>(c,k))=(K.filter λc=>!Zy M c&&DK w ls c M).map λc=>(c,((t+1:Nat):Int)):=by
  intro K
  induction K with
  |nil=>intro _;rfl
  |cons c K ih =>
   intro hK;have ih:=ih λx hx=>hK x (Ao _ hx);rw[DE,FA];cases hh:Zy M c with
   |true=>simpa using ih
   |false =>
    have uP:=js hL qq T (hK c (An ..)) hh;rw[uP];cases sh:DK w ls c M with
    |false=>simpa [sh]using ih
    |true=>simpa [sh]using ih
 exact key L λ_ h=>h
theorem dA{k:Option Int}{found:List (List Int)}(r:Ew (qB w ls) tD L M k found R):∀t:Nat,(found=[]->E1 w ls L t M/\E7 w ls L M=[])->(found≠[]->k=Z (t:Int)/\E1 w ls L t (AX found t M))->FO w ls L R:=by
 induction r with
 |done=>intro t h _;exact⟨t,h rfl⟩
 | @step M R k found hf _ ih =>
  intro t _ h;obtain⟨hk,T⟩:=h hf;cases hk;have ho:=fJ hL qq T;have tL:∀ms:List (List Int),CM (ms.map λc=>(c,((t+1:Nat):Int)))=ms/\(ms≠[]->Bn (ms.map λc=>(c,((t+1:Nat):Int)))=Z ((t+1:Nat):Int)):=λms=>by
   cases ms with
   |nil=>exact⟨rfl,λz=>absurd rfl z⟩
   |cons c ms =>
    have hO:Bn ((c::ms).map λc=>(c,((t+1:Nat):Int)))=Z ((t+1:Nat):Int):=by unfold Bn;rw[Av];refine HN.mpr ⟨Aj.mpr ⟨c,An ..,rfl⟩,λb hb=>?_⟩;obtain⟨c',_,rfl⟩:=Aj.mp hb;exact Int.le_refl _
    refine⟨?_,λ_=>hO⟩;unfold CM;rw[hO];have:∀xs:List (List Int),((xs.map λc=>(c,((t+1:Nat):Int))).filter λp=>Z p.2==Z ((t+1:Nat):Int)).map (·.1)=xs:=by
     intro xs
     induction xs with
     |nil=>rfl
     |cons x xs ih=>simp at ih ⊢;exact ih
    exact this _
  obtain⟨m1,m2⟩:=tL (E7 w ls L (AX found t M));rw[ho,m1]at ih;refine ih (if E7 w ls L (AX found t M)=[]then t else t+1) (λe=>?_) λe=>?_
  .rw[if_pos e]
   exact⟨T,e⟩
  .rw[if_neg e]
   exact⟨m2 e,Vj hL T⟩
theorem fI(hv:Wk.V w)(r:Ew (qB w ls) tD L [] (Z 0) (L.filter λc=>Zs w c) R):FO w ls L R:=by
 refine dA hL qq r 0 (λe=>?_) λ_=>⟨rfl,VB⟩;have T:E1 w ls L 0 (M0 w L):=VB;have e0:M0 w L=[]:=by unfold M0;rw[e];rfl
 rw[e0]at T;refine⟨T,Sx.mpr λc hc h=>?_⟩;rw[AJ]at h;obtain⟨d,hd,hq⟩:=AA.mp h.2;rw[AJ]at hq;obtain⟨p,hp⟩:=Sw _ (IH (w:=w) (ls:=ls) (LV (qq c hc) hq.1));have:=Au.mp hq.2 p hp;cases this
end
theorem lj{w:Wk}(hv:Wk.V w){ap:AP}(A:zL ap){ls:List Int}{L:List (List Int)}(rF:L.Nodup)(rX:∀c∈L,Cr w.many c/\c≠[])(pP:L.length<=128)(hL:EH w ls L):∃M,M6 ap [w.d,.dict (Zi (LK w ls L))]=Z (.dict (Zi (encM M)))/\FO w ls L M:=by
 have uc:∀c∈L,(qB w ls c).length<1000:=λc hc=>by unfold qB;rw[Af];have:=Pa w c;have:=hv.d2;omega
 obtain⟨R,e,r⟩:=W5 hv (ap:=ap) (wf:=qB w ls) (t:=0) (cs:=[]) (cb:=tD) rF pP (λc hc=>(rX c hc).1) uc λc hc y hy M=>by
  rw[A.d0];obtain⟨d,hd,rfl⟩:=Aj.mp hy;obtain⟨d0,d1,d2⟩:=He hd;refine kW ?_ ?_ M
  .have:=split_len (w:=w) (ls:=ls) (c:=Z4 w c d)
   have:=(Fe hv (rX c hc).1 d0 d1).len;have:=hv.m2;show(Bd w ls (Z4 w c d)).length<1000;omega
  .exact λz=>IH (w:=w) (ls:=ls) (LV (rX c hc).2 d2) (by unfold Zt;rw[show Bd w ls (Z4 w c d)=[] from z];rfl)
 refine⟨R,?_,fI hL (λc hc=>(rX c hc).2) hv r⟩;show AO (Rn ap [Z (.pl w.d),Z (.pl (.dict (Zi (LK w ls L))))])=_;unfold Rn ZE Zj;show AO (DV tF.rt (Gk ap [w.d,.dict (Zi (Zu (qB w ls) L)),pY 0 []]))=_;rw[e];rfl
end
section
variable{L:List (List Int)}{c ls:List Int}{M:Tb}
theorem FO.cost{w:Wk}(F:FO w ls L M){k:Int}(h:Zg M c=Z k):c∈L/\∃n:Nat,k=(n:Int)/\qr w ls n c=Aa/\∀m,m<n->qr w ls m c=Ab:=by
 obtain⟨t,T,_⟩:=F;rw[T.look]at h;split at h
 .rename_i hc
  obtain⟨n,h1,_,h2,h3⟩:=Wu h;exact⟨hc,n,h1,h2,h3⟩
 .cases h
theorem FO.all{w:Wk}(hL:EH w ls L)(F:FO w ls L M)(hc:c∈L){n:Nat}(h:qr w ls n c=Aa):Zy M c=Aa:=by
 obtain⟨t,T,hm⟩:=F;have T':=Vj hL T;rw[hm]at T';have st:∀c∈L,qr w ls (t+1) c=Aa->qr w ls t c=Aa:=λc hc q=>by have e1:=T.look c;have e2:=T'.look c;rw[if_pos hc]at e1 e2;have e3:CP w ls t c=CP w ls (t+1) c:=e1.symm.trans e2;rw[<-Hk,e3,Hk];exact q
 have:=WI hL st n c hc h;unfold Zy;rw[T.look,if_pos hc,Hk];exact this
def au(w:Wk)(ls:List Int)(P:List (List Int))(d:D):Prop:=(∃n:Nat,d=.int n/\(∀p∈P,qr w ls n p=Aa)/\∀m,m<n->¬∀p∈P,qr w ls m p=Aa)\/(d=.none/\∀n,¬∀p∈P,qr w ls n p=Aa)
theorem ic{w:Wk}(hL:EH w ls L)(F:FO w ls L M){g:Gs}(hg:g.length<1000)(h0:g≠[])(hp:∀p∈g.map (·.2),p∈L):∃d,Fq [.list (g.map Bk),.dict (Zi (encM M))]=Z d/\au w ls (g.map (·.2)) d:=by
 rw[XR hg h0];refine⟨_,rfl,?_⟩;have qq:g.map (·.2)≠[]:=λe=>h0 (List.map_eq_nil_iff.mp e);cases hq:Dx (g.map (·.2)) M with
 |none=>refine .inr ⟨rfl,λn hn=>?_⟩;have h1:=WH qq hq;have:(g.map (·.2)).all (Zy M)=Aa:=Au.mpr λp h=>F.all hL (hp p h) (hn p h);rw[h1]at this;cases this
 |some m =>
  obtain⟨w1,p,sm,w2⟩:=Ws hq;obtain⟨_,n,rfl,k3,k4⟩:=F.cost w2;refine .inl ⟨n,rfl,λq hq'=>?_,λj hj hw=>?_⟩
  .obtain⟨k,a1,a2⟩:=w1 q hq'
   obtain⟨_,n',rfl,a3,_⟩:=F.cost a1;exact IA (by omega) a3
  .have:=hw p sm
   rw[k4 j hj]at this;cases this
section
variable{w:Wk}(hv:Wk.V w)(h7:w.many<=7){ls:List Int}(hl:Cr w.looks.length ls)
include hv h7 hl
theorem jb{ap:AP}(A:zL ap):∃d,Gg ap [w.d,pN ls]=Z d/\Few w ls d:=by obtain⟨L,yA,rF,pP,rX,_,hL,wL⟩:=Rt hv h7 hl A.l1 hv.bc;obtain⟨M,hde,F⟩:=lj hv A rF rX pP hL;have vD:=Mm hv hl hv.bc;have v3:=split_len (w:=w) (ls:=ls) (c:=w.beg);have wK:=hv.bc.len;have yn:Bd w ls w.beg≠[]:=λe=>IH (w:=w) (ls:=ls) hv.b1 (by unfold Zt;rw[e];rfl);obtain⟨d,hm,fw⟩:=ic hL F (g:=Bd w ls w.beg) (by omega) yn wL;refine⟨d,?_,fw⟩;have vF:=WQ hv;have wJ:=X1 hv hl;have hb:=Q0 w;show AO (P4 ap [Z (.pl w.d),Z (.pl (pN ls)),Z_,Z_])=_;simp[P4,vF,wJ,hb,yA,hde,vD,hm,AO]
end
end
end HG5
namespace HG6
open PySem HM
open HG
open HG5
end HG6
namespace HG6
open PySem HM HG4
open HG
open HG5
theorem eB(M:Tb)(c:List Int):Zy M c=Aa↔c∈M.map (·.1):=by
 unfold Zy
 induction M with
 |nil=>exact⟨λh=>(by cases h),λh=>(by simp at h)⟩
 |cons p M ih =>
  obtain⟨a,b⟩:=p;rw[EJ,Ak,Ax]
  by_cases h:a=c
  .rw[if_pos h]
   exact⟨λ_=>.inl h.symm,λ_=>rfl⟩
  .rw[if_neg h,ih]
   exact⟨.inr,λz=>z.elim (λe=>absurd e.symm h) id⟩
theorem dY{M:Tb}{c:List Int}{v:Int}(h:c∉M.map (·.1)):qj M c v=M++[(c,v)]:=by unfold qj;rw[if_neg];intro z;obtain⟨p,hp,e⟩:=AA.mp z;exact h (Aj.mpr ⟨p,hp,of_decide_eq_true e⟩)
theorem VD(t:Int):∀(ms:List (List Int)) (M:Tb),ms.Nodup->(∀c∈ms,c∉M.map (·.1))->ms.foldl (λM c=>qj M c t) M=M++ms.map λc=>(c,t)
 |[],M,_,_=>by simp
 |c::ms,M,hn,h=>by
  obtain⟨n1,n2⟩:=CG.mp hn;rw[Eu,dY (h c (An ..)),VD t ms _ n2 λx hx z=>?_]
  .simp
  .rw[Br]at z
   rcases A8.mp z with z|z
   .exact h x (Ao _ hx) z
   .have e:x=c:=by simpa using z
    exact n1 (e▸hx)
end HG6
namespace HG22
open PySem HM HG4
open HG
open HG5
def Y8(w:Wk):Wk:={w with looks:=[(Ag w.many).map λ(k:Nat)=>(k:Int)]}
theorem cN{w:Wk}{s:Int}(h0:0<=s)(h1:s<(w.many:Int)):Cr w.many [s]:=⟨by simp,λx hx=>by rw[AG.mp hx];exact⟨h0,h1⟩⟩
end HG22
namespace HG20
open PySem HM
open HG
open HG4
open HG5
open HG6
def nk:SF :=
 (ZE (Zj ZC (Zc (Zj Z5 (Zc (Za 0) (Zc (Za 1) (Zc (Zj DT (Zc (Za 0) Zk)) Zk)))) Zk)))
def Ji:List D->Option D:=fnOf 2 2 nk
def RI:SF :=
 (Zw (ZX 2 (Eb (ZF (ZW (qg (Zj ZC (Zc (qy (Zo 0) (eC (.int 1))) Zk)))) (tV (GW (Za 0) (Zo 2))) (Bp (Zo 2) (Za 0)))))
  (ZE (yC (tV (pT B8 (Za 2) (eC .none))) (eC .none) (pT Bb (Za 2) (eC (.int 1))))))
def Jg:List D->Option D:=fnOf 2 3 RI
def Qs(ap:AP):SF :=
 (Zw (LW (Zj Hl (Zc (Za 0) Zk)))
  (Zw (LW (Zj Hz (Zc (Za 0) (Zc (Za 1) Zk))))
  (Zw (ZX 2 (Zj (Gk ap) (Zc (Za 0) (Zc (Zj (Hu ap) (Zc (Za 0) (Zc (Za 1) (Zc (Zj DT (Zc (Za 0) Zk)) Zk)))) (Zc (eC (pY 3 [])) Zk)))))
  (ZE (Eb (ZF (ZW (qg (Zj Ji (Zc (Za 0) (Zc (Za 1) Zk))))) (tV (GW (Za 0) (Zo 3))) (Bp (Zo 3) (Za 0))))))))
def KH(ap:AP):List D->Option D:=fnOf 2 3 (Qs ap)
end HG20
namespace HG20
open PySem HM
open HG
open HG4
open HG5
variable{c:List Int}{n:Nat}{P:Nat->Bool}{M R:Tb}{wf:Wf}
def Lk(w:Wk)(wf:Wf):Nat->List Int->Bool
 |0,c=>Zs w c
 |n+1,c=>Zs w c||(wf c).any λy=>(qm y).any (Lk w wf n)
theorem Uw{w:Wk}{wf:Wf}:∀(n:Nat) (c:List Int),Lk w wf n c=Aa->Lk w wf (n+1) c=Aa
 |0,c,h=>by show(Zs w c||_)=Aa;rw[show Zs w c=Aa from h];rfl
 |n+1,c,h=>by
  have h:(Zs w c||(wf c).any λy=>(qm y).any (Lk w wf n))=Aa:=h;show(Zs w c||(wf c).any λy=>(qm y).any (Lk w wf (n+1)))=Aa;rw[Dl]at h ⊢;rcases h with h|h
  .exact .inl h
  .right
   obtain⟨y,hy,h⟩:=AA.mp h;obtain⟨p,hp,h⟩:=AA.mp h;exact AA.mpr ⟨y,hy,AA.mpr ⟨p,hp,Uw n p h⟩⟩
theorem GS{w:Wk}{m:Nat}(h:n<=m)(q:Lk w wf n c=Aa):Lk w wf m c=Aa:=by
 induction h with
 |refl=>exact q
 |step _ ih=>exact Uw _ _ ih
theorem OW{w:Wk}{p:List Int}{y:Wy}(hy:y∈wf c)(hp:p∈qm y)(h:Lk w wf n p=Aa):Lk w wf (n+1) c=Aa:=by show(Zs w c||(wf c).any λy=>(qm y).any (Lk w wf n))=Aa;rw[Dl];exact .inr (AA.mpr ⟨y,hy,AA.mpr ⟨p,hp,h⟩⟩)
def ug:Cb:=λy M=>((qm y).filterMap λp=>Zg M p).min?.map (·+1)
def Ea(P:Nat->Bool)(t:Nat):Option Int:=((Ag (t+1)).find? P).map λ(n:Nat)=>(n:Int)
theorem jN(mono:∀n m,n<=m->P n=Aa->P m=Aa){t:Nat}:(Ea P t).isSome=P t:=by
 unfold Ea;rw[EV];cases h:P t with
 |true=>rw[N6];exact⟨t,As.mpr (by omega),h⟩
 |false =>
  cases q:((Ag (t+1)).find? P)with
  |none=>rfl
  |some n=>have h1:=Nl q;have h2:=As.mp (Lx q);rw[mono n t (by omega) h1]at h;cases h
theorem j5{t:Nat}:Ea P (t+1)=match Ea P t with
  |some k=>Z k
  |none=>if P (t+1)then Z ((t+1:Nat):Int)else Z_:=by
 unfold Ea;rw[List.range_succ (n:=t+1),N2];cases(Ag (t+1)).find? P with
 |some k=>rfl
 |none=>simp only[Ct,List.find?_nil,Option.none_or,Option.map_none];cases P (t+1)<;>rfl
theorem Wv{t:Nat}{k:Int}(h:Ea P t=Z k):∃n:Nat,k=(n:Int)/\n<=t/\P n=Aa/\∀m,m<n->P m=Ab:=by unfold Ea at h;obtain⟨n,hn,rfl⟩:=Al.mp h;have h1:=Nl hn;have h2:=As.mp (Lx hn);refine⟨n,rfl,by omega,h1,λm hm=>?_⟩;rw[Yd]at hn;have:=hn.2.2 m hm;simpa using this
section
variable{w:Wk}{wf:Wf}{L:List (List Int)}
def DI(w:Wk)(wf:Wf)(L:List (List Int))(t:Nat)(M:Tb):Prop:=∀c,Zg M c=if c∈L then Ea (λn=>Lk w wf n c) t else Z_
theorem DI.has{t:Nat}(T:DI w wf L t M)(hc:c∈L):Zy M c=Lk w wf t c:=by unfold Zy;rw[T c,if_pos hc,jN λn m h q=>GS h q]
def IC(wf:Wf)(L:List (List Int)):Prop:=∀c∈L,∀y∈wf c,∀p∈qm y,p∈L
def Dv(wf:Wf)(L:List (List Int))(M:Tb):List (List Int):=L.filter λc=>!Zy M c&&(wf c).any λy=>(qm y).any (Zy M)
theorem Wn:DI w wf L 0 (AX (L.filter λc=>Zs w c) 0 []):=by
 intro c;have hl:Zg (AX (L.filter λc=>Zs w c) 0 []) c=if c∈L.filter λc=>Zs w c then Z 0 else Zg [] c:=IQ 0 c _ []
 rw[hl];have e:Ea (λn=>Lk w wf n c) 0=if Zs w c then Z 0 else Z_:=by unfold Ea;show(List.find? _ [0]).map _=_;rw[Ct];show(match Zs w c with|true=>Z 0|false=>List.find? _ []).map _=_;cases Zs w c<;>rfl
 rw[e]
 by_cases hc:c∈L
 .rw[if_pos hc]
  cases ht:Zs w c with
  |true=>rw[if_pos (A9.mpr ⟨hc,ht⟩)];rfl
  |false=>rw[if_neg (λz=>by rw[(A9.mp z).2]at ht;cases ht)];rfl
 .rw[if_neg hc,if_neg (λz=>hc (A9.mp z).1)]
  rfl
theorem iD(hL:IC wf L){t:Nat}(T:DI w wf L t M):DI w wf L (t+1) (AX (Dv wf L M) ((t+1:Nat):Int) M):=by
 intro c;have hl:Zg (AX (Dv wf L M) ((t+1:Nat):Int) M) c=if c∈Dv wf L M then Z ((t+1:Nat):Int)else Zg M c:=IQ _ c _ M
 rw[hl]
 by_cases hc:c∈L
 .rw[if_pos hc,j5,<-(show Zg M c=Ea (λn=>Lk w wf n c) t by rw[T c,if_pos hc])]
  have hh:=T.has hc;unfold Zy at hh;cases hq:Zg M c with
  |some k=>rw[if_neg];intro z;have:=(A9.mp z).2;rw[AJ]at this;unfold Zy at this;rw[hq]at this;cases this.1
  |none =>
   rw[hq]at hh;have zb:Lk w wf t c=Ab:=hh.symm;have yY:Zs w c=Ab:=by
    cases q:Zs w c with
    |false=>rfl
    |true=>rw[GS (n:=0) (Bw t) q]at zb;cases zb
   have key:(c∈Dv wf L M)↔Lk w wf (t+1) c=Aa:=by
    show c∈L.filter _↔(Zs w c||(wf c).any λy=>(qm y).any (Lk w wf t))=Aa;rw[A9,yY,NB];have e1:(!Zy M c)=Aa:=by unfold Zy;rw[hq];rfl
    rw[e1,Js];have e2:((wf c).any λy=>(qm y).any (Zy M))=(wf c).any λy=>(qm y).any (Lk w wf t):=by
     rw[Jx,AA,AA]
     constructor
     .rintro ⟨y,hy,h⟩
      obtain⟨p,hp,h⟩:=AA.mp h;exact⟨y,hy,AA.mpr ⟨p,hp,by rw[<-T.has (hL c hc y hy p hp)];exact h⟩⟩
     .rintro ⟨y,hy,h⟩
      obtain⟨p,hp,h⟩:=AA.mp h;exact⟨y,hy,AA.mpr ⟨p,hp,by rw[T.has (hL c hc y hy p hp)];exact h⟩⟩
    rw[e2];exact⟨λh=>h.2,λh=>⟨hc,h⟩⟩
   by_cases hm:c∈Dv wf L M
   .rw[if_pos hm,if_pos (key.mp hm)]
   .rw[if_neg hm,if_neg (λz=>hm (key.mpr z))]
 .have hm:¬c∈Dv wf L M:=λz=>hc (A9.mp z).1
  rw[if_neg hc,if_neg hm,T c,if_neg hc]
theorem dz{t:Nat}(T:DI w wf L t M)(hc:c∈L)(hn:Zy M c=Ab):Cn ug (wf c) M=if((wf c).any λy=>(qm y).any (Zy M))then Z ((t+1:Nat):Int)else Z_:=by
 have ux:∀y∈wf c,∀p∈qm y,∀v,Zg M p=Z v->v=(t:Int):=λy hy p hp v hv=>by
  have e:=T p;rw[hv]at e;split at e
  .obtain⟨n,rfl,h1,h2,_⟩:=Wv e.symm
   rcases Nat.lt_or_ge n t with h|h
   .have:=GS (show n+1<=t by omega) (OW hy hp h2)
    rw[<-T.has hc,hn]at this;cases this
   .omega
  .cases e
 have xr:∀y∈wf c,ug y M=if(qm y).any (Zy M)then Z ((t+1:Nat):Int)else Z_:=λy hy=>by
  unfold ug;cases hq:((qm y).filterMap λp=>Zg M p).min? with
  |none =>
   rw[Ly]at hq;have:(qm y).any (Zy M)=Ab:=by
    cases q:(qm y).any (Zy M)with
    |false=>rfl
    |true=>obtain⟨p,hp,h⟩:=AA.mp q;unfold Zy at h;obtain⟨v,hv⟩:=Dp.mp h;have:v∈(qm y).filterMap λp=>Zg M p:=Cf.mpr ⟨p,hp,hv⟩;rw[hq]at this;simp at this
   rw[this];rfl
  |some m=>obtain⟨p,hp,hv⟩:=Cf.mp (HN.mp hq).1;have hm:=ux y hy p hp m hv;have:(qm y).any (Zy M)=Aa:=AA.mpr ⟨p,hp,by unfold Zy;rw[hv];rfl⟩;rw[this,if_pos rfl,hm];rfl
 unfold Cn;cases hq:((wf c).filterMap λy=>ug y M).min? with
 |none =>
  rw[Ly]at hq;have:((wf c).any λy=>(qm y).any (Zy M))=Ab:=by
   cases q:((wf c).any λy=>(qm y).any (Zy M))with
   |false=>rfl
   |true=>obtain⟨y,hy,h⟩:=AA.mp q;have:((t+1:Nat):Int)∈(wf c).filterMap λy=>ug y M:=Cf.mpr ⟨y,hy,by rw[xr y hy,if_pos h]⟩;rw[hq]at this;simp at this
  rw[this];rfl
 |some m =>
  obtain⟨y,hy,hv⟩:=Cf.mp (HN.mp hq).1;rw[xr y hy]at hv;split at hv
  .rename_i h
   cases hv;rw[if_pos (AA.mpr ⟨y,hy,h⟩)]
  .cases hv
theorem bL{t:Nat}(T:DI w wf L t M):AI wf ug L M=(Dv wf L M).map λc=>(c,((t+1:Nat):Int)):=by
 unfold AI Dv;have key:∀K:List (List Int),(∀c∈K,c∈L)->(K.filterMap λc=>if Zy M c then Z_ else(Cn ug (wf c) M).map λk=>(c,k))=(K.filter λc=>!Zy M c&&(wf c).any λy=>(qm y).any (Zy M)).map λc=>(c,((t+1:Nat):Int)):=by
  intro K
  induction K with
  |nil=>intro _;rfl
  |cons c K ih =>
   intro hK;have ih:=ih λx hx=>hK x (Ao _ hx);rw[DE,FA];cases hh:Zy M c with
   |true=>simpa using ih
   |false =>
    have uP:=dz T (hK c (An ..)) hh;rw[uP];cases sh:((wf c).any λy=>(qm y).any (Zy M))with
    |false=>simpa [sh]using ih
    |true=>simpa [sh]using ih
 exact key L λ_ h=>h
def GK(w:Wk)(wf:Wf)(L:List (List Int))(M:Tb):Prop:=∃t,DI w wf L t M/\Dv wf L M=[]
theorem gK(hL:IC wf L){k:Option Int}{found:List (List Int)}(r:Ew wf ug L M k found R):∀t:Nat,(found=[]->DI w wf L t M/\Dv wf L M=[])->(found≠[]->k=Z (t:Int)/\DI w wf L t (AX found t M))->GK w wf L R:=by
 induction r with
 |done=>intro t h _;exact⟨t,h rfl⟩
 | @step M R k found hf _ ih =>
  intro t _ h;obtain⟨hk,T⟩:=h hf;cases hk;have ho:=bL T;have tL:∀ms:List (List Int),CM (ms.map λc=>(c,((t+1:Nat):Int)))=ms/\(ms≠[]->Bn (ms.map λc=>(c,((t+1:Nat):Int)))=Z ((t+1:Nat):Int)):=λms=>by
   cases ms with
   |nil=>exact⟨rfl,λz=>absurd rfl z⟩
   |cons c ms =>
    have hO:Bn ((c::ms).map λc=>(c,((t+1:Nat):Int)))=Z ((t+1:Nat):Int):=by unfold Bn;rw[Av];refine HN.mpr ⟨Aj.mpr ⟨c,An ..,rfl⟩,λb hb=>?_⟩;obtain⟨c',_,rfl⟩:=Aj.mp hb;exact Int.le_refl _
    refine⟨?_,λ_=>hO⟩;unfold CM;rw[hO];have:∀xs:List (List Int),((xs.map λc=>(c,((t+1:Nat):Int))).filter λp=>Z p.2==Z ((t+1:Nat):Int)).map (·.1)=xs:=by
     intro xs
     induction xs with
     |nil=>rfl
     |cons x xs ih=>simp at ih ⊢;exact ih
    exact this _
  obtain⟨m1,m2⟩:=tL (Dv wf L (AX found t M));rw[ho,m1]at ih;refine ih (if Dv wf L (AX found t M)=[]then t else t+1) (λe=>?_) λe=>?_
  .rw[if_pos e]
   exact⟨T,e⟩
  .rw[if_neg e]
   exact⟨m2 e,iD hL T⟩
theorem iE(hL:IC wf L)(r:Ew wf ug L [] (Z 0) (L.filter λc=>Zs w c) R):GK w wf L R:=by refine gK hL r 0 (λe=>?_) λ_=>⟨rfl,Wn⟩;have T:DI w wf L 0 (AX (L.filter λc=>Zs w c) 0 []):=Wn;rw[e]at T;have T:DI w wf L 0 []:=T;refine⟨T,Sx.mpr λc hc h=>?_⟩;rw[AJ]at h;obtain⟨y,hy,hq⟩:=AA.mp h.2;obtain⟨p,hp,hq⟩:=AA.mp hq;cases hq
theorem GK.cost(F:GK w wf L M){k:Int}(h:Zg M c=Z k):c∈L/\∃n:Nat,k=(n:Int)/\Lk w wf n c=Aa/\∀m,m<n->Lk w wf m c=Ab:=by
 obtain⟨t,T,_⟩:=F;rw[T c]at h;split at h
 .rename_i hc
  obtain⟨n,h1,_,h2,h3⟩:=Wv h;exact⟨hc,n,h1,h2,h3⟩
 .cases h
theorem GK.all(hL:IC wf L)(F:GK w wf L M):∀{c:List Int},c∈L->Lk w wf n c=Aa->Zy M c=Aa:=by
 obtain⟨t,T,hm⟩:=F
 induction n with
 |zero=>intro c hc h;rw[T.has hc];exact GS (Bw t) h
 |succ n ih =>
  intro c hc h;have h:(Zs w c||(wf c).any λy=>(qm y).any (Lk w wf n))=Aa:=h;rw[Dl]at h;rcases h with h|h
  .rw[T.has hc];exact GS (n:=0) (Bw t) h
  .obtain⟨y,hy,h⟩:=AA.mp h
   obtain⟨p,hp,h⟩:=AA.mp h;have h1:=ih (hL c hc y hy p hp) h;cases hq:Zy M c with
   |true=>rfl
   |false=>have:c∈Dv wf L M:=A9.mpr ⟨hc,by rw[hq];exact(AA.mpr ⟨y,hy,AA.mpr ⟨p,hp,h1⟩⟩:((wf c).any λy=>(qm y).any (Zy M))=Aa)⟩;rw[hm]at this;simp at this
end
end HG20
namespace HG20
open PySem HM
open HG
open HG4
open HG5
open HG6
section
variable{L:List (List Int)}{wf:Wf}
theorem gs{I:IF}{c:TF}{e:EF}{r:HM.Env}{ds ys:List D}(hI:I r=Z ds)(hl:ds.length<1000000)(hg:Bz c e r ds=Z ys):ZF I c e r=Z (.ol ys):=by unfold ZF;rw[hI];dsimp only;rw[if_pos (show ds.length<big from hl),hg];rfl
theorem jl(M:Tb)(ps:List (List Int))(r:HM.Env)(i:Nat)(h:r[i]?=Z (Z (.pl (.dict (Zi (encM M)))))):Bz (tV (GW (Za 0) (Zo (i+1)))) (Bp (Zo (i+1)) (Za 0)) r (ps.map pN)=Z ((ps.filterMap λp=>Zg M p).map dI):=by
 rw[DP pN (λp=>Zy M p) (λp=>dI ((Zg M p).getD 0))]
 .congr 1
  induction ps with
  |nil=>rfl
  |cons p ps ih =>
   rw[FA,DE];unfold Zy at ih ⊢;cases hq:Zg M p with
   |none=>simpa [hq]using ih
   |some k=>simp[hq];exact ih
 .intro p _
  have hk:Bv (pN p)=Z (Az p):=Df p;have qN:=Hq M p;unfold Zy;cases hq:Zg M p with
  |none=>rw[hq]at qN;simp[h,qe,hk,qN]
  |some k=>rw[hq]at qN;simp[h,qe,hk,qN]
 .intro p _ hp
  have hk:Bv (pN p)=Z (Az p):=Df p;have qN:=Hq M p;unfold Zy at hp;cases hq:Zg M p with
  |none=>rw[hq]at hp;cases hp
  |some k=>rw[hq]at qN;simp[h,qe,hk,qN]
theorem Wm(M:Tb)(ps:List (List Int))(hl:ps.length<1000)(r:HM.Env)(i:Nat)(h:r[i]?=Z (Z (.pl (.dict (Zi (encM M))))))(I:IF)(hI:I r=Z (ps.map pN)):Eb (ZF I (tV (GW (Za 0) (Zo (i+1)))) (Bp (Zo (i+1)) (Za 0))) r=Z (oI ((ps.filterMap λp=>Zg M p).min?)):=by
 have e:ZF I (tV (GW (Za 0) (Zo (i+1)))) (Bp (Zo (i+1)) (Za 0)) r=Z (.ol ((ps.filterMap λp=>Zg M p).map dI)):=by unfold ZF;rw[hI];dsimp only;rw[if_pos (by rw[Af];show _<1000000;omega),jl M ps r i h];rfl
 unfold Eb;rw[e];show(match BM ((ps.filterMap λp=>Zg M p).map dI)with|some ns=>Z (match ns.min? with|some i=>Bq i|none=>.none)|none=>Z_)=_;rw[Ef];dsimp only;cases(ps.filterMap λp=>Zg M p).min?<;>rfl
theorem nr{y:Wy}(hy:y.2.length<1000)(M:Tb):Jg [qM y,.dict (Zi (encM M))]=Z (oI (ug y M)):=by
 have u4:=K6 y.2 (by omega);have hI:ZW (qg (Zj ZC (Zc (qy (Zo 0) (eC (.int 1))) Zk))) [Z (.pl (qM y)),Z (.pl (.dict (Zi (encM M)))),Z_]=Z ((qm y).map pN):=by have:Zj ZC (Zc (qy (Zo 0) (eC (.int 1))) Zk) [Z (.pl (qM y)),Z (.pl (.dict (Zi (encM M)))),Z_]=Z (.list ((qm y).map pN)):=u4;unfold ZW qg;rw[this];rfl
 have hm:=Wm M (qm y) (by unfold qm;rw[Af];exact hy) [Z (.pl (qM y)),Z (.pl (.dict (Zi (encM M)))),Z_] 1 rfl _ hI;show AO (RI [Z (.pl (qM y)),Z (.pl (.dict (Zi (encM M)))),Z_])=_;unfold RI ug;refine ZY (P:=λq=>AO q=_) (r':=[Z (.pl (qM y)),Z (.pl (.dict (Zi (encM M)))),Z (.pl (oI (((qm y).filterMap λp=>Zg M p).min?)))]) ?_ ?_
 .unfold ZX
  rw[hm];rfl
 .cases((qm y).filterMap λp=>Zg M p).min?<;>rfl
theorem Vt(wf:Wf)(cb:Cb)(M:Tb):∀L:List (List Int),((AI wf cb L M).map (·.1)).Sublist L
 |[]=>by unfold AI;simp
 |c::L=>by
  have ih:=Vt wf cb M L;unfold AI at ih ⊢;rw[DE];cases hq:(if Zy M c then Z_ else(Cn cb (wf c) M).map λk=>(c,k))with
  |none=>exact ih.cons _
  |some p =>
   have:p.1=c:=by
    split at hq
    .cases hq
    .obtain⟨k,_,rfl⟩:=Al.mp hq
     rfl
   show(Gp (·.1) (p::_)).Sublist _;rw[Ak,this];exact ih.cons_cons _
theorem aO{cb:Cb}(rF:L.Nodup){M R:Tb}{k:Option Int}{found:List (List Int)}(r:Ew wf cb L M k found R):(M.map (·.1)).Nodup->found.Nodup->(∀c∈found,c∉M.map (·.1))->(R.map (·.1)).Nodup:=by
 induction r with
 |done=>intro h _ _;exact h
 | @step M R k found hf _ ih =>
  intro h1 h2 h3;have e:AX found k M=M++found.map λc=>(c,k):=VD k found M h2 h3;refine ih ?_ ?_ λc hc z=>?_
  .rw[e,Br,Av]
   have e2:found.map ((λx:List Int×Int=>x.1)∘λc=>(c,k))=found:=by have:((λx:List Int×Int=>x.1)∘λc=>(c,k))=id:=rfl;rw[this,List.map_id]
   rw[e2,Gw];exact⟨h1,h2,λa ha b hb e=>h3 b hb (e▸ha)⟩
  .unfold CM
   exact(((List.filter_sublist ..).map _).trans (Vt wf cb _ L)).nodup rF
  .have:=(UU hc).2
   rw[(eB _ c).mpr z]at this;cases this
structure Rc(w:Wk)(wf:Wf)(L:List (List Int)):Prop where
 nd:L.Nodup
 len:L.length<=128
 cr:∀c∈L,Cr w.many c/\c≠[]
 ys:∀c∈L,(wf c).length<1000
 ps:∀c∈L,∀y∈wf c,y.2.length<1000
 cl:IC wf L
theorem dh{ap:AP}(A3:∀ds,ap 3 [] ds=Jg ds){w:Wk}(hv:Wk.V w)(zZ:Rc w wf L):∃R,Gk ap [w.d,.dict (Zi (Zu wf L)),pY 3 []]=Z (.dict (Zi (encM R)))/\GK w wf L R/\(R.map (·.1)).Nodup:=by
 obtain⟨R,e,r⟩:=W5 hv (ap:=ap) (wf:=wf) (t:=3) (cs:=[]) (cb:=ug) zZ.nd zZ.len (λc hc=>(zZ.cr c hc).1) zZ.ys λc hc y hy M=>by rw[A3];exact nr (zZ.ps c hc y hy) M
 exact⟨R,e,iE zZ.cl r,aO zZ.nd r (by simp) (zZ.nd.filter _) (λc _ z=>by simp at z)⟩
end
section
variable{w:Wk}{ls:List Int}{L:List (List Int)}
def wfT(w:Wk)(ls:List Int)(T:List (List Int)):Wf:=λc=>(qB w ls c).filter λy=>(qm y).all λp=>decide (p∈T)
def ah(w:Wk)(ls:List Int)(T:List (List Int)):Prop:=∀c∈T,∃n,Lk w (wfT w ls T) n c=Aa
structure Jp(w:Wk)(ls:List Int)(L:List (List Int))(wf:Wf)(S:List (List Int)):Prop where
 rc:Rc w wf S
 sub:∀c,∀y∈wf c,y∈qB w ls c
 inL:∀c∈S,c∈L
 win:∀c∈L,∀n,qr w ls n c=Aa->c∈S
 keep:∀c∈S,∀y∈qB w ls c,(∀p∈qm y,∃n,qr w ls n p=Aa)->y∈wf c
 pat:∀T,ah w ls T->(∀c∈T,c∈L)->∀c∈T,c∈S/\∀y∈wfT w ls T c,y∈wf c
theorem QC(hL:EH w ls L):IC (qB w ls) L:=λc hc y hy p hp=>by obtain⟨d,hd,rfl⟩:=Aj.mp hy;obtain⟨d0,d1,d2⟩:=He hd;have e:((d.toNat:Nat):Int)=d:=R6 d0;refine hL c hc d.toNat (by omega) (by rw[e];exact d2) p ?_;rw[e];exact hp
theorem T2(hL:EH w ls L)(qq:∀c∈L,c≠[]){wf:Wf}{S:List (List Int)}(zZ:Jp w ls L wf S):∀(n:Nat) (c:List Int),c∈L->qr w ls n c=Aa->Lk w wf n c=Aa
 |0,c,_,h=>h
 |n+1,c,hc,h=>by
  have hS:=zZ.win c hc (n+1) h;have h:(Zs w c||(Ag w.deeds.length).any λd=>AV w c d&&(Zt w ls (Z4 w c d)).all λp=>qr w ls n p)=Aa:=h;rw[Dl]at h;rcases h with h|h
  .exact GS (n:=0) (Bw _) h
  .obtain⟨d,hd,h⟩:=AA.mp h
   rw[AJ]at h;have hy:GN w ls c (d:Int)∈qB w ls c:=Aj.mpr ⟨_,PH (As.mp hd) h.1,rfl⟩;obtain⟨p,hp⟩:=Sw _ (IH (w:=w) (ls:=ls) (LV (qq c hc) h.1));have hy2:=zZ.keep c hS _ hy λq hq=>⟨n,Au.mp h.2 q hq⟩;exact OW hy2 hp (T2 hL qq zZ n p (hL c hc d (As.mp hd) h.1 p hp) (Au.mp h.2 p hp))
end
section
variable{w:Wk}(hv:Wk.V w)(h7:w.many<=7){ls:List Int}(hl:Cr w.looks.length ls)
include hv h7
theorem rc0{L:List (List Int)}(rF:L.Nodup)(pP:L.length<=128)(rX:∀c∈L,Cr w.many c/\c≠[])(hL:EH w ls L):Rc w (qB w ls) L:=by
 have O:=Td hv h7 (ls:=ls);refine⟨rF,pP,rX,λc hc=>?_,λc hc y hy=>?_,QC hL⟩
 .have:=O.ys c (rX c hc);omega
 .have:=O.ps c (rX c hc) y hy;omega
include hl
theorem kZ:Ji [w.d,pN ls]=Z (.list ((Zt w ls w.beg).map pN)):=by
 have vD:=Mm hv hl hv.bc;have v3:=split_len (w:=w) (ls:=ls) (c:=w.beg);have wK:=hv.bc.len;have sG:=hv.m2;have u4:=K6 (Bd w ls w.beg) (by omega);have hb:=Q0 w;show AO (ZE (Zj ZC (Zc (Zj Z5 (Zc (Za 0) (Zc (Za 1) (Zc (Zj DT (Zc (Za 0) Zk)) Zk)))) Zk)) [Z (.pl w.d),Z (.pl (pN ls))])=_;have h1:Zj Z5 (Zc (Za 0) (Zc (Za 1) (Zc (Zj DT (Zc (Za 0) Zk)) Zk))) [Z (.pl w.d),Z (.pl (pN ls))]=Z (.list ((Bd w ls w.beg).map Bk)):=by simp[hb,vD]
 have h2:Zj ZC (Zc (Zj Z5 (Zc (Za 0) (Zc (Za 1) (Zc (Zj DT (Zc (Za 0) Zk)) Zk)))) Zk) [Z (.pl w.d),Z (.pl (pN ls))]=Z (.list ((Zt w ls w.beg).map pN)):=by
  generalize Zj Z5 (Zc (Za 0) (Zc (Za 1) (Zc (Zj DT (Zc (Za 0) Zk)) Zk)))=E at h1 ⊢;have h3:Zc E Zk [Z (.pl w.d),Z (.pl (pN ls))]=Z [.list ((Bd w ls w.beg).map Bk)]:=by simp[h1]
  unfold Zj;rw[h3];exact u4
 unfold ZE;rw[h2];rfl
theorem jU:(Zt w ls w.beg).length<=8:=by have v3:=split_len (w:=w) (ls:=ls) (c:=w.beg);have wK:=hv.bc.len;have sG:=hv.m2;unfold Zt;rw[Af];omega
def Ta(w:Wk)(ls:List Int)(d:D):Prop:=(∃n:Nat,d=.int n/\(∃p∈Zt w ls w.beg,Lk w (qB w ls) n p=Aa)/\∀m,m<n->∀p∈Zt w ls w.beg,Lk w (qB w ls) m p=Ab)\/(d=.none/\∀n,∀p∈Zt w ls w.beg,Lk w (qB w ls) n p=Ab)
theorem j3{ap:AP}(A:zK ap)(A3:∀ds,ap 3 [] ds=Jg ds):∃d,KH ap [w.d,pN ls]=Z d/\Ta w ls d:=by
 obtain⟨L,yA,rF,pP,rX,_,hL,wL⟩:=Rt hv h7 hl A hv.bc;obtain⟨R,e,F,nd⟩:=dh A3 hv (rc0 hv h7 rF pP rX hL);have hpb:=kZ hv h7 hl;have hpl:=jU hv h7 hl;have vF:=WQ hv;have wJ:=X1 hv hl;have hb:=Q0 w;refine⟨oI (((Zt w ls w.beg).filterMap λp=>Zg R p).min?),?_,?_⟩
 .show AO (Qs ap [Z (.pl w.d),Z (.pl (pN ls)),Z_])=_
  unfold Qs;refine ZY (P:=λq=>AO q=_) (r':=[Z (.pl w.d),Z (.pl (pN ls)),Z_]) (by simp[vF]) ?_;refine ZY (P:=λq=>AO q=_) (r':=[Z (.pl w.d),Z (.pl (pN ls)),Z_]) (by simp[wJ]) ?_;refine ZY (P:=λq=>AO q=_) (r':=[Z (.pl w.d),Z (.pl (pN ls)),Z (.pl (.dict (Zi (encM R))))]) ?_ ?_
  .simp[hb,yA,e]
  .have hI:ZW (qg (Zj Ji (Zc (Za 0) (Zc (Za 1) Zk)))) [Z (.pl w.d),Z (.pl (pN ls)),Z (.pl (.dict (Zi (encM R))))]=Z ((Zt w ls w.beg).map pN):=by
    have:Zj Ji (Zc (Za 0) (Zc (Za 1) Zk)) [Z (.pl w.d),Z (.pl (pN ls)),Z (.pl (.dict (Zi (encM R))))]=Z (.list ((Zt w ls w.beg).map pN)):=hpb;unfold ZW qg;rw[this];rfl
   have hm:=Wm R (Zt w ls w.beg) (by omega) [Z (.pl w.d),Z (.pl (pN ls)),Z (.pl (.dict (Zi (encM R))))] 2 rfl _ hI;unfold ZE;rw[hm];rfl
 .cases hq:((Zt w ls w.beg).filterMap λp=>Zg R p).min? with
  |none =>
   refine .inr ⟨rfl,λn p hp=>?_⟩;rw[Ly]at hq;cases hk:Lk w (qB w ls) n p with
   |false=>rfl
   |true=>have:=F.all (QC hL) (wL p hp) hk;unfold Zy at this;obtain⟨v,hv⟩:=Dp.mp this;have:v∈(Zt w ls w.beg).filterMap λp=>Zg R p:=Cf.mpr ⟨p,hp,hv⟩;rw[hq]at this;simp at this
  |some m =>
   obtain⟨m1,m2⟩:=HN.mp hq;obtain⟨p,hp,hv'⟩:=Cf.mp m1;obtain⟨_,n,rfl,k1,_⟩:=F.cost hv';refine .inl ⟨n,rfl,⟨p,hp,k1⟩,λj hj q hq'=>?_⟩;cases hk:Lk w (qB w ls) j q with
   |false=>rfl
   |true=>have:=F.all (QC hL) (wL q hq') hk;unfold Zy at this;obtain⟨v,hv⟩:=Dp.mp this;obtain⟨_,i,rfl,_,k3⟩:=F.cost hv;have h1:=m2 _ (Cf.mpr ⟨q,hq',hv⟩);rw[k3 j (by omega)]at hk;cases hk
end
end HG20
namespace HG20
open PySem HM
open HG
open HG4
open HG5
open HG6
open HG22 (Y8 cN)
end HG20
namespace HG18
open PySem HM
open HG
open HG4
open HG5
open HG6
open HG20
def IG(ap:AP):SF :=
 (Zw (ZX 10 (Zj Jc (Zc (Za 1) (Zc (Za 8) (Zc (Za 9) Zk)))))
  (qY (tV (pT Iw (Za 10) (eC .none))) (ZL 7 (JW (Zo 7) (Xv (ZW (qg (Zj IW (Zc (Za 1) (Zc (Za 2) (Zc (Za 10) Zk)))))) (tV (Rp (Za 1) (Zo 6))) (Za 1)))) Bu))
def G3(ap:AP):SF :=
 (Bi 9 (DA (By (qg (qy (Zo 1) (eC (.int 1)))))) (IG ap))
def IE(ap:AP):SF :=
 (Zw (D7 3 (qY (Io (ZF (ZW (qg (Za 3))) (tV (Zj Fv (Zc (Za 2) (Zc (Za 0) Zk)))) (Za 0))) (ZX 5 (Za 6)) Bu))
  (Zw (ZL 7 (B7 Zk))
  (Zw (D7 3 (Bi 8 (ZW (qg (Za 3))) (G3 ap)))
  (Zw (ZL 3 (X4 (Zo 7)))
  (Zw (ZL 4 (JW (Zo 4) (Zo 3)))
  (ZX 6 (pT Bb (Za 6) (eC (.int 1)))))))))
def O0(ap:AP):SF :=
 (Zw (ZX 1 (Zj Fw (Zc (Za 0) (Zc (eC (.int 1)) Zk))))
  (Zw (ZX 2 (Zj KU (Zc (Za 1) (Zc (Zj DC (Zc (Za 0) (Zc (eC (.int 0)) Zk))) Zk))))
  (Zw (ZL 3 (Xv (ZW (qg (Zj IW (Zc (Za 1) (Zc (Za 2) (Zc (qy (Zo 1) (eC (.int 3))) Zk)))))) A0 (Za 1)))
  (Zw (ZL 4 (Mx (Zo 3)))
  (Zw (ZX 5 (eC .none))
  (Zw (ZX 6 (eC (.int 0)))
  (Zw (Pu 100000 (JS 3 (E9 (tV (pT vK (Za 3) (tw (B7 Zk)))) (tV (pT B8 (Za 5) (eC .none))))) (IE ap))
  (Zw (ZX 11 (Zj (KH ap) (Zc (Za 1) (Zc (Za 2) Zk))))
  (Zw (qY (tV (pT B8 (Za 5) (eC .none))) (ZE (CC (pT B8 (Za 11) (eC .none)) (pT B8 (Zj (Gg ap) (Zc (Za 1) (Zc (Za 2) Zk))) (eC .none)))) Bu)
  (Zw (ZX 12 (Zj (Gg ap) (Zc (Za 1) (Zc (Za 2) Zk))))
  (ZE (CC (Zj M7 (Zc (Za 11) Zk)) (CC (pT ra (Za 11) (Za 5)) (eOr (pT B8 (Za 12) (eC .none)) (pT we (Za 11) (Za 12))))))))))))))))
def GX(ap:AP):List D->Option D:=fnOf 1 13 (O0 ap)
def ap:AP:=λt cs ds=>match t with
 |0=>if cs.isEmpty then Kw ds else Z_
 |1=>Pt 1 2 (Zj Fu (Zc (Za 1) (Zc (Za 2) (Zc (Za 0) Zk)))) cs ds
 |3=>if cs.isEmpty then Jg ds else Z_
 |_=>Z_
section
variable{met:List (List Int)}
def EY(w:Wk)(wf:Wf)(c:List Int):List (List Int):=(wf c).flatMap qm
section
variable{w:Wk}{wf:Wf}{B:List (List Int)}
def At(w:Wk)(wf:Wf)(B:List (List Int)):Nat->List Int->Prop
 |0,c=>c∈B
 |n+1,c=>∃b,At w wf B n b/\c∈EY w wf b
def Go(w:Wk)(wf:Wf):Nat->List Int->List Int->Prop
 |0,p,c=>c=p
 |n+1,p,c=>∃b,b∈EY w wf p/\Go w wf n b c
theorem Tg:∀(n:Nat) {p b c:List Int},Go w wf n p b->c∈EY w wf b->Go w wf (n+1) p c
 |0,p,b,c,h,hc=>by cases h;exact⟨c,hc,rfl⟩
 |n+1,p,b,c,⟨x,hx,h⟩,hc=>⟨x,hx,Tg n h hc⟩
theorem Tc:∀(n:Nat) {c:List Int},At w wf B n c->∃p∈B,Go w wf n p c
 |0,c,h=>⟨c,h,rfl⟩
 |n+1,c,⟨b,h,hc⟩=>by obtain⟨p,hp,g⟩:=Tc n h;exact⟨p,hp,Tg n g hc⟩
theorem S8:∀(n k:Nat) {p c:List Int},At w wf B k p->Go w wf n p c->At w wf B (k+n) c
 |0,k,p,c,h,e=>by cases e;exact h
 |n+1,k,p,c,h,⟨b,hb,g⟩=>by
  have:=S8 n (k+1) (⟨p,h,hb⟩:At w wf B (k+1) b) g
  rwa [Sg]at this
theorem LP:∀(n:Nat) (p:List Int),Lk w wf n p=Aa↔∃j,j<=n/\∃c,Go w wf j p c/\Zs w c=Aa
 |0,p=>by
  constructor
  .intro h
   exact⟨0,Ai _,p,rfl,h⟩
  .rintro ⟨j,hj,c,g,h⟩
   obtain rfl:j=0:=by omega
   cases g;exact h
 |n+1,p=>by
  constructor
  .intro h
   have h:(Zs w p||(wf p).any λy=>(qm y).any (Lk w wf n))=Aa:=h;rw[Dl]at h;rcases h with h|h
   .exact⟨0,Bw _,p,rfl,h⟩
   .obtain⟨y,hy,h⟩:=AA.mp h
    obtain⟨b,hb,h⟩:=AA.mp h;obtain⟨j,hj,c,g,t⟩:=(LP n b).mp h;exact⟨j+1,by omega,c,⟨b,D1.mpr ⟨y,hy,hb⟩,g⟩,t⟩
  .rintro ⟨j,hj,c,g,t⟩
   cases j with
   |zero=>cases g;exact GS (n:=0) (Bw _) t
   |succ j=>obtain⟨b,hb,g⟩:=g;obtain⟨y,hy,hb⟩:=D1.mp hb;exact OW hy hb ((LP n b).mpr ⟨j,by omega,c,g,t⟩)
theorem YV(n:Nat):(∃p∈B,Lk w wf n p=Aa)↔∃j,j<=n/\∃c,At w wf B j c/\Zs w c=Aa:=by
 constructor
 .rintro ⟨p,hp,h⟩
  obtain⟨j,hj,c,g,t⟩:=(LP n p).mp h;have:=S8 (B:=B) j 0 (show At w wf B 0 p from hp) g;rw[Nat.zero_add]at this;exact⟨j,hj,c,this,t⟩
 .rintro ⟨j,hj,c,a,t⟩
  obtain⟨p,hp,g⟩:=Tc j a;exact⟨p,hp,(LP n p).mpr ⟨j,hj,c,g,t⟩⟩
structure Lv(w:Wk)(wf:Wf)(B:List (List Int))(k:Nat)(pR met:List (List Int)):Prop where
 mt:∀c,c∈met↔∃j,j<=k/\At w wf B j c
 hr:∀c,c∈pR↔At w wf B k c/\∀j,j<k->¬At w wf B j c
 nd:met.Nodup
theorem dE(h:B.Nodup):Lv w wf B 0 B B:=by
 refine⟨λc=>⟨λh=>⟨0,Ai _,h⟩,?_⟩,λc=>⟨λh=>⟨h,λj hj=>absurd hj (Jw _)⟩,λh=>h.1⟩,h⟩
 rintro ⟨j,hj,h⟩
 obtain rfl:j=0:=by omega
 exact h
theorem el{k:Nat}{pR new:List (List Int)}(V:Lv w wf B k pR met)(hn:∀c,c∈new↔(∃b∈pR,c∈EY w wf b)/\c∉met)(nd:new.Nodup):Lv w wf B (k+1) new (met++new):=by
 have key:∀c,c∈new↔At w wf B (k+1) c/\∀j,j<k+1->¬At w wf B j c:=λc=>by
  rw[hn]
  constructor
  .rintro ⟨⟨b,hb,hc⟩,hm⟩
   refine⟨⟨b,((V.hr b).mp hb).1,hc⟩,λj hj a=>hm ((V.mt c).mpr ⟨j,by omega,a⟩)⟩
  .rintro ⟨⟨b,hb,hc⟩,rA⟩
   refine⟨⟨b,(V.hr b).mpr ⟨hb,λj hj a=>rA (j+1) (by omega) ⟨b,a,hc⟩⟩,hc⟩,λhm=>?_⟩;obtain⟨j,hj,a⟩:=(V.mt c).mp hm;exact rA j (by omega) a
 refine⟨λc=>?_,key,?_⟩
 .rw[A8,V.mt,key]
  constructor
  .rintro (⟨j,hj,a⟩|⟨a,_⟩)
   .exact⟨j,by omega,a⟩
   .exact⟨k+1,Ai _,a⟩
  .rintro ⟨j,hj,a⟩
   by_cases q:∃i,i<=k/\At w wf B i c
   .exact .inl q
   .right
    have hj':j=k+1:=by apply FI;intro z;exact q ⟨j,by omega,a⟩
    subst hj';exact⟨a,λi hi a'=>q ⟨i,by omega,a'⟩⟩
 .refine Gw.mpr ⟨V.nd,nd,λx hx y hy e=>?_⟩
  subst e;exact((hn x).mp hy).2 hx
theorem TL{k:Nat}(V:Lv w wf B k [] met):∀(j:Nat) (c:List Int),At w wf B j c->∃i,i<k/\At w wf B i c:=by
 have base:∀c,At w wf B k c->∃i,i<k/\At w wf B i c:=λc a=>by apply FI;intro z;have:=(V.hr c).mpr ⟨a,λj hj a'=>z ⟨j,hj,a'⟩⟩;cases this
 intro j
 induction j with
 |zero =>
  intro c a
  by_cases hk:k=0
  .subst hk;exact base c a
  .exact⟨0,by omega,a⟩
 |succ j ih =>
  rintro c ⟨b,hb,hc⟩
  obtain⟨i,hi,a⟩:=ih b hb
  by_cases q:i+1<k
  .exact⟨i+1,q,b,a,hc⟩
  .obtain rfl:k=i+1:=by omega
   exact base c ⟨b,a,hc⟩
end
end
end HG18
namespace HGD
open PySem HM
open HG
open HG4
def H8:D->Bool
 | .none=>Ab
 |_=>Aa
theorem fW(d:D):B8 d .none=Z (.bool (!H8 d)):=by cases d<;>rfl
theorem S4{g:D->D->Option D}{e f:EF}{r:HM.Env}{x y:D}{b:Bool}(h1:e r=Z x)(h2:f r=Z y)(h:g x y=Z (.bool b)):tV (pT g e f) r=Z b:=by unfold tV pT;rw[h1,h2];dsimp only;rw[h]
theorem dw(L:List (List Int)):qV 2 (.list (L.map pN))=Aa:=cU λd hd=>by obtain⟨c,_,rfl⟩:=Aj.mp hd;exact Gb 0 c
theorem QG:∀(l acc:List (List Int)) (x:List Int),x∈BB acc l↔x∈acc\/x∈l
 |[],acc,x=>by simp[BB]
 |y::l,acc,x=>by
  unfold BB;split
  .rename_i h
   rw[QG l,Ax];have hy:y∈acc:=by simpa using h
   constructor
   .rintro (h|h)
    .exact .inl h
    .exact .inr (.inr h)
   .rintro (h|rfl|h)
    .exact .inl h
    .exact .inl hy
    .exact .inr h
  .rw[QG l,A8,AG,Ax,or_assoc]
theorem QH:∀(l acc:List (List Int)),acc.Nodup->(BB acc l).Nodup
 |[],acc,h=>h
 |y::l,acc,h=>by
  unfold BB;split
  .exact QH l acc h
  .rename_i q
   refine QH l _ (Gw.mpr ⟨h,by simp,λa ha b hb e=>?_⟩);rw[AG]at hb;subst hb;subst e;exact q (by simpa using ha)
end HGD
namespace HG18
open PySem HM
open HG
open HG4
open HG5
open HG6
open HG20
open HGD
variable{pR met:List (List Int)}{c:List Int}
def uN(w:Wk)(ls:List Int)(met:List (List Int))(c:List Int)(d:Nat):List (List Int):=if AV w c d then(Zt w ls (Z4 w c d)).filter (λp=>!met.contains p)else[]
def vz(w:Wk)(ls:List Int)(met:List (List Int))(c:List Int):List (List Int):=(Ag w.deeds.length).flatMap (uN w ls met c)
section
variable{w:Wk}(hv:Wk.V w)(h7:w.many<=7){ls:List Int}(hl:Cr w.looks.length ls)
include hv h7
theorem PD(cr:Cr w.many c){d:Nat}(hd:d<w.deeds.length):(uN w ls met c d).length<=8:=by
 unfold uN;split
 .have lc:=Fe hv cr (show(0:Int)<=(d:Int) by omega) (by omega)
  have h1:=HL (λp=>!met.contains p) (Zt w ls (Z4 w c d));have h2:=split_len (w:=w) (ls:=ls) (c:=Z4 w c d);have h3:=lc.len;have h4:(Zt w ls (Z4 w c d)).length=(Bd w ls (Z4 w c d)).length:=by unfold Zt;rw[Af]
  omega
 .simp
include hl
theorem dW(ap:AP){acc:List (List Int)}(cr:Cr w.many c){d:Nat}(hd:d<w.deeds.length)(hb:acc.length<900000)(e0 e3 e5 e6 qu qp qt:Option B):∃qR,IG ap [e0,Z (.pl w.d),Z (.pl (pN ls)),e3,Z (.ol (met.map pN)),e5,e6,Z (.ol (acc.map pN)),Z (.pl (pN c)),Z (.pl (dN d)),qu,qp,qt]=Z (.nx [e0,Z (.pl w.d),Z (.pl (pN ls)),e3,Z (.ol (met.map pN)),e5,e6,Z (.ol ((acc++uN w ls met c d).map pN)),Z (.pl (pN c)),Z (.pl (dN d)),qR,qp,qt]):=by
 have tM:=jO hv h7 cr (show(0:Int)<=(d:Int) by omega) (by omega);have yq:=PD hv h7 (ls:=ls) (met:=met) cr hd;unfold Oh at tM;unfold uN at yq ⊢;cases uh:AV w c d with
 |false=>rw[uh]at tM;refine⟨Z (.pl .none),?_⟩;simp[IG,tM]
 |true =>
  rw[uh]at tM yq;have lc:=Fe hv cr (show(0:Int)<=(d:Int) by omega) (by omega);have hs:=Xr hv hl lc;have yn:=split_len (w:=w) (ls:=ls) (c:=Z4 w c d);have hlc:=lc.len;have rE:(Bd w ls (Z4 w c d)).length<1000000:=by omega
  have e1:∀r:HM.Env,r[4]?=Z (Z (.ol (met.map pN)))->Hd (tV (Rp (Za 1) (Zo 6))) (Za 1) r ((Bd w ls (Z4 w c d)).map Bk)=Z (((Zt w ls (Z4 w c d)).filter λp=>!met.contains p).map pN):=λr r4=>by have e:=P9 (c:=tV (Rp (Za 1) (Zo 6))) (e:=Za 1) (r:=r) (λp:List Int×List Int=>pN p.1) (λp=>pN p.2) (λp=>!met.contains p.2) (λp=>pN p.2) (Bd w ls (Z4 w c d)) (λp _=>by simp[r4,gk,-HK]) (λp _ _=>by simp);unfold Zt;rw[List.filter_map,Av];exact e
  have si:acc.length+((Zt w ls (Z4 w c d)).filter λp=>!met.contains p).length<1000000:=by rw[if_pos rfl]at yq;omega
  refine⟨Z (.pl (pN (Z4 w c d))),?_⟩;simp[IG,tM,hs,rE,e1,si,-HK]
theorem U2(ap:AP){met:List (List Int)}{c:List Int}(cr:Cr w.many c)(e0 e3 e5 e6 qp qt:Option B):∀(ds:List Nat) (acc:List (List Int)) (o9 qu:Option B),(∀d∈ds,d<w.deeds.length)->acc.length+8*ds.length<900000 ->∃p9 qR,Bc 9 (IG ap) (ds.map dN) [e0,Z (.pl w.d),Z (.pl (pN ls)),e3,Z (.ol (met.map pN)),e5,e6,Z (.ol (acc.map pN)),Z (.pl (pN c)),o9,qu,qp,qt]=Z (.nx [e0,Z (.pl w.d),Z (.pl (pN ls)),e3,Z (.ol (met.map pN)),e5,e6,Z (.ol ((acc++ds.flatMap (uN w ls met c)).map pN)),Z (.pl (pN c)),p9,qR,qp,qt])
 |[],acc,o9,qu,_,_=>⟨o9,qu,by rw[RO,BK];rfl⟩
 |d::ds,acc,o9,qu,qh,hb=>by have hd:=qh d (An ..);rw[Ay]at hb;obtain⟨qR,e⟩:=dW hv h7 hl ap (met:=met) (acc:=acc) cr hd (by omega) e0 e3 e5 e6 qu qp qt;have hn:=PD hv h7 (ls:=ls) (met:=met) cr hd;obtain⟨q9,wZ,f⟩:=U2 ap cr e0 e3 e5 e6 qp qt ds (acc++uN w ls met c d) (Z (.pl (dN d))) qR (λx hx=>qh x (Ao _ hx)) (by rw[AB];omega);refine⟨q9,wZ,?_⟩;rw[Ll,<-EW,<-f,Ak];show(match IG ap [e0,Z (.pl w.d),Z (.pl (pN ls)),e3,Z (.ol (met.map pN)),e5,e6,Z (.ol (acc.map pN)),Z (.pl (pN c)),Z (.pl (dN d)),qu,qp,qt]with|some (.nx r')=>_|some (.ct r')=>_|some (.bk r')=>_|some (.rt d)=>_|none=>_)=_;rw[e]
theorem dU(cr:Cr w.many c):(vz w ls met c).length<=40:=by
 have d2:=hv.d2;have key:∀ds:List Nat,(∀d∈ds,d<w.deeds.length)->(ds.flatMap (uN w ls met c)).length<=8*ds.length:=by
  intro ds
  induction ds with
  |nil=>intro _;simp
  |cons d ds ih=>intro h;have h1:=PD hv h7 (ls:=ls) (met:=met) cr (h d (An ..));have h2:=ih λx hx=>h x (Ao _ hx);rw[Ll,AB,Ay];omega
 have:=key (Ag w.deeds.length) λd hd=>As.mp hd;rw[C1]at this;unfold vz;omega
theorem VZ(ap:AP){met:List (List Int)}(e0 e3 e5 e6 qp qt:Option B):∀(cs acc:List (List Int)) (o8 o9 qu:Option B),(∀c∈cs,Cr w.many c)->acc.length+40*cs.length<800000 ->∃p8 p9 qR,Bc 8 (G3 ap) (cs.map pN) [e0,Z (.pl w.d),Z (.pl (pN ls)),e3,Z (.ol (met.map pN)),e5,e6,Z (.ol (acc.map pN)),o8,o9,qu,qp,qt]=Z (.nx [e0,Z (.pl w.d),Z (.pl (pN ls)),e3,Z (.ol (met.map pN)),e5,e6,Z (.ol ((acc++cs.flatMap (vz w ls met)).map pN)),p8,p9,qR,qp,qt])
 |[],acc,o8,o9,qu,_,_=>⟨o8,o9,qu,by rw[RO,BK];rfl⟩
 |c::cs,acc,o8,o9,qu,yz,hb=>by
  have cr:=yz c (An ..);rw[Ay]at hb;have d2:=hv.d2;have hok:ua (w.deeds.length:Int)=Aa:=Ga (by omega);have tm:w.deeds.length<1000000:=by omega
  obtain⟨p9,qR,f⟩:=U2 hv h7 hl ap (met:=met) cr e0 e3 e5 e6 qp qt (Ag w.deeds.length) acc o9 qu (λd hd=>As.mp hd) (by rw[C1];omega);have body:G3 ap [e0,Z (.pl w.d),Z (.pl (pN ls)),e3,Z (.ol (met.map pN)),e5,e6,Z (.ol (acc.map pN)),Z (.pl (pN c)),o9,qu,qp,qt]=Z (.nx [e0,Z (.pl w.d),Z (.pl (pN ls)),e3,Z (.ol (met.map pN)),e5,e6,Z (.ol ((acc++vz w ls met c).map pN)),Z (.pl (pN c)),p9,qR,qp,qt]):=by
   have hi:DA (By (qg (qy (Zo 1) (eC (.int 1))))) [e0,Z (.pl w.d),Z (.pl (pN ls)),e3,Z (.ol (met.map pN)),e5,e6,Z (.ol (acc.map pN)),Z (.pl (pN c)),o9,qu,qp,qt]=Z ((Ag w.deeds.length).map dN):=by have i0:DQ (.pl w.d)=Z [Bq w.many,.tuple (w.deeds.map ZN),.tuple (w.looks.map pN),pN w.beg,pN w.goal]:=rfl;simp[i0,hok,DB,-DQ]
   unfold G3 Bi;rw[hi];dsimp only;rw[if_pos (by rw[Af,C1];exact tm)];exact f
  have hn:=dU hv h7 hl (met:=met) cr;obtain⟨q8,q9,wZ,g⟩:=VZ ap e0 e3 e5 e6 qp qt cs (acc++vz w ls met c) (Z (.pl (pN c))) p9 qR (λx hx=>yz x (Ao _ hx)) (by rw[AB];omega);refine⟨q8,q9,wZ,?_⟩;rw[Ll,<-EW,<-g,Ak];show(match G3 ap [e0,Z (.pl w.d),Z (.pl (pN ls)),e3,Z (.ol (met.map pN)),e5,e6,Z (.ol (acc.map pN)),Z (.pl (pN c)),o9,qu,qp,qt]with|some (.nx r')=>_|some (.ct r')=>_|some (.bk r')=>_|some (.rt d)=>_|none=>_)=_;rw[body]
omit hl in
theorem L1{b:List Int}:c∈EY w (qB w ls) b↔∃d:Nat,d<w.deeds.length/\AV w b d=Aa/\c∈Zt w ls (Z4 w b d):=by
 unfold EY;rw[D1]
 constructor
 .rintro ⟨y,hy,hc⟩
  unfold qB at hy;obtain⟨d,hd,rfl⟩:=Aj.mp hy;unfold tS at hd;obtain⟨n,hn,rfl⟩:=Aj.mp hd;obtain⟨h1,h2⟩:=A9.mp hn;exact⟨n,As.mp h1,h2,hc⟩
 .rintro ⟨d,hd,uh,hc⟩
  refine⟨GN w ls b (d:Int),Aj.mpr ⟨(d:Int),Aj.mpr ⟨d,A9.mpr ⟨As.mpr hd,uh⟩,rfl⟩,rfl⟩,hc⟩
omit hl in
theorem fN:c∈pR.flatMap (vz w ls met)↔(∃b∈pR,c∈EY w (qB w ls) b)/\c∉met:=by
 rw[D1]
 constructor
 .rintro ⟨b,hb,hc⟩
  unfold vz at hc;obtain⟨d,hd,hc⟩:=D1.mp hc;unfold uN at hc;split at hc
  .rename_i uh
   obtain⟨h1,h2⟩:=A9.mp hc;exact⟨⟨b,hb,(L1 hv h7).mpr ⟨d,As.mp hd,uh,h1⟩⟩,by simpa using h2⟩
  .simp at hc
 .rintro ⟨⟨b,hb,hc⟩,hm⟩
  obtain⟨d,hd,uh,hp⟩:=(L1 hv h7).mp hc;refine⟨b,hb,D1.mpr ⟨d,As.mpr hd,?_⟩⟩;unfold uN;rw[if_pos uh];exact A9.mpr ⟨hp,by simpa using hm⟩
theorem df(ap:AP)(h5:w.many<=5)(nd:met.Nodup)(hm:∀c∈met,Cr w.many c/\c≠[])(hh:∀c∈pR,c∈met)(hn:pR.Nodup)(k:Nat)(e0 o7 o8 o9 qu qp qt:Option B):∃new p7 p8 p9 qR,IE ap [e0,Z (.pl w.d),Z (.pl (pN ls)),Z (.ol (pR.map pN)),Z (.ol (met.map pN)),Z (.pl .none),Z (.pl (.int k)),o7,o8,o9,qu,qp,qt]=Z (.nx [e0,Z (.pl w.d),Z (.pl (pN ls)),Z (.ol (new.map pN)),Z (.ol ((met++new).map pN)),Z (.pl (if pR.any (Zs w)then .int k else .none)),Z (.pl (.int ((k+1:Nat):Int))),p7,p8,p9,qR,qp,qt]) /\ (∀c,c∈new↔(∃b∈pR,c∈EY w (qB w ls) b)/\c∉met)/\new.Nodup:=by
 have hlm:=IL nd λc hc=>(hm c hc).1;have yp:2 ^ w.many<=2 ^ 5:=NR (by decide) h5;have h32:2 ^ 5=32:=rfl;have hlh:pR.length<=32:=by have:=FJ hn hh;omega
 have rX:∀c∈pR,Cr w.many c:=λc hc=>(hm c (hh c hc)).1;generalize hmore:pR.flatMap (vz w ls met)=more;have hmm:∀c,c∈more↔(∃b∈pR,c∈EY w (qB w ls) b)/\c∉met:=λc=>by rw[<-hmore];exact fN hv h7
 have v7:∀c∈more,Cr w.many c/\c≠[]:=λc hc=>by obtain⟨⟨b,hb,hs⟩,_⟩:=(hmm c).mp hc;obtain⟨d,hd,uh,hp⟩:=(L1 hv h7).mp hs;have lc:=Fe hv (rX b hb) (show(0:Int)<=(d:Int) by omega) (by omega);have:=G5 lc hp;exact⟨this.1,this.2.1⟩
 have hdn:=QH more [] Es;have hdm:∀c,c∈BB [] more↔c∈more:=λc=>by rw[QG];simp
 have u3:(BB [] more).length<64:=by have:=IL hdn λc hc=>(v7 c ((hdm c).mp hc)).1;omega
 have y0:∀c,c∈BI (BB [] more)↔c∈more:=λc=>by rw[(Ej _).mem_iff];exact hdm c
 have yn:(BI (BB [] more)).Nodup:=(Ej _).nodup_iff.mpr hdn;have v3:(BI (BB [] more)).length<64:=by rw[(Ej _).length_eq];exact u3
 generalize hD:(if pR.any (Zs w)then Bq k else .none)=D0;obtain⟨p8,p9,qR,f⟩:=VZ hv h7 hl ap (met:=met) e0 (Z (.pl (.list (pR.map pN)))) (Z (.pl D0)) (Z (.pl (.int k))) qp qt pR [] o8 o9 qu rX (by simp;omega);rw[Jz,hmore]at f;refine⟨BI (BB [] more),Z (.ol (more.map pN)),p8,p9,qR,?_,λc=>by rw[y0];exact hmm c,yn⟩;have s1:D7 3 (qY (Io (ZF (ZW (qg (Za 3))) (tV (Zj Fv (Zc (Za 2) (Zc (Za 0) Zk)))) (Za 0))) (ZX 5 (Za 6)) Bu) [e0,Z (.pl w.d),Z (.pl (pN ls)),Z (.ol (pR.map pN)),Z (.ol (met.map pN)),Z (.pl .none),Z (.pl (.int k)),o7,o8,o9,qu,qp,qt]=Z (.nx [e0,Z (.pl w.d),Z (.pl (pN ls)),Z (.pl (.list (pR.map pN))),Z (.ol (met.map pN)),Z (.pl D0),Z (.pl (.int k)),o7,o8,o9,qu,qp,qt]):=by
  have hg:Bz (tV (Zj Fv (Zc (Za 2) (Zc (Za 0) Zk)))) (Za 0) [e0,Z (.pl w.d),Z (.pl (pN ls)),Z (.pl (.list (pR.map pN))),Z (.ol (met.map pN)),Z (.pl .none),Z (.pl (.int k)),o7,o8,o9,qu,qp,qt] (pR.map pN)=Z ((pR.filter (Zs w)).map pN):=by
   rw[DP pN (Zs w) pN]
   .intro c hc
    have:=lq hv (c:=c) (by have:=(rX c hc).len;have:=hv.m2;omega);simp[this]
   .intro c _ _
    simp
  have hf:=gs (I:=ZW (qg (Za 3))) (c:=tV (Zj Fv (Zc (Za 2) (Zc (Za 0) Zk)))) (e:=Za 0) (r:=[e0,Z (.pl w.d),Z (.pl (pN ls)),Z (.pl (.list (pR.map pN))),Z (.ol (met.map pN)),Z (.pl .none),Z (.pl (.int k)),o7,o8,o9,qu,qp,qt]) (ds:=pR.map pN) rfl (by rw[Af];omega) hg;show qY _ _ _ [e0,Z (.pl w.d),Z (.pl (pN ls)),Z (.pl (.list (pR.map pN))),Z (.ol (met.map pN)),Z (.pl .none),Z (.pl (.int k)),o7,o8,o9,qu,qp,qt]=_;have ht:Io (ZF (ZW (qg (Za 3))) (tV (Zj Fv (Zc (Za 2) (Zc (Za 0) Zk)))) (Za 0)) [e0,Z (.pl w.d),Z (.pl (pN ls)),Z (.pl (.list (pR.map pN))),Z (.ol (met.map pN)),Z (.pl .none),Z (.pl (.int k)),o7,o8,o9,qu,qp,qt]=Z (pR.any (Zs w)):=by unfold Io;rw[hf];show Z (!((pR.filter (Zs w)).map pN).isEmpty)=_;congr 1;rw[Jx];simp
  unfold qY;rw[ht,<-hD];cases pR.any (Zs w)<;>rfl
 have s2:∀r7,ZL 7 (B7 Zk) [e0,Z (.pl w.d),Z (.pl (pN ls)),Z (.pl (.list (pR.map pN))),Z (.ol (met.map pN)),Z (.pl D0),Z (.pl (.int k)),r7,o8,o9,qu,qp,qt]=Z (.nx [e0,Z (.pl w.d),Z (.pl (pN ls)),Z (.pl (.list (pR.map pN))),Z (.ol (met.map pN)),Z (.pl D0),Z (.pl (.int k)),Z (.ol []),o8,o9,qu,qp,qt]):=λ_=>rfl;have s3:D7 3 (Bi 8 (ZW (qg (Za 3))) (G3 ap)) [e0,Z (.pl w.d),Z (.pl (pN ls)),Z (.pl (.list (pR.map pN))),Z (.ol (met.map pN)),Z (.pl D0),Z (.pl (.int k)),Z (.ol []),o8,o9,qu,qp,qt]=Z (.nx [e0,Z (.pl w.d),Z (.pl (pN ls)),Z (.pl (.list (pR.map pN))),Z (.ol (met.map pN)),Z (.pl D0),Z (.pl (.int k)),Z (.ol (more.map pN)),p8,p9,qR,qp,qt]):=by show Bi 8 (ZW (qg (Za 3))) (G3 ap) [e0,Z (.pl w.d),Z (.pl (pN ls)),Z (.pl (.list (pR.map pN))),Z (.ol (met.map pN)),Z (.pl D0),Z (.pl (.int k)),Z (.ol []),o8,o9,qu,qp,qt]=_;show(if(pR.map pN).length<big then _ else _)=_;rw[if_pos (by rw[Af];unfold big;omega)];exact f
 have hss:X4 (Zo 7) [e0,Z (.pl w.d),Z (.pl (pN ls)),Z (.pl (.list (pR.map pN))),Z (.ol (met.map pN)),Z (.pl D0),Z (.pl (.int k)),Z (.ol (more.map pN)),p8,p9,qR,qp,qt]=Z (.ol ((BI (BB [] more)).map pN)):=by
  show(match Iu (more.map pN)with|some ts=>if decide ((BB [] ts).length<64)&&ts.all (λt=>!t.isEmpty)then Z (B.ol (M9 (BI (BB [] ts))))else Z_|none=>Z_)=_;rw[Vk];dsimp only;rw[if_pos]
  .rfl
  .rw[decide_eq_true u3,Js]
   refine Au.mpr λc hc=>?_;have:=(v7 c hc).2;cases c with
   |nil=>exact absurd rfl this
   |cons _ _=>rfl
 unfold IE;refine ZY (P:=λq=>q=_) s1 ?_;refine ZY (P:=λq=>q=_) (s2 _) ?_;refine ZY (P:=λq=>q=_) s3 ?_;refine ZY (P:=λq=>q=_) (r':=[e0,Z (.pl w.d),Z (.pl (pN ls)),Z (.ol ((BI (BB [] more)).map pN)),Z (.ol (met.map pN)),Z (.pl D0),Z (.pl (.int k)),Z (.ol (more.map pN)),p8,p9,qR,qp,qt]) ?_ ?_
 .unfold ZL
  rw[hss];rfl
 have si:met.length+(BI (BB [] more)).length<1000000:=by omega
 refine ZY (P:=λq=>q=_) (r':=[e0,Z (.pl w.d),Z (.pl (pN ls)),Z (.ol ((BI (BB [] more)).map pN)),Z (.ol ((met++BI (BB [] more)).map pN)),Z (.pl D0),Z (.pl (.int k)),Z (.ol (more.map pN)),p8,p9,qR,qp,qt]) ?_ ?_
 .generalize BI (BB [] more)=new at si ⊢
  simp[si]
 .show Z (tF.nx _)=Z (tF.nx _)
  rfl
omit hv h7 hl in
theorem Pe(ap:AP)(pR met:List (List Int))(hlh:pR.length<=64)(d:D)(e0 e1 e2 e6 o7 o8 o9 qu qp qt:Option B):JS 3 (E9 (tV (pT vK (Za 3) (tw (B7 Zk)))) (tV (pT B8 (Za 5) (eC .none)))) [e0,e1,e2,Z (.ol (pR.map pN)),Z (.ol (met.map pN)),Z (.pl d),e6,o7,o8,o9,qu,qp,qt]=Z (!pR.isEmpty&&!H8 d):=by
 have hpl:Z3 (.list (pR.map pN))=Aa:=IJ (dw pR) (by decide);have h1:vK (.list (pR.map pN)) (.list [])=Z (.bool (!pR.isEmpty)):=by
  have he:BQ (.list (pR.map pN)) (.list [])=pR.isEmpty:=by cases pR<;>rfl
  unfold vK;rw[hpl,if_pos (by rfl),he]
 have t1:tV (pT vK (Za 3) (tw (B7 Zk))) [e0,e1,e2,Z (.pl (.list (pR.map pN))),Z (.ol (met.map pN)),Z (.pl d),e6,o7,o8,o9,qu,qp,qt]=Z (!pR.isEmpty):=S4 rfl rfl h1;have t2:tV (pT B8 (Za 5) (eC .none)) [e0,e1,e2,Z (.pl (.list (pR.map pN))),Z (.ol (met.map pN)),Z (.pl d),e6,o7,o8,o9,qu,qp,qt]=Z (!H8 d):=S4 rfl rfl (fW d);show E9 _ _ [e0,e1,e2,Z (.pl (.list (pR.map pN))),Z (.ol (met.map pN)),Z (.pl d),e6,o7,o8,o9,qu,qp,qt]=_;unfold E9;rw[t1];cases pR.isEmpty
 .exact t2
 .rfl
abbrev wR(w:Wk)(ls:List Int)(j:Nat)(c:List Int):Prop:=At w (qB w ls) (Zt w ls w.beg) j c
def Due(w:Wk)(ls:List Int)(d:D):Prop:=(∃n:Nat,d=.int n/\(∃c,wR w ls n c/\Zs w c=Aa)/\∀j,j<n->∀c,wR w ls j c->Zs w c=Ab)\/(d=.none/\∀j c,wR w ls j c->Zs w c=Ab)
theorem dQ(ap:AP)(h5:w.many<=5)(e0 qp qt:Option B):∀(qa k:Nat) (pR met:List (List Int)) (o7 o8 o9 qu:Option B),Lv w (qB w ls) (Zt w ls w.beg) k pR met->(∀c∈met,Cr w.many c/\c≠[])->pR.Nodup->(∀j,j<k->∀c,wR w ls j c->Zs w c=Ab)->40<=met.length+qa ->∃d p3 p4 p6 p7 p8 p9 qR,Cp (JS 3 (E9 (tV (pT vK (Za 3) (tw (B7 Zk)))) (tV (pT B8 (Za 5) (eC .none))))) (IE ap) qa [e0,Z (.pl w.d),Z (.pl (pN ls)),Z (.ol (pR.map pN)),Z (.ol (met.map pN)),Z (.pl .none),Z (.pl (.int k)),o7,o8,o9,qu,qp,qt]=Z (.nx [e0,Z (.pl w.d),Z (.pl (pN ls)),p3,p4,Z (.pl d),p6,p7,p8,p9,qR,qp,qt])/\Due w ls d:=by
 intro qa
 induction qa with
 |zero=>intro k pR met o7 o8 o9 qu V hm hn _ hf;have hlm:=IL V.nd λc hc=>(hm c hc).1;have yp:2 ^ w.many<=2 ^ 5:=NR (by decide) h5;have h32:2 ^ 5=32:=rfl;omega
 |succ qa ih =>
  intro k pR met o7 o8 o9 qu V hm hn rA hf;have hlm:=IL V.nd λc hc=>(hm c hc).1;have yp:2 ^ w.many<=2 ^ 5:=NR (by decide) h5;have h32:2 ^ 5=32:=rfl;have hh:∀c∈pR,c∈met:=λc hc=>(V.mt c).mpr ⟨k,Ai _,((V.hr c).mp hc).1⟩;have hlh:pR.length<=32:=by have:=FJ hn hh;omega
  have ht:=Pe ap pR met (by omega) .none e0 (Z (.pl w.d)) (Z (.pl (pN ls))) (Z (.pl (.int k))) o7 o8 o9 qu qp qt;cases hem:pR.isEmpty with
  |true=>rw[hem]at ht;obtain rfl:pR=[]:=List.isEmpty_iff.mp hem;refine⟨.none,_,_,_,_,_,_,_,by unfold Cp;rw[ht];rfl,.inr ⟨rfl,λj c a=>?_⟩⟩;obtain⟨i,hi,a'⟩:=TL V j c a;exact rA i hi c a'
  |false =>
   rw[hem]at ht;obtain⟨new,p7,p8,p9,qR,e,vf,nd⟩:=df hv h7 hl ap h5 V.nd hm hh hn k e0 o7 o8 o9 qu qp qt;have V':=el V vf nd;have hm':∀c∈met++new,Cr w.many c/\c≠[]:=λc hc=>by
    rcases A8.mp hc with hc|hc
    .exact hm c hc
    .obtain⟨⟨b,hb,hs⟩,_⟩:=(vf c).mp hc
     obtain⟨d,hd,uh,hp⟩:=(L1 hv h7).mp hs;have lc:=Fe hv (hm b (hh b hb)).1 (show(0:Int)<=(d:Int) by omega) (by omega);have:=G5 lc hp;exact⟨this.1,this.2.1⟩
   have hlm':=IL V'.nd λc hc=>(hm' c hc).1;have yq:new.length<=64:=by rw[AB]at hlm';omega
   obtain⟨f',rfl⟩:∃f',qa=f'+1:=⟨qa-1,by omega⟩;have hw:Cp (JS 3 (E9 (tV (pT vK (Za 3) (tw (B7 Zk)))) (tV (pT B8 (Za 5) (eC .none))))) (IE ap) (f'+1+1) [e0,Z (.pl w.d),Z (.pl (pN ls)),Z (.ol (pR.map pN)),Z (.ol (met.map pN)),Z (.pl .none),Z (.pl (.int k)),o7,o8,o9,qu,qp,qt]=Cp (JS 3 (E9 (tV (pT vK (Za 3) (tw (B7 Zk)))) (tV (pT B8 (Za 5) (eC .none))))) (IE ap) (f'+1) [e0,Z (.pl w.d),Z (.pl (pN ls)),Z (.ol (new.map pN)),Z (.ol ((met++new).map pN)),Z (.pl (if pR.any (Zs w)then .int k else .none)),Z (.pl (.int ((k+1:Nat):Int))),p7,p8,p9,qR,qp,qt]:=by rw[Cp,ht];dsimp only[NK,Js,H8];rw[e];rfl
   rw[hw];cases hany:pR.any (Zs w)with
   |true =>
    rw[if_pos rfl];have yl:=Pe ap new (met++new) (by omega) (.int k) e0 (Z (.pl w.d)) (Z (.pl (pN ls))) (Z (.pl (.int ((k+1:Nat):Int)))) p7 p8 p9 qR qp qt;have hz:(!new.isEmpty&&!H8 (.int k))=Ab:=by rw[show H8 (.int k)=Aa from rfl,Jt,Ls]
    rw[hz]at yl;obtain⟨c,hc,tc⟩:=AA.mp hany;exact⟨.int k,_,_,_,_,_,_,_,by rw[Cp,yl],.inl ⟨k,rfl,⟨c,((V.hr c).mp hc).1,tc⟩,rA⟩⟩
   |false =>
    rw[if_neg (by decide)];have hno':∀j,j<k+1->∀c,wR w ls j c->Zs w c=Ab:=λj hj c a=>by
     by_cases q:∃i,i<k/\wR w ls i c
     .obtain⟨i,hi,a'⟩:=q
      exact rA i hi c a'
     .have vE:j=k:=by
       apply FI;intro z;exact q ⟨j,by omega,a⟩
      subst vE;have hc:=(V.hr c).mpr ⟨a,λi hi a'=>q ⟨i,hi,a'⟩⟩;cases ht:Zs w c with
      |false=>rfl
      |true=>have:=AA.mpr ⟨c,hc,ht⟩;rw[hany]at this;cases this
    by_cases qq:new=[]
    .subst qq
     have yl:=Pe ap [] (met++[]) (by decide) .none e0 (Z (.pl w.d)) (Z (.pl (pN ls))) (Z (.pl (.int ((k+1:Nat):Int)))) p7 p8 p9 qR qp qt;refine⟨.none,_,_,_,_,_,_,_,by rw[Cp,yl];rfl,.inr ⟨rfl,λj c a=>?_⟩⟩;obtain⟨i,hi,a'⟩:=TL V' j c a;exact hno' i hi c a'
    .exact ih (k+1) new (met++new) p7 p8 p9 qR V' hm' nd hno' (by have:0<new.length:=NP.mpr qq;rw[AB];omega)
end
theorem fE{w:Wk}{ls:List Int}{d d':D}(a:Due w ls d)(b:Ta w ls d'):d=d':=by
 have key:=λn=>YV (w:=w) (wf:=qB w ls) (B:=Zt w ls w.beg) n;rcases a with⟨n,rfl,⟨c,hc,tc⟩,hn⟩|⟨rfl,hn⟩
 .rcases b with⟨m,rfl,hm,ql⟩|⟨rfl,rA⟩
  .obtain⟨j,hj,c',ac,tc'⟩:=(key m).mp hm
   have h1:n<=m:=by apply FI;intro z;rw[hn j (by omega) c' ac]at tc';cases tc'
   have h2:m<=n:=by apply FI;intro z;obtain⟨p,hp,hk⟩:=(key n).mpr ⟨n,Ai _,c,hc,tc⟩;rw[ql n (by omega) p hp]at hk;cases hk
   rw[show n=m by omega]
  .obtain⟨p,hp,hk⟩:=(key n).mpr ⟨n,Ai _,c,hc,tc⟩
   rw[rA n p hp]at hk;cases hk
 .rcases b with⟨m,rfl,hm,ql⟩|⟨rfl,rA⟩
  .obtain⟨j,hj,c',ac,tc'⟩:=(key m).mp hm
   rw[hn j c' ac]at tc';cases tc'
  .rfl
theorem Ol:zL ap:=⟨λ_=>rfl,λ_ _=>rfl⟩
theorem WY(ns:List Int)(h:ns.length<=63):GX ap [.list (ns.map dI)]=Z (.bool Aa):=by
 have hv:=Wk.Ok.v (cL ns 1);have h5:(vV ns 1).many<=5:=by have:(vV ns 1).many=ZK ns 1:=rfl;have:=(LZ ns 1).2;omega
 have hw:=ia ns 1 h;have hc0:=G6 ns 0;have qN:=fQ hv (Zx ns 0);have hl:=aX (vV ns 1).looks.length (Zx ns 0);generalize vV ns 1=w at *;generalize yg w.looks.length (Zx ns 0)=ls at *;have h7:w.many<=7:=by omega
 obtain⟨d1,e1,f1⟩:=jb hv h7 hl Ol;obtain⟨d3,e3,f3⟩:=j3 hv h7 hl Ol.l1 (ap:=ap) (λ_=>rfl);have vc:∀n,LI w ls n->∃p∈Zt w ls w.beg,Lk w (qB w ls) n p=Aa:=λn hn=>by obtain⟨L,yA,rF,pP,rX,_,hL,wL⟩:=Rt hv h7 hl Ol.l1 hv.bc;have qq:=λc hc=>(rX c hc).2;have J0:Jp w ls L (qB w ls) L:=⟨rc0 hv h7 rF pP rX hL,λ_ _ h=>h,λ_ h=>h,λc hc _ _=>hc,λ_ _ _ h _=>h,λT _ hT c hc=>⟨hT c hc,λy hy=>(A9.mp hy).1⟩⟩;obtain⟨p0,y9⟩:=Sw _ (IH (w:=w) (ls:=ls) hv.b1);exact⟨p0,y9,T2 hL qq J0 n p0 (wL p0 y9) (hn p0 y9)⟩
 have hw':Fw [.list (ns.map dI),.int 1]=Z w.d:=hw;have hc':DC [.list (ns.map dI),.int 0]=Z (.int (Zx ns 0)):=hc0;have hs:=Xr hv hl hv.bc;have wK:=hv.bc.len;have v3:=split_len (w:=w) (ls:=ls) (c:=w.beg);have rE:(Bd w ls w.beg).length<1000000:=by omega
 have e2:∀r:HM.Env,Hd A0 (Za 1) r ((Bd w ls w.beg).map Bk)=Z ((Zt w ls w.beg).map pN):=λr=>by have e:=P9 (c:=A0) (e:=Za 1) (r:=r) (λp:List Int×List Int=>pN p.1) (λp=>pN p.2) (λ_=>Aa) (λp=>pN p.2) (Bd w ls w.beg) (λp _=>rfl) (λp _ _=>by simp);rw[R7.mpr λ_ _=>rfl]at e;unfold Zt;rw[Av];exact e
 have zf:∀r:HM.Env,r[1]?=Z (Z (.pl w.d))->qy (Zo 1) (eC (.int 3)) r=Z (pN w.beg):=λr h=>by unfold qy Zo;rw[h];rfl
 obtain⟨d,p3,p4,p6,p7,p8,p9,qR,xU,hdue⟩:=dQ hv h7 hl ap h5 (Z (.pl (.list (ns.map dI)))) Z_ Z_ 100000 0 (Zt w ls w.beg) (Zt w ls w.beg) Z_ Z_ Z_ Z_ (dE (WZ w ls _)) (λc hc=>⟨(G5 hv.bc hc).1,(G5 hv.bc hc).2.1⟩) (WZ w ls _) (λj hj=>absurd hj (Jw _)) (by omega);obtain rfl:=fE hdue f3;show AO (O0 ap [Z (.pl (.list (ns.map dI))),Z_,Z_,Z_,Z_,Z_,Z_,Z_,Z_,Z_,Z_,Z_,Z_])=_;unfold O0;refine ZY (P:=λq=>AO q=_) (r':=[Z (.pl (.list (ns.map dI))),Z (.pl w.d),Z_,Z_,Z_,Z_,Z_,Z_,Z_,Z_,Z_,Z_,Z_]) (by simp[hw']) ?_;refine ZY (P:=λq=>AO q=_) (r':=[Z (.pl (.list (ns.map dI))),Z (.pl w.d),Z (.pl (pN ls)),Z_,Z_,Z_,Z_,Z_,Z_,Z_,Z_,Z_,Z_]) (by simp[hc',qN]) ?_;refine ZY (P:=λq=>AO q=_) (r':=[Z (.pl (.list (ns.map dI))),Z (.pl w.d),Z (.pl (pN ls)),Z (.ol ((Zt w ls w.beg).map pN)),Z_,Z_,Z_,Z_,Z_,Z_,Z_,Z_,Z_]) ?_ ?_
 .have hix':=zf [Z (.pl (.list (ns.map dI))),Z (.pl w.d),Z (.pl (pN ls)),Z_,Z_,Z_,Z_,Z_,Z_,Z_,Z_,Z_,Z_] rfl
  generalize qy (Zo 1) (eC (.int 3))=E at hix' ⊢;simp[hix',hs,rE,e2]
 refine ZY (P:=λq=>AO q=_) (r':=[Z (.pl (.list (ns.map dI))),Z (.pl w.d),Z (.pl (pN ls)),Z (.ol ((Zt w ls w.beg).map pN)),Z (.ol ((Zt w ls w.beg).map pN)),Z_,Z_,Z_,Z_,Z_,Z_,Z_,Z_]) rfl ?_;refine ZY (P:=λq=>AO q=_) (r':=[Z (.pl (.list (ns.map dI))),Z (.pl w.d),Z (.pl (pN ls)),Z (.ol ((Zt w ls w.beg).map pN)),Z (.ol ((Zt w ls w.beg).map pN)),Z (.pl .none),Z_,Z_,Z_,Z_,Z_,Z_,Z_]) rfl ?_;refine ZY (P:=λq=>AO q=_) (r':=[Z (.pl (.list (ns.map dI))),Z (.pl w.d),Z (.pl (pN ls)),Z (.ol ((Zt w ls w.beg).map pN)),Z (.ol ((Zt w ls w.beg).map pN)),Z (.pl .none),Z (.pl (.int (0:Nat))),Z_,Z_,Z_,Z_,Z_,Z_]) rfl ?_;refine ZY (P:=λq=>AO q=_) xU ?_;refine ZY (P:=λq=>AO q=_) (r':=[Z (.pl (.list (ns.map dI))),Z (.pl w.d),Z (.pl (pN ls)),p3,p4,Z (.pl d),p6,p7,p8,p9,qR,Z (.pl d),Z_]) ?_ ?_
 .have:Zj (KH ap) (Zc (Za 1) (Zc (Za 2) Zk)) [Z (.pl (.list (ns.map dI))),Z (.pl w.d),Z (.pl (pN ls)),p3,p4,Z (.pl d),p6,p7,p8,p9,qR,Z_,Z_]=Z d:=e3
  unfold ZX;rw[this];rfl
 have hfe:∀q,Zj (Gg ap) (Zc (Za 1) (Zc (Za 2) Zk)) [Z (.pl (.list (ns.map dI))),Z (.pl w.d),Z (.pl (pN ls)),p3,p4,Z (.pl d),p6,p7,p8,p9,qR,Z (.pl d),q]=Z d1:=λ_=>e1;rcases f3 with⟨n,rfl,hn,ql⟩|⟨rfl,rA⟩
 .refine ZY (P:=λq=>AO q=_) (r':=[Z (.pl (.list (ns.map dI))),Z (.pl w.d),Z (.pl (pN ls)),p3,p4,Z (.pl (.int n)),p6,p7,p8,p9,qR,Z (.pl (.int n)),Z_]) rfl ?_
  refine ZY (P:=λq=>AO q=_) (r':=[Z (.pl (.list (ns.map dI))),Z (.pl w.d),Z (.pl (pN ls)),p3,p4,Z (.pl (.int n)),p6,p7,p8,p9,qR,Z (.pl (.int n)),Z (.pl d1)]) ?_ ?_
  .unfold ZX
   rw[hfe];rfl
  have g1:pT ra (Za 11) (Za 5) [Z (.pl (.list (ns.map dI))),Z (.pl w.d),Z (.pl (pN ls)),p3,p4,Z (.pl (.int n)),p6,p7,p8,p9,qR,Z (.pl (.int n)),Z (.pl d1)]=Z (.bool Aa):=by show ra (.int n) (.int n)=_;have hp:Z3 (.int n)=Aa:=IJ (n:=1) (FZ _ _) (by decide);unfold ra;rw[hp,if_pos (by rfl)];congr 2;simp[BQ]
  have g2:eOr (pT B8 (Za 12) (eC .none)) (pT we (Za 11) (Za 12)) [Z (.pl (.list (ns.map dI))),Z (.pl w.d),Z (.pl (pN ls)),p3,p4,Z (.pl (.int n)),p6,p7,p8,p9,qR,Z (.pl (.int n)),Z (.pl d1)]=Z (.bool Aa):=by
   rcases f1 with⟨m,rfl,g1,g2⟩|⟨rfl,g1⟩
   .show we (.int n) (.int m)=_
    have:n<=m:=by apply FI;intro z;obtain⟨p,hp,hk⟩:=vc m g1;rw[ql m (by omega) p hp]at hk;cases hk
    simp[this]
   .rfl
  have g0:Zj M7 (Zc (Za 11) Zk) [Z (.pl (.list (ns.map dI))),Z (.pl w.d),Z (.pl (pN ls)),p3,p4,Z (.pl (.int n)),p6,p7,p8,p9,qR,Z (.pl (.int n)),Z (.pl d1)]=Z (.bool Aa):=rfl;unfold ZE;rw[CC,g0];dsimp only;rw[CC,g1];dsimp only;rw[g2];rfl
 .have wI:d1=.none:=by
   rcases f1 with⟨m,rfl,g1,g2⟩|⟨rfl,g1⟩
   .obtain⟨p,hp,hk⟩:=vc m g1
    rw[rA m p hp]at hk;cases hk
   .rfl
  subst wI;have hr:qY (tV (pT B8 (Za 5) (eC .none))) (ZE (CC (pT B8 (Za 11) (eC .none)) (pT B8 (Zj (Gg ap) (Zc (Za 1) (Zc (Za 2) Zk))) (eC .none)))) Bu [Z (.pl (.list (ns.map dI))),Z (.pl w.d),Z (.pl (pN ls)),p3,p4,Z (.pl .none),p6,p7,p8,p9,qR,Z (.pl .none),Z_]=Z (.rt (.bool Aa)):=by
   have hq:pT B8 (Zj (Gg ap) (Zc (Za 1) (Zc (Za 2) Zk))) (eC .none) [Z (.pl (.list (ns.map dI))),Z (.pl w.d),Z (.pl (pN ls)),p3,p4,Z (.pl .none),p6,p7,p8,p9,qR,Z (.pl .none),Z_]=Z (.bool Aa):=by unfold pT;rw[hfe];rfl
   show ZE (CC _ _) _=_;unfold ZE CC;rw[hq];rfl
  unfold Zw;rw[hr];rfl
end HG18
namespace HT
open PySem PySem.Spec PyProof.Rows L2 HP HM
open HG
open HG4
open HG5
open HG6
open HG20
open HG18
variable{c f:Addr}{sA:Array (Option Value)}{fd:FuncData}{h:Heap}{ps:List Str}{an od:Option Addr}{st:Stmt}{x:Str}{pV ct qU oc pm:Value}
def top(i:Nat):Stmt:=PySem.Challenge.pw_halfseen_k18_luck.main.body.getD i (.Pass ⟨0,0,0,0⟩)
abbrev Rm:Stmt:=top 9
abbrev P2:Stmt:=top 10
abbrev Rl:Stmt:=top 11
abbrev MF:Stmt:=top 12
abbrev ME:Stmt:=top 13
abbrev M5:Stmt:=top 14
abbrev M4:Stmt:=top 15
abbrev QX:Stmt:=top 16
abbrev Rk:Stmt:=top 17
abbrev QW:Stmt:=top 18
abbrev QV:Stmt:=top 19
abbrev QU:Stmt:=top 20
abbrev Qr:Stmt:=top 21
abbrev Qq:Stmt:=top 22
abbrev RH:Stmt:=top 23
abbrev MD:Stmt:=top 24
abbrev Nb:Stmt:=top 26
abbrev MY:Stmt:=top 27
abbrev P1:Stmt:=top 28
abbrev Mu:Stmt:=top 29
abbrev MU:Stmt:=top 30
abbrev IV:Stmt:=top 32
abbrev RJ:Stmt:=top 33
abbrev K3:Stmt:=top 34
abbrev RB:Stmt:=top 35
abbrev Ja:Stmt:=top 36
abbrev M8:Stmt:=top 37
abbrev MO:Stmt:=top 38
abbrev ZO:Stmt:=top 39
abbrev MT:Stmt:=top 40
abbrev Rj:Stmt:=top 41
abbrev P0:Stmt:=top 42
abbrev RF:Stmt:=top 44
abbrev K8:Stmt:=top 45
abbrev MC:Stmt:=top 46
abbrev QT:Stmt:=top 48
abbrev Qp:Stmt:=top 49
abbrev Ri:Stmt:=top 50
abbrev MN:Stmt:=top 51
abbrev QS:Stmt:=top 52
abbrev QR:Stmt:=top 53
abbrev MM:Stmt:=top 54
abbrev ML:Stmt:=top 55
abbrev Qo:Stmt:=top 56
abbrev KQ:Stmt:=top 57
abbrev MK:Stmt:=top 58
abbrev EI:Stmt:=top 59
structure qb(K:Ae)(mg:Str->Option Value)(x:Str)(st:Stmt)(ps:List Str):Prop where
 ex:∃f fd,sL K x x st f fd/\mg x=Z (.ref f)/\Binds K fd ps []
structure qo(K:Ae)(mg:Str->Option Value):Prop where
 n_len:mg "len"=Z_
 n_tuple:mg "tuple"=Z_
 n_list:mg "list"=Z_
 n_set:mg "set"=Z_
 n_sorted:mg "sorted"=Z_
 n_range:mg "range"=Z_
 n_all:mg "all"=Z_
 n_isinstance:mg "isinstance"=Z_
 n_int:mg "int"=Z_
 n_bool:mg "bool"=Z_
 n_max:mg "max"=Z_
 n_min:mg "min"=Z_
 c_MOST_STATES:∃t,mg "MOST_STATES"=Z (.int 8 t)
 c_MOST_DEEDS:∃t,mg "MOST_DEEDS"=Z (.int 5 t)
 c_MOST_LOOKS:∃t,mg "MOST_LOOKS"=Z (.int 4 t)
 c_MOST_SEEN:∃t,mg "MOST_SEEN"=Z (.int 9 t)
section
variable[FX]{P:Program}{w:World}{K:Ae}{mg:Str->Option Value}{base:Heap}{k:Nat}
set_option maxHeartbeats 8000000
theorem qv{N:List Str}{sc:Scope}(a:sc.kind=.function:=by rfl)(b:sc.isCoroutine=Ab:=by rfl)(c:sc.isGenerator=Ab:=by rfl)(d:N.Nodup:=by decide +kernel)(e:N.take ps.length=ps:=by rfl)(f:∀x∈ps,sc.names.lookup x=Z .local\/sc.names.lookup x=Z .cell:=by decide +kernel)(g:∀y∈sc.names,y.2≠.free:=by decide +kernel):Zv N ps sc:=⟨a,b,c,d,e,f,g⟩
theorem qb.ok{x:Str}{st:Stmt}{N ps:List Str}{g:HM.SF}(D:qb K mg x st ps)(S:Zv N ps (Ze st))(body:∀(f:Addr) (pV:Value) (A:Around) (outer:List PySem.Env) (s:Shared) (H:Hp) (E:XK),Z9 k (A.deeper (envOfC x (Ze st) s.heap.objs.size f pV))->um (DL rY P w K mg base N x (Ze st) f pV A outer s H E).nox (BW st) g):Callee P w K mg base (k+1) x (HM.fnOf ps.length N.length g):=by obtain⟨f,fd,F,m,b⟩:=D.ex;exact gF F S m b (body f)
theorem qd{j:Nat}{M:List PyData->Option PyData}(C:Callee P w K mg base j x M)(h:j<=k:=by decide):Callee P w K mg base k x M:=C.mono h
theorem mi:Zv ["_law_script","_law_k"] ["_law_script","_law_k"] (Ze QT):=qv
theorem mM(T:qo K mg)(D:qb K mg "_law_cell" QT ["_law_script","_law_k"]):Callee P w K mg base (k+1) "_law_cell" DC :=
 D.ok mi λ_ pV A outer s H E hr=>by
  exact(Zf (BD (BJ yD (Zb 1) (C7 T.n_len (Zr 0))) (Zn (ZB (Z0 (Zr 0) (Zb 1)))) BG)
  (Zn (ZB Zm)))
theorem kG:Zv ["_law_cell_here","_law_prime","_law_many"] ["_law_cell_here","_law_prime","_law_many"] (Ze Qp):=qv
theorem kF(T:qo K mg)(D:qb K mg "_law_mix" Qp ["_law_cell_here","_law_prime","_law_many"]):Callee P w K mg base (k+1) "_law_mix" ZJ :=
 D.ok kG λ_ pV A outer s H E hr=>by exact(Zn (ZB (ZH xG (ZH xG (ZH Dt (Zb 0) Zm) (Zb 1)) (Zb 2))))
abbrev Q3:List Str:=["_law_cell_here","_law_many","_law_least","_law_found"]
theorem RA:Zv Q3 ["_law_cell_here","_law_many","_law_least"] (Ze MN):=qv
theorem mh(T:qo K mg)(ZI:Callee P w K mg base k "_law_mix" ZJ)(D:qb K mg "_law_crowd" MN ["_law_cell_here","_law_many","_law_least"]):Callee P w K mg base (k+1) "_law_crowd" Hx :=
 D.ok RA λ_ pV A outer s H E hr=>by
  exact(Zf (KD 3 RA.nd rfl rfl (N:="_law_state" :: Q3) (ZG (sc:=Ze MN) (XN:=Q3)) (Fp T.n_range (Zb 1)) (λ_ _ _ _ _=>(DO (BJ yD (Zl ZI hr (Zd (ZH Bm (ZH Bm (Zb 1) (ZH Dt (ZH Dt Zm (Zb 0)) (Zb 0))) (ZH Dt Zm (Zb 0))) (Zd Zm (Zd Zm Zh)))) Zm))) (λ_ _ _ _ _=>(Zb 0)))
  (Zf (BD (BJ yD (C7 T.n_len (Zr 3)) (Zb 2)) (Zn (Z7 3 RA.nd (C8 (Zd (Zl ZI hr (Zd (Zb 0) (Zd Zm (Zd (Zb 1) Zh)))) Zh)))) BG)
  (Zn (ZB (Z6 T.n_tuple (Zr 3))))))
theorem IU:Zv ["_law_cell_here","_law_many","_law_found","_law_state","_law_seed","_law_way","_law_row"] ["_law_cell_here","_law_many"] (Ze QS):=qv
theorem mL(T:qo K mg)(ZI:Callee P w K mg base k "_law_mix" ZJ)(D:qb K mg "_law_deed" QS ["_law_cell_here","_law_many"]):Callee P w K mg base (k+1) "_law_deed" Kz :=
 D.ok IU λ_ pV A outer s H E hr=>by
  have hu:=D9 hr;exact(Zf (Z7 2 IU.nd (C8 Zh))
  (Zf (CU 3 IU.nd rfl rfl (Fp T.n_range (Zb 1)) (Zf (ZP 4 IU.nd (ZH Bm (ZH Bm (Zb 0) (ZH Dt (ZH Dt Zm (Zb 3)) (Zb 3))) (ZH Dt Zm (Zb 3))))
  (Zf (ZP 5 IU.nd (Zl ZI hr (Zd (Zb 4) (Zd Zm (Zd Zm Zh)))))
  (Zf (Z7 6 IU.nd (gC (Zl ZI hr (Zd (Zb 4) (Zd Zm (Zd (Zb 1) Zh)))) Fi))
  (Zf (BD (BJ yD (Zb 5) Zm) (Zn (JZ hu 6 (Zl ZI hr (Zd (Zb 4) (Zd Zm (Zd (Zb 1) Zh)))) Fi)) BG)
  (Zf (Kt 2 (Z6 T.n_tuple (Ba (Mv T.n_sorted rfl (Zr 6)))))
  (Zn (BD (BJ (u6 hr) (Zb 5) Zm) (Zn (f6 2 cn (FV Zh))) BG))))))))
  (Zn (ZB (Z6 T.n_tuple (Zr 2))))))
theorem Hv:Zv ["_law_cell_here","_law_many","_law_left","_law_right","_law_state","_law_ahead","_law_behind","_law_slips"] ["_law_cell_here","_law_many"] (Ze QR):=qv
theorem mK(T:qo K mg)(ZI:Callee P w K mg base k "_law_mix" ZJ)(D:qb K mg "_law_walk" QR ["_law_cell_here","_law_many"]):Callee P w K mg base (k+1) "_law_walk" Kx :=
 D.ok Hv λ_ pV A outer s H E hr=>by
  exact(Zf (Z7 2 Hv.nd (C8 Zh))
  (Zf (Z7 3 Hv.nd (C8 Zh))
  (Zf (CU 4 Hv.nd rfl rfl (Fp T.n_range (Zb 1)) (Zf (ZP 5 Hv.nd (cf T.n_max rfl (ZH Og (Zb 4) Zm) Zm))
  (Zf (ZP 6 Hv.nd (b9 T.n_min rfl (ZH Bm (Zb 4) Zm) (ZH Og (Zb 1) Zm)))
  (Zf (ZP 7 Hv.nd (Fg (u6 hr) (Zl ZI hr (Zd (ZH Bm (Zb 0) (ZH Dt Zm (Zb 4))) (Zd Zm (Zd Zm Zh)))) Zm))
  (Zf (Kt 2 (Z6 T.n_tuple (Ba (Xn T.n_sorted T.n_set rfl (Ba (J1 (Ba (C8 (Zd (Zb 5) Zh))) (Ba (b8 (Ba (C8 (Zd (Zb 4) Zh))) (gD T.n_int (Zb 7))))))))))
  (Zn (Kt 3 (FV (Zd (Zb 6) Zh)))))))))
  (Zn (ZB (FV (Zd (Z6 T.n_tuple (Zr 2)) (Zd (Z6 T.n_tuple (Zr 3)) Zh))))))))
abbrev Q4:List Str:=["_law_script","_law_at","_law_cell_here","_law_many","_law_deeds","_law_k","_law_looks_here","_law_seed","_law_most","_law_begin","_law_goal"]
theorem ZV:Zv Q4 ["_law_script","_law_at"] (Ze MM):=qv
theorem mf(T:qo K mg)(Eh:Callee P w K mg base k "_law_cell" DC)(MJ:Callee P w K mg base k "_law_crowd" Hx)(ZI:Callee P w K mg base k "_law_mix" ZJ)(QQ:Callee P w K mg base k "_law_deed" Kz)(QP:Callee P w K mg base k "_law_walk" Kx)(D:qb K mg "_law_works" MM ["_law_script","_law_at"]):Callee P w K mg base (k+1) "_law_works" Fw :=
 D.ok ZV λ_ pV A outer s H E hr=>by
  exact(Zf (ZP 2 ZV.nd (Zl Eh hr (Zd (Zb 0) (Zd (Zb 1) Zh))))
  (Zf (ZP 3 ZV.nd (ZH Bm Zm (Zl ZI hr (Zd (Zb 2) (Zd Zm (Zd Zm Zh))))))
  (Zf (BD (BJ wN (C7 T.n_len (Zr 0)) Zm) (Zn (ZP 3 ZV.nd (ZH Bm Zm (Zl ZI hr (Zd (Zb 2) (Zd Zm (Zd Zm Zh))))))) BG)
  (Zf (Z7 4 ZV.nd (C8 Zh))
  (Zf (CU 5 ZV.nd rfl rfl (Fp T.n_range (ZH Bm Zm (Zl ZI hr (Zd (Zb 2) (Zd Zm (Zd Zm Zh)))))) (Zn (Kt 4 (Zl QQ hr (Zd (ZH Bm (Zl Eh hr (Zd (Zb 0) (Zd (ZH Bm (ZH Bm (Zb 1) Zm) (Zb 5)) Zh))) (ZH Dt Zm (Zb 5))) (Zd (Zb 3) Zh))))))
  (Zf (BD (BJ (u6 hr) (Zl ZI hr (Zd (Zb 2) (Zd Zm (Zd Zm Zh)))) Zm) (Zn (Z7 4 ZV.nd (J1 (Ba (Mw T.n_list (B2 (Zl QP hr (Zd (Zl Eh hr (Zd (Zb 0) (Zd (ZH Bm (Zb 1) Zm) Zh))) (Zd (Zb 3) Zh)))))) (Ba (bZ (Zr 4) eS (dg Zm)))))) BG)
  (Zf (Z7 6 ZV.nd (C8 Zh))
  (Zf (CU 5 ZV.nd rfl rfl (Fp T.n_range (Zl ZI hr (Zd (Zb 2) (Zd Zm (Zd Zm Zh))))) (Zf (ZP 7 ZV.nd (ZH Bm (Zl Eh hr (Zd (Zb 0) (Zd (ZH Bm (ZH Bm (Zb 1) Zm) (Zb 5)) Zh))) (ZH Dt Zm (Zb 5))))
  (Zf (ZP 8 ZV.nd (ZH Bm Zm (Zl ZI hr (Zd (Zb 7) (Zd Zm (Zd Zm Zh))))))
  (Zn (Kt 6 (Z6 T.n_tuple (Ba (BE rfl rfl (N:="_law_state" :: Q4) (ZG (sc:=Ze MM) (XN:=Q4)) (Fp T.n_range (Zb 3)) (λ_ _ _ _ _=>Co) (λ_ _ _ _ _=>(Zl ZI hr (Zd (ZH Bm (Zb 8) (ZH Dt (ZH Dt Zm (Zb 0)) (Zb 0))) (Zd Zm (Zd (Zb 9) Zh)))))))))))))
  (Zf (ZP 9 ZV.nd (Zl MJ hr (Zd (Zl Eh hr (Zd (Zb 0) (Zd (ZH Bm (Zb 1) Zm) Zh))) (Zd (Zb 3) (Zd Zm Zh)))))
  (Zf (BD (BJ (u6 hr) (Zl ZI hr (Zd (Zb 2) (Zd Zm (Zd Zm Zh)))) Zm) (Zn (ZP 9 ZV.nd (kI T.n_tuple T.n_range rfl (Zb 3)))) BG)
  (Zf (ZP 10 ZV.nd (Zl MJ hr (Zd (Zl Eh hr (Zd (Zb 0) (Zd (ZH Bm (Zb 1) Zm) Zh))) (Zd (Zb 3) (Zd Zm Zh)))))
  (Zn (ZB (FV (Zd (Zb 3) (Zd (Z6 T.n_tuple (Zr 4)) (Zd (Z6 T.n_tuple (Zr 6)) (Zd (Zb 9) (Zd (Zb 10) Zh)))))))))))))))))))
abbrev Rr:List Str:=["_law_works_here","_law_cell_here"]
theorem me:Zv Rr ["_law_works_here","_law_cell_here"] (Ze ML):=qv
theorem md(T:qo K mg)(ZI:Callee P w K mg base k "_law_mix" ZJ)(D:qb K mg "_law_looks" ML ["_law_works_here","_law_cell_here"]):Callee P w K mg base (k+1) "_law_looks" KU :=
 D.ok me λ_ pV A outer s H E hr=>by exact(Zn (ZB (Z6 T.n_tuple (Ba (BE rfl rfl (N:="_law_look" :: Rr) (ZG (sc:=Ze ML) (XN:=Rr)) (Fp T.n_range (C7 T.n_len (B2 (Z0 (Zr 0) Zm)))) (λ_ _ _ _ _=>(DO (BJ wN (Zl ZI hr (Zd (ZH Bm (Zb 2) (ZH Dt Zm (Zb 0))) (Zd Zm (Zd Zm Zh)))) Zm))) (λ_ _ _ _ _=>(Zb 0)))))))
theorem ma:Zv ["thing","least","most"] ["thing","least","most"] (Ze Rm):=qv
theorem l8(T:qo K mg)(D:qb K mg "is_number" Rm ["thing","least","most"]):Callee P w K mg base (k+1) "is_number" Fx :=
 D.ok ma λ_ pV A outer s H E hr=>by
  exact(Zf (BD (LH (OA (Dy (WW T.n_isinstance T.n_bool (Zb 0))) (O3 (Ff (Dy (WC T.n_isinstance T.n_int (Zb 0))))))) (Zn (ZB Fi)) BG)
  (Zn (ZB (VO xB xB (Zb 1) (Zb 0) (Zb 2)))))
theorem MX:Zv ["thing","many","least","number"] ["thing","many"] (Ze Rl):=qv
theorem l7(T:qo K mg)(Ft:Callee P w K mg base k "is_number" Fx)(D:qb K mg "is_rising" Rl ["thing","many"]):Callee P w K mg base (k+1) "is_rising" Z1 :=
 D.ok MX λ_ pV A outer s H E hr=>by
  exact(Zf (BD (Ff (Dy (Xx T.n_isinstance T.n_tuple (Zb 0)))) (Zn (ZB Fi)) BG)
  (Zf (ZP 2 MX.nd Zm)
  (Zf (CU 3 MX.nd rfl rfl (ZS (Zb 0)) (Zf (BD (Ff (Dy (Zl Ft hr (Zd (Zb 3) (Zd (Zb 2) (Zd (ZH Og (Zb 1) Zm) Zh)))))) (Zn (ZB Fi)) BG)
  (Zn (ZP 2 MX.nd (ZH Bm (Zb 3) Zm)))))
  (Zn (ZB Fi)))))
theorem mJ:Zv ["thing","many"] ["thing","many"] (Ze QX):=qv
theorem mI(T:qo K mg)(DR:Callee P w K mg base k "is_rising" Z1)(D:qb K mg "is_crowd" QX ["thing","many"]):Callee P w K mg base (k+1) "is_crowd" KA :=
 D.ok mJ λ_ pV A outer s H E hr=>by exact(Zn (ZB (Ec (Zl DR hr (Zd (Zb 0) (Zd (Zb 1) Zh))) (Ed (Fg wN (C7 T.n_len (Zr 0)) Zm)))))
theorem ke:Zv ["thing","least","most"] ["thing","least","most"] (Ze P2):=qv
theorem kd(T:qo K mg)(D:qb K mg "is_row" P2 ["thing","least","most"]):Callee P w K mg base (k+1) "is_row" DD :=
 D.ok ke λ_ pV A outer s H E hr=>by exact(Zn (ZB (Ec (Xx T.n_isinstance T.n_tuple (Zb 0)) (Ed (VO xB xB (Zb 1) (C7 T.n_len (Zr 0)) (Zb 2))))))
theorem kE:Zv ["thing","many"] ["thing","many"] (Ze MF):=qv
theorem kD(T:qo K mg)(CY:Callee P w K mg base k "is_row" DD)(DR:Callee P w K mg base k "is_rising" Z1)(D:qb K mg "is_deed" MF ["thing","many"]):Callee P w K mg base (k+1) "is_deed" Hn :=
 D.ok kE λ_ pV A outer s H E hr=>by exact(Zn (ZB (Ec (Zl CY hr (Zd (Zb 0) (Zd (Zb 1) (Zd (Zb 1) Zh)))) (Ed (IB T.n_all rfl (Ba (BE rfl rfl (N:=["crowd","thing","many"]) (ZG (sc:=Ze MF) (XN:=["thing","many"])) (ZS (Zb 0)) (λ_ _ _ _ _=>Co) (λ_ _ _ _ _=>(Zl DR hr (Zd (Zb 0) (Zd (Zb 2) Zh)))))))))))
theorem l6:Zv ["thing","many"] ["thing","many"] (Ze M5):=qv
theorem l5(T:qo K mg)(CY:Callee P w K mg base k "is_row" DD)(Qn:Callee P w K mg base k "is_deed" Hn)(D:qb K mg "are_deeds" M5 ["thing","many"]):Callee P w K mg base (k+1) "are_deeds" K1 :=
 D.ok l6 λ_ pV A outer s H E hr=>by exact(Zn (ZB (Ec (Zl CY hr (Zd (Zb 0) (Zd Zm (Zd (Mc T.c_MOST_DEEDS) Zh)))) (Ed (IB T.n_all rfl (Ba (BE rfl rfl (N:=["deed","thing","many"]) (ZG (sc:=Ze M5) (XN:=["thing","many"])) (ZS (Zb 0)) (λ_ _ _ _ _=>Co) (λ_ _ _ _ _=>(Zl Qn hr (Zd (Zb 0) (Zd (Zb 2) Zh)))))))))))
theorem kC:Zv ["thing","many"] ["thing","many"] (Ze ME):=qv
theorem kB(T:qo K mg)(CY:Callee P w K mg base k "is_row" DD)(Ft:Callee P w K mg base k "is_number" Fx)(D:qb K mg "is_look" ME ["thing","many"]):Callee P w K mg base (k+1) "is_look" Hm :=
 D.ok kC λ_ pV A outer s H E hr=>by exact(Zn (ZB (Ec (Zl CY hr (Zd (Zb 0) (Zd (Zb 1) (Zd (Zb 1) Zh)))) (Ed (IB T.n_all rfl (Ba (BE rfl rfl (N:=["told","thing","many"]) (ZG (sc:=Ze ME) (XN:=["thing","many"])) (ZS (Zb 0)) (λ_ _ _ _ _=>Co) (λ_ _ _ _ _=>(Zl Ft hr (Zd (Zb 0) (Zd Zm (Zd (Mc T.c_MOST_SEEN) Zh))))))))))))
theorem lZ:Zv ["thing","many"] ["thing","many"] (Ze M4):=qv
theorem lY(T:qo K mg)(CY:Callee P w K mg base k "is_row" DD)(Qm:Callee P w K mg base k "is_look" Hm)(D:qb K mg "are_looks" M4 ["thing","many"]):Callee P w K mg base (k+1) "are_looks" K0 :=
 D.ok lZ λ_ pV A outer s H E hr=>by exact(Zn (ZB (Ec (Zl CY hr (Zd (Zb 0) (Zd Zm (Zd (Mc T.c_MOST_LOOKS) Zh)))) (Ed (IB T.n_all rfl (Ba (BE rfl rfl (N:=["look","thing","many"]) (ZG (sc:=Ze M4) (XN:=["thing","many"])) (ZS (Zb 0)) (λ_ _ _ _ _=>Co) (λ_ _ _ _ _=>(Zl Qm hr (Zd (Zb 0) (Zd (Zb 2) Zh)))))))))))
theorem XJ:Zv ["thing","many"] ["thing"] (Ze Rk):=qv
theorem lX(T:qo K mg)(QO:Callee P w K mg base k "is_crowd" KA)(DR:Callee P w K mg base k "is_rising" Z1)(CY:Callee P w K mg base k "is_row" DD)(Ft:Callee P w K mg base k "is_number" Fx)(Rh:Callee P w K mg base k "are_deeds" K1)(Rg:Callee P w K mg base k "are_looks" K0)(D:qb K mg "are_works" Rk ["thing"]):Callee P w K mg base (k+1) "are_works" KZ :=
 D.ok XJ λ_ pV A outer s H E hr=>by
  exact(Zf (BD (LH (OA (Ff (Dy (Zl CY hr (Zd (Zb 0) (Zd Zm (Zd Zm Zh)))))) (O3 (Ff (Dy (Zl Ft hr (Zd (Z0 (Zr 0) Zm) (Zd Zm (Zd (Mc T.c_MOST_STATES) Zh))))))))) (Zn (ZB Fi)) BG)
  (Zf (ZP 1 XJ.nd (Z0 (Zr 0) Zm))
  (Zf (BD (LH (OA (Ff (Dy (Zl Rh hr (Zd (Z0 (Zr 0) Zm) (Zd (Zb 1) Zh))))) (O3 (Ff (Dy (Zl Rg hr (Zd (Z0 (Zr 0) Zm) (Zd (Zb 1) Zh)))))))) (Zn (ZB Fi)) BG)
  (Zn (ZB (Ec (Zl QO hr (Zd (Z0 (Zr 0) Zm) (Zd (Zb 1) Zh))) (Ed (Zl DR hr (Zd (Z0 (Zr 0) Zm) (Zd (Zb 1) Zh))))))))))
theorem kA:Zv ["works"] ["works"] (Ze Qq):=qv
theorem kz(T:qo K mg)(Rf:Callee P w K mg base k "are_works" KZ)(D:qb K mg "checked" Qq ["works"]):Callee P w K mg base (k+1) "checked" Hl :=
 D.ok kA λ_ pV A outer s H E hr=>by
  exact(Zf (BD (Ff (Dy (Zl Rf hr (Zd (Zb 0) Zh)))) (Zn VN) BG)
  (Zn (ZB (Zb 0))))
theorem mH:Zv ["works"] ["works"] (Ze QV):=qv
theorem mG(T:qo K mg)(D:qb K mg "looks_of" QV ["works"]):Callee P w K mg base (k+1) "looks_of" Hy :=
 D.ok mH λ_ pV A outer s H E hr=>by exact(Zn (ZB (Z0 (Zr 0) Zm)))
theorem nj:Zv ["works","looks"] ["works","looks"] (Ze RH):=qv
theorem ni(T:qo K mg)(DR:Callee P w K mg base k "is_rising" Z1)(IZ:Callee P w K mg base k "looks_of" Hy)(D:qb K mg "checked_looks" RH ["works","looks"]):Callee P w K mg base (k+1) "checked_looks" Hz :=
 D.ok nj λ_ pV A outer s H E hr=>by
  exact(Zf (BD (Ff (Dy (Zl DR hr (Zd (Zb 1) (Zd (C7 T.n_len (B2 (Zl IZ hr (Zd (Zb 0) Zh)))) Zh))))) (Zn VN) BG)
  (Zn (ZB (Zb 1))))
theorem XH:Zv ["rows"] ["rows"] (Ze IV):=qv
theorem mW(T:qo K mg)(Fn:sL K "crowds_in" "crowds_in" IV f fd)(hm:mg "crowds_in"=Z (.ref f))(hb:Binds K fd ["rows"] []):Gd P w K mg base (k+1) "crowds_in" ZC :=
 ju Fn XH hm hb rfl (λr b h=>gL _ _ _ r b h) λpV A outer s H E hr=>by exact(BE rfl rfl (N:=["row","rows"]) (ZG (sc:=Ze IV) (XN:=["rows"])) (ZS (Zb 0)) (λ_ _ _ _ _=>Co) (λ_ _ _ _ _=>(Z0 (Zr 0) Zm)))
theorem lW(T:qo K mg)(D:qb K mg "crowds_in" IV ["rows"]):Callee P w K mg base (k+1) "crowds_in" ZC :=
 D.ok XH λ_ pV A outer s H E hr=>by exact(Zn (ZB (EE (BE rfl rfl (N:=["row","rows"]) (ZG (sc:=Ze IV) (XN:=["rows"])) (ZS (Zb 0)) (λ_ _ _ _ _=>Co) (λ_ _ _ _ _=>(Z0 (Zr 0) Zm))))))
theorem X0:Zv ["rows","costs","known"] ["rows","costs"] (Ze M8):=qv
theorem ng(T:qo K mg)(Z2:Callee P w K mg base k "crowds_in" ZC)(D:qb K mg "cost_at_worst" M8 ["rows","costs"]):Callee P w K mg base (k+1) "cost_at_worst" Fq :=
 D.ok X0 λ_ pV A outer s H E hr=>by
  have hu:=D9 hr;exact(Zf (KD 2 X0.nd rfl rfl (N:=["part","rows","costs","known"]) (ZG (sc:=Ze M8) (XN:=["rows","costs","known"])) (ZS (Zl Z2 hr (Zd (Zb 0) Zh))) (λ_ _ _ _ _=>(DO (O1 hu (Zb 0) (Zr 2)))) (λ_ _ _ _ _=>(G4 hu (Zr 2) (Zb 0))))
  (Zn (ZB (Oz (BJ (u6 hr) (C7 T.n_len (Zr 2)) (C7 T.n_len (Zr 0))) (fZ T.n_max rfl (Zr 2)) CS))))
theorem Xd:Zv ["way","depths","most"] ["way","depths"] (Ze MT):=qv
theorem mF(T:qo K mg)(Jf:Callee P w K mg base k "cost_at_worst" Fq)(D:qb K mg "deeds_by" MT ["way","depths"]):Callee P w K mg base (k+1) "deeds_by" Kw :=
 D.ok Xd λ_ pV A outer s H E hr=>by
  exact(Zf (ZP 2 Xd.nd (Zl Jf hr (Zd (Z0 (Zr 0) Zm) (Zd (Zb 1) Zh))))
  (Zn (ZB (Oz (BJ GP (Zb 2) CS) CS (ZH Bm (Zb 2) Zm)))))
theorem XZ:Zv ["way","luck","least"] ["way","luck"] (Ze K8):=qv
theorem nc(T:qo K mg)(Z2:Callee P w K mg base k "crowds_in" ZC)(D:qb K mg "deeds_by_luck" K8 ["way","luck"]):Callee P w K mg base (k+1) "deeds_by_luck" Jg :=
 D.ok XZ λ_ pV A outer s H E hr=>by
  have hu:=D9 hr;exact(Zf (ZP 2 XZ.nd (L8 T.n_min rfl (Ba (BE rfl rfl (N:=["part","way","luck","least"]) (ZG (sc:=Ze K8) (XN:=["way","luck","least"])) (ZS (Zl Z2 hr (Zd (Z0 (Zr 0) Zm) Zh))) (λ_ _ _ _ _=>(DO (O1 hu (Zb 0) (Zr 2)))) (λ_ _ _ _ _=>(G4 hu (Zr 2) (Zb 0)))))))
  (Zn (ZB (Oz (BJ GP (Zb 2) CS) CS (ZH Bm (Zb 2) Zm)))))
theorem ky:Zv ["works","looks","state"] ["works","looks","state"] (Ze MD):=qv
theorem kx(T:qo K mg)(IZ:Callee P w K mg base k "looks_of" Hy)(D:qb K mg "seen_in" MD ["works","looks","state"]):Callee P w K mg base (k+1) "seen_in" KC :=
 D.ok ky λ_ pV A outer s H E hr=>by exact(Zn (ZB (Z6 T.n_tuple (Ba (BE rfl rfl (N:=["look","works","looks","state"]) (ZG (sc:=Ze MD) (XN:=["works","looks","state"])) (ZS (Zb 1)) (λ_ _ _ _ _=>Co) (λ_ _ _ _ _=>(Z0 (B2 (Z0 (B2 (Zl IZ hr (Zd (Zb 1) Zh))) (Zb 0))) (Zb 3))))))))
abbrev PX:List Str:=["works","looks","crowd","found","state"]
theorem Ql:Zv PX ["works","looks","crowd"] (Ze Mu):=qv
theorem j9(T:qo K mg)(Qk:Callee P w K mg base k "seen_in" KC)(D:qb K mg "parted" Mu ["works","looks","crowd"]):Callee P w K mg base (k+1) "parted" Z5 :=
 D.ok Ql λ_ pV A outer s H E hr=>by
  have hu:=D9 hr;exact(Zf (Z7 3 Ql.nd TX)
  (Zf (CU 4 Ql.nd rfl rfl (ZS (Zb 2)) (Zn (gy hu 3 (Zl Qk hr (Zd (Zb 0) (Zd (Zb 1) (Zd (Zb 4) Zh)))) (Zb 4) ⟨rfl,rfl,rfl,rfl⟩)))
  (Zn (ZB (EE (BE rfl rfl (N:="seen" :: PX) (ZG (sc:=Ze Mu) (XN:=PX)) (ZS (EE (Mv T.n_sorted rfl (Zr 3)))) (λ_ _ _ _ _=>Co) (λ_ _ _ _ _=>(FV (Zd (Zb 0) (Zd (Z6 T.n_tuple (TV hu 4 (Zb 0))) Zh))))))))))
theorem mE:Zv ["works"] ["works"] (Ze QW):=qv
theorem mD(T:qo K mg)(D:qb K mg "deeds_of" QW ["works"]):Callee P w K mg base (k+1) "deeds_of" Fm :=
 D.ok mE λ_ pV A outer s H E hr=>by exact(Zn (ZB (Z0 (Zr 0) Zm)))
theorem XQ:Zv ["works","crowd","deed","leads"] ["works","crowd","deed"] (Ze Nb):=qv
theorem mT(T:qo K mg)(Fl:Callee P w K mg base k "deeds_of" Fm)(D:qb K mg "can_be_done" Nb ["works","crowd","deed"]):Callee P w K mg base (k+1) "can_be_done" KO :=
 D.ok XQ λ_ pV A outer s H E hr=>by
  exact(Zf (ZP 3 XQ.nd (Z0 (B2 (Zl Fl hr (Zd (Zb 0) Zh))) (Zb 2)))
  (Zn (ZB (IB T.n_all rfl (Ba (BE rfl rfl (N:=["state","works","crowd","deed","leads"]) (ZG (sc:=Ze Nb) (XN:=["works","crowd","deed","leads"])) (ZS (Zb 1)) (λ_ _ _ _ _=>Co) (λ_ _ _ _ _=>(Fg wN (C7 T.n_len (B2 (Z0 (Zr 4) (Zb 0)))) Zm))))))))
theorem mV:Zv ["works","crowd"] ["works","crowd"] (Ze MY):=qv
theorem mU(T:qo K mg)(Ru:Callee P w K mg base k "can_be_done" KO)(Fl:Callee P w K mg base k "deeds_of" Fm)(D:qb K mg "deeds_with" MY ["works","crowd"]):Callee P w K mg base (k+1) "deeds_with" K5 :=
 D.ok mV λ_ pV A outer s H E hr=>by exact(Zn (ZB (EE (BE rfl rfl (N:=["deed","works","crowd"]) (ZG (sc:=Ze MY) (XN:=["works","crowd"])) (Fp T.n_range (C7 T.n_len (B2 (Zl Fl hr (Zd (Zb 0) Zh))))) (λ_ _ _ _ _=>(DO (Dy (Zl Ru hr (Zd (Zb 1) (Zd (Zb 2) (Zd (Zb 0) Zh))))))) (λ_ _ _ _ _=>(Zb 0))))))
theorem Ks:Zv ["works","crowd","deed","leads","found","state","target"] ["works","crowd","deed"] (Ze P1):=qv
theorem j8(T:qo K mg)(Fl:Callee P w K mg base k "deeds_of" Fm)(D:qb K mg "led_to" P1 ["works","crowd","deed"]):Callee P w K mg base (k+1) "led_to" IS :=
 D.ok Ks λ_ pV A outer s H E hr=>by
  have hu:=D9 hr;exact(Zf (ZP 3 Ks.nd (Z0 (B2 (Zl Fl hr (Zd (Zb 0) Zh))) (Zb 2)))
  (Zf (Z7 4 Ks.nd bh)
  (Zf (CU 5 Ks.nd rfl rfl (ZS (Zb 1)) (Zn (CU 6 Ks.nd rfl rfl (ZS (Z0 (Zr 3) (Zb 5))) (Zn (JZ hu 4 (Zb 6) Fi)))))
  (Zn (ZB (Z6 T.n_tuple (Ba (Mv T.n_sorted rfl (Zr 4)))))))))
theorem lV:Zv ["works","looks","crowd"] ["works","looks","crowd"] (Ze MO):=qv
theorem lU(T:qo K mg)(DM:Callee P w K mg base k "parted" Z5)(Rz:Callee P w K mg base k "deeds_with" K5)(PZ:Callee P w K mg base k "led_to" IS)(D:qb K mg "ways_with" MO ["works","looks","crowd"]):Callee P w K mg base (k+1) "ways_with" Fu :=
 D.ok lV λ_ pV A outer s H E hr=>by exact(Zn (ZB (EE (BE rfl rfl (N:=["deed","works","looks","crowd"]) (ZG (sc:=Ze MO) (XN:=["works","looks","crowd"])) (ZS (Zl Rz hr (Zd (Zb 0) (Zd (Zb 2) Zh)))) (λ_ _ _ _ _=>Co) (λ_ _ _ _ _=>(FV (Zd (Zb 0) (Zd (Zl DM hr (Zd (Zb 1) (Zd (Zb 2) (Zd (Zl PZ hr (Zd (Zb 1) (Zd (Zb 3) (Zd (Zb 0) Zh)))) Zh)))) Zh))))))))
abbrev K2:List Str:=["ways","costs","cost_by","told"]
theorem XU:Zv K2 ["ways","costs","cost_by"] (Ze K3):=qv
theorem m7(T:qo K mg)(CV:Ge P w K mg base k ap)(D:qb K mg "least_cost" K3 ["ways","costs","cost_by"]):Callee P w K mg base (k+1) "least_cost" (Jj ap) :=
 D.ok XU λ_ pV A outer s H E hr=>by
  exact(Zf (KD 3 XU.nd rfl rfl (N:="way" :: K2) (ZG (sc:=Ze K3) (XN:=K2)) (ZS (Zb 0)) (λ_ _ _ _ _=>Co) (λ_ _ _ _ _=>(VJ CV hr 3 (Zd (Zb 0) (Zd (Zb 2) Zh)))))
  (Zn (FU 3 (ZB (L8 T.n_min rfl (Ba (BE rfl rfl (N:="cost" :: K2) (ZG (sc:=Ze K3) (XN:=K2)) (ZS (Zb 3)) (λ_ _ _ _ _=>(DO (BJ OD (Zb 0) CS))) (λ_ _ _ _ _=>(Zb 0)))))))))
theorem M1:Zv ["reach","costs","cost_by","found","crowd","cost"] ["reach","costs","cost_by"] (Ze RB):=qv
theorem mZ(T:qo K mg)(Ry:Callee P w K mg base k "least_cost" (Jj ap))(Fn:sL K "next_costs" "next_costs" RB f fd)(hm:mg "next_costs"=Z (.ref f))(hb:Binds K fd ["reach","costs","cost_by"] []):F6 P w K mg base (k+1) "next_costs" (Gj ap) :=
 jo Fn M1 hm hb λpV A outer s H E hr=>by
  have hu:=D9 hr;exact(U9 (Z7 3 M1.nd Oy)
  (U9 (Ma 0 (CU 4 M1.nd rfl rfl (L9 0) (Zn (BD (Wd hu (Zb 4) (Zr 1)) (Zf (ZP 5 M1.nd (Zl Ry hr (Zd (G4 hu (Zr 0) (Zb 4)) (Zd (Zb 1) (Zd (Zb 2) Zh)))))
  (Zn (BD (BJ OD (Zb 5) CS) (Zn (JZ hu 3 (Zb 4) (Zb 5))) BG))) BG))))
  (eJ 3)))
theorem ku:Zv ["works"] ["works"] (Ze Qr):=qv
theorem kr(T:qo K mg)(D:qb K mg "goal_of" Qr ["works"]):Callee P w K mg base (k+1) "goal_of" KI :=
 D.ok ku λ_ pV A outer s H E hr=>by exact(Zn (ZB (Z0 (Zr 0) Zm)))
theorem lD:Zv ["works","crowd"] ["works","crowd"] (Ze MU):=qv
theorem lC(T:qo K mg)(Qj:Callee P w K mg base k "goal_of" KI)(D:qb K mg "is_there" MU ["works","crowd"]):Callee P w K mg base (k+1) "is_there" Gm :=
 D.ok lD λ_ pV A outer s H E hr=>by exact(Zn (ZB (IB T.n_all rfl (Ba (BE rfl rfl (N:=["state","works","crowd"]) (ZG (sc:=Ze MU) (XN:=["works","crowd"])) (ZS (Zb 1)) (λ_ _ _ _ _=>Co) (λ_ _ _ _ _=>(bY (Zb 0) (B2 (Zl Qj hr (Zd (Zb 1) Zh))))))))))
abbrev MQ:List Str:=["works","reach","cost_by","costs","cost","found","crowd","offered"]
theorem Gi:Zv MQ ["works","reach","cost_by"] (Ze Ja):=qv
theorem lB(T:qo K mg)(QN:Callee P w K mg base k "is_there" Gm)(Gf_next_costs:F6 P w K mg base k "next_costs" (Gj ap))(D:qb K mg "costs_of" Ja ["works","reach","cost_by"]):Callee P w K mg base (k+1) "costs_of" (Gk ap) :=
 D.ok Gi λ_ pV A outer s H E hr=>by
  have hu:=D9 hr;exact(Zf (Z7 3 Gi.nd Oy)
  (Zf (ZP 4 Gi.nd Zm)
  (Zf (Ma 1 (KD 5 Gi.nd rfl rfl (N:=["crowd","works","reach","cost_by","costs","cost","found"," ","offered"]) (ZG (sc:=Ze Ja) (XN:=MQ)) (L9 1) (λ_ _ _ _ _=>(DO (Dy (Zl QN hr (Zd (Zb 1) (Zd (Zb 0) Zh)))))) (λ_ _ _ _ _=>(Zb 0))))
  (Zf (PQ 100000 rfl (BJ wN (C7 T.n_len (Zr 5)) Zm) (Zf (FU 5 (CU 6 Gi.nd rfl rfl (ZS (Zb 5)) (Zn (JZ hu 3 (Zb 6) (Zb 4)))))
  (Zf (Z7 7 Gi.nd (gv Gf_next_costs hr (VL (Zb 1) (gx (Zr 3) (VL (Zb 2) (bW Zh))))))
  (Zf (FU 7 (Ma 7 (ZP 4 Gi.nd (L8 T.n_min rfl (Ba (BE rfl rfl (N:=["crowd","works","reach","cost_by","costs","cost","found"," ","offered"]) (ZG (sc:=Ze Ja) (XN:=MQ)) (L9 7) (λ_ _ _ _ _=>Co) (λ_ _ _ _ _=>(G4 hu (Zr 8) (Zb 0)))))))))
  (Zn (FU 7 (Ma 7 (KD 5 Gi.nd rfl rfl (N:=["crowd","works","reach","cost_by","costs","cost","found"," ","offered"]) (ZG (sc:=Ze Ja) (XN:=MQ)) (L9 7) (λ_ _ _ _ _=>(DO (BJ (u6 hr) (G4 hu (Zr 8) (Zb 0)) (Zb 5)))) (λ_ _ _ _ _=>(Zb 0))))))))))
  (Zn (FU 3 (ZB (Zb 3))))))))
theorem K7:Zv ["crowds","ways_for","reach","waiting","crowd","way"] ["crowds","ways_for"] (Ze RJ):=qv
theorem nq(T:qo K mg)(Z2:Callee P w K mg base k "crowds_in" ZC)(Rb:Gd P w K mg base k "crowds_in" ZC)(CV:Ge P w K mg base k ap)(D:qb K mg "reached_from" RJ ["crowds","ways_for"]):Callee P w K mg base (k+1) "reached_from" (La ap) :=
 D.ok K7 λ_ pV A outer s H E hr=>by
  have hu:=D9 hr;exact(Zf (Z7 2 K7.nd Oy)
  (Zf (Z7 3 K7.nd (Mw T.n_list (Zr 0)))
  (Zf (PQ 100000 rfl (BJ wN (C7 T.n_len (Zr 3)) Zm) (Zf (bV 4 3 K7.nd)
  (Zn (BD (Wd hu (Zb 4) (Zr 2)) (Zf (JZ hu 2 (Zb 4) (VJ CV hr 1 (Zd (Zb 4) Zh)))
  (Zn (CU 5 K7.nd rfl rfl (ZS (G4 hu (Zr 2) (Zb 4))) (Zn (jJ 3 (Ba (gw Rb hr (Zd (Z0 (Zr 5) Zm) Zh)))))))) BG))))
  (Zn (FU 2 (ZB (Zb 2)))))))
theorem mS:Zv ["works","looks","crowd"] ["works","looks","crowd"] (Ze ZO):=qv
theorem bA:Ou ["works","looks","crowd"] (Ze ZO) (Ig ZO) ["works","looks"] [0,1]=Aa:=by decide +kernel
theorem mR(T:qo K mg)(Rw:Callee P w K mg base k "reached_from" (La ap))(Z2:Callee P w K mg base k "crowds_in" ZC)(DM:Callee P w K mg base k "parted" Z5)(KP:Callee P w K mg base k "ways_with" Fu){Tl:Addr}(hc:FC K c Tl=Aa)(ht:(Tl,("coming_from.<locals>.<lambda>":Str))∈FX.tl)(hq:∀q,(Tl,q)∈FX.tl->q=("coming_from.<locals>.<lambda>":Str))(bm:BMod base mg)(good:∀F p cs,sZ K F p (SK ZO) (Ot ZO) (Ig ZO) ["works","looks"] cs->FX.fv 1 cs F p)(Fn:LJ K "coming_from" "coming_from" ZO f fd c)(hm:mg "coming_from"=Z (.ref f))(hb:Binds K fd ["works","looks","crowd"] []):Callee P w K mg base (k+1) "coming_from" (Hu ap) :=
 jw Fn mS hm hb λA outer s H E hr=>by exact(Zn (ZB (jW Rw hr (gX bA hc ht hq bm good) (Zl Z2 hr (Zd (Zl DM hr (Zd (Zb 0) (Zd (Zb 1) (Zd (Zb 2) Zh)))) Zh)))))
theorem lA:Zv ["works"] ["works"] (Ze QU):=qv
theorem lz(T:qo K mg)(D:qb K mg "begin_of" QU ["works"]):Callee P w K mg base (k+1) "begin_of" DT :=
 D.ok lA λ_ pV A outer s H E hr=>by exact(Zn (ZB (Z0 (Zr 0) Zm)))
theorem ny:Zv ["works","looks"] ["works","looks"] (Ze RF):=qv
theorem nv(T:qo K mg)(Z2:Callee P w K mg base k "crowds_in" ZC)(DM:Callee P w K mg base k "parted" Z5)(Fj:Callee P w K mg base k "begin_of" DT)(D:qb K mg "parts_of_begin" RF ["works","looks"]):Callee P w K mg base (k+1) "parts_of_begin" Ji :=
 D.ok ny λ_ pV A outer s H E hr=>by exact(Zn (ZB (Zl Z2 hr (Zd (Zl DM hr (Zd (Zb 0) (Zd (Zb 1) (Zd (Zl Fj hr (Zd (Zb 0) Zh)) Zh)))) Zh))))
theorem W7:Zv ["works","looks","luck"] ["works","looks"] (Ze MC):=qv
theorem kq(T:qo K mg)(IM:Callee P w K mg base k "checked" Hl)(Je:Callee P w K mg base k "checked_looks" Hz)(IY:Callee P w K mg base k "costs_of" (Gk ap))(Jl:Callee P w K mg base k "coming_from" (Hu ap))(Fj:Callee P w K mg base k "begin_of" DT)(RE:Callee P w K mg base k "parts_of_begin" Ji)(Vff_deeds_by_luck:xE mg "deeds_by_luck" 3)(D:qb K mg "by_luck" MC ["works","looks"]):Callee P w K mg base (k+1) "by_luck" (KH ap) :=
 D.ok W7 λ_ pV A outer s H E hr=>by
  have hu:=D9 hr;exact(Zf (Mb (Zl IM hr (Zd (Zb 0) Zh)))
  (Zf (Mb (Zl Je hr (Zd (Zb 0) (Zd (Zb 1) Zh))))
  (Zf (ZP 2 W7.nd (Zl IY hr (Zd (Zb 0) (Zd (Zl Jl hr (Zd (Zb 0) (Zd (Zb 1) (Zd (Zl Fj hr (Zd (Zb 0) Zh)) Zh)))) (Zd (TU Vff_deeds_by_luck) Zh)))))
  (Zn (ZB (L8 T.n_min rfl (Ba (BE rfl rfl (N:=["part","works","looks","luck"]) (ZG (sc:=Ze MC) (XN:=["works","looks","luck"])) (ZS (Zl RE hr (Zd (Zb 0) (Zd (Zb 1) Zh)))) (λ_ _ _ _ _=>(DO (O1 hu (Zb 0) (Zr 3)))) (λ_ _ _ _ _=>(G4 hu (Zr 3) (Zb 0)))))))))))
theorem lT:Zv ["works","coming"] ["works","coming"] (Ze Rj):=qv
theorem lS(T:qo K mg)(IY:Callee P w K mg base k "costs_of" (Gk ap))(Vff_deeds_by:xE mg "deeds_by" 0)(D:qb K mg "depths_of" Rj ["works","coming"]):Callee P w K mg base (k+1) "depths_of" (M6 ap) :=
 D.ok lT λ_ pV A outer s H E hr=>by exact(Zn (ZB (Zl IY hr (Zd (Zb 0) (Zd (Zb 1) (Zd (TU Vff_deeds_by) Zh))))))
theorem Qi:Zv ["works","looks","begin","depths"] ["works","looks"] (Ze P0):=qv
theorem j7(T:qo K mg)(IM:Callee P w K mg base k "checked" Hl)(Je:Callee P w K mg base k "checked_looks" Hz)(Fj:Callee P w K mg base k "begin_of" DT)(Q9:Callee P w K mg base k "depths_of" (M6 ap))(Jf:Callee P w K mg base k "cost_at_worst" Fq)(Jl:Callee P w K mg base k "coming_from" (Hu ap))(DM:Callee P w K mg base k "parted" Z5)(D:qb K mg "fewest" P0 ["works","looks"]):Callee P w K mg base (k+1) "fewest" (Gg ap) :=
 D.ok Qi λ_ pV A outer s H E hr=>by
  exact(Zf (Mb (Zl IM hr (Zd (Zb 0) Zh)))
  (Zf (Mb (Zl Je hr (Zd (Zb 0) (Zd (Zb 1) Zh))))
  (Zf (ZP 2 Qi.nd (Zl Fj hr (Zd (Zb 0) Zh)))
  (Zf (ZP 3 Qi.nd (Zl Q9 hr (Zd (Zb 0) (Zd (Zl Jl hr (Zd (Zb 0) (Zd (Zb 1) (Zd (Zb 2) Zh)))) Zh))))
  (Zn (ZB (Zl Jf hr (Zd (Zl DM hr (Zd (Zb 0) (Zd (Zb 1) (Zd (Zb 2) Zh)))) (Zd (Zb 3) Zh)))))))))
theorem lR:Zv ["_law_found"] ["_law_found"] (Ze Ri):=qv
theorem lQ(T:qo K mg)(D:qb K mg "_law_whole" Ri ["_law_found"]):Callee P w K mg base (k+1) "_law_whole" M7 :=
 D.ok lR λ_ pV A outer s H E hr=>by exact(Zn (ZB (Ec (WC T.n_isinstance T.n_int (Zb 0)) (Ed (cj (WW T.n_isinstance T.n_bool (Zb 0)))))))
abbrev MH:List Str:=["_law_works_here","_law_looks_here","_law_crowd_here","_law_found","_law_state","_law_seen"]
theorem MW:Zv MH ["_law_works_here","_law_looks_here","_law_crowd_here"] (Ze KQ):=qv
theorem lP(T:qo K mg)(D:qb K mg "_law_split" KQ ["_law_works_here","_law_looks_here","_law_crowd_here"]):Callee P w K mg base (k+1) "_law_split" IW :=
 D.ok MW λ_ pV A outer s H E hr=>by
  have hu:=D9 hr;exact(Zf (Z7 3 MW.nd TX)
  (Zf (CU 4 MW.nd rfl rfl (ZS (Zb 2)) (Zf (ZP 5 MW.nd (Z6 T.n_tuple (Ba (BE rfl rfl (N:="_law_look" :: MH) (ZG (sc:=Ze KQ) (XN:=MH)) (ZS (Zb 1)) (λ_ _ _ _ _=>Co) (λ_ _ _ _ _=>(Z0 (B2 (Z0 (B2 (Z0 (Zr 1) Zm)) (Zb 0))) (Zb 5)))))))
  (Zf (BD (gB hu (Zb 5) (Zr 3)) (Zn (jM hu 3 (Zb 5))) BG)
  (Zn (gz hu 3 (Zb 5) (Zb 4))))))
  (Zn (ZB (EE (BE rfl rfl (N:=["_law_seen","_law_works_here","_law_looks_here","_law_crowd_here","_law_found","_law_state"," "]) (ZG (sc:=Ze KQ) (XN:=MH)) (ZS (EE (Mv T.n_sorted rfl (Zr 3)))) (λ_ _ _ _ _=>Co) (λ_ _ _ _ _=>(FV (Zd (Zb 0) (Zd (Z6 T.n_tuple (TV hu 4 (Zb 0))) Zh))))))))))
abbrev Rq:List Str:=["_law_works_here","_law_crowd_here"]
theorem lO:Zv Rq ["_law_works_here","_law_crowd_here"] (Ze MK):=qv
theorem lN(T:qo K mg)(D:qb K mg "_law_there" MK ["_law_works_here","_law_crowd_here"]):Callee P w K mg base (k+1) "_law_there" Fv :=
 D.ok lO λ_ pV A outer s H E hr=>by exact(Zn (ZB (Fg (u6 hr) (EE (BE rfl rfl (N:="_law_state" :: Rq) (ZG (sc:=Ze MK) (XN:=Rq)) (ZS (Zb 1)) (λ_ _ _ _ _=>(DO (jL (Zb 0) (B2 (Z0 (Zr 1) Zm))))) (λ_ _ _ _ _=>(Zb 0)))) (EE (C8 Zh)))))
theorem MS:Zv ["_law_works_here","_law_crowd_here","_law_deed_here","_law_found","_law_state"] ["_law_works_here","_law_crowd_here","_law_deed_here"] (Ze Qo):=qv
theorem ko(T:qo K mg)(D:qb K mg "_law_led" Qo ["_law_works_here","_law_crowd_here","_law_deed_here"]):Callee P w K mg base (k+1) "_law_led" Jc :=
 D.ok MS λ_ pV A outer s H E hr=>by
  exact(Zf (Z7 3 MS.nd (C8 Zh))
  (Zf (CU 4 MS.nd rfl rfl (ZS (Zb 1)) (Zf (BD (BJ (u6 hr) (Z0 (B2 (Z0 (B2 (Z0 (Zr 0) Zm)) (Zb 2))) (Zb 4)) (FV Zh)) (Zn (ZB CS)) BG)
  (Zn (Z7 3 MS.nd (J1 (Zr 3) (Ba (Mw T.n_list (B2 (Z0 (B2 (Z0 (B2 (Z0 (Zr 0) Zm)) (Zb 2))) (Zb 4))))))))))
  (Zn (ZB (Z6 T.n_tuple (Ba (Xn T.n_sorted T.n_set rfl (Zr 3))))))))
abbrev Iy:List Str:=["_law_script","_law_works_here","_law_looks_here","_law_here","_law_met","_law_due","_law_many","_law_more","_law_crowd_here","_law_deed_here","_law_other","_law_found","_law_least"]
theorem Cc:Zv Iy ["_law_script"] (Ze EI):=qv
theorem fY(T:qo K mg)(Q8:Callee P w K mg base k "_law_works" Fw)(Q7:Callee P w K mg base k "_law_looks" KU)(Qh:Callee P w K mg base k "by_luck" (KH ap))(Mt:Callee P w K mg base k "fewest" (Gg ap))(Eh:Callee P w K mg base k "_law_cell" DC)(Q6:Callee P w K mg base k "_law_whole" M7)(MI:Callee P w K mg base k "_law_split" IW)(Q5:Callee P w K mg base k "_law_there" Fv)(Qg:Callee P w K mg base k "_law_led" Jc)(Fn:sL K "law" "law" EI f fd):Ck P w K mg base rY (k+1) f fd ["_law_script"] (spD K 1 (GX ap)) :=
 T4 Fn Cc λpV A outer s H E hr=>by
  exact(Zf (ZP 1 Cc.nd (Zl Q8 hr (Zd (Zb 0) (Zd Zm Zh))))
  (Zf (ZP 2 Cc.nd (Zl Q7 hr (Zd (Zb 1) (Zd (Zl Eh hr (Zd (Zb 0) (Zd Zm Zh))) Zh))))
  (Zf (kJ 3 Cc.nd rfl rfl (N:="_law_seen" :: "_law_part" :: Iy) (ZG (sc:=Ze EI) (XN:=Iy)) (ZS (Zl MI hr (Zd (Zb 1) (Zd (Zb 2) (Zd (Z0 (Zr 1) Zm) Zh))))) (λ_ _ _ _ _=>Co) (λ_ _ _ _ _=>(Zb 1)))
  (Zf (Z7 4 Cc.nd (Mw T.n_list (Zr 3)))
  (Zf (ZP 5 Cc.nd CS)
  (Zf (ZP 6 Cc.nd Zm)
  (Zf (PQ 100000 rfl (bU 3 (LH (cm (BJ (cNe hr) (Zb 3) (EE (C8 Zh))) (f7 (BJ GP (Zb 5) CS))))) (Zf (FU 3 (BD (bX (Ba (BE rfl rfl (N:=["_law_crowd_here","_law_script","_law_works_here","_law_looks_here","_law_here","_law_met","_law_due","_law_many","_law_more"," ","_law_deed_here","_law_other","_law_found","_law_least"]) (ZG (sc:=Ze EI) (XN:=Iy)) (ZS (Zb 3)) (λ_ _ _ _ _=>(DO (Dy (Zl Q5 hr (Zd (Zb 2) (Zd (Zb 0) Zh)))))) (λ_ _ _ _ _=>(Zb 0))))) (Zn (ZP 5 Cc.nd (Zb 6))) BG))
  (Zf (Z7 7 Cc.nd (C8 Zh))
  (Zf (FU 3 (CU 8 Cc.nd rfl rfl (ZS (Zb 3)) (Zn (CU 9 Cc.nd rfl rfl (Fp T.n_range (C7 T.n_len (B2 (Z0 (Zr 1) Zm)))) (Zf (ZP 10 Cc.nd (Zl Qg hr (Zd (Zb 1) (Zd (Zb 8) (Zd (Zb 9) Zh)))))
  (Zn (BD (BJ OD (Zb 10) CS) (Zn (Z7 7 Cc.nd (J1 (Zr 7) (Ba (gA rfl rfl (N:="_law_seen" :: "_law_part" :: Iy) (ZG (sc:=Ze EI) (XN:=Iy)) (ZS (Zl MI hr (Zd (Zb 1) (Zd (Zb 2) (Zd (Zb 10) Zh))))) (λ_ _ _ _ _=>(DO (jK hr (Zb 1) (Zr 6)))) (λ_ _ _ _ _=>(Zb 1))))))) BG)))))))
  (Zf (Z7 3 Cc.nd (mQ T.n_sorted T.n_set rfl hr.units (Zr 7)))
  (Zf (Z7 4 Cc.nd (J1 (Zr 4) (Zr 3)))
  (Zn (ZP 6 Cc.nd (ZH Bm (Zb 6) Zm)))))))))
  (Zf (ZP 11 Cc.nd (Zl Qh hr (Zd (Zb 1) (Zd (Zb 2) Zh))))
  (Zf (BD (BJ GP (Zb 5) CS) (Zn (ZB (Ec (Fg GP (Zb 11) CS) (Ed (Fg GP (Zl Mt hr (Zd (Zb 1) (Zd (Zb 2) Zh))) CS))))) BG)
  (Zf (ZP 12 Cc.nd (Zl Mt hr (Zd (Zb 1) (Zd (Zb 2) Zh))))
  (Zn (ZB (Ec (Zl Q6 hr (Zd (Zb 11) Zh)) (Ec (Fg (u6 hr) (Zb 11) (Zb 5)) (Ed (bj (Fg GP (Zb 12) CS) (Ed (Fg xB (Zb 11) (Zb 12)))))))))))))))))))
def zI(K:Ae)(t:Nat)(cs:List PyData)(F:Hp)(a:Addr):Prop :=
 (t=0/\cs=[]/\ER K Bg "deeds_by"=Z (Z (.ref a)))\/(t=3/\cs=[]/\ER K Bg "deeds_by_luck"=Z (Z (.ref a)))\/(t=1/\sZ K F a (SK ZO) (Ot ZO) (Ig ZO) ["works","looks"] cs)
theorem aQ:PL (Ig ZO) "part" ["works","looks"]:=⟨rfl,rfl,rfl,by decide +kernel,rfl,by decide +kernel,by decide +kernel⟩
theorem c9(T:qo K mg)(KP:Callee P w K mg base k "ways_with" Fu)(qual:Str)(f:Addr)(cd:Value)(pS:List (Str×Addr))(A:Around)(outer:List PySem.Env)(s:Shared)(H:Hp)(hr:Z9 k (A.deeper (JA qual (Ig ZO) s.heap.objs.size f cd pS))):XE (LL P w K mg base ["part","works","looks"] qual (Ig ZO) f cd pS A outer s H) (Ot ZO) (Zj Fu (Zc (Za 1) (Zc (Za 2) (Zc (Za 0) Zk)))):=by
 have hu:=D9 hr;exact(Zl KP hr (Zd (Zb 1) (Zd (Zb 2) (Zd (Zb 0) Zh))))
theorem a8(T:qo K mg)(V:∀t cs F a,FX.fv t cs F a->zI K t cs F a){f0:Addr}{fd0:FuncData}(Fn0:sL K "deeds_by" "deeds_by" MT f0 fd0)(hm0:mg "deeds_by"=Z (.ref f0))(xi:∀a,ER K Bg "deeds_by"=Z (Z (.ref a))->mg "deeds_by"=Z (.ref a))(QM:Callee P w K mg base (k+1) "deeds_by" Kw){f1:Addr}{fd1:FuncData}(Fn1:sL K "deeds_by_luck" "deeds_by_luck" K8 f1 fd1)(xk:mg "deeds_by_luck"=Z (.ref f1))(yu:∀a,ER K Bg "deeds_by_luck"=Z (Z (.ref a))->mg "deeds_by_luck"=Z (.ref a))(RG:Callee P w K mg base (k+1) "deeds_by_luck" Jg)(Lf_ways_with:Callee P w K mg base k "ways_with" Fu):Ge P w K mg base (k+1) ap:=by
 constructor
 .intro t cs F a h A outer s H e0 sub
  rcases V t cs F a h with⟨rfl,rfl,hn⟩|⟨rfl,rfl,hn⟩|⟨rfl,hC⟩
  .exact Uh Fn0 hm0 (xi a hn) e0
  .exact Uh Fn1 xk (yu a hn) e0
  .exact aT hC e0 sub
 .intro t cs F a h A outer s H e0 sub us vs ds d Q hr tb nt rv rs vH kk
  rcases V t cs F a h with⟨rfl,rfl,hn⟩|⟨rfl,rfl,hn⟩|⟨rfl,hC⟩
  .exact U0 QM (xi a hn) e0 sub hr tb nt rv rs vH kk
  .exact U0 RG (yu a hn) e0 sub hr tb nt rv rs vH kk
  .exact dn aQ (λ_ _ _ _ _ _=>rfl) (c9 T Lf_ways_with) hC e0 sub hr tb nt rv rs vH kk
def x6:List (Addr×Str):=[(221,"coming_from.<locals>.<lambda>")]
@[reducible] def xA(K:Ae):FX where
 tl:=x6
 fv:=zI K
 sw:=λhF rn h=>by
  rcases h with h|h|h
  .exact AD (h)
  .exact Ap (AD (h))
  .exact Ap (Ap ((⟨h.1,h.2.sw hF rn⟩)))
 drop:=λh=>by
  rcases h with h|h|h
  .exact AD (h)
  .exact Ap (AD (h))
  .exact Ap (Ap ((⟨h.1,h.2.drop⟩)))
 mono:=λh s=>by
  rcases h with h|h|h
  .exact AD (h)
  .exact Ap (AD (h))
  .exact Ap (Ap ((⟨h.1,h.2.mono s⟩)))
theorem om{kV:Value}(X:K.In h)(G:h.Ns Bg mg)(a:ER K Bg x=Z (Z (.ref f)))(l:K.lookup f=Z ⟨oc,od,.func (Dh x x (DN st) (BW st) (Ze st) .none kV qU pm an pV ct),sA⟩)(c:GD K pV x=Aa)(kp:Et K (.ref f)=Aa)(b:∀(kV qU pm:Value) (an:Option Addr) (pV ct:Value) (us:List Value),us.length=ps.length->bindArgs (Dh x x (DN st) (BW st) (Ze st) .none kV qU pm an pV ct) ⟨us,[]⟩=pure (ps.zip us)):qb K mg x st ps :=
 ⟨f,_,OM l c kp,Lu X G a,(OM l c kp).binds b⟩
structure SD(K:Ae)(mg:Str->Option Value)(x:Str)(st:Stmt)(ps:List Str)(c T:Addr):Prop where
 ex:∃f fd,LJ K x x st f fd c/\mg x=Z (.ref f)/\Binds K fd ps []/\FC K c T=Aa
theorem oq{T:Addr}{kV:Value}(X:K.In h)(G:h.Ns Bg mg)(a:ER K Bg x=Z (Z (.ref f)))(l:K.lookup f=Z ⟨oc,od,.func (Dh x x (DN st) (BW st) (Ze st) .none kV qU pm an pV ct),sA⟩)(cc:GD K pV x=Aa)(kp:Et K (.ref f)=Aa)(b:∀(kV qU pm:Value) (an:Option Addr) (pV ct:Value) (us:List Value),us.length=ps.length->bindArgs (Dh x x (DN st) (BW st) (Ze st) .none kV qU pm an pV ct) ⟨us,[]⟩=pure (ps.zip us))(e:pV=.ref c)(hc:FC K c T=Aa):SD K mg x st ps c T:=by
 subst e;exact⟨f,_,dR l cc kp,Lu X G a,.all (b kV qU pm an _ ct),hc⟩
def zE(K:Ae)(mg:Str->Option Value)(x:Str):Prop:=(∀a,ER K Bg x=Z (Z (.ref a))->mg x=Z (.ref a))/\∃f,ER K Bg x=Z (Z (.ref f))
theorem oh(X:K.In h)(G:h.Ns Bg mg)(a:ER K Bg x=Z (Z (.ref f))):zE K mg x:=⟨λ_ e=>Lu X G e,f,a⟩
end
structure Ds(K:Ae)(mg:Str->Option Value):Prop where
 oT:qb K mg "_law_cell" QT ["_law_script","_law_k"]
 oJ:qb K mg "_law_mix" Qp ["_law_cell_here","_law_prime","_law_many"]
 pz:qb K mg "_law_crowd" MN ["_law_cell_here","_law_many","_law_least"]
 oR:qb K mg "_law_deed" QS ["_law_cell_here","_law_many"]
 oQ:qb K mg "_law_walk" QR ["_law_cell_here","_law_many"]
 pw:qb K mg "_law_works" MM ["_law_script","_law_at"]
 pq:qb K mg "_law_looks" ML ["_law_works_here","_law_cell_here"]
 pk:qb K mg "is_number" Rm ["thing","least","most"]
 pj:qb K mg "is_rising" Rl ["thing","many"]
 oP:qb K mg "is_crowd" QX ["thing","many"]
 oA:qb K mg "is_row" P2 ["thing","least","most"]
 oH:qb K mg "is_deed" MF ["thing","many"]
 ph:qb K mg "are_deeds" M5 ["thing","many"]
 oG:qb K mg "is_look" ME ["thing","many"]
 pg:qb K mg "are_looks" M4 ["thing","many"]
 pf:qb K mg "are_works" Rk ["thing"]
 oF:qb K mg "checked" Qq ["works"]
 oO:qb K mg "looks_of" QV ["works"]
 pI:qb K mg "checked_looks" RH ["works","looks"]
 pK:qb K mg "crowds_in" IV ["rows"]
 pH:qb K mg "cost_at_worst" M8 ["rows","costs"]
 pJ:qb K mg "deeds_by" MT ["way","depths"]
 pL:qb K mg "deeds_by_luck" K8 ["way","luck"]
 oE:qb K mg "seen_in" MD ["works","looks","state"]
 oz:qb K mg "parted" Mu ["works","looks","crowd"]
 oN:qb K mg "deeds_of" QW ["works"]
 pF:qb K mg "can_be_done" Nb ["works","crowd","deed"]
 pC:qb K mg "deeds_with" MY ["works","crowd"]
 ow:qb K mg "led_to" P1 ["works","crowd","deed"]
 pe:qb K mg "ways_with" MO ["works","looks","crowd"]
 pB:qb K mg "least_cost" K3 ["ways","costs","cost_by"]
 pA:qb K mg "next_costs" RB ["reach","costs","cost_by"]
 oD:qb K mg "goal_of" Qr ["works"]
 oM:qb K mg "is_there" MU ["works","crowd"]
 oK:qb K mg "costs_of" Ja ["works","reach","cost_by"]
 pD:qb K mg "reached_from" RJ ["crowds","ways_for"]
 pE:SD K mg "coming_from" ZO ["works","looks","crowd"] 225 221
 oV:qb K mg "begin_of" QU ["works"]
 pG:qb K mg "parts_of_begin" RF ["works","looks"]
 oC:qb K mg "by_luck" MC ["works","looks"]
 oZ:qb K mg "depths_of" Rj ["works","coming"]
 ou:qb K mg "fewest" P0 ["works","looks"]
 oY:qb K mg "_law_whole" Ri ["_law_found"]
 oX:qb K mg "_law_split" KQ ["_law_works_here","_law_looks_here","_law_crowd_here"]
 oW:qb K mg "_law_there" MK ["_law_works_here","_law_crowd_here"]
 oB:qb K mg "_law_led" Qo ["_law_works_here","_law_crowd_here","_law_deed_here"]
 Nf_deeds_by:zE K mg "deeds_by"
 Nf_deeds_by_luck:zE K mg "deeds_by_luck"
section
variable[FX]{P:Program}{w:World}{K:Ae}{mg:Str->Option Value}{base:Heap}{k:Nat}
theorem oj(T:qo K mg)(hV:∀t cs F a,FX.fv t cs F a↔zI K t cs F a)(hTL:FX.tl=x6)(Dd:Ds K mg)(bm:BMod base mg){f:Addr}{fd:FuncData}(Fn:sL K "law" "law" EI f fd):Ck P w K mg base rY 11 f fd ["_law_script"] (spD K 1 (GX ap)):=by
 have Vff_deeds_by:xE mg "deeds_by" 0:=by obtain⟨h1,g,h2⟩:=Dd.Nf_deeds_by;exact⟨g,h1 g h2,λF=>(hV _ _ _ _).mpr (AD (⟨rfl,rfl,h2⟩))⟩
 have Vff_deeds_by_luck:xE mg "deeds_by_luck" 3:=by obtain⟨h1,g,h2⟩:=Dd.Nf_deeds_by_luck;exact⟨g,h1 g h2,λF=>(hV _ _ _ _).mpr (Ap (AD (⟨rfl,rfl,h2⟩)))⟩
 have Eh:Callee P w K mg base 1 _ _:=mM T Dd.oT;have ZI:Callee P w K mg base 1 _ _:=kF T Dd.oJ;have MJ:Callee P w K mg base 2 _ _:=mh T (qd ZI) Dd.pz;have QQ:Callee P w K mg base 2 _ _:=mL T (qd ZI) Dd.oR;have QP:Callee P w K mg base 2 _ _:=mK T (qd ZI) Dd.oQ;have Q8:Callee P w K mg base 3 _ _:=mf T (qd Eh) (qd MJ) (qd ZI) (qd QQ) (qd QP) Dd.pw;have Q7:Callee P w K mg base 2 _ _:=md T (qd ZI) Dd.pq;have Ft:Callee P w K mg base 1 _ _:=l8 T Dd.pk;have DR:Callee P w K mg base 2 _ _:=l7 T (qd Ft) Dd.pj;have QO:Callee P w K mg base 3 _ _:=mI T (qd DR) Dd.oP;have CY:Callee P w K mg base 1 _ _:=kd T Dd.oA;have Qn:Callee P w K mg base 3 _ _:=kD T (qd CY) (qd DR) Dd.oH;have Rh:Callee P w K mg base 4 _ _:=l5 T (qd CY) (qd Qn) Dd.ph;have Qm:Callee P w K mg base 2 _ _:=kB T (qd CY) (qd Ft) Dd.oG;have Rg:Callee P w K mg base 3 _ _:=lY T (qd CY) (qd Qm) Dd.pg;have Rf:Callee P w K mg base 5 _ _:=lX T (qd QO) (qd DR) (qd CY) (qd Ft) (qd Rh) (qd Rg) Dd.pf;have IM:Callee P w K mg base 6 _ _:=kz T (qd Rf) Dd.oF;have IZ:Callee P w K mg base 1 _ _:=mG T Dd.oO;have Je:Callee P w K mg base 3 _ _:=ni T (qd DR) (qd IZ) Dd.pI;have Z2:Callee P w K mg base 1 _ _:=lW T Dd.pK;have Rb:Gd P w K mg base 1 "crowds_in" ZC:=by obtain⟨f,fd,F,m,b⟩:=Dd.pK.ex;exact mW T  F m b
 have Jf:Callee P w K mg base 2 _ _:=ng T (qd Z2) Dd.pH;have QM:Callee P w K mg base 3 _ _:=mF T (qd Jf) Dd.pJ;have RG:Callee P w K mg base 2 _ _:=nc T (qd Z2) Dd.pL;have Qk:Callee P w K mg base 2 _ _:=kx T (qd IZ) Dd.oE;have DM:Callee P w K mg base 3 _ _:=j9 T (qd Qk) Dd.oz;have Fl:Callee P w K mg base 1 _ _:=mD T Dd.oN;have Ru:Callee P w K mg base 2 _ _:=mT T (qd Fl) Dd.pF;have Rz:Callee P w K mg base 3 _ _:=mU T (qd Ru) (qd Fl) Dd.pC;have PZ:Callee P w K mg base 2 _ _:=j8 T (qd Fl) Dd.ow;have KP:Callee P w K mg base 4 _ _:=lU T (qd DM) (qd Rz) (qd PZ) Dd.pe;obtain⟨f0,fd0,F0,m0,b0⟩:=Dd.pJ.ex;obtain⟨f1,fd1,F1,m1,b1⟩:=Dd.pL.ex;have CV:Ge P w K mg base 5 ap:=a8 (k:=4) T (λt cs F a h=>(hV t cs F a).mp h) F0 m0 Dd.Nf_deeds_by.1 (qd QM) F1 m1 Dd.Nf_deeds_by_luck.1 (qd RG) (qd KP);have Ry:Callee P w K mg base 6 _ _:=m7 T (CV.mono (by decide)) Dd.pB;have Gf_next_costs:F6 P w K mg base 7 "next_costs" (Gj ap):=by obtain⟨f,fd,F,m,b⟩:=Dd.pA.ex;exact mZ T (qd Ry) F m b
 have Qj:Callee P w K mg base 1 _ _:=kr T Dd.oD;have QN:Callee P w K mg base 2 _ _:=lC T (qd Qj) Dd.oM;have IY:Callee P w K mg base 8 _ _:=lB T (qd QN) (Gf_next_costs.mono (by decide)) Dd.oK;have Rw:Callee P w K mg base 6 _ _:=nq T (qd Z2) (Rb.mono (by decide)) (CV.mono (by decide)) Dd.pD;have Jl:Callee P w K mg base 7 "coming_from" (Hu ap):=by obtain⟨f,fd,F,m,b,hc⟩:=Dd.pE.ex;exact mR T (qd Rw) (qd Z2) (qd DM) (qd KP) hc (by rw[hTL];decide) (by rw[hTL];intro q h;simpa [x6]using h) bm (λF p cs h=>(hV _ _ _ _).mpr (Ap (Ap ((⟨rfl,h⟩))))) F m b
 have Fj:Callee P w K mg base 1 _ _:=lz T Dd.oV;have RE:Callee P w K mg base 4 _ _:=nv T (qd Z2) (qd DM) (qd Fj) Dd.pG;have Qh:Callee P w K mg base 9 _ _:=kq T (qd IM) (qd Je) (qd IY) (qd Jl) (qd Fj) (qd RE) Vff_deeds_by_luck Dd.oC;have Q9:Callee P w K mg base 9 _ _:=lS T (qd IY) Vff_deeds_by Dd.oZ;have Mt:Callee P w K mg base 10 _ _:=j7 T (qd IM) (qd Je) (qd Fj) (qd Q9) (qd Jf) (qd Jl) (qd DM) Dd.ou;have Q6:Callee P w K mg base 1 _ _:=lQ T Dd.oY;have MI:Callee P w K mg base 1 _ _:=lP T Dd.oX;have Q5:Callee P w K mg base 1 _ _:=lN T Dd.oW;have Qg:Callee P w K mg base 1 _ _:=ko T Dd.oB;exact fY (k:=10) T (qd Q8) (qd Q7) (qd Qh) (qd Mt) (qd Eh) (qd Q6) (qd MI) (qd Q5) (qd Qg) Fn
end
theorem all_mk{l:RV}{w:World}{K:Ae}{mg:Str->Option Value}{fa f4:Addr}{od4 an4:Option Addr}{sl4:Array (Option Value)}{oc4 kV4 dc4 pm4 cd4 ct4:Value}(X:K.In h)(G:h.Ns Bg mg)(hfa:mg "law"=Z (.ref fa))(T:qo K mg)(Dd:Ds K mg)(a4:ER K Bg "law"=Z (Z (.ref f4)))(l4:K.lookup f4=Z ⟨oc4,od4,.func (Dh "law" "law" (DN EI) (BW EI) (Ze EI) .none kV4 dc4 pm4 an4 cd4 ct4),sl4⟩)(c4:GD K cd4 "law"=Aa)(k4:Et K (.ref f4)=Aa):∃fd:FuncData,(∀(s:Shared) (v:Value),BindsTo s fd ⟨[v],[]⟩ [("_law_script",v)])/\∀base:Heap,K.In base->base.Ns Bg mg->BMod base mg->Ck l.prog w K mg base rY 11 fa fd ["_law_script"] (@spD (xA K) K 1 (GX ap)):=by
 have e:=hfa.symm.trans (Lu X G a4);cases e;have fx0:FX:=rJ;exact⟨_,λs v=>.of_eq rfl,λbase _ _ bm=>@oj (xA K) _ _ _ _ _ T (λ_ _ _ _=>Iff.rfl) rfl Dd bm _ _ (OM (st:=EI) l4 c4 k4)⟩
theorem walk{l:RV}{q:Program}{sk:List Str}{XP:(Str->Option Value)->Heap->Prop}{YP:World->Heap->Prop}{d:DefRec}{K:Params->Ae}(hn:l.most=Z 63)(xp:d.params.defaults=[])(WY:∀ns:List Int,ns.length<=63->(GX ap) [.list (HM.rW ns)]=Z (.bool Aa))(hY:∀(w:World) (h:Heap),YP w h->(K w.params).In h)(zr:∀(w:World) (h:Heap),YP w h->∀q∈([(225,221)]:List (Addr×Addr)),h.get? q.2=Z (Jv #[]))(hT:∀(w:World),∀q∈([(225,221)]:List (Addr×Addr)),FC (K w.params) q.1 q.2=Aa/\(K w.params).lookup q.2=Z_)
  (F:∀(w:World) (mg:Str->Option Value) (fa:Addr) (h:Heap),(K w.params).In h->h.Ns Bg mg->mg d.name=Z (.ref fa) ->
   ∃fd:FuncData,(∀(s:Shared) (u:Value),BindsTo s fd ⟨[u],[]⟩ [("_law_script",u)])/\∀base:Heap,(K w.params).In base->base.Ns Bg mg->BMod base mg->Ck l.prog w (K w.params) mg base rY 11 fa fd ["_law_script"] (@spD (xA (K w.params)) (K w.params) 1 (GX ap))):
  PySem.W.WalkO q sk XP YP l.row.toRowW d [] (λf vs=>PySem.call f vs) :=
 gT (n:=63) (k:=11) (x:="_law_script") (sp:=λw=>@spD (xA (K w.params)) (K w.params) 1 (GX ap)) (tabs:=[(225,221)]) hn (by decide) xp ⟨rfl,by decide,by decide⟩ hY zr hT F λw H a ns hl hO hS=>@n9 (xA (K w.params)) _ _ _ _ _ _ hO (λT q h=>by
  have:∀p∈x6,p.1∈([(225,221)]:List (Addr×Addr)).map (·.2):=by decide
  exact this _ h) hS (WY ns hl)
section
variable{P:Program}{w:World}{K:Ae}{mg:Str->Option Value}{base:Heap}{k:Nat}
abbrev nT{K:Ae}(_:K.In h)(mg:Str->Option Value):Prop:=Ds K mg
abbrev oa{K:Ae}(_:K.In h)(mg:Str->Option Value):Prop:=qo K mg
theorem int_mk{mg:Str->Option Value}{n:Str}{v:Value}{k:Int}(h:mg n=Z v)(e:∃t,v=.int k t):∃t,mg n=Z (.int k t):=by obtain⟨t,rfl⟩:=e;exact⟨t,h⟩
end
end HT
namespace PySem.W.Fast
theorem tw1003799474875864315:True:=⟨⟩
theorem tw11097256001949965301:True:=⟨⟩
theorem tw12240585423949649420:True:=⟨⟩
theorem tw12939001561756146696:True:=⟨⟩
theorem tw14453451049200312089:True:=⟨⟩
theorem tw15625442347329932304:True:=⟨⟩
theorem tw15960508817709529286:True:=⟨⟩
theorem tw16618336070715003812:True:=⟨⟩
theorem tw1743035223406081515:True:=⟨⟩
theorem tw17679708609380908860:True:=⟨⟩
theorem tw185358900024517044:True:=⟨⟩
theorem tw2511418516647822744:True:=⟨⟩
theorem tw3235811822951313675:True:=⟨⟩
theorem tw3253686681972008555:True:=⟨⟩
theorem tw3292858933215398577:True:=⟨⟩
theorem tw337334002872448233:True:=⟨⟩
theorem tw3633578610178780348:True:=⟨⟩
theorem tw3990392077178287100:True:=⟨⟩
theorem tw4822183377774908710:True:=⟨⟩
theorem tw5209127867467064893:True:=⟨⟩
theorem tw5616784860313794061:True:=⟨⟩
theorem tw729649842070237523:True:=⟨⟩
theorem tw7674918305498846001:True:=⟨⟩
theorem tw8279228660444421300:True:=⟨⟩
end PySem.W.Fast
open PySem PySem.W PyProof.Rows
set_option maxRecDepth 100000 in
set_option maxHeartbeats 0 in
theorem PySem.Challenge.cw_halfseen_k18_luck_holds : PySem.Challenge.rw_halfseen_k18_luck.Holds := by
 w_on;o_law;k_head;(case hw=>w_witness2)
 k_fill
 refine HT.walk (l:=PySem.Challenge.rw_halfseen_k18_luck) rfl rfl HG18.WY (λw h Y=>PySem.W.km_in_of Y) (λw h Y q hq=>PySem.W.km_tabs_of Y _ (by clear Y;revert q;decide)) ?Tab ?F
 case Tab=>intro w q hq;cases AG.mp hq;exact⟨by kernel_rfl,by kernel_rfl⟩
 case F =>
  intro w mg fa h KX G xj;have fx0:HP.FX:=HP.rJ;have T:HT.oa KX mg:=by
   refine⟨?_,?_,?_,?_,?_,?_,?_,?_,?_,?_,?_,?_,?_,?_,?_,?_⟩
   all_goals first
    |(refine PySem.W.mg_none_of KX G ?z;(case z=>k_is))
    |(refine' HT.int_mk (Lu KX G ?z) ?e;(case z=>k_is);(case e=>exact⟨_,rfl⟩))
  have Dd:HT.nT KX mg:=by
   refine⟨?_,?_,?_,?_,?_,?_,?_,?_,?_,?_,?_,?_,?_,?_,?_,?_,?_,?_,?_,?_,?_,?_,?_,?_,?_,?_,?_,?_,?_,?_,?_,?_,?_,?_,?_,?_,?_,?_,?_,?_,?_,?_,?_,?_,?_,?_,?_,?_⟩
   all_goals first
    |(refine' HT.om KX G ?a ?l ?c ?k ?b;(case a=>k_is);(case l=>k_is);(case c=>k_is);(case k=>k_is);(case b=>first|exact λ_ _ _ _ _ _ us hl=>(match us,hl with|[_],_=>rfl)|exact λ_ _ _ _ _ _ us hl=>(match us,hl with|[_,_],_=>rfl)|exact λ_ _ _ _ _ _ us hl=>(match us,hl with|[_,_,_],_=>rfl)))
    |(refine' HT.oq KX G ?a ?l ?c ?k ?b ?e ?h;(case a=>k_is);(case l=>k_is);(case c=>k_is);(case k=>k_is);(case h=>kernel_rfl);(case e=>exact rfl);(case b=>first|exact λ_ _ _ _ _ _ us hl=>(match us,hl with|[_],_=>rfl)|exact λ_ _ _ _ _ _ us hl=>(match us,hl with|[_,_],_=>rfl)|exact λ_ _ _ _ _ _ us hl=>(match us,hl with|[_,_,_],_=>rfl)))
    |(refine' HT.oh KX G ?z;(case z=>k_is))
  refine' HT.all_mk KX G xj T Dd ?a4 ?l4 ?c4 ?k4
  (case a4=>k_is);(case l4=>k_is);(case c4=>k_is);(case k4=>k_is)