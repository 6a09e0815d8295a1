import PyProof.Rows.All
import Wide.All
import OpenK.AllK
import Wide.FinOn
import Lean
import PyProof.EqAt
import PyProof.EqKinds
import PyProof.TupleCall
import PyProof.P3Statements
import PyProof.P3Eq
import PyProof.NeData
import PyProof.IsiPairs
import PyProof.IsiHeapPairs
import KE.LcSums
import PyProof.IsiNone
import PyProof.DictRoadsH
import PyProof.Rows.SetFrom
import PyProof.DictWalks
import PyProof.Rows.MinMaxN
import PyProof.Rows.SumAny
import PyProof.WalkInts
import PyProof.Draws
import PyProof.EnumMake
import PyProof.TupleIter
import PySem.Challenge.RW_halfseen_k17_whole_more_to_see
set_option Elab.async false
set_option linter.all false
set_option maxRecDepth 100000
set_option bootstrap.genMatcherCode false
open Option renaming some->Z,none->Z_
open Bool renaming true->ZDC,false->ZDD
open PySem renaming wpAny_bind->Zyi,wpAny_pure->Zym,starEach->Zyz,wpAny_newObj_type->Zy4,mainGlobals->Zy7,sizeLine_eq->Zze,bootBuiltins->Zzl,wpAny_holding->Zzp,wpAny_call_entry->Zzv,wpAny_mono->Zzw,codeAny_builtin->ZzA,compareOp->ZzC,mem_of_lookup->ZzN,sysModules->ZzP,codeAny_mono->ZzU,behindInMarks->ZzX,wpAny_Call_Name_kw->Zz9,wpAny_truthy_bool->ZAg,wpAny_typeNameOfWhole_keyiter->ZAj,wpAny_passesOwn->ZAq,wpAny_ite_split->ZAs,plainId_quiet->ZAv,foldedSetIterable->ZAw,binaryOp->ZAC,wpAny_typeNameOf_keyiter->ZAG,attributeBase->ZAS,swapsWith->ZAT,tupleKind_room_in1->ZAU,wpAny_askSetting->ZA7,sliceBounds->ZBd,wpAny_setField->ZBo,wpAny_tryCatch->ZBp,wpAny_dictEntries->ZBt,wpAny_setState_of->ZBv,wpAny_attempt->ZBF,wpAny_newList->ZBG,wpAny_eqBool_int->ZBJ,wpAny_isInstance->ZBL,tupleKind->ZBN,wpAny_execs_nil->ZBQ,letOwnedTupleGo->ZBR,wpAny_call->ZBS,wpAny_newFunctionEnv->ZBW,wpAny_rule->ZBX,intKind_is->ZBY,wpAny_setEntries_of->ZB4,bindArgs->ZB9,wpAny_runValue->ZCd,wpAny_fieldsOf->ZCe,firstArgMember->ZCf,keywordEach->ZCi,wpAny_letGo->ZCj,codeAmong->ZCm,wpAny_pyIter_list->ZCw,wpAny_pyIter_slot->ZCy,wpAny_collect_seq->ZCB,builtinsNs->ZCE,call_meets->ZCF,concat_meets->ZCM,noFill_tuple_add->ZCN,codeAny_of_tree->ZCV,pickOrder->ZCW,wpAny_dictEpoch->ZCX,wpAny_updateSeq->ZCZ,subscripted->ZC2,wpAny_of_eq->ZC3
open List renaming length_map->Zyj,mem_cons_self->Zyo,range->Zyp,mem_cons_of_mem->Zyq,all_eq_true->Zys,mem_singleton->Zyt,size_toArray->Zyu,map_cons->Zyv,getElem?_eq_some_iff->Zyw,mem_map->Zyy,length_append->ZyA,length_cons->ZyD,getElem?_eq_getElem->ZyF,mem_cons->ZyH,getElem?_map->ZyI,mem_range->ZyJ,mem_append->ZyK,map_map->ZyM,mem_append_right->ZyP,mem_of_getElem?->ZyQ,map_append->ZyR,getElem?_set_ne->ZyS,replicate->ZyT,mem_filter->ZyW,getElem?_append_left->ZyY,getElem?_append_right->Zy0,mem_append_left->Zy1,getElem?_cons_succ->Zy3,append_nil->Zy6,length->Zy8,length_replicate->Zy9,pairwise_cons->Zzb,getElem?_set_self->Zzd,any_eq_true->Zzi,nodup_cons->Zzn,find?_cons->Zzo,getD->Zzs,length_set->Zzz,filterMap_cons->ZzB,all_cons->ZzD,length_singleton->ZzF,mem_filterMap->ZzG,length_take->ZzH,map_congr_left->ZzO,length_filter_le->ZzS,eq_nil_of_length_eq_zero->ZzT,length_range->ZzZ,replicate_succ->Zz2,lookup_cons->Zz7,getElem_mem->Zz8,nodup_nil->ZAa,append_assoc->ZAh,mergeSort_perm->ZAk,foldl_cons->ZAr,flatten_cons->ZAx,contains_eq_mem->ZAB,length_drop->ZAD,mem_flatMap->ZAF,filter_cons->ZAH,getElem?_replicate->ZAL,getElem?_cons_zero->ZAM,pairwise_mergeSort->ZAP,any_cons->ZAR,nodup_append->ZAY,map_nil->ZA1,set_getElem_self->ZA2,pairwise_append->ZA5,nil_append->ZBf,pairwise_iff_getElem->ZBg,mem_of_find?_eq_some->ZBh,ne_nil_of_mem->ZBk,filter_eq_nil_iff->ZBC,not_mem_nil->ZBK,min?_eq_some_iff->ZBP,length_nil->ZBT,set_set->ZBU,all_nil->ZB1,getElem_of_mem->ZB3,filter_eq_self->ZB6,length_pos_iff->ZB8,map->ZCa,exists_cons_of_ne_nil->ZCu,find?_append->ZCx,pairwise_map->ZCA,find?_isSome->ZCD,drop_eq_getElem_cons->ZCG,exists_mem_of_ne_nil->ZCJ,getElem?_take_of_lt->ZCL,set_eq_of_length_le->ZCO,cons_append->ZCR,length_filterMap_le->ZCS,of_mem_zip->ZCU,pairwise_lt_range->ZC7,range'->ZC8,getElem?_eq_none->ZC9,max?_eq_some_iff->ZDe,dropLast_eq_take->ZDf,min?_eq_none_iff->ZDh,max?_eq_none_iff->ZDi,contains_iff_mem->ZDj,any_map->ZDz
open PySem.W renaming Frag->Zyk,fnOf->ZzE,codeHdIn->ZzI,keepIn->ZzJ,codeIn->ZAl,envX->ZAp,nsIn->ZAI,tabObj->ZA4,mg_of->ZBI,kla_obj->ZB0,methodObj->ZCv,OpenLaw->ZC0,cellsFrom_some->ZC1,kla_fn->ZDg,codeHd_of_K->ZDu,callWith_K->ZDx,FnAt->ZDA
open Option renaming map_eq_some_iff->Zyl,isSome_iff_exists->Zzg,isSome_map->ZzM,map->ZzY,isSome->ZBc,bind_eq_some_iff->ZBr
open PySem.Heap renaming get?_push_of_some->Zyn,lt_size->ZyB,get?_push_size->ZyC,get?_update_self->Zzy,get?_update_other->ZzK,size_push->ZAb,SameBut->ZAc,size_update->ZA8,get?_push_ne->ZBx,get?_update_ne->ZB5
open Nat renaming le_refl->Zyr,ne_of_lt->ZyG,lt_of_lt_of_le->ZyO,le_trans->Zy2,zero_le->Zzj,le_of_lt->Zz3,lt_irrefl->Zz5,lt_trans->ZAf,lt_succ_of_lt->ZAi,le_of_not_lt->ZAm,lt_succ_self->ZAn,ne_of_gt->ZA0,le_of_eq->ZA3,pow_le_pow_right->ZA9,blt_eq->ZBm
open PySem.SetTable renaming below->Zyx,insertAt->ZyN,insertAt_perm->Zz4,tooFull->ZA6,toList_insertAt->ZBj,fits->ZBD,fill->ZBE,turns->ZDa,bits->ZDn
open Bool renaming and_eq_true->ZyE,false_ne_true->Zy5,false_eq_true->Zzr,or_eq_true->ZzQ,not_eq_true'->ZCC,eq_iff_iff->ZCY,false_or->ZDm,true_and->ZDq
open Array renaming length_toList->ZyL,getElem?_toList->Zza,getD->Zz6,toList_push->ZAy,getElem?_eq_getElem->ZAA,perm_iff_toList_perm->ZBa,getElem?_eq_none->ZBA
open PySem.Value renaming none->ZyU,ref->Zzc,int->Zz0,type->ZAo
open PySem.PyData renaming int->ZyV,tuple->Zzh,bool->Zzk,eqv->ZAV,canLayAll0->ZAX,depthAll->ZB2,eqvAll->ZCt
open Or renaming inr->ZyX,inl->Zzq
open PySem.F renaming called_set->ZyZ,plain_min_loop->ZzL,plainAttrs_list->ZAN,plain_list_iadd->ZAO,args_tuple_add_2->ZBi,entry_tuple_add->ZBq,slot_tuple_add->ZBy,entry_min_loop->ZBB,slot_dict_setdefault->ZCb,plain_proto_collect->ZCo,slot_list_append->ZCP,type_list_append->ZCQ,entry_type_call->ZCT,typeCall_set_1->ZC4,entry_set_init->ZC5,plain_set_new->ZDb,slot_set_iter->ZDc
open False renaming elim->Zzf
open Option.some renaming inj->Zzm
open Ne renaming symm->Zzt
open PySem.Around renaming under_plainId->Zzu,frames_deeper->ZDk
open PySem.Heap.SameBut renaming update->Zzx,refl->ZDB
open List.Nodup renaming length_le_of_subset->ZzR
open PySem.Builtin.Tuple renaming tupleExact->ZzV
open PySem.Obj renaming data_mapFields->ZzW,mapSeq->ZAe,putSet->ZBn,isFreed_of_fields->ZBO,cls_mapFields->ZCz,mapFields->ZDp
open Sum renaming inl->Zz1,inr->ZCK
open PySem.Str renaming ofString->ZAd
open PyProof.Rows.KeyOrd renaming kle_of_not_klt->ZAt,kle_refl->ZAW,kle_of_klt->ZBw,kle_trans->ZBM,kle_antisymm->ZDr
open PySem.NameKind renaming free->ZAu
open PySem.Builtin.Slice renaming slicePlaces->ZAz,sliceAdjust->ZBe,sliceApplied->ZCs
open PySem.Builtin.List renaming listTooLong->ZAE,listLengthHint->ZCn,listExtendWith->ZCp
open PyProof.Rows renaming slot_tuple_getitem->ZAJ,listUpdate_at->ZBb,entry_list_sort->ZBZ,slot_list_sort->ZCh,callWith_type1->ZCk,seqEpoch_at->ZC6,lt_int->ZDs
open PySem.Builtin.Range renaming rangeSize->ZAK,small->ZDt
open PySem.Paired renaming length->ZAQ
open Int renaming toNat_natCast->ZAZ,toNat_of_nonneg->ZB7
open True renaming intro->ZBl
open List.Pairwise renaming nil->ZBs
open PySem.SetTable.below renaming go->ZBu
open PySem.Calls renaming callWith_builtin->ZBz,spliced_cons->ZCl,Name_function_global->ZCr,call_function_entry->ZCH,evalArgs_plain->ZDl
open Function renaming comp->ZBH
open ForInStep renaming yield->ZBV
open PySem.Builtin.Frozenset renaming updateFrom->ZCc
open PySem.Builtin.Dict_items renaming ownsTuple->ZCg
open PySem.Expr renaming Call->ZCq
open Classical renaming byContradiction->ZCI
open PySem.Builtin.Dict renaming showsAll->ZDd
open PySem.Shared renaming TypeIs->ZDo
open PySem.SeqAt.EqAt renaming int_str->ZDv,str_int->ZDw
open PyProof.Rows.IsTup renaming new->ZDy
noncomputable section
namespace L2
open PySem PySem.Spec PyProof.Rows
abbrev Key:=Sum Int Str
def ZhD:Key->Value->Bool
 | .inl k,v=>Value.isInt k v
 | .inr x,v=>Value.isStrOf x v
def Zxu(w:World):Key->Int
 | .inl k=>hashInt k
 | .inr x=>hashStr w x
theorem ZaT:∀{k:Key} {v:Value},ZhD k v=ZDC->(∃i t,k=Zz1 i/\v=Zz0 i t)\/(∃x t,k=ZCK x/\v=Value.str x t)
 | .inl i,v,h=>by obtain⟨t,e⟩:=Value.isInt_shape (k:=i) (v:=v) h;exact .inl ⟨i,t,rfl,e⟩
 | .inr x,v,h=>by obtain⟨t,e⟩:=Value.isStrOf_shape (x:=x) (v:=v) h;exact .inr ⟨x,t,rfl,e⟩
theorem Zrn(i:Int)(t:Tok):ZhD (.inl i) (.int i t)=ZDC:=by simp[ZhD,Value.isInt]
theorem ZrC(x:Str)(t:Tok):ZhD (.inr x) (.str x t)=ZDC:=by simp[ZhD,Value.isStrOf]
theorem Zww(a b:Int):decide ((Zz1 a:Key)=Zz1 b)=(a==b):=by
 by_cases e:a=b
 ·subst e; simp
 ·have h:¬(Zz1 a:Key)=Zz1 b:=λq=>e (Sum.inl.inj q)
  rw[decide_eq_false h];exact(beq_eq_false_iff_ne.mpr e).symm
theorem ZvL(a b:Str):decide ((ZCK a:Key)=ZCK b)=decide (a=b):=by
 by_cases e:a=b
 ·subst e; simp
 ·have h:¬(ZCK a:Key)=ZCK b:=λq=>e (Sum.inr.inj q)
  rw[decide_eq_false h,decide_eq_false e]
theorem ZwA(a:Int)(b:Str):decide ((Zz1 a:Key)=ZCK b)=ZDD:=decide_eq_false (λq=>nomatch q)
theorem ZvM(a:Str)(b:Int):decide ((ZCK a:Key)=Zz1 b)=ZDD:=decide_eq_false (λq=>nomatch q)
def Zav(prog:Program)(w:World):PySem.KeyKind prog w Key where
 is:=ZhD
 hash:=Zxu w
 inj:=λv a b ha hb=>by
  rcases ZaT ha with⟨i,t,rfl,rfl⟩ | ⟨x,t,rfl,rfl⟩
  ·rcases ZaT hb with⟨j,u,rfl,e⟩ | ⟨y,u,rfl,e⟩
   ·injection e with e1 _; rw[e1]
   ·exact nomatch e
  ·rcases ZaT hb with⟨j,u,rfl,e⟩ | ⟨y,u,rfl,e⟩
   ·exact nomatch e
   ·injection e with e1 _; rw[e1]
 byValue:=λk v h=>by rcases ZaT h with⟨i,t,rfl,rfl⟩ | ⟨x,t,rfl,rfl⟩<;>rfl
 pyHash:=λhv h=>by
  rcases ZaT hv with⟨i,t,rfl,rfl⟩ | ⟨x,t,rfl,rfl⟩
  ·exact wpAny_pyHash_int h
  ·exact wpAny_pyHash_str h
 eqBool:=λhu hv h=>by
  rcases ZaT hu with⟨i,t,rfl,rfl⟩ | ⟨x,t,rfl,rfl⟩
  ·rcases ZaT hv with⟨j,u,rfl,rfl⟩ | ⟨y,u,rfl,rfl⟩
   ·rw[Zww]at h; exact ZBJ h
   ·rw[ZwA]at h; exact ZDv i t y u _ _ _ _ h
  ·rcases ZaT hv with⟨j,u,rfl,rfl⟩ | ⟨y,u,rfl,rfl⟩
   ·rw[ZvM]at h; exact ZDw x t j u _ _ _ _ h
   ·rw[ZvL]at h; exact wpAny_eqBool_str h
 «strs»:=λk x t v h=>by
  rcases ZaT h with⟨i,u,rfl,e⟩ | ⟨y,u,rfl,e⟩
  ·exact nomatch e
  ·injection e with e1 _
   subst e1;cases v<;>rfl
theorem Zqu(prog:Program)(w:World)(k:Key)(v:Value):(Zav prog w).is k v=ZhD k v:=rfl
theorem Zpm(prog:Program)(w:World)(i:Int)(t:Tok):(Zav prog w).is (.inl i) (.int i t)=ZDC:=Zrn i t
theorem Zps(prog:Program)(w:World)(x:Str)(t:Tok):(Zav prog w).is (.inr x) (.str x t)=ZDC:=ZrC x t
end L2
namespace L2
open PySem PySem.Spec PyProof.Rows
variable{a b:Addr}{o:HO}{h:Heap}{H:Hp}
inductive V where
 | non | bl (b:Bool) | int (i:Int) | str (x:Str) | byt (b:Array UInt8) | flt (b:UInt64) | ref (a:Addr) | ty (n:String)
 deriving DecidableEq
def RelV:V->Value->Prop
 | .non,u=>u=ZyU
 | .bl b,u=>u=Value.bool b
 | .int i,u=>∃t,u=Zz0 i t
 | .str x,u=>∃t,u=Value.str x t
 | .byt b,u=>∃t,u=Value.bytes b t
 | .flt b,u=>∃t,u=Value.float b t
 | .ref a,u=>u=Zzc a
 | .ty n,u=>u=ZAo n
abbrev Vals:List V->List Value->Prop:=Paired RelV
theorem Vals.length{xs:List V}{us:List Value}(r:Vals xs us):xs.length=us.length:=ZAQ r
theorem Vals.get:∀{xs:List V} {us:List Value} {i:Nat} {x:V},Vals xs us->xs[i]?=Z x->∃u,us[i]?=Z u/\RelV x u
 | _,_,_,_,.nil,e=>by simp at e
 | _,_,0,_,.cons r _,e=>by simp at e; subst e; exact⟨_,rfl,r⟩
 | _,_,i+1,x,.cons _ t,e=>by obtain⟨u,h1,h2⟩:=Vals.get (i:=i) (x:=x) t (by simpa using e);exact⟨u,by simpa using h1,h2⟩
theorem Vals.set{x:V}{u:Value}(r:RelV x u):∀{xs:List V} {us:List Value} (i:Nat),Vals xs us->Vals (xs.set i x) (us.set i u)
 | _,_,_,.nil=>.nil
 | _,_,0,.cons _ t=>.cons r t
 | _,_,i+1,.cons q t=>.cons q (Vals.set r i t)
theorem Vals.append:∀{xs ys:List V} {us ws:List Value},Vals xs us->Vals ys ws->Vals (xs++ys) (us++ws)
 | _,_,_,_,.nil,s=>s
 | _,_,_,_,.cons r t,s=>.cons r (Vals.append t s)
theorem Vals.take:∀{xs:List V} {us:List Value} (n:Nat),Vals xs us->Vals (xs.take n) (us.take n)
 | _,_,0,_=>.nil
 | _,_,_+1,.nil=>.nil
 | _,_,n+1,.cons r t=>.cons r (Vals.take n t)
theorem Vals.drop:∀{xs:List V} {us:List Value} (n:Nat),Vals xs us->Vals (xs.drop n) (us.drop n)
 | _,_,0,r=>r
 | _,_,_+1,.nil=>.nil
 | _,_,n+1,.cons _ t=>Vals.drop n t
def ZgW:Option V->Option Value->Prop
 | some v,Z u=>RelV v u
 | none,Z_=>True
 | _,_=>False
def KV{κ:Type}:List (κ × V)->List (κ × Value)->Prop:=Paired λ(p:κ × V) (q:κ × Value)=>p.1=q.1/\RelV p.2 q.2
def kV:Key->V
 | .inl i=>.int i
 | .inr x=>.str x
inductive HO where
 | lst (xs:List V)
 | tup (xs:List V)
 | dK (kvs:List (Key × V)) | dT (kvs:List (List Key × V))
 | set (S:Int->Bool) (n:Nat)
 | ins (C dx:Addr) (fs:List (Str × V))
 | own (x:Addr)
 | xd (fs:List (Str × V))
 | met (f x:Addr)
 | rng (lo hi:Int)
 | frz (o:Obj) (u:HO)
 | tbl (ps:Array Value)
 | ext (φ:Heap->Prop)
abbrev Hp:=Addr->Option HO
def upd(H:Hp)(a:Addr)(o:HO):Hp:=λb=>if b=a then Z o else H b
theorem Zx:upd H a o a=Z o:=by unfold upd; rw[if_pos rfl]
theorem Zy(h:b≠a):upd H a o b=H b:=by unfold upd; rw[if_neg h]
theorem ZtX{u:HO}(h:H a=Z o)(h':H b=Z u)(d:o≠u):a≠b:=by intro e; subst e; rw[h]at h'; exact d (Zzm h')
theorem Zak(h:H a=Z o)(h':H b=Z_):a≠b:=by intro e; subst e; rw[h]at h'; cases h'
section
variable(P:Program)(w:World)
def ZW(H:Hp)(h:Heap)(a:Addr):HO->Prop
 | .lst xs=>xs.length<=sizeLine/\∃(its:List Value) (n:Nat),Vals xs its/\h.get? a=Z { cls:=.type "list",data:=.seq its.toArray n }
 | .tup xs=>xs.length<=sizeLine/\∃its:List Value,Vals xs its/\IsTup h a its.toArray
 | .dK kvs=>kvs.length<=sizeLine/\(a==ZzP)=ZDD/\∃vs,KV kvs vs/\h.DictOf (Zav P w) a vs
 | .dT kvs=>kvs.length<=sizeLine/\(a==ZzP)=ZDD/\∃xs:List (List Key × Addr × Value),
   Paired (λ(p:List Key × V) (q:List Key × Addr × Value)=>p.1=q.1/\H q.2.1=Z (.tup (p.1.map kV))/\RelV p.2 q.2.2) kvs xs /\
   ∃o es ep,h.get? a=Z o/\o.ExactDict/\o.data=.dict es ep/\es.toList=xs.map (entryOfKey (ZBN (Zav P w)))/\(xs.map (·.1)).Nodup
 | .set S n=>h.SetOf (intKind P w) a S n
 | .ins C dx fs=>H dx=Z (.own a)/\fs.length<=1000/\dx≠a/\h.get? a=Z (PySem.W.instObj C dx) /\
   ∃mA,h.Ns1 dx mA/\(∀f,ZgW (fs.lookup f) (mA f))/\PySem.Within mA (fs.map (·.1))
 | .own _=>∃o,h.get? a=Z o
 | .xd fs=>∃mA,h.Ns1 a mA/\∀f,ZgW (fs.lookup f) (mA f)
 | .rng lo hi=>∃t u v,h.get? a=Z { cls:=.type "range",data:=.fields #[.int lo t,.int hi u,.int 1 v] }
 | .frz o u=>h.get? a=Z o/\ZW H h a u
 | .tbl ps=>h.get? a=Z { cls:=.none,data:=.fields ps }
 | .met f x=>h.get? a=Z (ZCv (.ref f) (.ref x))
 | .ext φ=>φ h/\(∃o,h.get? a=Z o)/\∀h1 h2:Heap,φ h1->(∀o,h1.get? a=Z o->h2.get? a=Z o)->φ h2
def HOk(H:Hp)(h:Heap):Prop:=∀a o,H a=Z o->ZW P w H h a o
end
section
variable{P:Program}{w:World}{H H':Hp}{h h':Heap}{a:Addr}{o:HO}
theorem ZW.lt(x:ZW P w H h a o):a<h.objs.size:=by
 cases o with
 | lst xs=>obtain⟨_,_,_,_,e⟩:=x; exact ZyB e
 | tup xs=>obtain⟨_,_,_,p⟩:=x; exact p.lt
 | dK kvs=>obtain⟨_,_,_,_,o,_,_,e,_⟩:=x; exact ZyB e
 | dT kvs=>obtain⟨_,_,_,_,o,_,_,e,_⟩:=x; exact ZyB e
 | set S n=>obtain⟨o,_,_,_,e,_⟩:=x; exact ZyB e
 | ins C dx fs=>obtain⟨_,_,_,e,_⟩:=x; exact ZyB e
 | own y=>obtain⟨_,e⟩:=x; exact ZyB e
 | xd fs=>obtain⟨_,⟨_,_,_,e,_⟩,_⟩:=x; exact ZyB e
 | rng lo hi=>obtain⟨_,_,_,e⟩:=x; exact ZyB e
 | frz ob u=>obtain⟨e,_⟩:=x; exact ZyB e
 | tbl ps=>exact ZyB (show h.get? a=Z _ from x)
 | met f y=>exact ZyB (show h.get? a=Z _ from x)
 | ext φ=>obtain⟨_,⟨_,e⟩,_⟩:=x; exact ZyB e
theorem Paired.mapP{α β:Type}{F G:α->β->Prop}:∀{l₁:List α} {l₂:List β},Paired F l₁ l₂->(∀a b,F a b->G a b)->Paired G l₁ l₂
 | _,_,.nil,_=>.nil
 | _,_,.cons r t,f=>.cons (f _ _ r) (Paired.mapP t f)
theorem ZW.stay(x:ZW P w H h a o)(k:∀b u,(b=a\/H b=Z (.own a))->h.get? b=Z u->h'.get? b=Z u)
  (ho:∀b,H b=Z (.own a)->H' b=Z (.own a)) (ht:∀b xs,H b=Z (.tup xs)->H' b=Z (.tup xs)):ZW P w H' h' a o:=by
 induction o with
 | lst xs=>obtain⟨z,its,n,r,e⟩:=x; exact⟨z,its,n,r,k _ _ (.inl rfl) e⟩
 | tup xs=>obtain⟨z,its,r,ob,e,c⟩:=x; exact⟨z,its,r,ob,k _ _ (.inl rfl) e,c⟩
 | dK kvs=>obtain⟨z,y,vs,r,ob,es,ep,e,c⟩:=x; exact⟨z,y,vs,r,ob,es,ep,k _ _ (.inl rfl) e,c⟩
 | dT kvs=>obtain⟨z,y,xs,r,ob,es,ep,e,c⟩:=x;exact⟨z,y,xs,Paired.mapP r λp q z=>⟨z.1,ht _ _ z.2.1,z.2.2⟩,ob,es,ep,k _ _ (.inl rfl) e,c⟩
 | set S n=>obtain⟨ob,es,ep,t,e,c⟩:=x; exact⟨ob,es,ep,t,k _ _ (.inl rfl) e,c⟩
 | ins C dx fs=>obtain⟨d,z,ne,e,mA,⟨od,es,ep,e2,c⟩,r⟩:=x;exact⟨ho _ d,z,ne,k _ _ (.inl rfl) e,mA,⟨od,es,ep,k _ _ (.inr d) e2,c⟩,r⟩
 | own y=>obtain⟨ob,e⟩:=x; exact⟨ob,k _ _ (.inl rfl) e⟩
 | xd fs=>obtain⟨mA,⟨od,es,ep,e,c⟩,r⟩:=x; exact⟨mA,⟨od,es,ep,k _ _ (.inl rfl) e,c⟩,r⟩
 | rng lo hi=>obtain⟨t,u,v,e⟩:=x; exact⟨t,u,v,k _ _ (.inl rfl) e⟩
 | frz ob u ih=>obtain⟨e,q⟩:=x; exact⟨k _ _ (.inl rfl) e,ih q⟩
 | tbl ps=>have e:h.get? a=Z { cls:=.none,data:=.fields ps }:=x;show h'.get? a=Z { cls:=.none,data:=.fields ps };exact k a _ (.inl rfl) e
 | met f y=>have e:h.get? a=Z (ZCv (.ref f) (.ref y)):=x;show h'.get? a=Z (ZCv (.ref f) (.ref y));exact k a _ (.inl rfl) e
 | ext φ=>obtain⟨p,⟨o,e⟩,st⟩:=x; exact⟨st _ _ p λo q=>k _ _ (.inl rfl) q,⟨o,k _ _ (.inl rfl) e⟩,st⟩
theorem HOk.lt(x:HOk P w H h)(e:H a=Z o):a<h.objs.size:=(x a o e).lt
theorem HOk.fresh(x:HOk P w H h)(e:h.objs.size<=a):H a=Z_:=by
 cases q:H a with
 | none=>rfl
 | some u=>exact absurd (ZyO (x.lt q) e) (Zz5 _)
theorem HOk.kept(x:HOk P w H h)(k:∀b u,h.get? b=Z u->h'.get? b=Z u):HOk P w H h':=λa o e=>(x a o e).stay (λb u _ q=>k b u q) (λ_ q=>q) λ_ _ q=>q
theorem HOk.laid(x:HOk P w H h)(k:∀b u,h.get? b=Z u->h'.get? b=Z u)(hp:h.objs.size<=a)(new:ZW P w (upd H a o) h' a o):HOk P w (upd H a o) h':=λb u e=>by
 have hn:=x.fresh hp
 by_cases hb:b=a
 ·subst hb; rw[Zx]at e; cases e; exact new
 ·rw[Zy hb]at e
  exact(x b u e).stay (λc v _ q=>k c v q) (λc q=>by rw[Zy (Zak q hn)]; exact q) λc xs q=>by rw[Zy (Zak q hn)]; exact q
end
def Rd(H:Hp)(a:Addr)(u:HO):Prop:=H a=Z u\/∃o,H a=Z (.frz o u)
theorem Rd.ok{P:Program}{w:World}{H:Hp}{h:Heap}{a:Addr}{u:HO}(r:Rd H a u)(x:HOk P w H h):ZW P w H h a u:=by
 rcases r with r | ⟨o,r⟩
 ·exact x a u r
 ·obtain⟨_,q⟩:=x a _ r
  exact q
def Mut:Option HO->Prop
 | some (.lst _)=>True
 | some (.dK _)=>True
 | some (.dT _)=>True
 | some (.set _ _)=>True
 | some (.ins _ _ _)=>True
 | some (.ext _)=>True
 | _=>False
section
variable{P:Program}{w:World}{H:Hp}{h h':Heap}{x e:Addr}{o':HO}
theorem HOk.write(ok:HOk P w H h)(mu:Mut (H x))(he:e=x\/H e=Z (.own x))(k:∀b u,b≠e->h.get? b=Z u->h'.get? b=Z u)(heo:∃u,h'.get? e=Z u)
  (new:ZW P w (upd H x o') h' x o'):HOk P w (upd H x o') h':=λb u q=>by
 have nown:∀c y,H c=Z (.own y)->c≠x:=λc y r z=>by subst z; rw[r]at mu; exact mu
 have ntup:∀c xs,H c=Z (.tup xs)->c≠x:=λc xs r z=>by subst z; rw[r]at mu; exact mu
 by_cases hb:b=x
 ·subst hb; rw[Zx]at q; cases q; exact new
 ·rw[Zy hb]at q
  by_cases hbe:b=e
  ·have q':H b=Z (.own x):=by
    rcases he with z | z
    ·exact absurd (hbe.trans z) hb
    ·rw[hbe]; exact z
   rw[q]at q'; cases q';obtain⟨v,hv⟩:=heo;exact⟨v,by rw[hbe]; exact hv⟩
  ·refine(ok b u q).stay (λc v hc r=>k c v ?_ r) (λc r=>by rw[Zy (nown c b r)]; exact r) λc xs r=>by rw[Zy (ntup c xs r)]; exact r
   rcases hc with rfl | hc
   ·exact hbe
   ·rintro rfl
    rcases he with z | z
    ·exact nown c b hc z
    ·rw[hc]at z; cases z; exact hb rfl
end
structure Un(fs ex:List Addr)(H H':Hp)(h h':Heap):Prop where
 keep:∀b o,h.get? b=Z o->H b=Z_->b ∉ fs->b ∉ ex->h'.get? b=Z o
 slot:∀b o,h.get? b=Z o->H b=Z_->b∈fs->b ∉ ex->∃sl,h'.get? b=Z { o with slots:=sl }
 free:∀b o,h.get? b=Z o->H b=Z_->b ∉ ex->H' b=Z_
 there:∀b o,h.get? b=Z o->b ∉ ex->∃o',h'.get? b=Z o'
 tups:∀b xs,H b=Z (.tup xs)->H' b=Z (.tup xs)
 frzs:∀b o u,H b=Z (.frz o u)->H' b=Z (.frz o u)
 tbls:∀b ps,H b=Z (.tbl ps)->∃more,H' b=Z (.tbl (ps++more))
section
variable{fs fs' ex ex':List Addr}{H H1 H2:Hp}{h h1 h2 h':Heap}{a x e:Addr}{o:HO}
theorem Un.any(u:Un fs ex H H1 h h1){ob:Obj}(q:h.get? b=Z ob)(n:H b=Z_)(hx:b ∉ ex):∃sl,h1.get? b=Z { ob with slots:=sl }:=by
 by_cases hb:b∈fs
 ·exact u.slot b ob q n hb hx
 ·exact⟨ob.slots,u.keep b ob q n hb hx⟩
theorem Un.kept(k:∀b u,h.get? b=Z u->h'.get? b=Z u):Un fs ex H H h h' :=
 ⟨λb ob q _ _ _=>k b ob q,λb ob q _ _ _=>⟨ob.slots,k b ob q⟩,λ_ _ _ n _=>n,λb ob q _=>⟨ob,k b ob q⟩,λ_ _ q=>q,λ_ _ _ q=>q,λ_ ps q=>⟨#[],by rw[q]; simp⟩⟩
theorem Un.refl:Un fs ex H H h h:=Un.kept λ_ _ q=>q
theorem Un.laid(k:∀b u,h.get? b=Z u->h'.get? b=Z u)(hp:h.objs.size<=a)(hn:H a=Z_):Un fs ex H (upd H a o) h h' where
 keep:=λb u q _ _ _=>k b u q
 slot:=λb u q _ _ _=>⟨u.slots,k b u q⟩
 free:=λb u q n _=>by rw[Zy (ZyG (ZyO (ZyB q) hp))]; exact n
 there:=λb u q _=>⟨u,k b u q⟩
 tups:=λb xs q=>by rw[Zy (Zak q hn)]; exact q
 frzs:=λb u xs q=>by rw[Zy (Zak q hn)]; exact q
 tbls:=λb ps q=>⟨#[],by rw[Zy (Zak q hn),q]; simp⟩
theorem Un.write(mu:Mut (H x))(he:e=x\/H e=Z (.own x))(k:∀b u,b≠e->h.get? b=Z u->h'.get? b=Z u)(heo:∃u,h'.get? e=Z u):Un fs ex H (upd H x o) h h':=by
 have hx:∀b,H b=Z_->b≠x:=λb n z=>by subst z; rw[n]at mu; exact mu
 have hb:∀b,H b=Z_->b≠e:=λb n z=>by
  subst z;rcases he with r | r
  ·exact hx b n r
  ·rw[n]at r; cases r
 have hm:∀b u,H b=Z u->¬Mut (Z u)->b≠x:=λb u q nm z=>by subst z; rw[q]at mu; exact nm mu
 refine⟨λb u q n _ _=>k b u (hb b n) q,λb u q n _ _=>⟨u.slots,k b u (hb b n) q⟩,λb u q n _=>by rw[Zy (hx b n)]; exact n,λb u q _=>?_,
  λb xs q=>by rw[Zy (hm b _ q λz=>z)]; exact q,λb u xs q=>by rw[Zy (hm b _ q λz=>z)]; exact q,λb ps q=>⟨#[],by rw[Zy (hm b _ q λz=>z),q]; simp⟩⟩
 by_cases hbe:b=e
 ·subst hbe; exact heo
 ·exact⟨u,k b u hbe q⟩
end
def trk(h:Heap)(H:Hp):List Addr:=(Zyp h.objs.size).filter λa=>(H a).isSome
def ZgL(h:Heap)(H:Hp):Heap:=PySem.W.hideAll h (trk h H)
theorem Zsx(h:Heap)(H:Hp):(ZgL h H).objs.size=h.objs.size:=PySem.W.hideAll_size _ _
theorem Ztq{o:Obj}(e:h.get? b=Z o)(n:H b=Z_):(ZgL h H).get? b=Z o :=
 PySem.W.hideAll_get _ e λhm=>by have q:(H b).isSome=ZDC:=(ZyW.mp hm).2;rw[n]at q; simp at q
theorem ZuD{o:Obj}(e:(ZgL h H).get? b=Z o):h.get? b=Z o/\H b=Z_:=by
 have e':h.get? b=Z o:=PySem.W.of_hideAll (trk h H) e;refine⟨e',?_⟩;cases q:H b with
 | none=>rfl
 | some x=>have hm:b∈trk h H:=ZyW.mpr ⟨ZyJ.mpr (ZyB e'),by simp[q]⟩;have z:(ZgL h H).get? b=Z_:=PySem.W.hideAll_none (trk h H) hm;rw[z]at e; cases e
end L2
namespace L2
open PySem PySem.Spec PyProof.Rows
variable{A:Around}{ch:List Addr}{i t':Nat}{x:Str}{u:Value}{E:Value->Shared->Prop}
structure Mod(K:Zyk)(mg:Str->Option Value)(base:Heap):Prop where
 kin:K.In base
 glob:base.Ns Zy7 mg
 blt:∃mb,base.Ns ZCE mb/\∀x:Str,x ≠ "__name__"->mb x=Zzl x
 nolimit:base.NoLimit
structure Cx where
 prog:Program
 w:World
 K:Zyk
 mg:Str->Option Value
 base:Heap
 A:Around
 N:List Str
 s₀:Shared
 H₀:Hp
 env:Env
 outer:List Env
 stack:List Env
 ex:List Addr
 fn:Str->Bool
 calm:Bool
 pn:List (Addr × Obj)
 xe:Value->Shared->Prop
def frs(l:List Env):List Addr:=l.filterMap (·.frame)
abbrev Cx.fs(X:Cx):List Addr:=frs X.outer
def Vis(sc:Scope)(x:Str):Prop:=sc.names.lookup x=Z .local\/sc.names.lookup x=Z .cell\/sc.names.lookup x=Z .free
def Loc(sc:Scope)(x:Str):Prop:=sc.names.lookup x=Z .local\/sc.names.lookup x=Z .cell
def Look(env:Env)(h:Heap)(m:Str->Option Value)(x:Str)(u:Value):Prop :=
 (env.kindOf x=Z .local/\m x=Z u)\/((env.kindOf x=Z .cell\/env.kindOf x=Z .free)/\∃c,env.cells.lookup x=Z c/\h.IsCell c (Z u))
structure Cx.Ok(X:Cx):Prop where
 mod:Mod X.K X.mg X.base
 kind:X.env.scope.kind=.function
 glob:X.env.globals=Zy7
 blt:X.env.builtins=ZCE
 above:X.s₀.heap.objs.size<=X.env.locals
 inj:∀x y c,X.env.cells.lookup x=Z c->X.env.cells.lookup y=Z c->x=y
 has:∀x,(X.env.kindOf x=Z .cell\/X.env.kindOf x=Z .free)->∃c,X.env.cells.lookup x=Z c
 cab:∀x c,X.fn x=ZDC->X.env.cells.lookup x=Z c->X.s₀.heap.objs.size<=c
 hd:X.calm=ZDC->X.A.handled=Z_
 frames:X.A.frames=Z X.stack
 stk:X.stack=X.outer\/(X.stack=X.env::X.outer/\X.env.frame=Z X.env.locals)
 exf:∀b∈X.ex,b≠X.env.locals/\∀x c,X.env.cells.lookup x=Z c->c≠b
 bs:∀b o,X.base.get? b=Z o->X.s₀.heap.get? b=Z o/\X.H₀ b=Z_
 bsz:X.base.objs.size<=X.s₀.heap.objs.size
 noex:∀b o,X.base.get? b=Z o->b ∉ X.ex
 exfs:∀b∈X.ex,b ∉ X.fs
 funs:X.s₀.heap.FunFrames X.base X.outer
 frf:∀b∈X.fs,X.H₀ b=Z_
structure Inv(X:Cx)(pins:List (Addr × Obj))(σ:List (Option V))(H:Hp)(s:Shared):Prop where
 ok:X.Ok
 os:s.os=X.s₀.os
 bare:AllBare s.gens
 base:Un X.fs X.ex X.H₀ H X.s₀.heap s.heap
 loc:∃m,s.heap.Ns X.env.locals m/\∀(i:Nat) (x:Str) (v:V),X.N[i]?=Z x->σ[i]?=Z (Z v)->Vis X.env.scope x->∃u,RelV v u/\Look X.env s.heap m x u
 cell:∀x c,X.env.cells.lookup x=Z c->∃v,s.heap.IsCell c v
 free:H X.env.locals=Z_
 freeC:∀x c,X.env.cells.lookup x=Z c->H c=Z_
 pin:∀p∈X.pn++pins,s.heap.get? p.1=Z p.2/\H p.1=Z_/\p.1≠X.env.locals/\p.1 ∉ X.fs/\∀v,p.2.data≠.cell v
 hok:HOk X.prog X.w H s.heap
 len:σ.length=X.N.length
section
variable{X:Cx}{pins:List (Addr × Obj)}{σ:List (Option V)}{H H':Hp}{s:Shared}{h':Heap}
theorem Cx.Ok.nofr(ok:X.Ok){b:Addr}{o:Obj}(e:X.base.get? b=Z o):b ∉ X.fs:=λhb=>by have:=(ok.funs.mem hb).1;rw[e]at this; cases this
theorem Inv.bs(I:Inv X pins σ H s):∀b o,X.base.get? b=Z o->s.heap.get? b=Z o/\H b=Z_:=λb o e=>⟨I.base.keep b o (I.ok.bs b o e).1 (I.ok.bs b o e).2 (I.ok.nofr e) (I.ok.noex b o e),I.base.free b o (I.ok.bs b o e).1 (I.ok.bs b o e).2 (I.ok.noex b o e)⟩
theorem Inv.bk(I:Inv X pins σ H s):∀b o,X.base.get? b=Z o->s.heap.get? b=Z o:=λb o e=>(I.bs b o e).1
theorem Inv.mod(I:Inv X pins σ H s):Mod X.K X.mg X.base:=I.ok.mod
theorem Inv.kIn(I:Inv X pins σ H s):X.K.In s.heap:=I.ok.mod.kin.keeps I.bk
theorem Inv.lt(I:Inv X pins σ H s):X.env.locals<s.heap.objs.size:=let ⟨_,hn,_⟩:=I.loc; hn.lt
theorem Inv.sz(I:Inv X pins σ H s):X.s₀.heap.objs.size<=s.heap.objs.size:=Zy2 I.ok.above (Zz3 I.lt)
theorem Inv.nofs(I:Inv X pins σ H s){a:Addr}(h:s.heap.objs.size<=a):a ∉ X.fs:=λhb=>by obtain⟨_,o,ho,_⟩:=I.ok.funs.mem hb;exact absurd (ZyO (ZyB ho) (Zy2 I.sz h)) (Zz5 _)
theorem Inv.cne(I:Inv X pins σ H s):∀x c,X.env.cells.lookup x=Z c->c≠X.env.locals:=λx c e z=>by obtain⟨v,o,ho,hd⟩:=I.cell x c e;obtain⟨m,⟨o',es,ep,ho',hd',_⟩,_⟩:=I.loc;rw[z,ho']at ho; cases ho; rw[hd']at hd; cases hd
theorem Inv.funs(I:Inv X pins σ H s):s.heap.FunFrames X.base X.outer:=by
 have all:∀(l:List Env),(∀b∈frs l,b∈X.fs)->X.s₀.heap.FunFrames X.base l->s.heap.FunFrames X.base l:=by
  intro l
  induction l with
  | nil=>intro _ _; trivial
  | cons env r ih=>intro hs hl;obtain⟨hk,⟨L,o,hf,hn,ho,hd⟩,hr⟩:=hl;have hL:L∈X.fs:=hs L (by unfold frs; rw[ZzB,hf]; exact Zyo);obtain⟨sl,e⟩:=I.base.slot L o ho (I.ok.frf L hL) hL λz=>I.ok.exfs L z hL;exact⟨hk,⟨L,_,hf,hn,e,hd⟩,ih (λb hb=>hs b (by unfold frs; rw[ZzB,hf]; exact Zyq _ hb)) hr⟩
 exact all X.outer (λ_ hb=>hb) I.ok.funs
theorem Inv.stack(I:Inv X pins σ H s):s.heap.FunFrames X.base X.stack:=by
 rcases I.ok.stk with e | ⟨e,hf⟩
 ·rw[e]; exact I.funs
 ·rw[e]
  obtain⟨m,hn,_⟩:=I.loc;refine .cons (by rw[I.ok.kind]; decide) hf hn ?_ I.funs;exact Heap.get?_none_of_le (Zy2 I.ok.bsz I.ok.above)
theorem Inv.stkSub(I:Inv X pins σ H s):∀b∈frs X.stack,b∈X.env.locals::X.fs:=λb hb=>by
 rcases I.ok.stk with e | ⟨e,hf⟩
 ·rw[e]at hb; exact Zyq _ hb
 ·rw[e]at hb
  unfold frs at hb;rw[ZzB,hf]at hb;exact hb
theorem Inv.stkFree(I:Inv X pins σ H s):∀b∈frs X.stack,H b=Z_:=λb hb=>by
 rcases ZyH.mp (I.stkSub b hb)with e | hb
 ·rw[e]; exact I.free
 ·obtain⟨_,o,ho,_⟩:=I.ok.funs.mem hb
  exact I.base.free b o ho (I.ok.frf b hb) λz=>I.ok.exfs b z hb
theorem Inv.step{g':Array GenState}{t':Nat}{d':Drawn}{ch:List Addr}(I:Inv X pins σ H s)
  (hch:∀b∈ch,(b∈X.ex\/X.s₀.heap.objs.size<=b)/\b≠X.env.locals/\(∀x c,X.env.cells.lookup x=Z c->c≠b)/\∀p∈X.pn++pins,p.1≠b)
  (keep:∀b o,b≠X.env.locals->b ∉ X.fs->b ∉ ch->s.heap.get? b=Z o->H b=Z_->h'.get? b=Z o)
  (slot:∀b o,b≠X.env.locals->b∈X.fs->b ∉ ch->s.heap.get? b=Z o->H b=Z_->∃sl,h'.get? b=Z { o with slots:=sl }) (free:∀b o,b ∉ ch->s.heap.get? b=Z o->H b=Z_->H' b=Z_)
  (there:∀b o,b ∉ ch->s.heap.get? b=Z o->∃o',h'.get? b=Z o')
  (tups:∀b xs,H b=Z (.tup xs)->H' b=Z (.tup xs)) (frzs:∀b o u,H b=Z (.frz o u)->H' b=Z (.frz o u)) (tbls:∀b ps,H b=Z (.tbl ps)->∃more,H' b=Z (.tbl (ps++more)))
  (ns:∀m,s.heap.Ns X.env.locals m->h'.Ns X.env.locals m) (hok:HOk X.prog X.w H' h') (hg:AllBare g') :
  Inv X pins σ H' { s with heap:=h',gens:=g',drawn:=d',toks:=t' }:=by
 have neL:∀b o,X.s₀.heap.get? b=Z o->b≠X.env.locals:=λb o e=>ZyG (ZyO (ZyB e) I.ok.above);have neC:∀b o,X.s₀.heap.get? b=Z o->b ∉ X.ex->b ∉ ch:=λb o e hx hb=>by
  rcases(hch b hb).1 with z | z
  ·exact hx z
  ·exact absurd (ZyO (ZyB e) z) (Zz5 _)
 have cellK:∀x c,X.env.cells.lookup x=Z c->∀v,s.heap.IsCell c v->h'.IsCell c v:=λx c e v ⟨o,ho,hd⟩=>by
  have nch:c ∉ ch:=λz=>(hch c z).2.2.1 x c e rfl
  by_cases hc:c∈X.fs
  ·obtain⟨sl,q⟩:=slot c o (I.cne x c e) hc nch ho (I.freeC x c e)
   exact⟨_,q,hd⟩
  ·exact⟨o,keep c o (I.cne x c e) hc nch ho (I.freeC x c e),hd⟩
 refine⟨I.ok,I.os,hg,⟨λb o e n hb hx=>?_,λb o e n hb hx=>?_,λb o e n hx=>?_,λb o e hx=>?_,λb xs e=>tups b xs (I.base.tups b xs e),λb o xs e=>frzs b o xs (I.base.frzs b o xs e),λb ps e=>?_⟩,?_,λx c e=>?_,?_,λx c e=>?_,λp hp=>?_,hok,I.len⟩
 ·exact keep b o (neL b o e) hb (neC b o e hx) (I.base.keep b o e n hb hx) (I.base.free b o e n hx)
 ·obtain⟨sl,e1⟩:=I.base.slot b o e n hb hx
  obtain⟨sl',e2⟩:=slot b _ (neL b o e) hb (neC b o e hx) e1 (I.base.free b o e n hx);exact⟨sl',e2⟩
 ·obtain⟨o',e1⟩:=I.base.there b o e hx
  exact free b o' (neC b o e hx) e1 (I.base.free b o e n hx)
 ·obtain⟨o',e1⟩:=I.base.there b o e hx
  exact there b o' (neC b o e hx) e1
 ·obtain⟨m1,e1⟩:=I.base.tbls b ps e
  obtain⟨m2,e2⟩:=tbls b _ e1;exact⟨m1++m2,by rw[e2,Array.append_assoc]⟩
 ·obtain⟨m,hn,hl⟩:=I.loc
  refine⟨m,ns m hn,λi x v e1 e2 e3=>?_⟩;obtain⟨u,r,l⟩:=hl i x v e1 e2 e3;refine⟨u,r,?_⟩;rcases l with l | ⟨k,c,e,z⟩
  ·exact .inl l
  ·exact .inr ⟨k,c,e,cellK x c e _ z⟩
 ·obtain⟨v,z⟩:=I.cell x c e
  exact⟨v,cellK x c e v z⟩
 ·obtain⟨m,⟨o,_,_,ho,_⟩,_⟩:=I.loc
  exact free _ o (λz=>(hch _ z).2.1 rfl) ho I.free
 ·obtain⟨v,o,ho,hd⟩:=I.cell x c e
  exact free c o (λz=>(hch c z).2.2.1 x c e rfl) ho (I.freeC x c e)
 ·obtain⟨e,n,ne,nf,d⟩:=I.pin p hp
  have nch:p.1 ∉ ch:=λz=>(hch p.1 z).2.2.2 p hp rfl;exact⟨keep p.1 p.2 ne nf nch e n,free p.1 p.2 nch e n,ne,nf,d⟩
theorem Inv.un(I:Inv X pins σ H s)(u:Un X.fs [] H H' s.heap h')(hok:HOk X.prog X.w H' h'):Inv X pins σ H' { s with heap:=h',toks:=t' }:=by obtain⟨m,⟨o,es,ep,ho,r⟩,_⟩:=id I.loc;obtain⟨sl,hL⟩:=u.any ho I.free (by simp);exact I.step (g':=s.gens) (d':=s.drawn) (ch:=[]) (λ_ z=>nomatch z) (λb o _ hb _ e n=>u.keep b o e n hb (by simp)) (λb o _ hb _ e n=>u.slot b o e n hb (by simp)) (λb o _ e n=>u.free b o e n (by simp)) (λb o _ e=>u.there b o e (by simp)) u.tups u.frzs u.tbls (λm' hm=>by obtain⟨o',es',ep',ho',r'⟩:=hm;rw[ho]at ho'; cases ho';exact⟨_,es',ep',hL,r'⟩) hok I.bare
theorem Inv.call{g':Array GenState}{d':Drawn}(I:Inv X pins σ H s)(u:Un (frs X.stack) ch H H' s.heap h')(hok:HOk X.prog X.w H' h')(hg:AllBare g')
  (hch:∀b∈ch,(b∈X.ex\/X.s₀.heap.objs.size<=b)/\b≠X.env.locals/\(∀x c,X.env.cells.lookup x=Z c->c≠b)/\∀p∈X.pn++pins,p.1≠b) :
  Inv X pins σ H' { s with heap:=h',gens:=g',drawn:=d',toks:=t' }:=by
 obtain⟨m,⟨o,es,ep,ho,r⟩,_⟩:=id I.loc;obtain⟨sl,hL⟩:=u.any ho I.free λz=>(hch _ z).2.1 rfl;exact I.step (ch:=ch) hch (λb o hL hb hc e n=>u.keep b o e n (λz=>(ZyH.mp (I.stkSub b z)).elim hL hb) hc) (λb o _ _ hc e n=>u.any e n hc) (λb o hc e n=>u.free b o e n hc) (λb o hc e=>u.there b o e hc) u.tups u.frzs u.tbls (λm' hm=>by obtain⟨o',es',ep',ho',r'⟩:=hm;rw[ho]at ho'; cases ho';exact⟨_,es',ep',hL,r'⟩) hok hg
theorem Inv.turned{it:Addr}(I:Inv X pins σ H s)(k:∀b o,b≠it->s.heap.get? b=Z o->h'.get? b=Z o)(hn:H it=Z_)(hL:it≠X.env.locals)
  (h1:it∈X.ex\/X.s₀.heap.objs.size<=it) (h2:∀x c,X.env.cells.lookup x=Z c->c≠it) (h3:∀p∈X.pn++pins,p.1≠it):Inv X pins σ H { s with heap:=h',toks:=t' }:=by
 have nit:∀b u,H b=Z u->b≠it:=λb u e z=>by rw[z,hn]at e; cases e
 refine I.step (g':=s.gens) (d':=s.drawn) (ch:=[it]) (λb hb=>?_) (λb o _ _ hc e _=>k b o (λz=>hc (by simp[z])) e) (λb o _ _ hc e _=>⟨o.slots,k b o (λz=>hc (by simp[z])) e⟩) (λ_ _ _ _ n=>n)
  (λb o hc e=>⟨o,k b o (λz=>hc (by simp[z])) e⟩) (λ_ _ e=>e) (λ_ _ _ e=>e) (λb ps e=>⟨#[],by rw[e]; simp⟩) (λm hm=>?_) (λb u e=>?_) I.bare
 ·have e:b=it:=by simpa using hb
  subst e;exact⟨h1,hL,h2,h3⟩
 ·obtain⟨o,es,ep,ho,r⟩:=hm
  exact⟨o,es,ep,k _ o (Zzt hL) ho,r⟩
 ·refine(I.hok b u e).stay (λc v hc q=>k c v ?_ q) (λ_ q=>q) λ_ _ q=>q
  rcases hc with z | z
  ·rw[z]; exact nit b u e
  ·exact nit c _ z
theorem Inv.tok(I:Inv X pins σ H s)(t:Nat):Inv X pins σ H { s with toks:=t }:=I.un (h':=s.heap) (t':=t) Un.refl I.hok
theorem Inv.kept{t':Nat}(I:Inv X pins σ H s)(k:∀b u,s.heap.get? b=Z u->h'.get? b=Z u):Inv X pins σ H { s with heap:=h',toks:=t' }:=I.un (Un.kept k) (I.hok.kept k)
theorem Inv.laid{a:Addr}{o:HO}{t':Nat}(I:Inv X pins σ H s)(k:∀b u,s.heap.get? b=Z u->h'.get? b=Z u)(hp:s.heap.objs.size<=a)(new:ZW X.prog X.w (upd H a o) h' a o) :
  Inv X pins σ (upd H a o) { s with heap:=h',toks:=t' }:=I.un (Un.laid k hp (I.hok.fresh hp)) (I.hok.laid k hp new)
theorem Inv.write{x e:Addr}{o:HO}{t':Nat}(I:Inv X pins σ H s)(mu:Mut (H x))(he:e=x\/H e=Z (.own x))(k:∀b u,b≠e->s.heap.get? b=Z u->h'.get? b=Z u)(heo:∃u,h'.get? e=Z u)
  (new:ZW X.prog X.w (upd H x o) h' x o):Inv X pins σ (upd H x o) { s with heap:=h',toks:=t' }:=I.un (Un.write mu he k heo) (I.hok.write mu he k heo new)
theorem Inv.weak{σ':List (Option V)}(I:Inv X pins σ H s)(hl:σ'.length=σ.length)(w:∀(i:Nat) v,σ'[i]?=Z (Z v)->σ[i]?=Z (Z v)):Inv X pins σ' H s :=
 ⟨I.ok,I.os,I.bare,I.base,let ⟨m,hn,hl'⟩:=I.loc; ⟨m,hn,λi x v e1 e2 e3=>hl' i x v e1 (w i v e2) e3⟩,I.cell,I.free,I.freeC,I.pin,I.hok,hl.trans I.len⟩
theorem Inv.pins_of{pins':List (Addr × Obj)}(I:Inv X pins σ H s)(h:∀p∈pins',s.heap.get? p.1=Z p.2/\H p.1=Z_/\p.1≠X.env.locals/\p.1 ∉ X.fs/\∀v,p.2.data≠.cell v):Inv X pins' σ H s :=
 ⟨I.ok,I.os,I.bare,I.base,I.loc,I.cell,I.free,I.freeC,λp hp=>(ZyK.mp hp).elim (λz=>I.pin p (Zy1 _ z)) (h p),I.hok,I.len⟩
theorem Zn5{N:List Str}(hN:N.Nodup){j:Nat}(a:N[i]?=Z x)(b:N[j]?=Z x):i=j:=by obtain⟨h1,e1⟩:=Zyw.mp a;obtain⟨h2,e2⟩:=Zyw.mp b;exact(List.getElem_inj hN).mp (e1.trans e2.symm)
theorem ZlV{M:Model}{v:V}{Q:Unit->Shared->Prop}(I:Inv X pins σ H s)(hN:X.N.Nodup)(hi:X.N[i]?=Z x)(hx:Loc X.env.scope x)(r:RelV v u)
  (h:∀s',Inv X pins (σ.set i (Z v)) H s'->(∃a,ZAc a s.heap s'.heap/\(a=X.env.locals\/X.env.cells.lookup x=Z a))->Q () s') (hf:X.fn x=ZDC\/X.env.scope.names.lookup x=Z .local:=by first | exact .inl rfl | exact .inr rfl | assumption):wpAny M A (storeName X.env x u) Q E s:=by
 obtain⟨m,hn,hl⟩:=id I.loc;have hcls:(X.env.scope.kind==.class||(X.env.scope.kind==.module&&X.env.locals != X.env.globals))=ZDD:=by rw[I.ok.kind]; rfl
 have hiσ:i<σ.length:=by rw[I.len]; exact(Zyw.mp hi).1
 have cne:=I.cne;have tracked:∀{a:Addr} {h':Heap},(∃o,s.heap.get? a=Z o/\H a=Z_)->ZAc a s.heap h'->HOk X.prog X.w H h':=λ{a h'} ha hs b ob e=>by
  obtain⟨_,_,hfree⟩:=ha;refine(I.hok b ob e).stay (λc w' hc q=>(hs.2 c ?_).trans q) (λ_ q=>q) λ_ _ q=>q
  rintro rfl
  rcases hc with rfl | hc
  ·rw[hfree]at e; cases e
  ·rw[hfree]at hc; cases hc
 rcases hx with hk | hk
 ·refine wpAny_storeName_local hk hn (λh' hn' hs=>?_) hcls
  obtain⟨oL,_,_,hoL,_⟩:=id hn;refine h _ ⟨I.ok,I.os,I.bare,⟨λb o e n hb hx=>?_,λb o e n hb hx=>?_,I.base.free,λb o e hx=>?_,I.base.tups,I.base.frzs,I.base.tbls⟩,⟨_,hn',λj y v' e1 e2 e3=>?_⟩,λy c e=>?_,I.free,I.freeC,λp hp=>?_,tracked ⟨oL,hoL,I.free⟩ hs,by simpa using I.len⟩ ⟨_,hs,.inl rfl⟩
  ·exact(hs.2 b (ZyG (ZyO (ZyB e) I.ok.above))).trans (I.base.keep b o e n hb hx)
  ·obtain⟨sl,e1⟩:=I.base.slot b o e n hb hx
   exact⟨sl,(hs.2 b (ZyG (ZyO (ZyB e) I.ok.above))).trans e1⟩
  ·obtain⟨o',e1⟩:=I.base.there b o e hx
   exact⟨o',(hs.2 b (ZyG (ZyO (ZyB e) I.ok.above))).trans e1⟩
  ·by_cases hj:j=i
   ·subst hj
    rw[hi]at e1; cases e1;rw[Zzd hiσ]at e2;cases e2;exact⟨u,r,.inl ⟨hk,by simp⟩⟩
   ·rw[ZyS (Zzt hj)]at e2
    obtain⟨u',r',q⟩:=hl j y v' e1 e2 e3;refine⟨u',r',?_⟩;rcases q with⟨k,e⟩ | ⟨k,c,e,z⟩
    ·refine .inl ⟨k,?_⟩
     have:y≠x:=λe=>hj (Zn5 hN e1 (e▸hi));simp[this,e]
    ·exact .inr ⟨k,c,e,z.sameBut hs (cne y c e)⟩
  ·obtain⟨w',z⟩:=I.cell y c e
   exact⟨w',z.sameBut hs (cne y c e)⟩
  ·obtain⟨e,n,ne,nf,d⟩:=I.pin p hp
   exact⟨(hs.2 p.1 ne).trans e,n,ne,nf,d⟩
 ·have hfn:X.fn x=ZDC:=by
   rcases hf with z | z
   ·exact z
   ·rw[z]at hk; cases hk
  obtain⟨c,hc⟩:=I.ok.has x (.inl hk);obtain⟨w',z⟩:=I.cell x c hc;refine wpAny_storeName_cell I.ok.kind hk hc z (λh' hc' hs=>?_);obtain⟨oc,hoc,hocd⟩:=id z;refine h { s with heap:=h' } ⟨I.ok,I.os,I.bare,⟨λb o e n hb hx=>?_,λb o e n hb hx=>?_,I.base.free,λb o e hx=>?_,I.base.tups,I.base.frzs,I.base.tbls⟩,⟨m,hn.sameBut hs (Zzt (cne x c hc)),λj y v' e1 e2 e3=>?_⟩,λy c' e=>?_,I.free,I.freeC,λp hp=>?_,tracked ⟨oc,hoc,I.freeC x c hc⟩ hs,by simpa using I.len⟩ ⟨c,hs,.inr hc⟩
  ·exact(hs.2 b (ZyG (ZyO (ZyB e) (I.ok.cab x c hfn hc)))).trans (I.base.keep b o e n hb hx)
  ·obtain⟨sl,e1⟩:=I.base.slot b o e n hb hx
   exact⟨sl,(hs.2 b (ZyG (ZyO (ZyB e) (I.ok.cab x c hfn hc)))).trans e1⟩
  ·obtain⟨o',e1⟩:=I.base.there b o e hx
   exact⟨o',(hs.2 b (ZyG (ZyO (ZyB e) (I.ok.cab x c hfn hc)))).trans e1⟩
  ·by_cases hj:j=i
   ·subst hj
    rw[hi]at e1; cases e1;rw[Zzd hiσ]at e2;cases e2;exact⟨u,r,.inr ⟨.inl hk,c,hc,hc'⟩⟩
   ·rw[ZyS (Zzt hj)]at e2
    obtain⟨u',r',q⟩:=hl j y v' e1 e2 e3;refine⟨u',r',?_⟩;rcases q with q | ⟨k,c',e,z'⟩
    ·exact .inl q
    ·refine .inr ⟨k,c',e,z'.sameBut hs ?_⟩
     rintro rfl
     exact hj (Zn5 hN e1 (I.ok.inj _ _ _ e hc▸hi))
  ·by_cases hcc:c'=c
   ·subst hcc; exact⟨_,hc'⟩
   ·obtain⟨w2,z2⟩:=I.cell y c' e
    exact⟨w2,z2.sameBut hs hcc⟩
  ·obtain⟨e,n,ne,nf,d⟩:=I.pin p hp
   refine⟨(hs.2 p.1 ?_).trans e,n,ne,nf,d⟩;intro q;rw[q,hoc]at e;have q':oc=p.2:=Zzm e;exact d w' (by rw[<-q']; exact hocd)
theorem Zok{M:Model}{v:V}{Q:Unit->Shared->Prop}(I:Inv X pins σ H s)(hN:X.N.Nodup)(hi:X.N[i]?=Z x)(hx:Loc X.env.scope x)(r:RelV v u)
  (h:∀s',Inv X pins (σ.set i (Z v)) H s'->Q () s') (hf:X.fn x=ZDC\/X.env.scope.names.lookup x=Z .local:=by first | exact .inl rfl | exact .inr rfl | assumption):wpAny M A (storeName X.env x u) Q E s :=
 ZlV I hN hi hx r (λs' I' _=>h s' I') hf
theorem Inv.call'{s':Shared}(I:Inv X pins σ H s)(ho:s'.os=s.os)(u:Un (frs X.stack) ch H H' s.heap s'.heap)(hok:HOk X.prog X.w H' s'.heap)(hg:AllBare s'.gens)
  (hch:∀b∈ch,(b∈X.ex\/X.s₀.heap.objs.size<=b)/\b≠X.env.locals/\(∀x c,X.env.cells.lookup x=Z c->c≠b)/\∀p∈X.pn++pins,p.1≠b):Inv X pins σ H' s':=by
 obtain⟨h',g',d',t',o'⟩:=s';have e:o'=s.os:=ho;subst e;exact I.call (g':=g') (t':=t') (d':=d') u hok hg hch
end
abbrev XK:=Value->Option Addr->Hp->Prop
abbrev St:=List (Option V)
abbrev VK:=V->Hp->Prop
abbrev TE:=St->Hp->VK->Prop
abbrev TT:=St->Hp->(Bool->Hp->Prop)->Prop
abbrev TA:=St->Hp->(List V->Hp->Prop)->Prop
structure Ends where
 nx:St->Hp->Prop
 rt:VK
 bk:St->Hp->Prop:=λ_ _=>False
 ct:St->Hp->Prop:=λ_ _=>False
abbrev TS:=Ends->St->Hp->Prop
inductive EP(X:Cx)(pins:List (Addr × Obj))(σ:St)(Q:VK)(u:Value)(s':Shared):Prop
 | mk (v:V) (H':Hp) (I:Inv X pins σ H' s') (r:RelV v u) (q:Q v H'):EP X pins σ Q u s'
inductive TP(X:Cx)(pins:List (Addr × Obj))(σ:St)(Q:Bool->Hp->Prop)(b:Bool)(s':Shared):Prop
 | mk (H':Hp) (I:Inv X pins σ H' s') (q:Q b H'):TP X pins σ Q b s'
inductive AP(X:Cx)(pins:List (Addr × Obj))(σ:St)(Q:List V->Hp->Prop)(us:List Value)(s':Shared):Prop
 | mk (vs:List V) (H':Hp) (I:Inv X pins σ H' s') (r:Vals vs us) (q:Q vs H'):AP X pins σ Q us s'
inductive SPn(X:Cx)(pins:List (Addr × Obj))(N:St->Hp->Prop)(s':Shared):Prop
 | mk (σ':St) (H':Hp) (I:Inv X pins σ' H' s') (q:N σ' H'):SPn X pins N s'
inductive SPr(X:Cx)(pins:List (Addr × Obj))(R:V->Hp->Prop)(u:Value)(s':Shared):Prop
 | mk (v:V) (σ':St) (H':Hp) (I:Inv X pins σ' H' s') (r:RelV v u) (q:R v H'):SPr X pins R u s'
def SP(X:Cx)(pins:List (Addr × Obj))(D:Ends)(f:Flow)(s':Shared):Prop :=
 match f with
 | .next=>SPn X pins D.nx s'
 | .brk=>SPn X pins D.bk s'
 | .cont=>SPn X pins D.ct s'
 | .ret u=>SPr X pins D.rt u s'
def PE(X:Cx)(e:Expr)(t:TE):Prop :=
 ∀(pins:List (Addr × Obj)) (s:Shared) (σ:St) (H:Hp) (Q:VK),Inv X pins σ H s->t σ H Q->wpAny (model X.prog X.w) X.A (eval e X.env) (EP X pins σ Q) X.xe s
def PT(X:Cx)(e:Expr)(t:TT):Prop :=
 ∀(pins:List (Addr × Obj)) (s:Shared) (σ:St) (H:Hp) (Q:Bool->Hp->Prop),Inv X pins σ H s->t σ H Q->wpAny (model X.prog X.w) X.A (isTrue e X.env (eval e X.env)) (TP X pins σ Q) X.xe s
def PW(X:Cx)(e:Expr)(t:TT):Prop :=
 ∀(whole:Sem Value) (pins:List (Addr × Obj)) (s:Shared) (σ:St) (H:Hp) (Q:Bool->Hp->Prop),Inv X pins σ H s->t σ H Q->wpAny (model X.prog X.w) X.A (isTrue e X.env whole) (TP X pins σ Q) X.xe s
theorem PW.pt{X:Cx}{e:Expr}{t:TT}(h:PW X e t):PT X e t:=h _
def PA(X:Cx)(es:List Expr)(t:TA):Prop :=
 ∀(pos:Pos) (pins:List (Addr × Obj)) (s:Shared) (σ:St) (H:Hp) (Q:List V->Hp->Prop),Inv X pins σ H s->t σ H Q->wpAny (model X.prog X.w) X.A (spliced (backTo pos (Zyz es X.env))) (AP X pins σ Q) X.xe s
def PS(X:Cx)(st:Stmt)(t:TS):Prop :=
 ∀(pins:List (Addr × Obj)) (s:Shared) (σ:St) (H:Hp) (D:Ends),Inv X pins σ H s->t D σ H->wpAny (model X.prog X.w) X.A (exec st X.env) (SP X pins D) X.xe s
def PSs(X:Cx)(st:List Stmt)(t:TS):Prop :=
 ∀(pins:List (Addr × Obj)) (s:Shared) (σ:St) (H:Hp) (D:Ends),Inv X pins σ H s->t D σ H->wpAny (model X.prog X.w) X.A (execs st X.env) (SP X pins D) X.xe s
theorem thn{α:Type}{t:Sem α}{Q Q':α->Shared->Prop}{M:Model}{s:Shared}(h:wpAny M A t Q E s)(hQ:∀a s,Q a s->Q' a s):wpAny M A t Q' E s:=Zzw h hQ λ_ _ x=>x
end L2
namespace L2
open PySem PySem.Spec PyProof.Rows
variable{H:Hp}{pins:List (Addr × Obj)}{pos:Pos}{s:Shared}{σ:St}{x:Str}{u:Value}{E Q:Value->Shared->Prop}
section
variable{X:Cx}
def ZxJ(i:Nat):TE:=λσ H Q=>∃v,σ[i]?=Z (Z v)/\Q v H
noncomputable def tC (v:V):TE:=λ_ H Q=>Q v H
theorem Zco{i:Nat}(hN:X.N[i]?=Z x)(hv:Vis X.env.scope x)(hd:(x==("__debug__":Str))=ZDD:=by decide)(hcd:(x==("__classdict__":Str))=ZDD:=by decide):PE X (.Name x pos) (ZxJ i):=by
 intro pins s σ H Q I h;obtain⟨v,e,h⟩:=h;obtain⟨m,hn,hl⟩:=I.loc;obtain⟨u,r,l⟩:=hl i x v hN e hv;have fin:EP X pins σ Q u s:=⟨v,H,I,r,h⟩;rcases l with⟨hk,hm⟩ | ⟨hk,c,hc,hcell⟩
 ·exact wpAny_Name (wpAny_loadName_local I.ok.kind hk hn hm fin) hd
 ·rcases hk with hk | hk
  ·exact wpAny_Name (wpAny_loadName_cell I.ok.kind hk hc hcell fin) hd
  ·exact wpAny_Name (wpAny_loadName_free I.ok.kind hk hc hcell fin hcd) hd
theorem ZrL{i j pos}:PE X (.Constant (.int i) j pos) (tC (.int i)):=λ_ _ _ H _ I h=>wpAny_Constant_int ⟨.int i,H,I.tok _,⟨_,rfl⟩,h⟩
theorem ZwQ{b j pos}:PE X (.Constant (.bool b) j pos) (tC (.bl b)):=λ_ _ _ H _ I h=>Constant_bool ⟨.bl b,H,I,rfl,h⟩
theorem Zsk{j pos}:PE X (.Constant .none j pos) (tC .non):=λ_ _ _ H _ I h=>Constant_none ⟨.non,H,I,rfl,h⟩
def Gl(X:Cx)(x:Str):Prop:=X.env.kindOf x=Z .globalImplicit
theorem Zlq(I:Inv X pins σ H s)(hg:Gl X x)(hm:X.mg x=Z u)(h:Q u s)
  (hd:(x==("__debug__":Str))=ZDD:=by decide):wpAny (model X.prog X.w) X.A (eval (.Name x pos) X.env) Q E s :=
 ZCr I.ok.kind hg (Calls.loadGlobal_global (by rw[I.ok.glob]; exact I.mod.glob.keeps I.bk) hm h) hd
theorem Zhh(I:Inv X pins σ H s)(hg:Gl X x)(hm:X.mg x=Z_)(hv:Zzl x=Z u)(h:Q u s)
  (hn:x ≠ "__name__":=by decide) (hd:(x==("__debug__":Str))=ZDD:=by decide):wpAny (model X.prog X.w) X.A (eval (.Name x pos) X.env) Q E s:=by
 obtain⟨mb,h1,h2⟩:=I.mod.blt;exact ZCr I.ok.kind hg (Calls.loadGlobal_builtin (by rw[I.ok.glob]; exact I.mod.glob.keeps I.bk) hm (by rw[I.ok.blt]; exact h1.keeps I.bk) ((h2 x hn).trans hv) h) hd
theorem Zp3{v:V}(hg:Gl X x)(hm:X.mg x=Z u)(r:RelV v u)(hd:(x==("__debug__":Str))=ZDD:=by decide):PE X (.Name x pos) (tC v) :=
 λ_ _ _ H _ I h=>Zlq I hg hm ⟨v,H,I,r,h⟩ hd
theorem ZuW{v:V}(hg:Gl X x)(hm:X.mg x=Z_)(hv:Zzl x=Z u)(r:RelV v u)(hn:x ≠ "__name__":=by decide)(hd:(x==("__debug__":Str))=ZDD:=by decide):PE X (.Name x pos) (tC v) :=
 λ_ _ _ H _ I h=>Zhh I hg hm hv ⟨v,H,I,r,h⟩ hn hd
variable{a b:Expr}{ta tb:TE}{pos:Pos}
def PC(X:Cx)(op:CmpOp)(a b:Expr)(t:TE):Prop :=
 ∀(pins:List (Addr × Obj)) (s:Shared) (σ:St) (H:Hp) (Q:VK),Inv X pins σ H s->t σ H Q ->
  wpAny (model X.prog X.w) X.A (eval a X.env) (λv s₁=>wpAny (model X.prog X.w) X.A (eval b X.env) (λu s₂=>wpAny (model X.prog X.w) X.A (ZzC op v u) (EP X pins σ Q) X.xe s₂) X.xe s₁) X.xe s
theorem Zj1(b:Expr){op:CmpOp}(h:op≠.In)(h2:op≠.NotIn):ZzX op b=ZDD:=by
 have e1:(op==CmpOp.In)=ZDD:=by cases op<;>first | rfl | exact absurd rfl h
 have e2:(op==CmpOp.NotIn)=ZDD:=by cases op<;>first | rfl | exact absurd rfl h2
 cases b<;>simp[ZzX,e1,e2]
def tB(t:TE):TT:=λσ H Q=>t σ H λx H1=>∃c,x=.bl c/\Q c H1
theorem Zrk{op:CmpOp}{t:TE}(h:PC X op a b t)(h1:ZzX op b=ZDD:=by first | exact Zj1 _ (by decide) (by decide) | rfl):PT X (.Compare a [op] [b] pos) (tB t):=by intro pins s σ H Q I hw;refine wpAny_isTrue_Compare1 (thn (h pins s σ H _ I hw) λv s1 h1=>thn h1 λu s2 h2=>thn h2 λc s3 ⟨x,H1,I1,r1,q1⟩=>?_) h1;obtain⟨d,rfl,q⟩:=q1;cases r1;exact ZAg ⟨H1,I1,q⟩
theorem Zwu{e:Expr}{t:TE}(h:PE X e t)(he:∀whole,isTrue e X.env whole=(do let v <-whole; standAt e.pos; holding [v] (truthy v)):=by intro _; rfl):PT X e (tB t):=by intro pins s σ H Q I hw;refine isTrue_plain (thn (h pins s σ H _ I hw) λv s1 ⟨x,H1,I1,r1,q1⟩=>?_) (he _);obtain⟨d,rfl,q⟩:=q1;cases r1;exact ZAg ⟨H1,I1,q⟩
variable{tA tB':TT}{rest:List Expr}
def Zka(t u:TT):TT:=λσ H Q=>t σ H λc H1=>if c=ZDC then u σ H1 Q else Q ZDD H1
def tOr(t u:TT):TT:=λσ H Q=>t σ H λc H1=>if c=ZDC then Q ZDC H1 else u σ H1 Q
def ZbZ(t:TT):TT:=λσ H Q=>t σ H λc H1=>Q (!c) H1
theorem ZuR(ha:PT X a tA):PW X (.BoolOp .And [a] pos) tA:=by
 intro wh pins s σ H Q I h;refine isTrue_and (thn (ha pins s σ H Q I h) λc s1 e=>?_);cases c with
 | true=>exact isTrue_and_nil e
 | false=>exact e
theorem Zwl(ha:PT X a tA):PW X (.BoolOp .Or [a] pos) tA:=by
 intro wh pins s σ H Q I h;refine isTrue_or (thn (ha pins s σ H Q I h) λc s1 e=>?_);cases c with
 | false=>exact isTrue_or_nil e
 | true=>exact e
theorem Zr5(ha:PT X a tA)(hb:PW X (.BoolOp .And (b::rest) pos) tB'):PW X (.BoolOp .And (a::b::rest) pos) (Zka tA tB'):=by
 intro wh pins s σ H Q I h;refine isTrue_and (thn (ha pins s σ H _ I h) λc s1 ⟨H1,I1,q1⟩=>?_);cases c with
 | true=>exact hb wh pins s1 σ H1 Q I1 q1
 | false=>exact⟨H1,I1,q1⟩
theorem ZtP(ha:PT X a tA)(hb:PW X (.BoolOp .Or (b::rest) pos) tB'):PW X (.BoolOp .Or (a::b::rest) pos) (tOr tA tB'):=by
 intro wh pins s σ H Q I h;refine isTrue_or (thn (ha pins s σ H _ I h) λc s1 ⟨H1,I1,q1⟩=>?_);cases c with
 | true=>exact⟨H1,I1,q1⟩
 | false=>exact hb wh pins s1 σ H1 Q I1 q1
theorem Zv7(ha:PT X a tA):PT X (.UnaryOp .Not a pos) (ZbZ tA):=by intro pins s σ H Q I h;exact isTrue_not (thn (ha pins s σ H (λc H1=>Q (!c) H1) I h) λ_ _ ⟨H',I',q'⟩=>⟨H',I',q'⟩)
def ZwR(ta tb:TE):TE:=λσ H Q=>ta σ H λx H1=>∃c,x=.bl c/\if c=ZDC then tb σ H1 Q else Q (.bl ZDD) H1
theorem ZvF{op}{t:TE}(h:PE X a t):PE X (.BoolOp op [a] pos) t:=λpins s σ H Q I hw=>BoolOp_one (h pins s σ H Q I hw)
theorem Zr6(ha:PE X a ta)(hb:PE X (.BoolOp .And (b::rest) pos) tb):PE X (.BoolOp .And (a::b::rest) pos) (ZwR ta tb):=by
 intro pins s σ H Q I h;refine BoolOp_and (thn (ha pins s σ H _ I h) λv s1 ⟨x,H1,I1,r1,q1⟩=>?_);obtain⟨c,rfl,q1⟩:=q1;cases r1;refine ZAg ?_;cases c with
 | true=>exact hb pins s1 σ H1 Q I1 q1
 | false=>exact⟨.bl ZDD,H1,I1,rfl,q1⟩
def tIf(t:TT)(ta tb:TE):TE:=λσ H Q=>t σ H λc H1=>if c=ZDC then ta σ H1 Q else tb σ H1 Q
theorem Znx{c:Expr}(hc:PT X c tA)(ha:PE X a ta)(hb:PE X b tb):PE X (.IfExp c a b pos) (tIf tA ta tb):=by
 intro pins s σ H Q I h;refine wpAny_IfExp (thn (hc pins s σ H _ I h) λd s1 ⟨H1,I1,q1⟩=>?_);cases d with
 | true=>exact ha pins s1 σ H1 Q I1 q1
 | false=>exact hb pins s1 σ H1 Q I1 q1
end
end L2
namespace L2
open PySem PySem.Spec PyProof.Rows
variable{X:Cx}{c tg:Expr}{H:Hp}{pins:List (Addr × Obj)}{i:Nat}{P:Program}{K:Zyk}{s:Shared}{σ:St}{x:Str}{u:Value}{E:Value->Shared->Prop}{w:World}
def SqL(K:Zyk)(H:Hp)(a:Addr)(xs:List V):Prop :=
 Rd H a (.lst xs) \/
  ∃(o:Obj) (its:Array Value) (n:Nat),K.lookup a=Z o/\o.cls=.type "list"/\o.dict=Z_/\o.data=.seq its n/\its.size<=sizeLine/\Vals xs its.toList
def SqT(K:Zyk)(H:Hp)(a:Addr)(xs:List V):Prop :=
 Rd H a (.tup xs) \/
  ∃(o:Obj) (its:Array Value) (n:Nat),K.lookup a=Z o/\o.cls=.type "tuple"/\o.data=.seq its n/\its.size<=sizeLine/\Vals xs its.toList
def ZxS:Value->Option V
 | .none=>Z .non
 | .bool b=>Z (.bl b)
 | .int i _=>Z (.int i)
 | .str x _=>Z (.str x)
 | .bytes b _=>Z (.byt b)
 | .float b _=>Z (.flt b)
 | .ref a=>Z (.ref a)
 | .type n=>Z (.ty n)
 | _=>Z_
theorem RelV.abs{x:V}(r:RelV x u):ZxS u=Z x:=by
 cases x with
 | non=>cases r; rfl
 | bl _=>cases r; rfl
 | int _=>obtain⟨t,rfl⟩:=r; rfl
 | str _=>obtain⟨t,rfl⟩:=r; rfl
 | byt _=>obtain⟨t,rfl⟩:=r; rfl
 | flt _=>obtain⟨t,rfl⟩:=r; rfl
 | ref _=>cases r; rfl
 | ty _=>cases r; rfl
theorem RelV.inj{x y:V}{u:Value}(r:RelV x u)(q:RelV y u):x=y:=Zzm (r.abs.symm.trans q.abs)
theorem Vals.inj:∀{xs ys:List V} {us:List Value},Vals xs us->Vals ys us->xs=ys
 | _,_,_,.nil,.nil=>rfl
 | _,_,_,.cons r t,.cons r' t'=>by rw[r.inj r',Vals.inj t t']
section
variable{X:Cx}{pins:List (Addr × Obj)}{σ:St}{H:Hp}{s:Shared}{a:Addr}{xs ys:List V}
theorem SqL.of(h:H a=Z (.lst xs)):SqL K H a xs:=.inl (.inl h)
theorem SqT.of(h:H a=Z (.tup xs)):SqT K H a xs:=.inl (.inl h)
theorem Inv.list(I:Inv X pins σ H s)(h:SqL X.K H a xs):∃its:List Value,Vals xs its/\PlainL s.heap a its.toArray/\xs.length<=sizeLine:=by
 rcases h with h | ⟨o,its,n,hk,hc,hd,hs,hz,r⟩
 ·obtain⟨z,its,n,r,e⟩:=h.ok I.hok
  exact⟨its,r,⟨_,n,e,rfl,rfl,rfl⟩,z⟩
 ·refine⟨its.toList,r,⟨o,n,I.kIn a o hk,hc,hd,by simpa using hs⟩,?_⟩
  have e:=r.length;simp only[ZyL]at e;omega
theorem Inv.tuple(I:Inv X pins σ H s)(h:SqT X.K H a xs):∃its:List Value,Vals xs its/\IsTup s.heap a its.toArray/\xs.length<=sizeLine:=by
 rcases h with h | ⟨o,its,n,hk,hc,hs,hz,r⟩
 ·obtain⟨z,its,r,p⟩:=h.ok I.hok
  exact⟨its,r,p,z⟩
 ·refine⟨its.toList,r,⟨o,I.kIn a o hk,hc,n,by simpa using hs⟩,?_⟩
  have e:=r.length;simp only[ZyL]at e;omega
theorem Inv.list_inj(I:Inv X pins σ H s)(h:SqL X.K H a xs)(h':SqL X.K H a ys):xs=ys:=by
 obtain⟨its,r,⟨o,n,e,_,_,d⟩,_⟩:=I.list h;obtain⟨its',r',⟨o',n',e',_,_,d'⟩,_⟩:=I.list h';rw[e]at e'; cases e';rw[d]at d';injection d' with d1 _
 have:its=its':=by simpa using congrArg Array.toList d1
 subst this;exact r.inj r'
theorem Inv.tuple_inj(I:Inv X pins σ H s)(h:SqT X.K H a xs)(h':SqT X.K H a ys):xs=ys:=by
 obtain⟨its,r,⟨o,e,_,n,d⟩,_⟩:=I.tuple h;obtain⟨its',r',⟨o',e',_,n',d'⟩,_⟩:=I.tuple h';rw[e]at e'; cases e';rw[d]at d';injection d' with d1 _
 have:its=its':=by simpa using congrArg Array.toList d1
 subst this;exact r.inj r'
end
abbrev Cx.wish(X:Cx)(E:Value->Shared->Prop):Cx:={ X with xe:=E }
abbrev Cx.nox(X:Cx):Cx:=X.wish λ_ _=>False
theorem Cx.Ok.wish{X:Cx}(ok:X.Ok)(E:Value->Shared->Prop):(X.wish E).Ok :=
 ⟨ok.mod,ok.kind,ok.glob,ok.blt,ok.above,ok.inj,ok.has,ok.cab,ok.hd,ok.frames,ok.stk,ok.exf,ok.bs,ok.bsz,ok.noex,ok.exfs,ok.funs,ok.frf⟩
theorem Cx.Ok.unwish(ok:(X.wish E).Ok):X.Ok :=
 ⟨ok.mod,ok.kind,ok.glob,ok.blt,ok.above,ok.inj,ok.has,ok.cab,ok.hd,ok.frames,ok.stk,ok.exf,ok.bs,ok.bsz,ok.noex,ok.exfs,ok.funs,ok.frf⟩
section
variable{X:Cx}{pins:List (Addr × Obj)}{σ:St}{H:Hp}{s:Shared}{E:Value->Shared->Prop}
theorem Inv.wish(I:Inv X pins σ H s)(E:Value->Shared->Prop):Inv (X.wish E) pins σ H s:=⟨I.ok.wish E,I.os,I.bare,I.base,I.loc,I.cell,I.free,I.freeC,I.pin,I.hok,I.len⟩
theorem Inv.unwish(I:Inv (X.wish E) pins σ H s):Inv X pins σ H s:=⟨I.ok.unwish,I.os,I.bare,I.base,I.loc,I.cell,I.free,I.freeC,I.pin,I.hok,I.len⟩
theorem SP.unwish{D:Ends}{f:Flow}{s':Shared}(h:SP (X.wish E) pins D f s'):SP X pins D f s':=by
 cases f with
 | next=>obtain⟨σ',H',I,q⟩:=h; exact⟨σ',H',I.unwish,q⟩
 | brk=>obtain⟨σ',H',I,q⟩:=h; exact⟨σ',H',I.unwish,q⟩
 | cont=>obtain⟨σ',H',I,q⟩:=h; exact⟨σ',H',I.unwish,q⟩
 | ret u=>obtain⟨v,σ',H',I,r,q⟩:=h; exact⟨v,σ',H',I.unwish,r,q⟩
theorem PSs.nox{st:List Stmt}{t:TS}(h:PSs X.nox st t):PSs X st t:=λpins s σ H D I hw=>Zzw (h pins s σ H D (I.wish _) hw) (λ_ _ q=>q.unwish) λ_ _ z=>Zzf z
end
section
variable{X:Cx}{st:Stmt}{rest:List Stmt}{t u:TS}{e:Expr}{te:TE}{pos:Pos}
noncomputable def ZwO:TS:=λD σ H=>D.nx σ H
noncomputable def ZxO (t u:TS):TS:=λD σ H=>t { D with nx:=u D } σ H
theorem ZuG:PSs X [] ZwO:=λ_ _ σ H _ I h=>ZBQ ⟨σ,H,I,h⟩
theorem Zh2(h1:PS X st t)(h2:PSs X rest u):PSs X (st::rest) (ZxO t u):=by
 intro pins s σ H D I h;refine wpAny_execs_cons (thn (h1 pins s σ H { D with nx:=u D } I h) λf s1 q=>?_);cases f with
 | next=>obtain⟨σ',H',I',q⟩:=q;exact h2 pins s1 σ' H' D I' q
 | ret v=>exact q
 | brk=>exact q
 | cont=>exact q
theorem ZpI(h1:PS X st t):PSs X [st] t:=by
 intro pins s σ H D I h;refine wpAny_execs_cons (thn (h1 pins s σ H D I h) λf s1 q=>?_);cases f with
 | next=>exact ZBQ q
 | ret v=>exact q
 | brk=>exact q
 | cont=>exact q
theorem Inv.quiet(I:Inv X pins σ H s):interactive X.env=ZDD:=by simp[interactive,I.ok.kind]
def Zw4(te:TE):TS:=λD σ H=>te σ H λ_ H1=>D.nx σ H1
theorem Zjc(he:PE X e te)(hs:ZAT e Z_ pos.line X.env=pure ZDD:=by rfl):PS X (.Expr e pos) (Zw4 te):=by intro pins s σ H D I h;exact wpAny_Expr_any (thn (he pins s σ H _ I h) λv s1 ⟨x,H1,I1,r1,q1⟩=>⟨σ,H1,I1,q1⟩) I.quiet hs
def Zxw(te:TE):TS:=λD σ H=>te σ H D.rt
theorem Zow(he:PE X e te):PS X (.Return (Z e) pos) (Zxw te):=by intro pins s σ H D I h;exact wpAny_Return_some (thn (he pins s σ H _ I h) λv s1 ⟨x,H1,I1,r1,q1⟩=>⟨x,σ,H1,I1,r1,q1⟩)
def ZxB(c:TT)(t u:TS):TS:=λD σ H=>c σ H λb H1=>if b=ZDC then t D σ H1 else u D σ H1
theorem ZtR{a b:List Stmt}{tc:TT}(hc:PT X c tc)(ha:PSs X a t)(hb:PSs X b u):PS X (.If c a b pos) (ZxB tc t u):=by
 intro pins s σ H D I h;refine wpAny_If (thn (hc pins s σ H _ I h) λd s1 ⟨H1,I1,q1⟩=>?_);cases d with
 | true=>exact ha pins s1 σ H1 D I1 q1
 | false=>exact hb pins s1 σ H1 D I1 q1
def ZvS:TS:=λ_ _ _=>False
theorem Zgq{sts:List Stmt}:PSs X sts ZvS:=λ_ _ _ _ _ _ h=>h.elim
end
abbrev TG:=V->St->Hp->(St->Hp->Prop)->Prop
def PG(X:Cx)(target:Expr)(t:TG):Prop :=
 ∀(pins:List (Addr × Obj)) (s:Shared) (σ:St) (H:Hp) (v:V) (u:Value) (Q:St->Hp->Prop),Inv X pins σ H s->RelV v u->t v σ H Q ->
  wpAny (model X.prog X.w) X.A (assign target X.env u) (λ_ s'=>∃σ' H',Inv X pins σ' H' s'/\Q σ' H') X.xe s
abbrev Zs2:=V->V->V->Hp->(Hp->Prop)->Prop
def Zwz(X:Cx)(t:Zs2):Prop :=
 ∀(pins:List (Addr × Obj)) (s:Shared) (σ:St) (H:Hp) (o i v:V) (ov iv u:Value) (Q:Hp->Prop),Inv X pins σ H s->RelV o ov->RelV i iv->RelV v u->t o i v H Q ->
  wpAny (model X.prog X.w) X.A (setItem ov iv u) (λ_ s'=>∃H',Inv X pins σ H' s'/\Q H') X.xe s
section
variable{X:Cx}{pos:Pos}
def ZtZ(i:Nat):TG:=λv σ H Q=>Q (σ.set i (Z v)) H
theorem ZpW(hN:X.N.Nodup)(hi:X.N[i]?=Z x)(hx:Loc X.env.scope x)(hf:X.fn x=ZDC\/X.env.scope.names.lookup x=Z .local:=by first | exact .inl rfl | exact .inr rfl | assumption):PG X (.Name x pos) (ZtZ i):=by intro pins s σ H v u Q I r h;exact wpAny_assign_Name (Zok I hN hi hx r (λs' I'=>⟨_,H,I',h⟩) hf)
def Zk9(to ti:TE)(t:Zs2):TG:=λv σ H Q=>to σ H λo H1=>ti σ H1 λi H2=>t o i v H2 λH3=>Q σ H3
theorem Zvw{o i:Expr}{to ti:TE}{t:Zs2}(ho:PE X o to)(hi:PE X i ti)(hs:Zwz X t)
  (ha:∀v,assign (.Subscript o i pos) X.env v=(do
   let ov <-holding [v] (eval o X.env)
   let iv <-holding [v,ov] (eval i X.env)
   standAt pos
   holding [v,ov,iv] (setItem ov iv v)
   release [v,ov,iv] []):=by intro _; rfl):PG X (.Subscript o i pos) (Zk9 to ti t):=by
 intro pins s σ H v u Q I r h;rw[ha];refine Zyi (Zzp (thn (ho pins s σ H _ I h) λov s1 ⟨x,H1,I1,r1,q1⟩=>?_));refine Zyi (Zzp (thn (hi pins s1 σ H1 _ I1 q1) λiv s2 ⟨y,H2,I2,r2,q2⟩=>?_));refine Zyi (wpAny_standAt (Zyi (Zzp (thn (hs pins s2 σ H2 x y v ov iv u _ I2 r1 r2 r q2) λ_ s3 ⟨H3,I3,q3⟩=>?_))));exact wpAny_release ⟨σ,H3,I3,q3⟩
def Zvr(te:TE)(g:TG):TS:=λD σ H=>te σ H λx H1=>g x σ H1 D.nx
theorem Zvt{e:Expr}{te:TE}{g:TG}(he:PE X e te)(hg:PG X tg g)(hs:swapsWithSole [tg] e pos.line X.env=pure ZDD:=by rfl)(hw:swappedStores [tg] e X.env=pure Z_:=by rfl)
  (h1:(assignEach [tg] X.env).map (·.2)=[assign tg X.env]:=by rfl):PS X (.Assign [tg] e pos) (Zvr te g):=by
 intro pins s σ H D I h;refine wpAny_Assign_stores (thn (he pins s σ H _ I h) λv s1 ⟨x,H1,I1,r1,q1⟩=>?_) hs hw;rw[h1];exact thn (hg pins s1 σ H1 x v _ I1 r1 q1) λ_ s2 ⟨σ',H',I',q'⟩=>⟨σ',H',I',q'⟩
theorem Zn4{e:Expr}{te:TE}{pos':Pos}(hN:X.N.Nodup)(hi:X.N[i]?=Z x)(hx:Loc X.env.scope x)(he:PE X e te)(hs:ZAT e (Z (.Name x pos')) pos.line X.env=pure ZDD:=by rfl)(hf:X.fn x=ZDC\/X.env.scope.names.lookup x=Z .local:=by first | exact .inl rfl | exact .inr rfl | assumption) :
  PS X (.Assign [.Name x pos'] e pos) (Zvr te (ZtZ i)):=by
 intro pins s σ H D I h;refine wpAny_Assign_Name (thn (he pins s σ H _ I h) λv s1 ⟨y,H1,I1,r1,q1⟩=>?_) hs;exact Zok I1 hN hi hx r1 (λs2 I2=>⟨_,H1,I2,q1⟩) hf
end
section
variable{X:Cx}{pos:Pos}
def Zv1(c:TT)(tb:TS):TS:=λD σ H=>∃W:Nat->St->Hp->Prop,(∃m,W m σ H)/\∀m σ H,W m σ H ->
 c σ H λb H1=>if b=ZDC then ∃N:St->Hp->Prop,(∀σ' H',N σ' H'->∃m',m'<m/\W m' σ' H')/\tb { D with nx:=N,ct:=N,bk:=D.nx } σ H1 else D.nx σ H1
theorem ZtK{body:List Stmt}{tc:TT}{tb:TS}(hp:PassesOwn (model X.prog X.w) X.A X.env X.xe)(hc:PT X c tc)(hb:PSs X body tb):PS X (.While c body [] pos) (Zv1 tc tb):=by
 intro pins s σ H D I h;obtain⟨W,⟨m0,w0⟩,turn⟩:=h;refine wpAny_While (codeAny_whileLoop (λn s'=>∃σ' H',Inv X pins σ' H' s'/\W n σ' H') ?_ m0 ⟨σ,H,I,w0⟩)
 rintro n s1 ⟨σ1,H1,I1,w1⟩
 refine ZAq hp (thn (hc pins s1 σ1 H1 _ I1 (turn n σ1 H1 w1)) λb s2 ⟨H2,I2,q2⟩=>?_);cases b with
 | true =>
  obtain⟨N,hN,q2⟩:=q2;rw[if_pos rfl];refine ZAq hp (thn (hb pins s2 σ1 H2 _ I2 q2) λf s3 q3=>?_);cases f with
  | next=>obtain⟨σ3,H3,I3,n3⟩:=q3;obtain⟨m',hm,w3⟩:=hN σ3 H3 n3;exact⟨m',hm,σ3,H3,I3,w3⟩
  | cont=>obtain⟨σ3,H3,I3,n3⟩:=q3;obtain⟨m',hm,w3⟩:=hN σ3 H3 n3;exact⟨m',hm,σ3,H3,I3,w3⟩
  | brk=>exact q3
  | ret v=>exact q3
 | false=>rw[if_neg Zy5];exact ZBQ ⟨σ1,H2,I2,q2⟩
end
structure It where
 go:Nat->Hp->Prop
 yld:Nat->Hp->V->Hp->Prop
 stop:Nat->Hp->Prop
def Zgf(X:Cx)(pins:List (Addr × Obj))(H:Hp)(b:Addr):Prop :=
 H b=Z_/\b≠X.env.locals/\b ∉ X.fs/\(b∈X.ex\/X.s₀.heap.objs.size<=b)/\(∀x c,X.env.cells.lookup x=Z c->c≠b)/\∀p∈X.pn++pins,p.1≠b
theorem Inv.fpOk{H':Hp}{b:Addr}(I:Inv X pins σ H s)(hb:s.heap.objs.size<=b)(hn:H' b=Z_):Zgf X pins H' b:=by
 refine⟨hn,ZA0 (ZyO I.lt hb),I.nofs hb,.inr (Zy2 I.sz hb),λx c e z=>?_,λp hp z=>?_⟩
 ·obtain⟨v,q⟩:=I.cell x c e
  exact absurd (ZyO q.lt (by rw[z]; exact hb)) (Zz5 _)
 ·exact absurd (ZyO (ZyB (I.pin p hp).1) (by rw[z]; exact hb)) (Zz5 _)
structure Turn(P:Program)(w:World)(K:Zyk)(tg:Expr)(J:It)(fp:List Addr)(it:Addr)(tn:Nat->Heap->Prop):Prop where
 mem:it∈fp
 obj:∀i h,tn i h->∀b∈fp,∃o,h.get? b=Z o/\∀v,o.data≠.cell v
 keep:∀i h h',tn i h->(∀b∈fp,∀o,h.get? b=Z o->h'.get? b=Z o)->tn i h'
 item:∀(X:Cx),X.prog=P->X.w=w->X.K=K->X.calm=ZDC->∀(i:Nat) (pins:List (Addr × Obj)) (s:Shared) (σ:St) (H:Hp) (E:Value->Shared->Prop),Inv X pins σ H s->(∀b∈fp,Zgf X pins H b)->tn i s.heap->J.go i H ->
  wpAny (model P w) X.A (pyNext (.ref it)) (λr s1=>∃u,r=Z u /\
   wpAny (model P w) X.A (ZBR tg (.ref it) u) (λ_ s2=>∃x H',Inv X pins σ H' s2/\RelV x u/\J.yld i H x H'/\tn (i+1) s2.heap/\∀b∈fp,H' b=Z_) E s1) E s
 done:∀(X:Cx),X.prog=P->X.w=w->X.K=K->X.calm=ZDC->∀(i:Nat) (pins:List (Addr × Obj)) (s:Shared) (σ:St) (H:Hp) (E:Value->Shared->Prop),Inv X pins σ H s->(∀b∈fp,Zgf X pins H b)->tn i s.heap->J.stop i H ->
  wpAny (model P w) X.A (pyNext (.ref it)) (λr s1=>r=Z_/\Inv X pins σ H s1) E s
 self:∀(A:Around) (i:Nat) (s:Shared) (Q:Value->Shared->Prop) (E:Value->Shared->Prop),tn i s.heap->Q (.ref it) s->wpAny (model P w) A (pyIter (.ref it)) Q E s
abbrev TI:=St->Hp->(It->Hp->Prop)->Prop
def PIE(X:Cx)(pins:List (Addr × Obj))(σ:St)(tg:Expr)(R:It->Hp->Prop)(itv:Value)(s2:Shared):Prop :=
 ∃(it:Addr) (fp:List Addr) (tn:Nat->Heap->Prop) (J:It) (H':Hp),itv=.ref it/\Inv X pins σ H' s2/\Turn X.prog X.w X.K tg J fp it tn/\tn 0 s2.heap/\(∀b∈fp,Zgf X pins H' b)/\R J H'
def PI(X:Cx)(tg iter:Expr)(wi:TI):Prop :=
 ∀(pins:List (Addr × Obj)) (s:Shared) (σ:St) (H:Hp) (R:It->Hp->Prop),Inv X pins σ H s->wi σ H R ->
  wpAny (model X.prog X.w) X.A (eval iter X.env) (λv s1=>wpAny (model X.prog X.w) X.A (pyIter v) (PIE X pins σ tg R) X.xe s1) X.xe s
theorem ZmM{M:Model}{A:Around}{it:Addr}{o:Obj}{n:String}{vs:Array Value}{Q:Unit->Shared->Prop}(ho:s.heap.get? it=Z o)(hc:o.cls=.type n)(hd:o.data=.fields vs)
    (hn:["enumerate","zip","dict_itemiterator","dict_reverseitemiterator","odict_iterator","itertools.zip_longest","itertools.pairwise"].contains n=ZDD) (hQ:Q () s):wpAny M A (ZBR tg (.ref it) u) Q E s:=by
  unfold ZBR
  cases tg<;>first
    | exact Zym hQ
    | (cases u<;>first
        | exact Zym hQ
        | (refine Zyi (wpAny_load ho ?_)
           rw [hc, hd]
           show wpAny M A (if (["enumerate", "zip", "dict_itemiterator", "dict_reverseitemiterator", "odict_iterator", "itertools.zip_longest", "itertools.pairwise"].contains n && vs[0]? == Z (rawInt _)) = ZDC then _ else _) Q E s
           rw [if_neg (by intro h; rw [hn, Bool.false_and] at h; cases h)]
           exact Zym hQ))
def Itl(K:Zyk)(a:Addr):It :=
 ⟨λi H=>∃xs x,SqL K H a xs/\xs[i]?=Z x,λi H x H'=>H'=H/\∀xs,SqL K H a xs->xs[i]?=Z x,λi H=>∃xs,SqL K H a xs/\xs.length<=i⟩
def Itt(K:Zyk)(a:Addr):It :=
 ⟨λi H=>∃xs x,SqT K H a xs/\xs[i]?=Z x,λi H x H'=>H'=H/\∀xs,SqT K H a xs->xs[i]?=Z x,λi H=>∃xs,SqT K H a xs/\xs.length<=i⟩
def Itr(lo:Int)(n:Nat):It:=⟨λi _=>i<n,λi H x H'=>H'=H/\x=.int (lo+i),λi _=>n<=i⟩
theorem Zr7(a it:Addr):Turn P w K tg (Itl K a) [it] it (λi h=>h.IsListIter it a i) where
 mem:=by simp
 obj:=λi h st b hb=>by
  have e:b=it:=by simpa using hb
  subst e;obtain⟨o,e,c,d⟩:=st;exact⟨o,e,λv z=>by rw[d]at z; cases z⟩
 keep:=λi h h' st k=>st.at λo e=>k it (by simp) o e
 item:=by intro X hP hw hK hc i pins s σ H E I hf st hg;subst hP hw hK;obtain⟨xs,x,hq,hx⟩:=hg;obtain⟨its,rv,p,hz⟩:=I.list hq;obtain⟨u,hu,ru⟩:=rv.get hx;obtain⟨f0,f1,f2,f3,f4,f5⟩:=hf it (by simp);refine wpAny_pyNext_list_item st p.isList (x:=u) (by simpa using hu) λh' st' sb=>?_;have I1:Inv X pins σ H { s with heap:=h' }:=I.turned (t':=s.toks) (λb o hb e=>(sb.2 b hb).trans e) f0 f1 f3 f4 f5;obtain⟨o,e,c,d⟩:=id st';exact⟨u,rfl,ZmM (s:={ s with heap:=h' }) e c d (by decide) ⟨x,H,I1,ru,⟨rfl,λys hy=>by rw[I.list_inj hy hq]; exact hx⟩,st',λb hb=>(hf b hb).1⟩⟩
 done:=by intro X hP hw hK hc i pins s σ H E I hf st hg;subst hP hw hK;obtain⟨xs,hq,hx⟩:=hg;obtain⟨its,rv,p,hz⟩:=I.list hq;obtain⟨f0,f1,f2,f3,f4,f5⟩:=hf it (by simp);have hl:=rv.length;exact wpAny_pyNext_list_end (I.ok.hd hc) st p.isList (by simp; omega) λh' eb=>⟨rfl,I.turned (t':=s.toks) (λb o hb e=>eb b o hb e) f0 f1 f3 f4 f5⟩
 self:=λ_ _ _ _ _ st h=>wpAny_pyIter_listiter st h
theorem Zq7(a it:Addr):Turn P w K tg (Itt K a) [it] it (λi h=>h.IsTupleIter it a i) where
 mem:=by simp
 obj:=λi h st b hb=>by
  have e:b=it:=by simpa using hb
  subst e;obtain⟨o,e,c,d⟩:=st;exact⟨o,e,λv z=>by rw[d]at z; cases z⟩
 keep:=λi h h' st k=>st.at λo e=>k it (by simp) o e
 item:=by intro X hP hw hK hc i pins s σ H E I hf st hg;subst hP hw hK;obtain⟨xs,x,hq,hx⟩:=hg;obtain⟨its,rv,p,hz⟩:=I.tuple hq;obtain⟨u,hu,ru⟩:=rv.get hx;obtain⟨f0,f1,f2,f3,f4,f5⟩:=hf it (by simp);refine wpAny_pyNext_tuple_item st (show s.heap.IsTuple a its.toArray from p) (x:=u) (by simpa using hu) λh' st' sb=>?_;have I1:Inv X pins σ H { s with heap:=h' }:=I.turned (t':=s.toks) (λb o hb e=>(sb.2 b hb).trans e) f0 f1 f3 f4 f5;obtain⟨o,e,c,d⟩:=id st';exact⟨u,rfl,ZmM (s:={ s with heap:=h' }) e c d (by decide) ⟨x,H,I1,ru,⟨rfl,λys hy=>by rw[I.tuple_inj hy hq]; exact hx⟩,st',λb hb=>(hf b hb).1⟩⟩
 done:=by intro X hP hw hK hc i pins s σ H E I hf st hg;subst hP hw hK;obtain⟨xs,hq,hx⟩:=hg;obtain⟨its,rv,p,hz⟩:=I.tuple hq;obtain⟨f0,f1,f2,f3,f4,f5⟩:=hf it (by simp);have hl:=rv.length;exact wpAny_pyNext_tuple_end (I.ok.hd hc) st (show s.heap.IsTuple a its.toArray from p) (by simp; omega) λh' eb=>⟨rfl,I.turned (t':=s.toks) (λb o hb e=>eb b o hb e) f0 f1 f3 f4 f5⟩
 self:=λ_ _ _ _ _ st h=>wpAny_pyIter_tupleiter st h
theorem ZqK(it:Addr)(lo:Int)(n:Nat):Turn P w K tg (Itr lo n) [it] it (λi h=>IsRangeIter h it (lo+(i:Nat)*1) ((n:Int)-(i:Nat)) 1) where
 mem:=by simp
 obj:=λi h st b hb=>by
  have e:b=it:=by simpa using hb
  subst e;exact⟨_,st,λv z=>by have z':Data.fields _=Data.cell v:=z;cases z'⟩
 keep:=λi h h' st k=>k it (by simp) _ st
 item:=by intro X hP hw hK hc i pins s σ H E I hf st hg;subst hP hw hK;obtain⟨f0,f1,f2,f3,f4,f5⟩:=hf it (by simp);have W:=Walks.range (prog:=X.prog) (w:=X.w) (I.ok.hd hc) it lo 1 n;refine W.item i s _ _ hg st λv h' tk hv st' kk=>?_;obtain⟨t,rfl⟩:=hv;have I1:Inv X pins σ H { s with heap:=h',toks:=tk }:=I.turned (λb o hb e=>kk b o (by simpa using hb) e) f0 f1 f3 f4 f5;refine⟨_,rfl,ZmM (s:={ s with heap:=h',toks:=tk }) (n:="range_iterator") st' rfl rfl (by decide) ⟨.int (lo+i),H,I1,⟨t,?_⟩,⟨rfl,rfl⟩,st',λb hb=>(hf b hb).1⟩⟩;rw[Int.mul_one]
 done:=by intro X hP hw hK hc i pins s σ H E I hf st hg;subst hP hw hK;obtain⟨f0,f1,f2,f3,f4,f5⟩:=hf it (by simp);exact wpAny_pyNext_range_end (I.ok.hd hc) st (by have:n<=i:=hg; omega) λh' eb=>⟨rfl,I.turned (t':=s.toks) (λb o hb e=>eb b o hb e) f0 f1 f3 f4 f5⟩
 self:=λ_ _ _ _ _ st h=>wpAny_pyIter_rangeiter st h
end L2
namespace L2
open PySem PySem.Spec PyProof.Rows
variable{h:Heap}{H:Hp}{pins:List (Addr × Obj)}{fp:List Addr}{pos:Pos}{s:Shared}{σ:St}
section
variable{X:Cx}{tg:Expr}
theorem Zts{R:It->Hp->Prop}{E:Value->Shared->Prop}{lo hi:Int}{t u v:Tok}{tk:Nat}(I:Inv X pins σ H s)(h1:-(2 ^ 62)<=lo)(h2:lo<2 ^ 62)(h3:-(2 ^ 62)<=hi)(h4:hi<2 ^ 62)
  (q:R (Itr lo (hi-lo).toNat) H):wpAny (model X.prog X.w) X.A (pyIter (.ref s.heap.objs.size)) (PIE X pins σ tg R) E { s with heap:=s.heap.push { cls:=.type "range",data:=.fields #[.int lo t,.int hi u,.int 1 v] },toks:=tk }:=by
 refine wpAny_pyIter_range (IsRange.new ..) (small_one h1 h2 h3 h4) ?_;have I1:Inv X pins σ H { s with heap:=s.heap.push { cls:=.type "range",data:=.fields #[.int lo t,.int hi u,.int 1 v] },toks:=tk }:=I.kept λb o e=>Zyn _ e;refine⟨(s.heap.push { cls:=.type "range",data:=.fields #[.int lo t,.int hi u,.int 1 v] }).objs.size,[(s.heap.push { cls:=.type "range",data:=.fields #[.int lo t,.int hi u,.int 1 v] }).objs.size],_,_,H,rfl,
  I1.kept (t':=tk) λb o e=>Zyn _ e,ZqK _ lo (hi-lo).toNat,?_,λb hb=>?_,q⟩
 ·have e1:lo+((0:Nat):Int)*1=lo:=by simp
  have e2:(((hi-lo).toNat:Nat):Int)-((0:Nat):Int)=ZAK lo hi 1:=by rw[rangeSize_one]; split<;>omega
  show IsRangeIter _ _ (lo+((0:Nat):Int)*1) ((((hi-lo).toNat:Nat):Int)-((0:Nat):Int)) 1;rw[e1,e2];exact ZyC _ rfl
 ·have e:b=(s.heap.push { cls:=.type "range",data:=.fields #[.int lo t,.int hi u,.int 1 v] }).objs.size:=by simpa using hb
  subst e;exact I1.fpOk (Zyr _) (I1.hok.fresh (Zyr _))
def ZbV(ta:TA):TI:=λσ H R=>ta σ H λvs H1=>∃j:Int,vs=[.int j]/\-(2 ^ 62)<=j/\j<2 ^ 62/\R (Itr 0 j.toNat) H1
theorem Zru{a:Expr}{ta:TA}{p:Pos}(hg:Gl X "range")(hm:X.mg "range" = Z_)(ha:PA X [a] ta)(hs:Zyz [a] X.env=[(ZDD,eval a X.env)]:=by rfl):PI X tg (.Call (.Name "range" p) [a] [] pos) (ZbV ta):=by
 intro pins s σ H R I h;refine Call_ (Zhh I hg hm boot_range (ZCk (thn (ha pos pins s σ H _ I h) λus s1 ⟨vs,H1,I1,r1,q1⟩=>?_) hs rfl));obtain⟨j,e,q1,q2,q⟩:=q1;subst e;cases r1 with
 | cons r rr=>cases rr;obtain⟨t,rfl⟩:=r;exact call_range_1 (Zts I1 (by omega) (by omega) q1 q2 (by simpa using q))
def Zxt(wi:TI)(g:TG)(tb:TS):TS:=λD σ H=>wi σ H λJ H1=>∃W:Nat->Nat->St->Hp->Prop,(∃m,W 0 m σ H1)/\∀i m σ H,W i m σ H ->
 (J.stop i H/\D.nx σ H)\/(J.go i H/\∃N:St->Hp->Prop,(∀σ' H',N σ' H'->∃m',m'<m/\W (i+1) m' σ' H')/\∀x H',J.yld i H x H'->g x σ H' λσ2 H2=>tb { D with nx:=N,ct:=N,bk:=D.nx } σ2 H2)
def ZiL(fp:List Addr)(h:Heap):List (Addr × Obj):=fp.filterMap λb=>(h.get? b).map λo=>(b,o)
theorem Zfs{b:Addr}{o:Obj}(hb:b∈fp)(e:h.get? b=Z o):(b,o)∈ZiL fp h:=ZzG.mpr ⟨b,hb,by rw[e]; rfl⟩
theorem Zr4{p:Addr × Obj}(hp:p∈ZiL fp h):p.1∈fp/\h.get? p.1=Z p.2:=by
 obtain⟨b,hb,e⟩:=ZzG.mp hp;cases q:h.get? b with
 | none=>rw[q]at e; cases e
 | some o=>rw[q]at e;have e':(b,o)=p:=Zzm e;subst e';exact⟨hb,q⟩
theorem Inv.pinned(I:Inv X pins σ H s)(hf:∀b∈fp,Zgf X pins H b)(ho:∀b∈fp,∃o,s.heap.get? b=Z o/\∀v,o.data≠.cell v):Inv X (pins++ZiL fp s.heap) σ H s :=
 I.pins_of λp hp=>(ZyK.mp hp).elim (λz=>I.pin p (ZyP _ z)) λz=>by obtain⟨hb,e⟩:=Zr4 z;obtain⟨f0,f1,f2,_⟩:=hf p.1 hb;obtain⟨o,e',d⟩:=ho p.1 hb;rw[e]at e'; cases e';exact⟨e,f0,f1,f2,d⟩
theorem Inv.unpinned{pl:List (Addr × Obj)}(I:Inv X (pins++pl) σ H s):Inv X pins σ H s:=I.pins_of λp hp=>I.pin p (ZyP _ (Zy1 _ hp))
theorem ZvR{iter:Expr}{body:List Stmt}{wi:TI}{g:TG}{tb:TS}(hp:PassesOwn (model X.prog X.w) X.A X.env X.xe)(hc:X.calm=ZDC)(hi:PI X tg iter wi)(hg:PG X tg g)(hb:PSs X body tb)
  (hs:∀x,ZAw iter X.env x=pure x:=by intro _; rfl):PS X (.For tg iter body [] pos) (Zxt wi g tb):=by
 intro pins s σ H D I h;refine wpAny_For (thn (hi pins s σ H _ I h) λv s1 h1=>thn h1 λitv s2 h2=>?_) hs;obtain⟨it,fp,tn,J,H2,e,I2,T,st2,f2,W,⟨m0,w0⟩,turn⟩:=h2;subst e;have stat:∀{H':Hp},(∀b∈fp,H' b=Z_)->∀b∈fp,Zgf X pins H' b:=λhn b hb=>⟨hn b hb,(f2 b hb).2⟩;refine codeAny_forLoop_any (λn s'=>∃i σ' H',Inv X pins σ' H' s'/\tn i s'.heap/\(∀b∈fp,H' b=Z_)/\W i n σ' H') ?_ m0 ⟨0,σ,H2,I2,st2,λb hb=>(f2 b hb).1,w0⟩
 rintro n s3 ⟨i,σ3,H3,I3,st3,fr3,w3⟩
 rcases turn i n σ3 H3 w3 with⟨stop,qn⟩ | ⟨go,N,hN,step⟩
 ·refine ZAq hp (thn (T.done X rfl rfl rfl hc i pins s3 σ3 H3 X.xe I3 (stat fr3) st3 stop) λr s4 ⟨hr,I4⟩=>?_)
  subst hr;exact ZBQ ⟨σ3,H3,I4,qn⟩
 ·refine ZAq hp (thn (T.item X rfl rfl rfl hc i pins s3 σ3 H3 X.xe I3 (stat fr3) st3 go) λr s4 ⟨u,hr,h4⟩=>?_)
  subst hr;refine ZAq hp (thn h4 λ_ s5 ⟨x,H5,I5,r5,y5,st5,fr5⟩=>?_);have I5':=I5.pinned (stat fr5) (T.obj _ _ st5);refine ZAq hp (thn (hg _ s5 σ3 H5 x u _ I5' r5 (step x H5 y5)) λ_ s6 ⟨σ6,H6,I6,q6⟩=>?_);refine ZAq hp (thn (hb _ s6 σ6 H6 _ I6 q6) λf s7 q7=>?_);have again:∀{σ7:St} {H7:Hp},Inv X (pins++ZiL fp s5.heap) σ7 H7 s7->N σ7 H7->∃m,m<n/\∃i σ' H',Inv X pins σ' H' s7/\tn i s7.heap/\(∀b∈fp,H' b=Z_)/\W i m σ' H':=λ{σ7 H7} I7 n7=>by obtain⟨m',hm,w7⟩:=hN σ7 H7 n7;refine⟨m',hm,i+1,σ7,H7,I7.unpinned,T.keep _ _ _ st5 λb hb o e=>(I7.pin (b,o) (ZyP _ (ZyP _ (Zfs hb e)))).1,λb hb=>?_,w7⟩;obtain⟨o,e,d⟩:=T.obj _ _ st5 b hb;exact(I7.pin (b,o) (ZyP _ (ZyP _ (Zfs hb e)))).2.1
  cases f with
  | next=>obtain⟨σ7,H7,I7,n7⟩:=q7; exact again I7 n7
  | cont=>obtain⟨σ7,H7,I7,n7⟩:=q7; exact again I7 n7
  | brk=>obtain⟨σ7,H7,I7,q7⟩:=q7; exact⟨σ7,H7,I7.unpinned,q7⟩
  | ret v=>obtain⟨x7,σ7,H7,I7,r7,q7⟩:=q7; exact⟨x7,σ7,H7,I7.unpinned,r7,q7⟩
end
end L2
namespace L2
open PySem PySem.Spec PyProof.Rows
variable{H:Hp}{g:Int->Int->Int}{pins:List (Addr × Obj)}{us:List Value}{s:Shared}{σ:St}{x:V}
abbrev R2:=V->V->Hp->VK->Prop
def OpR(X:Cx)(f:Value->Value->Sem Value)(r:R2):Prop :=
 ∀(pins:List (Addr × Obj)) (s:Shared) (σ:St) (H:Hp) (x y:V) (v u:Value) (Q:VK),Inv X pins σ H s->RelV x v->RelV y u->r x y H Q ->
  wpAny (model X.prog X.w) X.A (f v u) (EP X pins σ Q) X.xe s
def ZaE(X:Cx)(f:Value)(r:List V->Hp->VK->Prop):Prop :=
 ∀(pins:List (Addr × Obj)) (s:Shared) (σ:St) (H:Hp) (xs:List V) (us:List Value) (Q:VK),Inv X pins σ H s->Vals xs us->r xs H Q ->
  wpAny (model X.prog X.w) X.A (call f us) (EP X pins σ Q) X.xe s
def tOp(r:R2)(ta tb:TE):TE:=λσ H Q=>ta σ H λx H1=>tb σ H1 λy H2=>r x y H2 Q
def rI(C:Int->Int->Prop)(g:Int->Int->V):R2:=λx y H Q=>∃i j,x=.int i/\y=.int j/\C i j/\Q (g i j) H
def rI0(g:Int->Int->V):R2:=λx y H Q=>∃i j,x=.int i/\y=.int j/\Q (g i j) H
section
variable{X:Cx}{a b c:Expr}{ta tb tc:TE}{pos:Pos}
theorem Zs8(ha:PE X a ta)(hb:PE X b tb){R:V->V->Hp->Prop}(I:Inv X pins σ H s)
  (h:ta σ H λx H1=>tb σ H1 λy H2=>R x y H2) {Q:Value->Shared->Prop} {f:Value->Value->Sem Value}
  (hf:∀v u s2 x y H2,Inv X pins σ H2 s2->RelV x v->RelV y u->R x y H2->wpAny (model X.prog X.w) X.A (f v u) Q X.xe s2) :
  wpAny (model X.prog X.w) X.A (eval a X.env) (λv s₁=>wpAny (model X.prog X.w) X.A (eval b X.env) (λu s₂=>wpAny (model X.prog X.w) X.A (f v u) Q X.xe s₂) X.xe s₁) X.xe s:=by
 refine thn (ha pins s σ H _ I h) λv s1 ⟨x,H1,I1,r1,q1⟩=>?_;refine thn (hb pins s1 σ H1 _ I1 q1) λu s2 ⟨y,H2,I2,r2,q2⟩=>?_;exact hf v u s2 x y H2 I2 r1 r2 q2
theorem ZkA{op:Operator}{r:R2}(ho:OpR X (ZAC op) r)(ha:PE X a ta)(hb:PE X b tb):PE X (.BinOp a op b pos) (tOp r ta tb):=by intro pins s σ H Q I h;exact wpAny_BinOp (Zs8 ha hb I h λv u s2 x y H2 I2 rx ry q=>ho pins s2 σ H2 x y v u Q I2 rx ry q)
theorem opI{f:Value->Value->Sem Value}{C:Int->Int->Prop}
  (rule:∀(i j:Int) (t u:Tok) (s:Shared) (Q:Value->Shared->Prop) (E:Value->Shared->Prop),C i j->Q (.int (g i j) s.toks) { s with toks:=s.toks+1 }->wpAny (model X.prog X.w) X.A (f (.int i t) (.int j u)) Q E s) :
  OpR X f (rI C λi j=>.int (g i j)):=by
 intro pins s σ H x y v u Q I rx ry h;obtain⟨i,j,rfl,rfl,hc,q⟩:=h;obtain⟨t,rfl⟩:=rx;obtain⟨t',rfl⟩:=ry;exact rule i j t t' s _ _ hc ⟨.int (g i j),H,I.tok _,⟨_,rfl⟩,q⟩
theorem Zvo{f:Value->Value->Sem Value}
  (rule:∀(i j:Int) (t u:Tok) (s:Shared) (Q:Value->Shared->Prop) (E:Value->Shared->Prop),Q (.int (g i j) s.toks) { s with toks:=s.toks+1 }->wpAny (model X.prog X.w) X.A (f (.int i t) (.int j u)) Q E s) :
  OpR X f (rI0 λi j=>.int (g i j)):=by
 intro pins s σ H x y v u Q I rx ry h;obtain⟨i,j,rfl,rfl,q⟩:=h;obtain⟨t,rfl⟩:=rx;obtain⟨t',rfl⟩:=ry;exact rule i j t t' s _ _ ⟨.int (g i j),H,I.tok _,⟨_,rfl⟩,q⟩
theorem Zta{f:Value->Value->Sem Value}{g:Int->Int->Bool}
  (rule:∀(i j:Int) (t u:Tok) (s:Shared) (Q:Value->Shared->Prop) (E:Value->Shared->Prop),Q (.bool (g i j)) s->wpAny (model X.prog X.w) X.A (f (.int i t) (.int j u)) Q E s) :
  OpR X f (rI0 λi j=>.bl (g i j)):=by
 intro pins s σ H x y v u Q I rx ry h;obtain⟨i,j,rfl,rfl,q⟩:=h;obtain⟨t,rfl⟩:=rx;obtain⟨t',rfl⟩:=ry;exact rule i j t t' s _ _ ⟨.bl (g i j),H,I,rfl,q⟩
def Zq8(i j:Int):Prop:=(-(2 ^ 64)<i/\i<2 ^ 64)\/(-(2 ^ 64)<j/\j<2 ^ 64)
theorem Zq8.ok{i j:Int}(h:Zq8 i j):IntMulOk i j:=by
 rcases h with⟨h1,h2⟩ | ⟨h1,h2⟩
 ·exact .of_left (intBits_le_64 h1 h2)
 ·exact .of_right (intBits_le_64 h1 h2)
theorem Zv0:OpR X (ZAC .Add) (rI0 λi j=>.int (i+j)):=Zvo λ_ _ _ _ _ _ _ q=>add_int q
theorem Zwp:OpR X (ZAC .Sub) (rI0 λi j=>.int (i-j)):=Zvo λ_ _ _ _ _ _ _ q=>sub_int q
theorem ZvE:OpR X (ZAC .Mult) (rI Zq8 λi j=>.int (i*j)):=opI λ_ _ _ _ _ _ _ hc q=>mul_int q hc.ok
theorem Zws:OpR X (ZAC .Mod) (rI (λ_ j=>0<j) λi j=>.int (i % j)):=opI λi j _ _ _ _ _ hc q=>by have h1:(0:Int)<j:=hc;exact mod_int' (by omega) (by rw[Int.fmod_eq_emod_of_nonneg i (by omega)]; exact q)
end
section
variable{X:Cx}{a b c:Expr}{ta tb tc:TE}{pos:Pos}
theorem Zrr{Q:VK}{k k':Bool}(I:Inv X pins σ H s)(q:Q (.bl k) H)(e:k=k'):EP X pins σ Q (.bool k') s:=by subst e;exact⟨.bl k,H,I,rfl,q⟩
theorem Zw3:OpR X (ZzC .Lt) (rI0 λi j=>.bl (decide (i<j))):=Zta λ_ _ _ _ _ _ _ q=>lt_int q
theorem ZwS:OpR X (ZzC .LtE) (rI0 λi j=>.bl (decide (i<=j))):=Zta λ_ _ _ _ _ _ _ q=>le_int q
theorem ZwP:OpR X (ZzC .Gt) (rI0 λi j=>.bl (decide (j<i))):=Zta λ_ _ _ _ _ _ _ q=>gt_int q
theorem ZvN:OpR X (ZzC .Is) (λx y H Q=>y=.non/\Q (.bl (decide (x=.non))) H):=by
 intro pins s σ H x y v u Q I rx ry h;obtain⟨rfl,q⟩:=h;cases ry;refine is_none_gen (Zrr I q ?_);cases x<;>first
  | (cases rx; rfl)
  | (obtain⟨t,rfl⟩:=rx; rfl)
theorem ZuL:OpR X (ZzC .IsNot) (λx y H Q=>y=.non/\Q (.bl (!decide (x=.non))) H):=by
 intro pins s σ H x y v u Q I rx ry h;obtain⟨rfl,q⟩:=h;cases ry;refine isnot_none_gen (Zrr I q ?_);cases x<;>first
  | (cases rx; rfl)
  | (obtain⟨t,rfl⟩:=rx; rfl)
theorem ZpD{op:CmpOp}{r:R2}(ho:OpR X (ZzC op) r)(ha:PE X a ta)(hb:PE X b tb)(hm:ZzX op b=ZDD):PE X (.Compare a [op] [b] pos) (tOp r ta tb):=by intro pins s σ H Q I h;exact wpAny_Compare1 (Zs8 ha hb I h λv u s2 x y H2 I2 rx ry q=>ho pins s2 σ H2 x y v u Q I2 rx ry q) hm
def ZwT(t:TE):TT:=λσ H Q=>t σ H λx H'=>∃k,x=.bl k/\Q k H'
theorem ZpX{op:CmpOp}{r:R2}(ho:OpR X (ZzC op) r)(ha:PE X a ta)(hb:PE X b tb)(hm:ZzX op b=ZDD):PT X (.Compare a [op] [b] pos) (ZwT (tOp r ta tb)):=by intro pins s σ H Q I h;refine wpAny_isTrue_Compare1 (thn (ha pins s σ H _ I h) λv s1 ⟨x,H1,I1,r1,q1⟩=>thn (hb pins s1 σ H1 _ I1 q1) λu s2 ⟨y,H2,I2,r2,q2⟩=>thn (ho pins s2 σ H2 x y v u _ I2 r1 r2 q2) λc s3 ⟨z,H3,I3,r3,k,e,q3⟩=>?_) hm;subst e;cases r3;exact ZAg ⟨H3,I3,q3⟩
def Zvl(r r':R2)(ta tb tc:TE):TE:=λσ H Q=>ta σ H λx H1=>tb σ H1 λy H2=>r x y H2 λz H3=>∃k,z=.bl k /\
 (if k=ZDC then tc σ H3 λw' H4=>r' y w' H4 Q else Q (.bl ZDD) H3)
theorem ZnG{op op':CmpOp}{r r':R2}(ho:OpR X (ZzC op) r)(ho':OpR X (ZzC op') r')(ha:PE X a ta)(hb:PE X b tb)(hc:PE X c tc)
  (hm:lastMarks [op,op'] [b,c]=ZDD:=by with_unfolding_all rfl):PE X (.Compare a [op,op'] [b,c] pos) (Zvl r r' ta tb tc):=by
 intro pins s σ H Q I h;refine Compare_chain (thn (ha pins s σ H _ I h) λv s1 ⟨x,H1,I1,r1,q1⟩=>chain_link (thn (hb pins s1 σ H1 _ I1 q1) λu s2 ⟨y,H2,I2,r2,q2⟩=>thn (ho pins s2 σ H2 x y v u _ I2 r1 r2 q2) λd s3 ⟨z,H3,I3,r3,k,e,q3⟩=>?_)) hm;subst e;cases r3;refine ZAg ?_;cases k with
 | false=>exact ite_ff ⟨.bl ZDD,H3,I3,rfl,q3⟩
 | true=>exact ite_tt (chain_last (thn (hc pins s3 σ H3 _ I3 q3) λw' s4 ⟨z',H4,I4,r4,q4⟩=>ho' pins s4 σ H4 y z' u w' Q I4 r2 r4 q4))
theorem Ziz:(sizeLine:Nat)<2 ^ 63:=by rw[Zze]; decide
theorem vals1(r:Vals [x] us):∃u,us=[u]/\RelV x u:=by
 cases r with
 | cons r1 r2=>cases r2; exact⟨_,rfl,r1⟩
theorem vals2{y:V}(r:Vals [x,y] us):∃u w',us=[u,w']/\RelV x u/\RelV y w':=by
 cases r with
 | cons r1 r2 =>
  cases r2 with
  | cons r3 r4=>cases r4; exact⟨_,_,rfl,r1,r3⟩
theorem ZrI(hc:X.calm=ZDC):ZaE X (.builtin "max") (λxs H Q=>∃i j,xs=[.int i,.int j]/\Q (.int (if j > i then j else i)) H):=by
 intro pins s σ H xs us Q I r h;obtain⟨i,j,rfl,q⟩:=h;obtain⟨u,w',rfl,⟨t,rfl⟩,⟨t',rfl⟩⟩:=vals2 r;refine max_two_ints (I.ok.hd hc) λh' tk k=>⟨_,H,I.kept k,?_,q⟩
 by_cases hj:j > i
 ·rw[if_pos hj,if_pos hj]; exact⟨_,rfl⟩
 ·rw[if_neg hj,if_neg hj]; exact⟨_,rfl⟩
theorem Zsb(hc:X.calm=ZDC):ZaE X (.builtin "min") (λxs H Q=>∃i j,xs=[.int i,.int j]/\Q (.int (if j<i then j else i)) H):=by
 intro pins s σ H xs us Q I r h;obtain⟨i,j,rfl,q⟩:=h;obtain⟨u,w',rfl,⟨t,rfl⟩,⟨t',rfl⟩⟩:=vals2 r;refine min_two_ints (I.ok.hd hc) λh' tk k=>⟨_,H,I.kept k,?_,q⟩
 by_cases hj:j<i
 ·rw[if_pos hj,if_pos hj]; exact⟨_,rfl⟩
 ·rw[if_neg hj,if_neg hj]; exact⟨_,rfl⟩
theorem Zl5:ZaE X (.type "int") (λxs H Q=>(∃i,xs=[.int i]/\Q (.int i) H)\/∃k,xs=[.bl k]/\Q (.int (if k then 1 else 0)) H):=by
 intro pins s σ H xs us Q I r h;rcases h with⟨i,rfl,q⟩ | ⟨k,rfl,q⟩
 ·obtain⟨u,rfl,t,rfl⟩:=vals1 r
  exact call_int_int ⟨.int i,H,I,⟨_,rfl⟩,q⟩
 ·obtain⟨u,rfl,r1⟩:=vals1 r
  cases r1;exact call_int_bool ⟨.int (if k then 1 else 0),H,I.tok _,⟨_,rfl⟩,q⟩
end
end L2
namespace L2
open PySem PySem.Spec PyProof.Rows
theorem ZgW.some_of{v:V}{o:Option Value}(r:ZgW (Z v) o):∃u,o=Z u/\RelV v u:=by
 cases o with
 | none=>exact(show False from r).elim
 | some u=>exact⟨u,rfl,r⟩
end L2
namespace L2
open PySem PySem.Spec PyProof.Rows
variable{f:Addr}{A:Around}{base:Heap}{H:Hp}{ps:List Str}{vs:List V}{us:List Value}{P:Program}{K:Zyk}{scope:Scope}{s:Shared}{qual:Str}{mg:Str->Option Value}{w:World}
structure ZV(k:Nat)(A:Around):Prop where
 hd:A.handled=Z_
 dp:A.depth+3*k+5<recursionLimit
 un:A.units+16*k+200<cLine
theorem ZV.mono{j k:Nat}{A:Around}(r:ZV k A)(h:j<=k):ZV j A:=⟨r.hd,by have:=r.dp; omega,by have:=r.un; omega⟩
theorem ZV.deeper{k:Nat}{A:Around}(r:ZV (k+1) A)(env:Env):ZV k (A.deeper env) :=
 ⟨r.hd,by have:=r.dp; show A.depth+1+3*k+5<_; omega,by have:=r.un; show A.units+3+16*k+200<_; omega⟩
theorem ZV.in1{k:Nat}{A:Around}(r:ZV (k+1) A):ZV k A.in1 :=
 ⟨r.hd,by have:=r.dp; show A.depth+3*k+5<_; omega,by have:=r.un; show A.units+1+16*k+200<_; omega⟩
theorem ZV.depth{k:Nat}{A:Around}(r:ZV k A):A.depth<recursionLimit:=by have:=r.dp; omega
theorem ZV.units{k:Nat}{A:Around}(r:ZV k A):A.units+64<cLine:=by have:=r.un; omega
theorem ZV.units0{k:Nat}(r:ZV k A):A.units<cLine:=by have:=r.un; omega
def ZxN:TA:=λ_ H Q=>Q [] H
def ZwX(ta:TE)(tr:TA):TA:=λσ H Q=>ta σ H λx H1=>tr σ H1 λxs H2=>Q (x::xs) H2
section
variable{X:Cx}{e:Expr}{es:List Expr}{te:TE}{t:TA}{pos:Pos}
theorem Zbt:PA X [] ZxN:=λ_ _ _ _ H Q I h=>Calls.spliced_nil ⟨[],H,I,.nil,h⟩
theorem Zaf(ha:PE X e te)(hr:PA X es t)(hs:Zyz (e::es) X.env=(ZDD,eval e X.env)::Zyz es X.env:=by rfl):PA X (e::es) (ZwX te t):=by intro pos pins s σ H Q I h;rw[hs];show wpAny _ _ (spliced ((ZDD,eval e X.env)::backTo pos (Zyz es X.env))) _ _ s;refine ZCl (thn (ha pins s σ H _ I h) λu s1 ⟨x,H1,I1,r1,q1⟩=>?_);exact thn (hr pos pins s1 σ H1 _ I1 q1) λus s2 ⟨xs,H2,I2,r2,q2⟩=>⟨x::xs,H2,I2,.cons r1 r2,q2⟩
def ZxW(t:TA):TE:=λσ H Q=>t σ H λxs H1=>xs.length<=sizeLine/\∀p,H1 p=Z_->Q (.ref p) (upd H1 p (.tup xs))
def Zxz(t:TA):TE:=λσ H Q=>t σ H λxs H1=>xs.length<=sizeLine/\∀p,H1 p=Z_->Q (.ref p) (upd H1 p (.lst xs))
theorem Zv6{x1}(h:PA X es t):PE X (.Tuple es x1 pos) (ZxW t):=by intro pins s σ H Q I hq;refine wpAny_Tuple_spliced (thn (h pos pins s σ H _ I hq) λus s1 ⟨xs,H1,I1,r,z,q⟩=>⟨by rw[<-r.length]; exact z,?_⟩);have hf:H1 s1.heap.objs.size=Z_:=I1.hok.fresh (Zyr _);refine⟨.ref s1.heap.objs.size,upd H1 s1.heap.objs.size (.tup xs),I1.laid (t':=s1.toks) (λb u e=>Zyn _ e) (Zyr _) ?_,rfl,q _ hf⟩;exact⟨z,us,r,⟨_,ZyC _ rfl,rfl,_,rfl⟩⟩
theorem Zwj(h:PA X es t):PE X (.List es pos) (Zxz t):=by intro pins s σ H Q I hq;refine wpAny_List_spliced (thn (h pos pins s σ H _ I hq) λus s1 ⟨xs,H1,I1,r,z,q⟩=>⟨by rw[<-r.length]; exact z,?_⟩);have hf:H1 s1.heap.objs.size=Z_:=I1.hok.fresh (Zyr _);refine⟨.ref s1.heap.objs.size,upd H1 s1.heap.objs.size (.lst xs),I1.laid (t':=s1.toks) (λb u e=>Zyn _ e) (Zyr _) ?_,rfl,q _ hf⟩;exact⟨z,us,0,r,ZyC _ rfl⟩
end
abbrev Sp:=List V->Hp->VK->XK->Prop
abbrev CXT:=List Env->Hp->Shared->XK->Value->Shared->Prop
structure Zdm(P:Program)(w:World)(K:Zyk)(mg:Str->Option Value)(base:Heap)(A:Around)(outer:List Env)(s:Shared)(H:Hp):Prop where
 frames:A.frames=Z outer
 mod:Mod K mg base
 bs:∀b o,base.get? b=Z o->s.heap.get? b=Z o/\H b=Z_
 bsz:base.objs.size<=s.heap.objs.size
 funs:s.heap.FunFrames base outer
 frf:∀b∈frs outer,H b=Z_
 hok:HOk P w H s.heap
 bare:AllBare s.gens
def CE(outer:List Env)(P:Program)(w:World)(H:Hp)(s:Shared)(Q:VK)(u:Value)(s':Shared):Prop :=
 ∃v H',s'.os=s.os/\AllBare s'.gens/\Un (frs outer) [] H H' s.heap s'.heap/\HOk P w H' s'.heap/\RelV v u/\Q v H'
def CR(CX:CXT)(outer:List Env)(P:Program)(w:World)(H:Hp)(s:Shared)(Q:VK)(E:XK)(r:Result)(s':Shared):Prop :=
 match r with
 | .ok (.ret u)=>CE outer P w H s Q u s'
 | .ok _=>False
 | .error e=>CX outer H s E e s'
structure Zc8(P:Program)(w:World)(K:Zyk)(mg:Str->Option Value)(base:Heap)(CX:CXT)(k:Nat)(f:Addr)(fd:FuncData)(ps:List Str)(sp:Sp):Prop where
 len:∀vs H Q E,sp vs H Q E->vs.length=ps.length
 run:∀(A:Around) (outer:List Env) (s:Shared) (H:Hp) (args:Args) (us:List Value) (vs:List V) (Q:VK) (E:XK),ZV k A->Zdm P w K mg base A outer s H->BindsTo s fd args (ps.zip us)->Vals vs us->sp vs H Q E ->
  codeAny (model P w) A (.call (.ref f) args) (CR CX outer P w H s Q E) s
theorem Zc8.mono{P:Program}{w:World}{K:Zyk}{mg:Str->Option Value}{base:Heap}{CX:CXT}{j k:Nat}{f:Addr}{fd:FuncData}{ps:List Str}{sp:Sp}(F:Zc8 P w K mg base CX j f fd ps sp)(h:j<=k) :
  Zc8 P w K mg base CX k f fd ps sp:=⟨F.len,λA outer s H args us vs Q E hr=>F.run A outer s H args us vs Q E (hr.mono h)⟩
theorem Zdm.in1{P:Program}{w:World}{K:Zyk}{mg:Str->Option Value}{base:Heap}{A:Around}{outer:List Env}{s:Shared}{H:Hp}(e:Zdm P w K mg base A outer s H) :
  Zdm P w K mg base A.in1 outer s H:=⟨e.frames,e.mod,e.bs,e.bsz,e.funs,e.frf,e.hok,e.bare⟩
section
variable{X:Cx}{pins:List (Addr × Obj)}{σ:St}{H:Hp}{s s':Shared}
theorem Inv.env0(I:Inv X pins σ H s):Zdm X.prog X.w X.K X.mg X.base X.A X.stack s H :=
 ⟨I.ok.frames,I.ok.mod,I.bs,Zy2 I.ok.bsz I.sz,I.stack,I.stkFree,I.hok,I.bare⟩
theorem Inv.after{Q:VK}{u:Value}(I:Inv X pins σ H s)(h:CE X.stack X.prog X.w H s Q u s'):EP X pins σ Q u s':=by obtain⟨v,H',os,bare,un,hok,r,q⟩:=h;obtain⟨hh,g,d,t,os'⟩:=s';obtain rfl:os'=s.os:=os;exact⟨v,H',I.call (h':=hh) (g':=g) (d':=d) (t':=t) (ch:=[]) un hok bare (λb z=>absurd z (by simp)),r,q⟩
end
noncomputable def Zw5 (sp:Sp) (dvs:List V) (E:XK) (t:TA):TE:=λσ H Q=>t σ H λvs H1=>sp (vs++dvs) H1 Q E
def Binds(K:Zyk)(fd:FuncData)(ps:List Str)(ds:List Value):Prop :=
 ∀(s:Shared) (us:List Value),K.In s.heap->(us++ds).length=ps.length->BindsTo s fd ⟨us,[]⟩ (ps.zip (us++ds))
theorem Binds.all{fd:FuncData}(h:∀us:List Value,us.length=ps.length->ZB9 fd ⟨us,[]⟩=pure (ps.zip us)):Binds K fd ps []:=λs us _ hl=>by rw[Zy6]at hl ⊢;exact .of_eq (h us hl)
def Passes(CX:CXT)(X:Cx)(E:XK):Prop:=∀(pins:List (Addr × Obj)) (σ:St) (H:Hp) (s:Shared) (e:Value) (s':Shared),Inv X pins σ H s->CX X.stack H s E e s'->X.xe e s'
section
variable{X:Cx}{CX:CXT}{k:Nat}{f C:Addr}{fd:FuncData}{ps:List Str}{sp:Sp}{dvs:List V}{ds:List Value}{E:XK}{x m:Str}{p pos apos:Pos}{e o:Expr}{es:List Expr}{ta:TE}{t:TA}
theorem Zvs{pins:List (Addr × Obj)}{σ:St}{Q:VK}(F:Zc8 X.prog X.w X.K X.mg X.base CX k f fd ps sp)(hr:ZV k X.A)(hb:Binds X.K fd ps ds)(hd:Vals dvs ds)(hx:Passes CX X E)
  (I:Inv X pins σ H s) (r:Vals vs us) (h:sp (vs++dvs) H Q E):wpAny (model X.prog X.w) X.A (call (.ref f) us) (EP X pins σ Q) X.xe s:=by
 have r2:Vals (vs++dvs) (us++ds):=r.append hd;have hl:(us++ds).length=ps.length:=by rw[<-r2.length]; exact F.len _ _ _ _ h
 refine ZBS (ZzU (F.run X.A X.stack s H ⟨us,[]⟩ (us++ds) (vs++dvs) Q E hr I.env0 (hb s us I.kIn hl) r2 h) λr s' hq=>?_);cases r with
 | error e=>exact hx pins σ H s e s' I hq
 | ok fl =>
  cases fl with
  | ret u=>exact I.after hq
  | next=>exact Zzf hq
  | brk=>exact Zzf hq
  | cont=>exact Zzf hq
theorem Zk8(F:Zc8 X.prog X.w X.K X.mg X.base CX k f fd ps sp)(hr:ZV k X.A)(hg:Gl X x)(hm:X.mg x=Z (.ref f))(hk:ZzJ X.K (.ref f)=ZDC)(hb:Binds X.K fd ps ds)(hd:Vals dvs ds)(hx:Passes CX X E)
  (ha:PA X (e::es) t) (hdb:(x==("__debug__":Str))=ZDD:=by decide) (he:Zyz (e::es) X.env=(ZDD,eval e X.env)::Zyz es X.env:=by rfl) (hpl:(backTo pos (Zyz es X.env)).any (·.1)=ZDD:=by rfl) :
  PE X (.Call (.Name x p) (e::es) [] pos) (Zw5 sp dvs E t):=by
 intro pins s σ H Q I h;refine Zz9 (Zlq I hg hm ?_ hdb);refine ZDx (h₀:=X.base) I.ok.mod.kin hk (thn (ha pos pins s σ H _ I h) λus s1 ⟨vs,H1,I1,r,q⟩=>⟨I1.kIn,?_⟩) he hpl;exact Zvs F hr hb hd hx I1 r q
end
structure Zs(N P:List Str)(sc:Scope):Prop where
 kind:sc.kind=.function
 co:sc.isCoroutine=ZDD
 gen:sc.isGenerator=ZDD
 nd:N.Nodup
 pre:N.take P.length=P
 par:∀x∈P,sc.names.lookup x=Z .local\/sc.names.lookup x=Z .cell
 nofree:∀y∈sc.names,y.2≠.free
theorem ZlM{kindOf:Str->Option NameKind}{x:Str}:∀{binds:List (Str × Value)} {m:Str->Option Value},(∀v,(x,v) ∉ binds)->bindL kindOf binds m x=m x
 | [],_,_=>rfl
 | (n,v)::r,m,h=>by
  unfold bindL;rw[ZlM λw hw=>h w (Zyq _ hw)];split
  ·have:x≠n:=by rintro rfl; exact h v Zyo
   simp[this]
  ·rfl
theorem ZlR{kindOf:Str->Option NameKind}{x:Str}:∀{binds:List (Str × Value)} {m:Str->Option Value},(∀v,(x,v) ∉ binds)->bindC kindOf binds m x=m x
 | [],_,_=>rfl
 | (n,v)::r,m,h=>by
  unfold bindC;rw[ZlR λw hw=>h w (Zyq _ hw)];split
  ·rfl
  ·have:x≠n:=by rintro rfl; exact h v Zyo
   simp[this]
theorem Zl0{kindOf:Str->Option NameKind}{x:Str}{v:Value}:∀{P:List Str} {vs:List Value} {i:Nat} {m:Str->Option Value},P.Nodup->P[i]?=Z x->vs[i]?=Z v->kindOf x=Z .local ->
  bindL kindOf (P.zip vs) m x=Z v
 | [],_,_,_,_,h,_,_=>by simp at h
 | _::_,[],_,_,_,_,h,_=>by simp at h
 | p::P,w::vs,0,m,nd,h1,h2,hk=>by simp at h1 h2; subst h1; subst h2;show bindL kindOf ((p,w)::P.zip vs) m p=_;unfold bindL;rw[ZlM λv hv=>(Zzn.mp nd).1 (ZCU hv).1,if_pos hk];simp
 | p::P,w::vs,i+1,m,nd,h1,h2,hk=>by show bindL kindOf ((p,w)::P.zip vs) m x=_;unfold bindL;exact Zl0 (i:=i) (Zzn.mp nd).2 (by simpa using h1) (by simpa using h2) hk
theorem ZlJ{kindOf:Str->Option NameKind}{x:Str}{v:Value}:∀{P:List Str} {vs:List Value} {i:Nat} {m:Str->Option Value},P.Nodup->P[i]?=Z x->vs[i]?=Z v->kindOf x≠Z .local ->
  bindC kindOf (P.zip vs) m x=Z v
 | [],_,_,_,_,h,_,_=>by simp at h
 | _::_,[],_,_,_,_,h,_=>by simp at h
 | p::P,w::vs,0,m,nd,h1,h2,hk=>by simp at h1 h2; subst h1; subst h2;show bindC kindOf ((p,w)::P.zip vs) m p=_;unfold bindC;rw[ZlR λv hv=>(Zzn.mp nd).1 (ZCU hv).1,if_neg hk];simp
 | p::P,w::vs,i+1,m,nd,h1,h2,hk=>by show bindC kindOf ((p,w)::P.zip vs) m x=_;unfold bindC;exact ZlJ (i:=i) (Zzn.mp nd).2 (by simpa using h1) (by simpa using h2) hk
def start(N:List Str)(vs:List V):St:=vs.map Z++ZyT (N.length-vs.length) Z_
def Zfc(CX:CXT)(P:Program)(w:World)(K:Zyk)(mg:Str->Option Value)(base:Heap)(N:List Str)(qual:Str)(scope:Scope)(f:Addr)(cd:Value)(A:Around)(outer:List Env)(s:Shared)(H:Hp)(E:XK):Cx where
 prog:=P
 w:=w
 K:=K
 mg:=mg
 base:=base
 A:=A.deeper (envOfC qual scope s.heap.objs.size f cd)
 N:=N
 s₀:=s
 H₀:=H
 env:=envOfC qual scope s.heap.objs.size f cd
 outer:=outer
 stack:=envOfC qual scope s.heap.objs.size f cd::outer
 ex:=[]
 calm:=ZDC
 fn:=λ_=>ZDC
 pn:=[]
 xe:=λe s'=>wpAny (model P w) (A.deeper (envOfC qual scope s.heap.objs.size f cd)) (leaving (envOfC qual scope s.heap.objs.size f cd) e) (λ_ s''=>CX outer H s E e s'') (λe' s''=>CX outer H s E e' s'') s'
theorem ZoF{sc:Scope}{n:Nat}{x:Str}(h:sc.names.lookup x=Z .cell):∃c,(cellsFrom n sc.names []).lookup x=Z c:=by have q:=ZC1 sc.names n [] (.inl h);exact Zzg.mp q
theorem Zrv{CX:CXT}{N:List Str}{cd:Value}{outer:List Env}{s1:Shared}{E:XK}
  (S:Zs N ps scope) (hd:A.handled=Z_) (e0:Zdm P w K mg base A outer s H) (hl:vs.length=ps.length) (r:Vals vs us)
  (x:InCallC s s.heap.objs.size (bindL (envOfC qual scope s.heap.objs.size f cd).kindOf (ps.zip us) λ_=>Z_) (cellsFrom (s.heap.objs.size+1) scope.names []) (bindC (envOfC qual scope s.heap.objs.size f cd).kindOf (ps.zip us) λ_=>Z_) s1) :
  Inv (Zfc CX P w K mg base N qual scope f cd A outer s H E) [] (start N vs) H s1:=by
 have hpl:ps.length<=N.length:=by have:=congrArg Zy8 S.pre; rw[ZzH]at this; omega
 obtain⟨h1,tk,rfl,hk⟩:=x.done;have noA:∀b:Addr,b ∉ (Zfc CX P w K mg base N qual scope f cd A outer s H E).ex:=λb z=>absurd (show b∈([]:List Addr) from z) (by simp);refine⟨⟨e0.mod,S.kind,rfl,rfl,Zyr _,λy z c h1 h2=>?_,λy hy=>?_,λy c _ h=>?_,λ_=>hd,ZDk e0.frames,.inr ⟨rfl,rfl⟩,λb z=>absurd z (noA b),e0.bs,e0.bsz,λb _ _=>noA b,λb z=>absurd z (noA b),e0.funs,e0.frf⟩,
  rfl,e0.bare,Un.kept hk,⟨_,x.toInCall.ns,λi y v h1 h2 h3=>?_⟩,λy c h=>⟨_,x.cell y c h⟩,e0.hok.fresh (Zyr _),λy c h=>?_,λp hp=>absurd (show p∈([]:List (Addr × Obj)) from hp) (by simp),e0.hok.kept hk,?_⟩
 ·exact name_of_addr x.apart (ZzN h1) (ZzN h2)
 ·have hy:scope.names.lookup y=Z .cell\/scope.names.lookup y=Z .free:=hy
  rcases hy with hy | hy
  ·exact ZoF hy
  ·exact absurd rfl (S.nofree _ (ZzN hy))
 ·exact Zz3 (x.above y c (ZzN h))
 ·have hi:i<vs.length:=by
   unfold start at h2
   by_cases hi:i<vs.length
   ·exact hi
   ·rw[Zy0 (by simpa using hi)]at h2
    rw[ZAL]at h2;split at h2<;>cases h2
  have ha:vs[i]?=Z v:=by
   unfold start at h2;rw[ZyY (by simpa using hi),ZyI]at h2;cases e:vs[i]? with
   | none=>rw[e]at h2; cases h2
   | some a=>rw[e]at h2; cases h2; rfl
  obtain⟨u,hu,rv⟩:=r.get ha;have hp:ps[i]?=Z y:=by rw[<-S.pre,ZCL (by omega)]; exact h1
  have ndP:ps.Nodup:=by rw[<-S.pre]; exact S.nd.sublist (List.take_sublist _ _)
  refine⟨u,rv,?_⟩;rcases S.par y (ZyQ hp)with k | k
  ·exact .inl ⟨k,Zl0 ndP hp hu k⟩
  ·obtain⟨c,e⟩:=ZoF (n:=s.heap.objs.size+1) k
   refine .inr ⟨.inl k,c,e,?_⟩;have q:=x.cell y c e;rw[ZlJ ndP hp hu (by show scope.names.lookup y≠_; rw[k]; decide)]at q;exact q
 ·exact e0.hok.fresh (Zz3 (x.above y c (ZzN h)))
 ·unfold start
  show _=N.length;rw[ZyA,Zyj,Zy9];omega
theorem ZtT{CX:CXT}{k:Nat}{name:Str}{params:Arguments}{body:List Stmt}{dV kV doc pm cdv ct oc:Value}{an od:Option Addr}
  {osl:Array (Option Value)} {N ps:List Str} {sp:Sp} (lk:K.lookup f=Z ⟨oc,od,.func (ZzE name qual params body scope dV kV doc pm an cdv ct),osl⟩) (hcd:ZAl K cdv qual=ZDC) (S:Zs N ps scope)
  (len:∀vs H Q E,sp vs H Q E->vs.length=ps.length)
  (hbody:∀(A:Around) (outer:List Env) (s:Shared) (H:Hp) (vs:List V) (Q:VK) (E:XK),ZV k (A.deeper (envOfC qual scope s.heap.objs.size f cdv))->sp vs H Q E ->
   ∃t,PSs (Zfc CX P w K mg base N qual scope f cdv A outer s H E) body t/\t { nx:=λ_ H'=>Q .non H',rt:=Q } (start N vs) H) :
  Zc8 P w K mg base CX (k+1) f (ZzE name qual params body scope dV kV doc pm an cdv ct) ps sp:=by
 refine⟨len,λA outer s H args us vs Q E hr e0 hb r hsp=>?_⟩;have hl:=len _ _ _ _ hsp;have KX:K.In s.heap:=e0.mod.kin.keeps λb o e=>(e0.bs b o e).1;have lim:s.heap.NoLimit:=e0.mod.nolimit.keeps λb o e=>(e0.bs b o e).1;have hkind:∀y∈ps.zip us,scope.names.lookup y.1=Z .local\/(scope.names.lookup y.1=Z .cell/\((cellsFrom (s.heap.objs.size+1) scope.names []).lookup y.1).isSome=ZDC):=λ⟨n,v⟩ hy=>by
  rcases S.par n (ZCU hy).1 with q | q
  ·exact .inl q
  ·exact .inr ⟨q,ZC1 _ _ _ (.inl q)⟩
 refine codeAny_call_function hr.depth (KX _ _ lk) rfl S.co S.gen rfl (PySem.W.codeRec_of KX hcd) (hb _ _ _ _ ?_);refine wpAny_newFunctionEnv_cells S.kind hkind λenv he s1 x=>?_;subst he;refine⟨lim.keeps x.toInCall.keep,codeAny_func ?_⟩;obtain⟨t,ht,hq⟩:=hbody A outer s H vs Q E (hr.deeper _) hsp;have I:Inv (Zfc CX P w K mg base N qual scope f cdv A outer s H E) [] (start N vs) H s1:=Zrv S hr.hd e0 hl r x;refine Zzw (ht [] s1 (start N vs) H _ I hq) (λfl s' hs=>?_) λe s' hs=>hs;have fin:∀{σ':St} {H':Hp} {v:V} {u:Value},Inv (Zfc CX P w K mg base N qual scope f cdv A outer s H E) [] σ' H' s'->RelV v u->Q v H'->CE outer P w H s Q u s' :=
  λ{σ' H' v u} J rv q=>⟨v,H',J.os,J.bare,J.base,J.hok,rv,q⟩
 cases fl with
 | ret u=>obtain⟨v,σ',H',J,rv,q⟩:=hs;exact fin J rv q
 | next=>obtain⟨σ',H',J,q⟩:=hs;exact fin (v:=V.non) (u:=ZyU) J rfl q
 | brk=>obtain⟨_,_,_,q⟩:=hs;exact Zzf q
 | cont=>obtain⟨_,_,_,q⟩:=hs;exact Zzf q
end L2
namespace L2
open PySem PySem.Spec PyProof.Rows
section
variable{X:Cx}{x:Str}{p pos:Pos}{e:Expr}{es:List Expr}{t:TA}{id T:String}{r:List V->Hp->VK->Prop}
def tCB(r:List V->Hp->VK->Prop)(t:TA):TE:=λσ H Q=>t σ H λvs H1=>r vs H1 Q
theorem Zcb(hc:ZaE X (.builtin id) r)(hg:Gl X x)(hm:X.mg x=Z_)(hv:Zzl x=Z (.builtin id))(ha:PA X (e::es) t)(hn:x ≠ "__name__":=by decide)(hdb:(x==("__debug__":Str))=ZDD:=by decide)
  (he:Zyz (e::es) X.env=(ZDD,eval e X.env)::Zyz es X.env:=by rfl) (hpl:(backTo pos (Zyz es X.env)).any (·.1)=ZDD:=by rfl):PE X (.Call (.Name x p) (e::es) [] pos) (tCB r t):=by
 intro pins s σ H Q I h;refine Zz9 (Zhh I hg hm hv ?_ hn hdb);exact PyProof.Rows.callWith_builtin1 (thn (ha pos pins s σ H _ I h) λus s1 ⟨vs,H1,I1,r1,q1⟩=>hc pins s1 σ H1 vs us Q I1 r1 q1) he hpl
theorem Zcv(hc:ZaE X (.type T) r)(hg:Gl X x)(hm:X.mg x=Z_)(hv:Zzl x=Z (.type T))(ha:PA X (e::es) t)(hn:x ≠ "__name__":=by decide)(hdb:(x==("__debug__":Str))=ZDD:=by decide)
  (he:Zyz (e::es) X.env=(ZDD,eval e X.env)::Zyz es X.env:=by rfl) (hpl:(backTo pos (Zyz es X.env)).any (·.1)=ZDD:=by rfl):PE X (.Call (.Name x p) (e::es) [] pos) (tCB r t):=by
 intro pins s σ H Q I h;refine Zz9 (Zhh I hg hm hv ?_ hn hdb);exact ZCk (thn (ha pos pins s σ H _ I h) λus s1 ⟨vs,H1,I1,r1,q1⟩=>hc pins s1 σ H1 vs us Q I1 r1 q1) he hpl
end
end L2
namespace HT
set_option maxHeartbeats 8000000
open PySem PyProof.Rows
variable{sl:Addr}{hi lo:Option Int}{vl vu:Value}{Q:Value->Shared->Prop}
section
open PySem.SeqAt
open PySem.AutoSeq1 (wpAny_loadPart')
open PySem.MeetsSeq PySem.MeetsSeq2 PySem.MeetsSeq3
end
section
variable{prog:Program}{w:World}{A:Around}{E:Value->Shared->Prop}{s:Shared}
theorem ZuM{t b:Addr}{vs ws:List Value}(ht:IsTup s.heap t vs.toArray)(hb:IsTup s.heap b ws.toArray)(hv:vs≠[])
  (h1:ws=[]->Q (.ref t) s) (h2:ws≠[]->Q (.ref s.heap.objs.size) { s with heap:=s.heap.push { cls:=.type "tuple",data:=.seq (vs++ws).toArray } })
  (hsz:vs.length+ws.length<=sizeLine):wpAny (model prog w) A (ZAC .Add (.ref t) (.ref b)) Q E s:=by
 obtain⟨⟨cls,dd,data,sl⟩,ho,hc,n,hd⟩:=id ht;obtain⟨⟨cls2,dd2,data2,sl2⟩,ho2,hc2,n2,hd2⟩:=id hb;simp only at hc hd hc2 hd2;subst hc hd hc2 hd2;have e:vs.toArray++ws.toArray=(vs++ws).toArray:=by simp
 by_cases hw:ws=[]
 ·exact ZCM ⟨_,ho,rfl⟩ ⟨_,ho2,rfl⟩ ZCN seq_tuple_add ZBy ZBq (ZBi _ _)
   (tuple_addW1 t b vs.toArray ws.toArray n n2 dd dd2 sl sl2 (by simpa using hv) (by simp[hw])) ⟨ho,ho2,h1 hw⟩
 ·refine ZCM ⟨_,ho,rfl⟩ ⟨_,ho2,rfl⟩ ZCN seq_tuple_add ZBy ZBq (ZBi _ _)
   (tuple_addW2 t b vs.toArray ws.toArray n n2 dd dd2 sl sl2 (by simpa using hv) (by simpa using hw) (by rw[Zyu,Zyu]; exact hsz)) ⟨ho,ho2,?_⟩
  rw[e];exact h2 hw
def sIx(n d:Nat):Option Int->Nat
 | none=>d
 | some v=>if v<0 then(v+(n:Int)).toNat else min v.toNat n
theorem Zwx(n d:Nat)(hd:d<=n)(o:Option Int):sIx n d o<=n:=by
 cases o with
 | none=>exact hd
 | some v =>
  show(if v<0 then(v+(n:Int)).toNat else min v.toNat n)<=n
  by_cases hv:v<0
  ·rw[if_pos hv]; omega
  ·rw[if_neg hv]; exact Nat.min_le_right _ _
theorem ZpS(v:Int)(n d:Nat):(if v<0 then max (v+(n:Int)) 0 else min v (n:Int))=((sIx n d (Z v):Nat):Int):=by
 show(if v<0 then max (v+(n:Int)) 0 else min v (n:Int))=(((if v<0 then(v+(n:Int)).toNat else min v.toNat n):Nat):Int)
 by_cases hv:v<0
 ·simp only[if_pos hv]; omega
 ·simp only[if_neg hv]; omega
theorem Zqp(lo hi:Option Int)(n:Nat):ZBe lo hi 1 (n:Int)=(((sIx n 0 lo:Nat):Int),((sIx n n hi:Nat):Int)):=by
 have h1:¬((1:Int)<0):=by omega
 unfold ZBe;simp only[h1,if_false];refine Prod.ext ?_ ?_
 ·cases lo with
  | none=>rfl
  | some v=>exact ZpS v n 0
 ·cases hi with
  | none=>rfl
  | some v=>exact ZpS v n n
theorem Zqx(i j:Nat):ZAz (i:Int) (j:Int) 1=j-i:=by
 unfold ZAz;have h1:(1:Int) > 0:=by omega
 simp only[h1,if_true,Int.ediv_one];split<;>omega
theorem Zkz{v:Value}{o:Option Int}{Q:Option Int->Shared->Prop}(p:IsPart v o)(h:Q o s):wpAny (model prog w) A (Builtin.Slice.slicePartIndex v) Q E s:=by
 cases p with
 | none=>exact slicePart_none h
 | int i t=>exact slicePart_int h
theorem Zj3{n:Nat}{Q:Int × Int × Nat->Shared->Prop}(hs:s.heap.IsSliceOf sl vl vu .none)(pl:IsPart vl lo)(pu:IsPart vu hi)
  (h:Q (((sIx n 0 lo:Nat):Int),1,sIx n n hi-sIx n 0 lo) s):wpAny (model prog w) A (ZCs (.ref sl) (pure (n:Int))) Q E s:=by
 obtain⟨os,hos,hcs,hds⟩:=id hs;unfold ZCs Builtin.Slice.sliceFields;refine Zyi (Zyi (wpAny_field hos hds (x:=vl) rfl (Zyi (wpAny_field hos hds (x:=vu) rfl (Zyi (wpAny_field hos hds (x:=.none) rfl (Zym ?_)))))));refine Zyi (slicePart_none ?_);show wpAny _ _ (if((1:Int)==0)=ZDC then _ else _) _ _ s;rw[if_neg (by decide)];refine Zyi (Zkz pl (Zyi (Zkz pu (Zyi (Zym ?_)))));show wpAny _ _ (match ZBe lo hi 1 (n:Int)with | (lo,hi)=>pure (lo,(1:Int),ZAz lo hi 1)) _ _ s;rw[Zqp lo hi n];show wpAny _ _ (pure (((sIx n 0 lo:Nat):Int),(1:Int),ZAz ((sIx n 0 lo:Nat):Int) ((sIx n n hi:Nat):Int) 1)) _ _ s;rw[Zqx];exact Zym h
theorem ZtH(xs:Array Value)(i k:Nat):((Zyp k).filterMap λ(m:Nat)=>xs[((i:Int)+(m:Int)*1).toNat]?).toArray=((xs.toList.drop i).take k).toArray:=by
 have e:(λ(m:Nat)=>xs[((i:Int)+(m:Int)*1).toNat]?)=λm=>xs[i+m]?:=by
  funext m
  have:((i:Int)+(m:Int)*1).toNat=i+m:=by omega
  rw[this]
 rw[e];have:=pick_run xs i k;rw[List.filterMap_map]at this;have e2:((λx=>xs[x]?)∘λx=>i+x)=λm=>xs[i+m]?:=rfl;rw[e2]at this;rw[this]
theorem Zjt{t:Addr}{items:Array Value}(ht:IsTup s.heap t items)(hs:s.heap.IsSliceOf sl vl vu .none)(pl:IsPart vl lo)(pu:IsPart vu hi)
  (hw:¬(sIx items.size 0 lo=0/\sIx items.size items.size hi=items.size))
  (h:Q (.ref s.heap.objs.size) { s with heap:=s.heap.push { cls:=.type "tuple",data:=.seq ((items.toList.drop (sIx items.size 0 lo)).take (sIx items.size items.size hi-sIx items.size 0 lo)).toArray } })
  (hsz:items.size<=sizeLine):wpAny (model prog w) A (getItem (.ref t) (.ref sl)) Q E s:=by
 have htake:sizeOk (.seq ((items.toList.drop (sIx items.size 0 lo)).take (sIx items.size items.size hi-sIx items.size 0 lo)).toArray):=by show((items.toList.drop (sIx items.size 0 lo)).take (sIx items.size items.size hi-sIx items.size 0 lo)).toArray.size<=sizeLine;rw[Zyu,ZzH,ZAD,ZyL];omega
 have hj:sIx items.size items.size hi<=items.size:=Zwx _ _ (Zyr _) hi;obtain⟨os,hos,hcs,hds⟩:=id hs;have hTs:s.TypeIs (.ref sl) "slice":=⟨os,hos,hcs⟩;unfold getItem
 try with_reducible refine Zzp ?_
 first | refine Zyi (Zym ?_) | skip
 refine Zyi (wpAny_sequenceKey ht.typeIs (by decide) ?_);refine Zyi (wpAny_callSpecial?_slot (name:=ZAd "__getitem__") ht.typeIs ZAJ
  (Zzv ZAJ ht.typeIs entry_tuple_getitem ?_ (args_tuple_getitem _ _)))
 show wpAny _ _ (Builtin.Tuple.tupleItemsOf (.ref t) >>= _) _ _ s;refine Zyi (tupleItemsOf_ ht ?_);refine Zyi (wpAny_typeOf hTs ?_);rw[if_pos (by decide)];refine Zyi (Zj3 hs pl pu ?_);have hno:¬((((sIx items.size 0 lo:Nat):Int)==0&&(1:Int)==1&&(sIx items.size items.size hi-sIx items.size 0 lo)==items.size)=ZDC):=by intro q;rw[ZyE,ZyE]at q;have q1:((sIx items.size 0 lo:Nat):Int)=0:=eq_of_beq q.1.1;have q2:sIx items.size items.size hi-sIx items.size 0 lo=items.size:=eq_of_beq q.2;exact hw ⟨by omega,by omega⟩
 show wpAny _ _ (if(((sIx items.size 0 lo:Nat):Int)==0&&(1:Int)==1&&(sIx items.size items.size hi-sIx items.size 0 lo)==items.size)=ZDC then _ else _) _ _ s;rw[if_neg hno,ZtH]
 first
  | exact Zyi (m:=ZzV _) (Zy4 (Zym ⟨_,rfl,Zym h⟩) htake)
  | exact Zyi (m:=ZzV _) (Zy4 (Zyi (Zym (Zym ⟨_,rfl,Zym h⟩))) htake)
  | exact Zyi (Zyi (m:=ZzV _) (Zy4 (Zym (Zym ⟨_,rfl,Zym h⟩)) htake))
  | exact Zyi (Zyi (m:=ZzV _) (Zy4 (Zym ⟨_,rfl,Zym h⟩) htake))
end
end HT
namespace L2
open PySem PySem.Spec PyProof.Rows
abbrev TO:=St->Hp->(Option Int->Hp->Prop)->Prop
def PO(X:Cx)(e:Option Expr)(t:TO):Prop :=
 ∀(pins:List (Addr × Obj)) (s:Shared) (σ:St) (H:Hp) (Q:Option Int->Hp->Prop),Inv X pins σ H s->t σ H Q ->
  wpAny (model X.prog X.w) X.A (evalPart e X.env) (λu s'=>∃o H',Inv X pins σ H' s'/\IsPart u o/\Q o H') X.xe s
def ZuC:TO:=λ_ H Q=>Q Z_ H
def ZwL(t:TE):TO:=λσ H Q=>t σ H λx H1=>∃i,x=.int i/\Q (Z i) H1
section
variable{X:Cx}{e:Expr}{te:TE}{lo hi:Option Expr}{tl th:TO}{pos p2:Pos}
theorem ZuB:PO X Z_ ZuC:=by intro pins s σ H Q I h;rw[evalPart_none];exact Zym ⟨Z_,H,I,.none,h⟩
theorem ZuT(h:PE X e te):PO X (Z e) (ZwL te):=by intro pins s σ H Q I hw;rw[evalPart_some];refine thn (h pins s σ H _ I hw) λu s1 ⟨x,H1,I1,r1,q1⟩=>?_;obtain⟨i,rfl,q⟩:=q1;obtain⟨t,rfl⟩:=r1;exact⟨Z i,H1,I1,.int i t,q⟩
def SlR(X:Cx)(r:V->Option Int->Option Int->Hp->VK->Prop):Prop :=
 ∀(pins:List (Addr × Obj)) (s:Shared) (σ:St) (H:Hp) (x:V) (v vl vu:Value) (lo hi:Option Int) (sl:Addr) (Q:VK),Inv X pins σ H s->RelV x v->s.heap.IsSliceOf sl vl vu .none->IsPart vl lo->IsPart vu hi->r x lo hi H Q ->
  ∃T id,typeLookup (.type T) "__getitem__" = pure (Z (.builtin id))/\s.TypeIs v T/\wpAny (model X.prog X.w) X.A (getItem v (.ref sl)) (EP X pins σ Q) X.xe s
def tSl(r:V->Option Int->Option Int->Hp->VK->Prop)(te:TE)(tl th:TO):TE:=λσ H Q=>te σ H λx H1=>tl σ H1 λl H2=>th σ H2 λu H3=>r x l u H3 Q
theorem ZnJ{r:V->Option Int->Option Int->Hp->VK->Prop}(hr:SlR X r)(he:PE X e te)(hl:PO X lo tl)(hu:PO X hi th):PE X (.Subscript e (.Slice lo hi Z_ p2) pos) (tSl r te tl th):=by intro pins s σ H Q I h;refine Subscript_ (thn (he pins s σ H _ I h) λv s1 ⟨x,H1,I1,r1,q1⟩=>?_);refine wpAny_Slice (thn (hl pins s1 σ H1 _ I1 q1) λvl s2 ⟨l,H2,I2,pl,q2⟩=>thn (hu pins s2 σ H2 _ I2 q2) λvu s3 ⟨u,H3,I3,pu,q3⟩=>?_);rw[evalPart_none];refine Zym ?_;have I4:Inv X pins σ H3 { s3 with heap:=s3.heap.push { cls:=.type "slice",data:=.fields #[vl,vu,.none] } }:=I3.kept (t':=s3.toks) λb ob q=>Zyn _ q;obtain⟨T,id,hT,ht,hg⟩:=hr pins { s3 with heap:=s3.heap.push { cls:=.type "slice",data:=.fields #[vl,vu,.none] } } σ H3 x v vl vu l u s3.heap.objs.size Q I4 r1 (Heap.IsSliceOf.new ..) pl pu q3;show wpAny (model X.prog X.w) X.A (subscriptTail e (.Slice lo hi Z_ p2) v (.ref s3.heap.objs.size)) (EP X pins σ Q) X.xe { s3 with heap:=s3.heap.push { cls:=.type "slice",data:=.fields #[vl,vu,.none] } };exact tail_any (ops:=[.ref s3.heap.objs.size,v]) ht hT hg (by with_unfolding_all rfl)
def ZgO(xs:List V)(lo hi:Option Int):List V:=(xs.drop (HT.sIx xs.length 0 lo)).take (HT.sIx xs.length xs.length hi-HT.sIx xs.length 0 lo)
theorem ZjK(xs:List V)(lo hi:Option Int):(ZgO xs lo hi).length<=xs.length:=by unfold ZgO;rw[ZzH,ZAD];omega
def ZxK(K:Zyk):V->Option Int->Option Int->Hp->VK->Prop:=λx lo hi H Q=>∃a xs,x=.ref a/\SqT K H a xs /\
 ¬(HT.sIx xs.length 0 lo=0/\HT.sIx xs.length xs.length hi=xs.length)/\∀p,H p=Z_->Q (.ref p) (upd H p (.tup (ZgO xs lo hi)))
theorem Zv3:SlR X (ZxK X.K):=by
 intro pins s σ H x v vl vu lo hi sl Q I rx hs pl pu h;obtain⟨a,xs,rfl,hx,hw,q⟩:=h;cases rx;obtain⟨its,r,ht,hz⟩:=I.tuple hx;have hlen:its.toArray.size=xs.length:=by rw[Zyu]; exact r.length.symm
 refine⟨"tuple",_,ZAJ.lookup,ht.typeIs,?_⟩;refine HT.Zjt ht hs pl pu (by rw[hlen]; exact hw) ?_ (by rw[hlen]; exact hz);rw[hlen];refine⟨.ref s.heap.objs.size,_,I.laid (t':=s.toks) (o:=.tup (ZgO xs lo hi)) (λb ob q=>Zyn _ q) (Zyr _) ?_,rfl,q _ (I.hok.fresh (Zyr _))⟩;exact⟨Zy2 (ZjK xs lo hi) hz,_,(r.drop (HT.sIx xs.length 0 lo)).take (HT.sIx xs.length xs.length hi-HT.sIx xs.length 0 lo),ZDy _ _⟩
def Zw9(K:Zyk):R2:=λx y H Q=>∃a b xs ys,x=.ref a/\y=.ref b/\SqT K H a xs/\SqT K H b ys/\xs≠[]/\xs.length+ys.length<=sizeLine /\
 (ys=[]->Q (.ref a) H)/\(ys≠[]->∀p,H p=Z_->Q (.ref p) (upd H p (.tup (xs++ys))))
theorem Vals.nil_iff{xs:List V}{us:List Value}(r:Vals xs us):us=[]↔xs=[]:=by
 cases r with
 | nil=>simp
 | cons _ _=>simp
theorem ZuV:OpR X (ZAC .Add) (Zw9 X.K):=by intro pins s σ H x y v u Q I rx ry h;obtain⟨a,b,xs,ys,rfl,rfl,ha,hb,hx,hz,q1,q2⟩:=h;cases rx;cases ry;obtain⟨its,r1,p1,_⟩:=I.tuple ha;obtain⟨its2,r2,p2,_⟩:=I.tuple hb;refine HT.ZuM p1 p2 (λz=>hx (r1.nil_iff.mp z)) (λz=>⟨.ref a,H,I,rfl,q1 (r2.nil_iff.mp z)⟩) (λz=>?_) (by rw[<-r1.length,<-r2.length]; exact hz);refine⟨.ref s.heap.objs.size,_,I.laid (t':=s.toks) (o:=.tup (xs++ys)) (λb ob q=>Zyn _ q) (Zyr _) ?_,rfl,q2 (λw=>z (r2.nil_iff.mpr w)) _ (I.hok.fresh (Zyr _))⟩;exact⟨by rw[ZyA]; exact hz,_,r1.append r2,ZDy _ _⟩
end
end L2
namespace L2
open PySem PySem.Spec PyProof.Rows
variable{H:Hp}{i:Int}{pins:List (Addr × Obj)}{n:Nat}{s:Shared}{σ:St}{x y:V}{u:Value}
def ixN(n:Nat)(i:Int):Option Nat:=if 0<=i then(if i<n then Z i.toNat else Z_)else if -(n:Int)<=i then Z (i+n).toNat else Z_
def atI{α:Type}(xs:List α)(i:Int):Option α:=(ixN xs.length i).bind λj=>xs[j]?
theorem ZpZ{j:Nat}(h:ixN n i=Z j):seqIndex? i n=Z j/\j<n/\-(n:Int)<=i/\i<n:=by
 unfold ixN at h
 by_cases h0:0<=i
 ·rw[if_pos h0]at h
  by_cases h1:i<n
  ·rw[if_pos h1]at h
   have e:i.toNat=j:=Zzm h;exact⟨by rw[seqIndex_of h0 h1,e],by omega,by omega,h1⟩
  ·rw[if_neg h1]at h; cases h
 ·rw[if_neg h0]at h
  by_cases h1:-(n:Int)<=i
  ·rw[if_pos h1]at h
   have e:(i+n).toNat=j:=Zzm h;exact⟨by rw[seqIndex_neg (by omega) h1,e],by omega,h1,by omega⟩
  ·rw[if_neg h1]at h; cases h
theorem Zlw{α:Type}{xs:List α}{v:α}(h:atI xs i=Z v):∃j,seqIndex? i xs.length=Z j/\xs[j]?=Z v/\j<xs.length/\-(xs.length:Int)<=i/\i<xs.length:=by
 unfold atI at h;cases e:ixN xs.length i with
 | none=>rw[e]at h; cases h
 | some j=>rw[e]at h;obtain⟨h1,h2,h3,h4⟩:=ZpZ e;exact⟨j,h1,h,h2,h3,h4⟩
def ZpY(b:Expr):Prop:=∀o i,ZC2 b ZDD o i=operate [o,i] (getItem o i)
def IxR(X:Cx)(r:R2):Prop :=
 ∀(value slice:Expr) (pins:List (Addr × Obj)) (s:Shared) (σ:St) (H:Hp) (x y:V) (v u:Value) (Q:VK),Inv X pins σ H s->RelV x v->RelV y u->r x y H Q ->
  ZC2 slice ZDD v u=operate [v,u] (getItem v u)->wpAny (model X.prog X.w) X.A (subscriptTail value slice v u) (EP X pins σ Q) X.xe s
def MtR(X:Cx)(id:String)(r:V->List V->Hp->VK->Prop):Prop :=
 ∀(pins:List (Addr × Obj)) (s:Shared) (σ:St) (H:Hp) (x:V) (xs:List V) (v:Value) (us:List Value) (Q:VK),Inv X pins σ H s->RelV x v->Vals xs us->r x xs H Q ->
  wpAny (model X.prog X.w) X.A (call (.builtin id) (v::us)) (EP X pins σ Q) X.xe s
section
variable{X:Cx}{a b:Expr}{ta tb:TE}{pos:Pos}
theorem IxR.or{r r':R2}(h:IxR X r)(h':IxR X r'):IxR X (λx y H Q=>r x y H Q\/r' x y H Q):=by
 intro value slice pins s σ H x y v u Q I rx ry q hs;rcases q with q | q
 ·exact h value slice pins s σ H x y v u Q I rx ry q hs
 ·exact h' value slice pins s σ H x y v u Q I rx ry q hs
theorem ZwN{r:R2}(hr:IxR X r)(ha:PE X a ta)(hb:PE X b tb)(hs:ZpY b):PE X (.Subscript a b pos) (tOp r ta tb):=by intro pins s σ H Q I h;exact Subscript_ (Zs8 ha hb I h λv u s2 x y H2 I2 rx ry q=>hr a b pins s2 σ H2 x y v u Q I2 rx ry q (hs _ _))
def Zwv(K:Zyk):R2:=λx y H Q=>∃p xs i v,x=.ref p/\y=.int i/\SqL K H p xs/\atI xs i=Z v/\Q v H
def ZvA(K:Zyk):R2:=λx y H Q=>∃p xs i v,x=.ref p/\y=.int i/\SqT K H p xs/\atI xs i=Z v/\Q v H
def Zwq:R2:=λx y H Q=>∃z i c,x=.str z/\y=.int i/\z.length<=sizeLine/\atI z.cps.toList i=Z c/\Q (.str ⟨#[c]⟩) H
theorem Zuc:IxR X (Zwv X.K):=by
 intro value slice pins s σ H x y v u Q I rx ry h hs;obtain⟨p,xs,i,z,rfl,rfl,hq,he,q⟩:=h;cases rx;obtain⟨t,rfl⟩:=ry;obtain⟨its,r,pl,hz⟩:=I.list hq;obtain⟨j,h1,h2,h3,h4,h5⟩:=Zlw he;obtain⟨w,ew,rw'⟩:=r.get h2;have hl:=r.length;have hn:=Ziz;have fin:EP X pins σ Q w s:=⟨z,H,I,rw',q⟩
 by_cases h0:0<=i
 ·have hj:i.toNat=j:=by
   rw[seqIndex_of h0 h5]at h1;exact Zzm h1
  exact item_listR pl.isList h0 (by omega) (by rw[hj]; simpa using ew) fin hs
 ·have hj:(i+(its.toArray.size:Int)).toNat=j:=by
   rw[seqIndex_neg (by omega) h4]at h1;rw[Zyu,<-hl];exact Zzm h1
  exact subscriptTail_builtinR (x:=w) pl.isList.typeIs slot_list_getitem.lookup
   (wpAny_getItem_list_neg (Q:=λr s'=>r=w/\EP X pins σ Q r s') pl.isList (by omega) (by rw[Zyu]<;>omega) (by omega) (by rw[hj]; simpa using ew) ⟨rfl,fin⟩) hs
theorem Zvz:IxR X (ZvA X.K):=by
 intro value slice pins s σ H x y v u Q I rx ry h hs;obtain⟨p,xs,i,z,rfl,rfl,hq,he,q⟩:=h;cases rx;obtain⟨t,rfl⟩:=ry;obtain⟨its,r,pl,hz⟩:=I.tuple hq;obtain⟨j,h1,h2,h3,h4,h5⟩:=Zlw he;obtain⟨w,ew,rw'⟩:=r.get h2;have hl:=r.length;have hn:=Ziz;have fin:EP X pins σ Q w s:=⟨z,H,I,rw',q⟩;exact subscriptTail_builtinR (x:=w) pl.typeIs slot_tuple_getitem.lookup
  (getItem_tuple (j:=j) (Q:=λr s'=>r=w/\EP X pins σ Q r s') pl (by omega) (by omega) (by rw[Zyu,<-hl]; exact h1) (by simpa using ew) ⟨rfl,fin⟩) hs
theorem Zwm:IxR X Zwq:=by
 intro value slice pins s σ H x y v u Q I rx ry h hs;obtain⟨z,i,c,rfl,rfl,hz,he,q⟩:=h;obtain⟨t,rfl⟩:=rx;obtain⟨t',rfl⟩:=ry;obtain⟨j,h1,h2,h3,h4,h5⟩:=Zlw he;have hl:z.cps.toList.length=z.length:=by simp[Str.length]
 rw[hl]at h1 h4 h5;have hn:=Ziz;exact tail_any (typeIs_str s z t) slot_str_getitem.lookup (getItem_str (c:=c) (by have e1:decide (i < -(2 ^ 63:Int))=ZDD:=decide_eq_false (by omega);have e2:decide (i ≥ 2 ^ 63)=ZDD:=decide_eq_false (by omega);rw[e1,e2,Bool.or_false]) (by rw[h1]; simpa using h2) ⟨.str ⟨#[c]⟩,H,I.tok _,⟨_,rfl⟩,q⟩) hs
def rIx(K:Zyk):R2:=λx y H Q=>Zwv K x y H Q\/ZvA K x y H Q\/Zwq x y H Q
theorem Zv2:IxR X (rIx X.K):=Zuc.or (Zvz.or Zwm)
theorem ZqD(its:List Value)(n j:Nat)(u:Value):ZAe (·.setIfInBounds j u) { cls:=.type "list",data:=.seq its.toArray n }={ cls:=.type "list",data:=.seq (its.set j u).toArray n }:=by simp[ZAe]
theorem Inv.lst{pins:List (Addr × Obj)}{σ:St}{H:Hp}{s:Shared}{p:Addr}{xs:List V}(I:Inv X pins σ H s)(h:H p=Z (.lst xs)) :
  ∃(its:List Value) (n:Nat),Vals xs its/\s.heap.get? p=Z { cls:=.type "list",data:=.seq its.toArray n }/\xs.length<=sizeLine:=by
 obtain⟨z,its,n,r,e⟩:=I.hok p _ h;exact⟨its,n,r,e,z⟩
theorem Inv.lstUpd{p:Addr}{xs ys:List V}{its its':List Value}{n':Nat}{f:Obj->Obj}(I:Inv X pins σ H s)(h:H p=Z (.lst xs))
  (ho:s.heap.get? p=Z { cls:=.type "list",data:=.seq its.toArray n }) (hf:f { cls:=.type "list",data:=.seq its.toArray n }={ cls:=.type "list",data:=.seq its'.toArray n' }) (r:Vals ys its') (hz:ys.length<=sizeLine) (t:Nat) :
  Inv X pins σ (upd H p (.lst ys)) { s with heap:=s.heap.update p f,toks:=t }:=by
 have e:(s.heap.update p f).get? p=Z { cls:=.type "list",data:=.seq its'.toArray n' }:=by rw[Zzy f ho (by rw[hf]<;>rfl),hf]
 refine I.write (x:=p) (e:=p) (by rw[h]; trivial) (.inl rfl) (λb u hb q=>(ZzK _ _ (Zzt hb)).trans q) ⟨_,e⟩ ?_;exact⟨hz,its',n',r,e⟩
def ZwY:V->V->V->Hp->(Hp->Prop)->Prop:=λo i v H Q=>∃p xs k j,o=.ref p/\i=.int k/\H p=Z (.lst xs)/\ixN xs.length k=Z j/\Q (upd H p (.lst (xs.set j v)))
theorem set_list:Zwz X ZwY:=by
 intro pins s σ H o i v ov iv u Q I ro ri rv h;obtain⟨p,xs,k,j,rfl,rfl,hp,hj,q⟩:=h;cases ro;obtain⟨t,rfl⟩:=ri;obtain⟨its,n,r,ho,hz⟩:=I.lst hp;obtain⟨h1,h2,h3,h4⟩:=ZpZ hj;have hl:=r.length;have hn:=Ziz;have I':Inv X pins σ (upd H p (.lst (xs.set j v))) { s with heap:=s.heap.update p (ZAe (·.setIfInBounds j u)) } :=
  I.lstUpd hp ho (ZqD its n j u) (r.set rv j) (by rw[Zzz]; exact hz) s.toks
 by_cases h0:0<=k
 ·have hk:k.toNat=j:=by
   rw[seqIndex_of h0 h4]at h1;exact Zzm h1
  exact PySem.W.ki_setAt ho h0 (by omega) (by rw[Zyu,<-hl]; exact h4) (by rw[hk]; exact⟨_,I',q⟩)
 ·have hk:(k+(its.toArray.size:Int)).toNat=j:=by
   rw[seqIndex_neg (by omega) h3]at h1;rw[Zyu,<-hl];exact Zzm h1
  exact PySem.W.ki_setBack ho (by omega) (by rw[Zyu,<-hl]; exact h3) (by omega) (by rw[hk]; exact⟨_,I',q⟩)
theorem Zoa(lo hi:Option Int)(n:Nat):(ZBd lo hi Z_ n).1=((HT.sIx n 0 lo:Nat):Int)/\(ZBd lo hi Z_ n).2.1=((HT.sIx n n hi:Nat):Int)/\(ZBd lo hi Z_ n).2.2=1:=by
 refine⟨?_,?_,rfl⟩
 ·cases lo with
  | none=>simp[ZBd,HT.sIx]
  | some i =>
   simp only[ZBd,HT.sIx,Option.getD_none,show(1:Int) > 0 by decide,if_true]
   by_cases h:i<0
   ·simp only[h,if_true]<;>omega
   ·simp only[h,if_false]<;>omega
 ·cases hi with
  | none=>simp[ZBd,HT.sIx]
  | some i =>
   simp only[ZBd,HT.sIx,Option.getD_none,show(1:Int) > 0 by decide,if_true]
   by_cases h:i<0
   ·simp only[h,if_true]<;>omega
   ·simp only[h,if_false]<;>omega
theorem ZmC(its:List Value)(lo hi:Option Int):slicePick its.toArray lo hi Z_=((its.drop (HT.sIx its.length 0 lo)).take (HT.sIx its.length its.length hi-HT.sIx its.length 0 lo)).toArray:=by obtain⟨h1,h2,h3⟩:=Zoa lo hi its.toArray.size;unfold slicePick;rw[h1,h2,h3];simp only[sliceRange_one,pick_run,Zyu]<;>rfl
def ZxL(K:Zyk):V->Option Int->Option Int->Hp->VK->Prop:=λx lo hi H Q=>∃a xs,x=.ref a/\SqL K H a xs/\∀p,H p=Z_->Q (.ref p) (upd H p (.lst (ZgO xs lo hi)))
theorem Zu4:SlR X (ZxL X.K):=by intro pins s σ H x v vl vu lo hi sl Q I rx hs pl pu h;obtain⟨a,xs,rfl,hx,q⟩:=h;cases rx;obtain⟨its,r,ht,hz⟩:=I.list hx;have hlen:=r.length;refine⟨"list",_,slot_list_getitem.lookup,ht.isList.typeIs,?_⟩;refine wpAny_getItem_list_slice ht.isList hs pl pu .none (by simp) ?_ (by rw[Zyu]<;>omega);rw[ZmC,<-hlen];refine⟨.ref s.heap.objs.size,_,I.laid (t':=s.toks) (o:=.lst (ZgO xs lo hi)) (λb ob q=>Zyn _ q) (Zyr _) ?_,rfl,q _ (I.hok.fresh (Zyr _))⟩;exact⟨Zy2 (ZjK xs lo hi) hz,_,0,(r.drop (HT.sIx xs.length 0 lo)).take (HT.sIx xs.length xs.length hi-HT.sIx xs.length 0 lo),ZyC _ rfl⟩
def Zbv:V->Bool
 | .non=>ZDC
 | .bl _=>ZDC
 | .int _=>ZDC
 | .str _=>ZDC
 | _=>ZDD
def eqV:V->V->Bool
 | .non,.non=>ZDC
 | .bl a,.bl b=>a==b
 | .bl a,.int b=>(if a then 1 else 0)==b
 | .int a,.bl b=>a==(if b then 1 else 0)
 | .int a,.int b=>a==b
 | .str a,.str b=>a==b
 | _,_=>ZDD
theorem ZvH{A:Around}{v:Value}(ry:RelV y u)(rx:RelV x v)(fy:Zbv y=ZDC)(fx:Zbv x=ZDC):SeqAt.EqAt A s u v (eqV y x):=by
 cases y with
 | non =>
  cases ry;cases x with
  | non=>cases rx; exact SeqAt.EqAt.same _
  | bl b=>cases rx; exact SeqAt.EqAt.none_bool b
  | int b=>obtain⟨t,rfl⟩:=rx; exact SeqAt.EqAt.none_int b t
  | str b=>obtain⟨t,rfl⟩:=rx; exact SeqAt.EqAt.none_str b t
  | _=>exact absurd (show ZDD=ZDC from fx) Zy5
 | bl a =>
  cases ry;cases x with
  | non=>cases rx; exact SeqAt.EqAt.bool_none a
  | bl b=>cases rx; exact SeqAt.EqAt.bool_bool a b
  | int b=>obtain⟨t,rfl⟩:=rx; exact SeqAt.EqAt.bool_int a b t
  | str b=>obtain⟨t,rfl⟩:=rx; exact SeqAt.EqAt.bool_str a b t
  | _=>exact absurd (show ZDD=ZDC from fx) Zy5
 | int a =>
  obtain⟨t',rfl⟩:=ry;cases x with
  | non=>cases rx; exact SeqAt.EqAt.int_none a t'
  | bl b=>cases rx; exact SeqAt.EqAt.int_bool a t' b
  | int b=>obtain⟨t,rfl⟩:=rx; exact SeqAt.EqAt.int_int a t' b t
  | str b=>obtain⟨t,rfl⟩:=rx; exact ZDv a t' b t
  | _=>exact absurd (show ZDD=ZDC from fx) Zy5
 | str a =>
  obtain⟨t',rfl⟩:=ry;cases x with
  | non=>cases rx; exact SeqAt.EqAt.str_none a t'
  | bl b=>cases rx; exact SeqAt.EqAt.str_bool a t' b
  | int b=>obtain⟨t,rfl⟩:=rx; exact ZDw a t' b t
  | str b=>obtain⟨t,rfl⟩:=rx; exact SeqAt.EqAt.str_str a t' b t
  | _=>exact absurd (show ZDD=ZDC from fx) Zy5
 | _=>exact absurd (show ZDD=ZDC from fy) Zy5
def eqU(x:V)(u:Value):Bool:=match u with
 | .none=>eqV .non x
 | .bool b=>eqV (.bl b) x
 | .int i _=>eqV (.int i) x
 | .str z _=>eqV (.str z) x
 | _=>ZDD
theorem Zrl(r:RelV y u)(f:Zbv y=ZDC):eqU x u=eqV y x:=by
 cases y with
 | non=>cases r; rfl
 | bl b=>cases r; rfl
 | int i=>obtain⟨t,rfl⟩:=r; rfl
 | str z=>obtain⟨t,rfl⟩:=r; rfl
 | _=>exact absurd (show ZDD=ZDC from f) Zy5
theorem Zhb{x:V}:∀{xs:List V} {us:List Value},Vals xs us->xs.all Zbv=ZDC->us.any (eqU x)=xs.any λy=>eqV y x
 | _,_,.nil,_=>rfl
 | y::xs,u::us,.cons r t,f=>by rw[ZzD,ZyE]at f;rw[ZAR,ZAR,Zrl r f.1,Zhb t f.2]
theorem Zf1{A:Around}{s:Shared}{x:V}{v:Value}(rx:RelV x v)(fx:Zbv x=ZDC):∀{xs:List V} {us:List Value},Vals xs us->xs.all Zbv=ZDC->∀u∈us,SeqAt.EqAt A s u v (eqU x u)
 | _,_,.nil,_=>λu hu=>by cases hu
 | y::xs,u::us,.cons r t,f=>λu' hu=>by
  rw[ZzD,ZyE]at f;rcases ZyH.mp hu with rfl | hu
  ·rw[Zrl r f.1]; exact ZvH r rx f.1 fx
  ·exact Zf1 rx fx t f.2 u' hu
def inV(x:V)(xs:List V):Bool:=xs.any λy=>eqV y x
def rIn(K:Zyk)(neg:Bool):R2:=λx y H Q=>∃p xs,y=.ref p/\(SqL K H p xs\/SqT K H p xs)/\Zbv x=ZDC/\xs.all Zbv=ZDC/\Q (.bl (if neg then !inV x xs else inV x xs)) H
theorem Zsd:OpR X (ZzC .In) (rIn X.K ZDD):=by
 intro pins s σ H x y v u Q I rx ry h;obtain⟨p,xs,rfl,hq,fx,fs,q⟩:=h;cases ry;rcases hq with hq | hq
 ·obtain⟨its,r,pl,hz⟩:=I.list hq
  refine SeqAt.in_listAt (eqU x) pl.isList (λw hw=>Zf1 rx fx r fs w (by simpa using hw)) ⟨.bl _,H,I,rfl,?_⟩;rw[show its.toArray.any (eqU x)=its.any (eqU x) by simp,Zhb r fs];exact q
 ·obtain⟨its,r,pl,hz⟩:=I.tuple hq
  refine SeqAt.in_tupleAt (eqU x) pl (λw hw=>Zf1 rx fx r fs w (by simpa using hw)) ⟨.bl _,H,I,rfl,?_⟩;rw[show its.toArray.any (eqU x)=its.any (eqU x) by simp,Zhb r fs];exact q
theorem Znt:OpR X (ZzC .NotIn) (rIn X.K ZDC):=by
 intro pins s σ H x y v u Q I rx ry h;obtain⟨p,xs,rfl,hq,fx,fs,q⟩:=h;cases ry;rcases hq with hq | hq
 ·obtain⟨its,r,pl,hz⟩:=I.list hq
  refine SeqAt.notIn_listAt (eqU x) pl.isList (λw hw=>Zf1 rx fx r fs w (by simpa using hw)) ⟨.bl _,H,I,rfl,?_⟩;rw[show its.toArray.any (eqU x)=its.any (eqU x) by simp,Zhb r fs];exact q
 ·obtain⟨its,r,pl,hz⟩:=I.tuple hq
  refine SeqAt.notIn_tupleAt (eqU x) pl (λw hw=>Zf1 rx fx r fs w (by simpa using hw)) ⟨.bl _,H,I,rfl,?_⟩;rw[show its.toArray.any (eqU x)=its.any (eqU x) by simp,Zhb r fs];exact q
theorem Zn8:ZaE X (.builtin "len") (λxs H Q=>∃p ys,xs=[.ref p]/\(SqL X.K H p ys\/SqT X.K H p ys)/\Q (.int ys.length) H):=by
 intro pins s σ H xs us Q I r h;obtain⟨p,ys,rfl,hq,q⟩:=h;obtain⟨u,rfl,rx⟩:=vals1 r;cases rx;have hn:=Ziz;rcases hq with hq | hq
 ·obtain⟨its,r',pl,hz⟩:=I.list hq
  have hlen:=r'.length;exact Calls.call_len_list pl.isList (by simp only[Zyu]<;>omega) ⟨.int ys.length,H,I.tok _,⟨s.toks+1,by rw[Zyu,hlen]⟩,q⟩
 ·obtain⟨its,r',pl,hz⟩:=I.tuple hq
  have hlen:=r'.length;exact len_tuple pl (by simp only[Zyu]<;>omega) ⟨.int ys.length,H,I.tok _,⟨s.toks+1,by rw[Zyu,hlen]⟩,q⟩
theorem ZaE.or{f:Value}{r r':List V->Hp->VK->Prop}(h:ZaE X f r)(h':ZaE X f r'):ZaE X f (λxs H Q=>r xs H Q\/r' xs H Q):=by
 intro pins s σ H xs us Q I rs q;rcases q with q | q
 ·exact h pins s σ H xs us Q I rs q
 ·exact h' pins s σ H xs us Q I rs q
theorem ZnI:ZaE X (.type "list") (λxs H Q=>∃p ys,xs=[.ref p]/\(SqL X.K H p ys\/SqT X.K H p ys)/\∀l,H l=Z_->Q (.ref l) (upd H l (.lst ys))):=by
 intro pins s σ H xs us Q I r h;obtain⟨p,ys,rfl,hq,q⟩:=h;obtain⟨u,rfl,rx⟩:=vals1 r;cases rx;have fin:∀(its:List Value),Vals ys its->ys.length<=sizeLine->∀(h':Heap) (c':Nat),(∀b o',s.heap.get? b=Z o'->h'.get? b=Z o') ->
   h'.get? s.heap.objs.size=Z { cls:=.type "list",dict:=Z_,data:=.seq its.toArray c',slots:=#[] }->EP X pins σ Q (.ref s.heap.objs.size) { s with heap:=h' }:=λits r' hz h' c' kp e =>
  ⟨.ref s.heap.objs.size,_,I.laid (t':=s.toks) kp (Zyr _) (show ZW X.prog X.w _ h' _ (.lst ys) from⟨hz,its,c',r',e⟩),rfl,q _ (I.hok.fresh (Zyr _))⟩
 rcases hq with hq | hq
 ·obtain⟨its,r',pl,hz⟩:=I.list hq
  have hlen:=r'.length;obtain⟨o,ho,hc,n,hd⟩:=pl.isList;exact call_list_seq p (.inl rfl) ho hc hd (λh' c' kp e=>fin its r' hz h' c' kp e) (by simp only[Zyu]<;>omega)
 ·obtain⟨its,r',pl,hz⟩:=I.tuple hq
  have hlen:=r'.length;obtain⟨o,ho,hc,n,hd⟩:=pl;exact call_list_seq p (.inr rfl) ho hc hd (λh' c' kp e=>fin its r' hz h' c' kp e) (by simp only[Zyu]<;>omega)
theorem ZmE:ZaE X (.type "tuple") (λxs H Q=>∃p ys,xs=[.ref p]/\((SqL X.K H p ys/\∀l,H l=Z_->Q (.ref l) (upd H l (.tup ys)))\/(SqT X.K H p ys/\Q (.ref p) H))):=by
 intro pins s σ H xs us Q I r h;obtain⟨p,ys,rfl,h⟩:=h;obtain⟨u,rfl,rx⟩:=vals1 r;cases rx;rcases h with⟨hq,q⟩ | ⟨hq,q⟩
 ·obtain⟨its,r',pl,hz⟩:=I.list hq
  have hlen:=r'.length;refine call_tuple_list pl.isList (λh' kp=>?_) (by simp only[Zyu]<;>omega);have I1:Inv X pins σ H { s with heap:=h' }:=I.kept (t':=s.toks) kp;have I2:Inv X pins σ (upd H h'.objs.size (.tup ys)) { s with heap:=h'.push { cls:=.type "tuple",data:=.seq its.toArray } } :=
   I1.laid (t':=s.toks) (λb o e=>Zyn _ e) (Zyr _) (show ZW X.prog X.w _ _ _ (.tup ys) from⟨hz,its,r',ZDy _ _⟩)
  exact⟨.ref h'.objs.size,_,I2,rfl,q _ (I1.hok.fresh (Zyr _))⟩
 ·obtain⟨its,r',pl,hz⟩:=I.tuple hq
  exact call_tuple_same pl ⟨.ref p,H,I,rfl,q⟩
def tyV(K:Zyk)(T:String)(x:V)(H:Hp):Prop:=match x with
 | .str _=>T = "str"
 | .int _=>T = "int"
 | .ref p=>(T = "list"/\∃xs,SqL K H p xs)\/(T = "tuple"/\∃o,K.lookup p=Z o/\o.cls=.type "tuple"/\o.dict=Z_) \/
   (T = "dict"/\((∃kvs,H p=Z (.dK kvs))\/∃kvs,H p=Z (.dT kvs)))\/(T = "set"/\∃S n,H p=Z (.set S n))
 | _=>False
theorem Zr1{T:String}{v:Value}(I:Inv X pins σ H s)(r:RelV x v)(ty:tyV X.K T x H) :
  s.TypeIs v T/\∀a,v=.ref a->∃ob,s.heap.get? a=Z ob/\ob.dict=Z_:=by
 cases x with
 | str z=>obtain⟨t,rfl⟩:=r;cases(show T = "str" from ty);exact⟨typeIs_str s z t,λ_ e=>nomatch e⟩
 | int i=>obtain⟨t,rfl⟩:=r;cases(show T = "int" from ty);exact⟨typeIs_int s i t,λ_ e=>nomatch e⟩
 | ref p =>
  cases r;rcases ty with⟨rfl,xs,hq⟩ | ⟨rfl,o,hk,hc,hd⟩ | ⟨rfl,hk⟩ | ⟨rfl,S,n,hk⟩
  ·obtain⟨its,_,pl,_⟩:=I.list hq
   refine⟨pl.isList.typeIs,λa e=>?_⟩;cases e;obtain⟨o,n,e,c,hd,_⟩:=pl;exact⟨o,e,hd⟩
  ·refine⟨⟨o,I.kIn p o hk,hc⟩,λa e=>?_⟩
   cases e;exact⟨o,I.kIn _ o hk,hd⟩
  ·have z:∃o,s.heap.get? p=Z o/\o.ExactDict:=by
    rcases hk with⟨kvs,hk⟩ | ⟨kvs,hk⟩
    ·obtain⟨_,_,_,_,o,_,_,e,ex,_⟩:=I.hok p _ hk
     exact⟨o,e,ex⟩
    ·obtain⟨_,_,_,_,o,_,_,e,ex,_⟩:=I.hok p _ hk
     exact⟨o,e,ex⟩
   obtain⟨o,e,ex⟩:=z;refine⟨⟨o,e,ex.1⟩,λa e2=>?_⟩;cases e2;exact⟨o,e,ex.2.1⟩
  ·obtain⟨o,_,_,_,e,ex,_⟩:=I.hok p _ hk
   refine⟨⟨o,e,ex.1⟩,λa e2=>?_⟩;cases e2;exact⟨o,e,ex.2.1⟩
 | _=>exact Zzf ty
def ZxE(K:Zyk)(T:String)(r:V->List V->Hp->VK->Prop)(to:TE):TE:=λσ H Q=>to σ H λx H1=>tyV K T x H1/\r x [] H1 Q
def tBM(K:Zyk)(T:String)(r:V->List V->Hp->VK->Prop)(to:TE)(t:TA):TE:=λσ H Q=>to σ H λx H1=>tyV K T x H1/\t σ H1 λxs H2=>r x xs H2 Q
variable{o e:Expr}{es:List Expr}{to:TE}{t:TA}{name:Str}{apos cpos:Pos}{T id:String}{r:V->List V->Hp->VK->Prop}
theorem Zvv(pa:PlainAttrs T)(slot:Slot T name id)(hty:typeOf (.builtin id)=pure (.type "method_descriptor"))(hm:MtR X id r)(ho:PE X o to)
  (hbase:ZAS o name X.env (eval o X.env)=eval o X.env:=by rfl) (hline:(apos.endLine==cpos.line)=ZDC:=by rfl):PE X (.Call (.Attribute o name apos) [] [] cpos) (ZxE X.K T r to):=by
 intro pins s σ H Q I h;refine wpAny_Call_method0_late hbase hline (thn (ho pins s σ H _ I h) λv s1 ⟨x,H1,I1,r1,ty,q1⟩=>?_);obtain⟨h1,h2⟩:=Zr1 I1 r1 ty;exact⟨T,id,pa,slot,hty,h1,h2,ZBz rfl (PySem.evalArgs_none (hm pins s1 σ H1 x [] v [] Q I1 r1 .nil q1))⟩
theorem ZqB(pa:PlainAttrs T)(slot:Slot T name id)(hty:typeOf (.builtin id)=pure (.type "method_descriptor"))(hm:MtR X id r)(ho:PE X o to)(ha:PA X (e::es) t)
  (hbase:ZAS o name X.env (eval o X.env)=eval o X.env:=by rfl)
  (hfew:((backTo cpos (Zyz (e::es) X.env)).all (λx=>!x.1)&&(backToKw cpos (ZCi [] X.env)).all (λx=>x.1.isSome)
   && decide ((e::es).length+([]:List Keyword).length+(if([]:List Keyword).isEmpty then 0 else 1)<30))=ZDC:=by rfl)
  (hline:(apos.endLine==cpos.line)=ZDC:=by rfl) (hs:Zyz (e::es) X.env=(ZDD,eval e X.env)::Zyz es X.env:=by rfl) (hplain:(backTo cpos (Zyz es X.env)).any (·.1)=ZDD:=by rfl) :
  PE X (.Call (.Attribute o name apos) (e::es) [] cpos) (tBM X.K T r to t):=by
 intro pins s σ H Q I h;refine wpAny_Call_method_late hbase hfew hline rfl (thn (ho pins s σ H _ I h) λv s1 ⟨x,H1,I1,r1,ty,q1⟩=>?_);obtain⟨h1,h2⟩:=Zr1 I1 r1 ty;refine⟨T,id,pa,slot,hty,h1,h2,?_⟩;have hA:=ha cpos pins s1 σ H1 _ I1 q1;rw[hs]at hA ⊢;refine ZBz (by show(ZDD||(backTo cpos (Zyz es X.env)).any (·.1))=ZDD; rw[hplain]<;>rfl) (ZDl ?_);exact thn hA λus s2 ⟨vs,H2,I2,r2,q2⟩=>hm pins s2 σ H2 x vs v us Q I2 r1 r2 q2
end
end L2
namespace L2
open PySem PySem.Spec PyProof.Rows
variable{its:List Value}{n t':Nat}
def MtM(X:Cx)(id:String)(r:V->List V->Hp->VK->Prop):Prop :=
 ∀(pins:List (Addr × Obj)) (s:Shared) (σ:St) (H:Hp) (x:V) (xs:List V) (v:Value) (us:List Value) (Q:VK),Inv X pins σ H s->RelV x v->Vals xs us->r x xs H Q ->
  wpAny (model X.prog X.w) X.A (call (.builtin id) (v::us)) (EP X pins σ Q) X.xe s
theorem Vals.one:∀{x:V} {us:List Value},Vals [x] us->∃u,us=[u]/\RelV x u
 | _,_,.cons r .nil=>⟨_,rfl,r⟩
theorem Vals.zero:∀{us:List Value},Vals [] us->us=[]
 | _,.nil=>rfl
theorem Vals.dropLast{xs:List V}{us:List Value}(h:Vals xs us):Vals xs.dropLast us.dropLast:=by
 induction h with
 | nil=>exact .nil
 | cons r t ih =>
  cases t with
  | nil=>exact .nil
  | cons q t'=>exact .cons r ih
theorem Vals.rep{xs:List V}{us:List Value}(h:Vals xs us):∀k:Nat,Vals (ZyT k xs).flatten (ZyT k us).flatten
 | 0=>.nil
 | k+1=>by rw[Zz2,Zz2,ZAx,ZAx];exact Vals.append h (Vals.rep h k)
theorem Zqt{α:Type}(l:List α):l.eraseIdx (l.length-1)=l.dropLast:=by
 induction l with
 | nil=>rfl
 | cons a r ih =>
  cases r with
  | nil=>rfl
  | cons b r =>
   have e:(a::b::r).length-1=((b::r).length-1)+1:=by have h1:(a::b::r).length=r.length+2:=rfl;have h2:(b::r).length=r.length+1:=rfl;omega
   rw[e,List.eraseIdx_cons_succ,ih]
   all_goals rfl
theorem foldl_rep(its:List Value):∀(k:Nat) (acc:List Value),
  List.foldl (λx1 x2=>x1++x2) acc.toArray (ZyT k its.toArray)=(acc++(ZyT k its).flatten).toArray
 | 0,acc=>by simp
 | k+1,acc=>by
  have e:acc.toArray++its.toArray=(acc++its).toArray:=by simp
  have e2:(acc++its)++(ZyT k its).flatten=acc++(ZyT (k+1) its).flatten:=by rw[Zz2,ZAx,ZAh]
  rw[<-e2,<-foldl_rep its k (acc++its),<-e,Zz2,ZAr]
section
variable{X:Cx}{pins:List (Addr × Obj)}{σ:St}{H:Hp}{s:Shared}{l b:Addr}{xs ys zs:List V}
theorem Inv.lset{its':List Value}{f:Array Value->Array Value}(I:Inv X pins σ H s)(hH:H l=Z (.lst xs))
  (e:s.heap.get? l=Z { cls:=.type "list",data:=.seq its.toArray n }) (hf:f its.toArray=its'.toArray) (hv:Vals ys its') (hz:ys.length<=sizeLine) :
  Inv X pins σ (upd H l (.lst ys)) { s with heap:=s.heap.update l (ZAe f),toks:=t' }:=by
 have q:=PySem.IsL.update e f;rw[hf]at q;refine I.write (x:=l) (e:=l) (by rw[hH]; exact trivial) (.inl rfl) (λb' u hb hu=>(ZzK s.heap (ZAe f) (Zzt hb)).trans hu) ⟨_,q⟩ ?_;exact⟨hz,its',_,hv,q⟩
theorem Inv.lnew(I:Inv X pins σ H s)(hv:Vals ys its)(hz:ys.length<=sizeLine) :
  Inv X pins σ (upd H s.heap.objs.size (.lst ys)) { s with heap:=s.heap.push { cls:=.type "list",data:=.seq its.toArray },toks:=t' } :=
 I.laid (λ_ _ q=>Zyn _ q) (Zyr _) ⟨hz,its,0,hv,ZyC _ rfl⟩
theorem Inv.fresh(I:Inv X pins σ H s):H s.heap.objs.size=Z_:=I.hok.fresh (Zyr _)
theorem Inv.lstM(I:Inv X pins σ H s)(hH:H l=Z (.lst xs)):xs.length<=sizeLine/\∃(its:List Value) (n:Nat),Vals xs its/\xs.length=its.length/\s.heap.get? l=Z { cls:=.type "list",data:=.seq its.toArray n }:=by obtain⟨z,its,n,r,e⟩:=I.hok l _ hH;exact⟨z,its,n,r,r.length,e⟩
theorem ZoO(h:n<=sizeLine):ZAE n=ZDD:=by unfold ZAE;exact decide_eq_false (by omega)
end
section
variable{X:Cx}
def ZpA:V->List V->Hp->VK->Prop:=λx vs H Q=>∃l xs y,x=.ref l/\vs=[y]/\H l=Z (.lst xs)/\xs.length<sizeLine/\Q .non (upd H l (.lst (xs++[y])))
theorem Ziw:MtM X "list.append" ZpA:=by intro pins s σ H x vs v us Q I rx rv h;obtain⟨l,xs,y,rfl,rfl,hH,hz,q⟩:=h;cases rx;obtain⟨u,rfl,ru⟩:=rv.one;obtain⟨z,its,n,r,hl,e⟩:=I.lstM hH;refine ZCF F.slot_list_append ⟨_,e,rfl⟩ F.entry_list_append (F.args_list_append_2 _ _) (PySem.list_append l its.toArray n u (by rw[Zyu]; omega)) ⟨e,?_⟩;refine⟨.non,_,I.lset (its':=its++[u]) hH e (by simp) (r.append (.cons ru .nil)) ?_,rfl,q⟩;rw[ZyA,ZzF];omega
def ZuH:V->List V->Hp->VK->Prop:=λx vs H Q=>∃l b xs zs,x=.ref l/\vs=[.ref b]/\H l=Z (.lst xs)/\H b=Z (.lst zs)/\xs.length+zs.length<=sizeLine/\Q .non (upd H l (.lst (xs++zs)))
theorem ZrV:MtM X "list.extend" ZuH:=by
 intro pins s σ H x vs v us Q I rx rv h;obtain⟨l,b,xs,zs,rfl,rfl,hH,hB,hz,q⟩:=h;cases rx;obtain⟨u,rfl,ru⟩:=rv.one;cases ru;obtain⟨z,its,n,r,hl,e⟩:=I.lstM hH;obtain⟨z2,its2,n2,r2,hl2,e2⟩:=I.lstM hB;have hsz:its.toArray.size+its2.toArray.size<=sizeLine:=by rw[Zyu,Zyu]; omega
 have hlong:¬(!its.toArray.isEmpty&&ZAE (its.toArray.size+its2.toArray.size))=ZDC:=by rw[ZoO hsz,Bool.and_false];exact Zy5
 refine ZCF F.slot_list_extend ⟨_,e,rfl⟩ F.entry_list_extend (F.args_list_extend_2 _ _)
  (AutoSeq1.list_extend_list_list_0 l its.toArray n b its2.toArray n2 hlong (by rw[Zyu]; omega) (by omega)) ⟨e,e2,?_⟩
 refine⟨.non,_,I.lset (its':=its++its2) hH e (by simp) (r.append r2) ?_,rfl,q⟩;rw[ZyA];omega
def Zxx:V->List V->Hp->VK->Prop:=λx vs H Q=>∃l xs y,x=.ref l/\vs=[]/\H l=Z (.lst xs)/\xs[xs.length-1]?=Z y/\Q y (upd H l (.lst xs.dropLast))
theorem ZvP:MtM X "list.pop" Zxx:=by
 intro pins s σ H x vs v us Q I rx rv h;obtain⟨l,xs,y,rfl,rfl,hH,hy,q⟩:=h;cases rx;have hus:=rv.zero;subst hus;obtain⟨z,its,n,r,hl,e⟩:=I.lstM hH;obtain⟨u,hu,ru⟩:=r.get hy;have hy':its.toArray[its.toArray.size-1]?=Z u:=by show its.toArray[its.length-1]?=Z u;rw[<-Zza,<-hl];exact hu
 refine ZCF F.slot_list_pop ⟨_,e,rfl⟩ F.entry_list_pop (F.args_list_pop_1 _) (MeetsSeq.list_pop_last l its.toArray n u hy' (by rw[Zyu]; omega)) ⟨e,?_⟩;refine⟨y,_,I.lset (its':=its.dropLast) hH e ?_ r.dropLast ?_,ru,q⟩
 ·show its.toArray.eraseIdxIfInBounds (its.toArray.size-1)=its.dropLast.toArray
  rw[Zyu,List.eraseIdxIfInBounds_toArray,Zqt]
 ·rw[List.length_dropLast]
  omega
def ZxH:R2:=λx y H Q=>∃l b xs zs,x=.ref l/\y=.ref b/\H l=Z (.lst xs)/\H b=Z (.lst zs)/\xs.length+zs.length<=sizeLine/\∀p,H p=Z_->Q (.ref p) (upd H p (.lst (xs++zs)))
theorem Zvu:OpR X (ZAC .Add) ZxH:=by
 intro pins s σ H x y v u Q I rx ry h;obtain⟨l,b,xs,zs,rfl,rfl,hH,hB,hz,q⟩:=h;cases rx;cases ry;obtain⟨z,its,n,r,hl,e⟩:=I.lstM hH;obtain⟨z2,its2,n2,r2,hl2,e2⟩:=I.lstM hB;refine PySem.P.add_list e e2 ?_ (by rw[Zyu,Zyu]; omega);have ea:its.toArray++its2.toArray=(its++its2).toArray:=by simp
 rw[ea];exact⟨.ref _,_,I.lnew (t':=s.toks) (r.append r2) (by rw[ZyA]; omega),rfl,q _ I.fresh⟩
def ZxU:R2:=λx y H Q=>∃l k xs,x=.ref l/\y=.int k/\H l=Z (.lst xs)/\-(2 ^ 63)<=k/\k<2 ^ 63/\xs.length*k.toNat<=sizeLine /\
 ∀p,H p=Z_->Q (.ref p) (upd H p (.lst (ZyT k.toNat xs).flatten))
theorem len_rep{α:Type}(xs:List α)(k:Nat):(ZyT k xs).flatten.length=k*xs.length:=by
 induction k with
 | zero=>simp
 | succ k ih=>rw[Zz2,ZAx,ZyA,ih,Nat.succ_mul,Nat.add_comm]
theorem ZvC:OpR X (ZAC .Mult) ZxU:=by
 intro pins s σ H x y v u Q I rx ry h;obtain⟨l,k,xs,rfl,rfl,hH,h1,h2,hz,q⟩:=h;cases rx;obtain⟨t,rfl⟩:=ry;obtain⟨z,its,n,r,hl,e⟩:=I.lstM hH;have hlen:its.toArray.size*k.toNat<=sizeLine:=by rw[Zyu,<-hl]; exact hz
 have hcap:¬its.toArray.size*k.toNat > (2 ^ 63-1) / 8:=by
  have:(sizeLine:Nat)<=(2 ^ 63-1) / 8:=by decide
  omega
 have hfit:¬(!Builtin.List.listFitsIndex k)=ZDC:=by rw[fitsIndex_both h1 h2];exact Zy5
 have hlong:¬ZAE (its.toArray.size*k.toNat)=ZDC:=by rw[ZoO hlen];exact Zy5
 have hnew:List.foldl (λx1 x2=>x1++x2) #[] (ZyT (if its.toArray.isEmpty=ZDC then 0 else k.toNat) its.toArray)=(ZyT k.toNat its).flatten.toArray:=by
  have f0:∀m:Nat,List.foldl (λx1 x2=>x1++x2) #[] (ZyT m its.toArray)=(ZyT m its).flatten.toArray:=λm=>by have:=foldl_rep its m [];rw[ZBf]at this;exact this
  rw[f0];cases its with
  | nil=>simp
  | cons a r'=>rw[if_neg (by simp)]
 refine wpAny_binaryOp_repeat_ref (T:="list") (U:="int") (by decide) ⟨_,e,rfl⟩ (λs'=>typeIs_int s' k t) noFill_list_mul F.fills_int_mul F.slot_int_rmul repeat_list F.slot_int_index.lookup
  (ZCF F.slot_int_rmul (typeIs_int s k t) F.entry_int_rmul (F.args_int_rmul_2 _ _) (int___rmul___int_list k t l its.toArray n)
   ⟨e,rfl,⟨_,e,rfl⟩,ZCF F.slot_list_mul ⟨_,e,rfl⟩ F.entry_list_mul (F.args_list_mul_2 _ _) (AutoListH.list___mul___list_int_3 l its.toArray n k t hfit hcap hlong) ⟨e,?_⟩⟩)
 rw[hnew];exact⟨.ref _,_,I.lnew (t':=s.toks) (r.rep k.toNat) (by rw[len_rep,Nat.mul_comm]; exact hz),rfl,q _ I.fresh⟩
end
end L2
namespace L2
open PySem PySem.Spec PyProof.Rows
variable{a b:Addr}{X:Cx}{h':Heap}{H H':Hp}{pins:List (Addr × Obj)}{xs:List (List Key × Addr × Value)}{kvs:List (List Key × V)}{o:Option V}{pos:Pos}{P:Program}{s:Shared}{σ:St}{y:V}{u:Value}{Q:Value->Shared->Prop}{w:World}
section
variable{κ:Type}[DecidableEq κ]
def Zay(kvs:List (κ × V))(k:κ):Option V:=(kvs.find? λkv=>decide (kv.1=k)).map (·.2)
def putK(kvs:List (κ × V))(k:κ)(v:V):List (κ × V) :=
 if(kvs.any λkv=>decide (kv.1=k))=ZDC then kvs.map (λkv=>if kv.1=k then(kv.1,v)else kv)else kvs++[(k,v)]
theorem ZdM{p:κ × V}{r:List (κ × V)}{k:κ}(e:p.1=k):Zay (p::r) k=Z p.2:=by simp[Zay,Zzo,e]
theorem ZdF{p:κ × V}{r:List (κ × V)}{k:κ}(e:¬p.1=k):Zay (p::r) k=Zay r k:=by simp[Zay,Zzo,e]
theorem ZjV(k:κ):∀kvs:List (κ × V),(kvs.any λkv=>decide (kv.1=k))=(Zay kvs k).isSome
 | []=>rfl
 | p::r=>by
  rw[ZAR]
  by_cases e:p.1=k
  ·simp only[ZdM e,decide_eq_true e,Bool.true_or,Option.isSome_some]
  ·rw[ZdF e,decide_eq_false e,ZDm]; exact ZjV k r
theorem ZgN(kvs:List (κ × V))(k:κ)(v:V):(putK kvs k v).length<=kvs.length+1:=by
 unfold putK;split
 ·rw[Zyj]; omega
 ·rw[ZyA,ZyD,ZBT]; omega
theorem ZgW.isSome_eq{u:Option Value}(r:ZgW o u):o.isSome=u.isSome:=by
 cases o with
 | none=>cases u with
  | none=>rfl
  | some _=>exact(show False from r).elim
 | some _=>cases u with
  | none=>exact(show False from r).elim
  | some _=>rfl
theorem KV.val{kvs:List (κ × V)}{vs:List (κ × Value)}(r:KV kvs vs)(k:κ):ZgW (Zay kvs k) (valueAt vs k):=by
 unfold KV at r
 induction r with
 | nil=>exact ZBl
 | @cons p q ps qs h t ih =>
  obtain⟨h1,h2⟩:=h
  by_cases e:p.1=k
  ·have e':q.1=k:=h1.symm.trans e
   have b:valueAt (q::qs) k=Z q.2:=by simp[valueAt,Zzo,e']
   rw[ZdM e,b]; exact h2
  ·have e':¬q.1=k:=λz=>e (h1.trans z)
   have b:valueAt (q::qs) k=valueAt qs k:=by simp[valueAt,Zzo,e']
   rw[ZdF e,b]; exact ih
theorem KV.any{kvs:List (κ × V)}{vs:List (κ × Value)}(r:KV kvs vs)(k:κ):(kvs.any λkv=>decide (kv.1=k))=vs.any λkv=>decide (kv.1=k):=by
 unfold KV at r
 induction r with
 | nil=>rfl
 | cons h t ih=>rw[ZAR,ZAR,ih,h.1]
theorem KV.repl{kvs:List (κ × V)}{vs:List (κ × Value)}(r:KV kvs vs)(k:κ)(ry:RelV y u) :
  KV (kvs.map λkv=>if kv.1=k then(kv.1,y)else kv) (vs.map λkv=>if kv.1=k then(kv.1,u)else kv):=by
 unfold KV at r ⊢
 induction r with
 | nil=>exact .nil
 | @cons p q ps qs h t ih =>
  rw[Zyv,Zyv];refine .cons ?_ ih;obtain⟨h1,h2⟩:=h
  by_cases e:p.1=k
  ·rw[if_pos e,if_pos (h1.symm.trans e)]; exact⟨h1,ry⟩
  ·rw[if_neg e,if_neg (λz=>e (h1.trans z))]; exact⟨h1,h2⟩
theorem KV.put{kvs:List (κ × V)}{vs:List (κ × Value)}(r:KV kvs vs)(k:κ)(ry:RelV y u):KV (putK kvs k y) (stored vs k u):=by
 unfold putK stored;rw[r.any k]
 by_cases e:(vs.any λkv=>decide (kv.1=k))=ZDC
 ·rw[if_pos e,if_pos e]; exact r.repl k ry
 ·rw[if_neg e,if_neg e]; exact Paired.snoc r ⟨rfl,ry⟩
theorem KV.length{kvs:List (κ × V)}{vs:List (κ × Value)}(r:KV kvs vs):kvs.length=vs.length:=ZAQ r
end
theorem Zjl{k:Key}(r:RelV (kV k) u):(Zav P w).is k u=ZDC:=by
 cases k with
 | inl i=>obtain⟨t,e⟩:=(show ∃t,u=Zz0 i t from r); subst e; exact Zpm P w i t
 | inr x=>obtain⟨t,e⟩:=(show ∃t,u=Value.str x t from r); subst e; exact Zps P w x t
theorem ZlZ{P:Program}{w:World}:∀{ks:List Key} {us:List Value},Vals (ks.map kV) us->ItemsAre (Zav P w) ks us
 | [],_,r=>by rw[ZA1]at r; cases r; exact .nil
 | k::ks,_,r=>by
  rw[Zyv]at r;cases r with
  | cons h t=>exact .cons (Zjl h) (ZlZ t)
abbrev KT(H:Hp):List (List Key × V)->List (List Key × Addr × Value)->Prop:=Paired λp q=>p.1=q.1/\H q.2.1=Z (.tup (p.1.map kV))/\RelV p.2 q.2.2
theorem KT.val(r:KT H kvs xs)(k:List Key):ZgW (Zay kvs k) ((atKey xs k).map (·.2)):=by
 induction r with
 | nil=>exact ZBl
 | @cons p q ps qs h t ih =>
  obtain⟨h1,_,h2⟩:=h
  by_cases e:p.1=k
  ·have e':q.1=k:=h1.symm.trans e
   have b:atKey (q::qs) k=Z q.2:=by simp[atKey,Zzo,e']
   rw[ZdM e,b]; exact h2
  ·have e':¬q.1=k:=λz=>e (h1.trans z)
   have b:atKey (q::qs) k=atKey qs k:=by simp[atKey,Zzo,e']
   rw[ZdF e,b]; exact ih
theorem KT.repl(r:KT H kvs xs)(k:List Key)(ry:RelV y u) :
  KT H (kvs.map λkv=>if kv.1=k then(kv.1,y)else kv) (xs.map (putAt k u)):=by
 induction r with
 | nil=>exact .nil
 | @cons p q ps qs h t ih =>
  rw[Zyv,Zyv];refine .cons ?_ ih;obtain⟨h1,h2,h3⟩:=h;unfold putAt
  by_cases e:p.1=k
  ·rw[if_pos e,if_pos (h1.symm.trans e)]; exact⟨h1,h2,ry⟩
  ·rw[if_neg e,if_neg (λz=>e (h1.trans z))]; exact⟨h1,h2,h3⟩
theorem KT.put(r:KT H kvs xs)(k:List Key)(hb:H b=Z (.tup (k.map kV)))(ry:RelV y u) :
  KT H (putK kvs k y) (storedH xs k b u):=by
 have e:(kvs.any λkv=>decide (kv.1=k))=(atKey xs k).isSome:=by rw[ZjV,(r.val k).isSome_eq,ZzM]
 unfold putK storedH;rw[e]
 by_cases q:(atKey xs k).isSome=ZDC
 ·rw[if_pos q,if_pos q]; exact r.repl k ry
 ·rw[if_neg q,if_neg q]; exact Paired.snoc r ⟨rfl,hb,ry⟩
theorem KT.keeps(r:KT H kvs xs)(ht:∀b ys,H b=Z (.tup ys)->H' b=Z (.tup ys)):KT H' kvs xs :=
 Paired.mapP r λ_ _ z=>⟨z.1,ht _ _ z.2.1,z.2.2⟩
section
variable{P:Program}{w:World}{H:Hp}{h:Heap}{a:Addr}
theorem Zkx{u:HO}(ok:HOk P w H h)(e:Rd H a u):ZW P w H h a u:=e.ok ok
theorem ZhY{kvs:List (Key × V)}(ok:HOk P w H h)(e:Rd H a (.dK kvs)):kvs.length<=sizeLine/\(a==ZzP)=ZDD/\∃vs,KV kvs vs/\h.DictOf (Zav P w) a vs :=
 show ZW P w H h a (.dK kvs) from Zkx ok e
theorem Zqq{kvs:List (Key × V)}(ok:HOk P w H h)(e:H a=Z (.dK kvs)):kvs.length<=sizeLine/\(a==ZzP)=ZDD/\∃vs,KV kvs vs/\h.DictOf (Zav P w) a vs:=ZhY ok (.inl e)
theorem Zhj{ks:List Key}(ok:HOk P w H h)(e:H a=Z (.tup (ks.map kV))):(ZBN (Zav P w)).is h ks a:=by obtain⟨_,its,r,o,h1,h2,n,h3⟩:=(show ZW P w H h a (.tup (ks.map kV)) from ok a _ e);exact⟨o,its.toArray,n,h1,h2,h3,by simpa using ZlZ r⟩
theorem Zjb(ok:HOk P w H h)(e:Rd H a (.dT kvs)):kvs.length<=sizeLine/\(a==ZzP)=ZDD /\
  ∃xs,KT H kvs xs/\h.DictOfH (ZBN (Zav P w)) a xs:=by
 obtain⟨z,y,xs,r,o,es,ep,h1,h2,h3,h4,h5⟩:=(show ZW P w H h a (.dT kvs) from Zkx ok e);refine⟨z,y,xs,r,o,es,ep,h1,h2,h3,h4,λx hx=>?_,h5⟩;have all:∀{l:List (List Key × V)} {m:List (List Key × Addr × Value)},KT H l m->∀x∈m,(ZBN (Zav P w)).is h x.1 x.2.1:=by
  intro l m q
  induction q with
  | nil=>intro x hx; exact nomatch hx
  | @cons p q ps qs hq t ih =>
   intro x hx;rcases ZyH.mp hx with e | hx
   ·subst e
    exact Zhj ok (by rw[<-hq.1]; exact hq.2.1)
   ·exact ih x hx
 exact all r x hx
theorem ZtY(ok:HOk P w H h)(e:H a=Z (.dT kvs)):kvs.length<=sizeLine/\(a==ZzP)=ZDD /\
  ∃xs,KT H kvs xs/\h.DictOfH (ZBN (Zav P w)) a xs:=Zjb ok (.inl e)
end
def ZdH(H:Hp)(a:Addr)(y:V)(r:Option V):Prop :=
 (∃kvs k,Rd H a (.dK kvs)/\y=kV k/\r=Zay kvs k)\/∃kvs k b,Rd H a (.dT kvs)/\y=.ref b/\H b=Z (.tup (k.map kV))/\r=Zay kvs k
def ZiZ(H:Hp)(a:Addr)(y v:V)(H':Hp):Prop :=
 (∃kvs k,H a=Z (.dK kvs)/\y=kV k/\kvs.length<sizeLine/\H'=upd H a (.dK (putK kvs k v))) \/
 ∃kvs k b,H a=Z (.dT kvs)/\y=.ref b/\H b=Z (.tup (k.map kV))/\kvs.length<sizeLine/\H'=upd H a (.dT (putK kvs k v))
theorem ZdH.k{H:Hp}{a:Addr}{kvs:List (Key × V)}{k:Key}(e:H a=Z (.dK kvs)):ZdH H a (kV k) (Zay kvs k):=.inl ⟨kvs,k,.inl e,rfl,rfl⟩
theorem ZdH.t{k:List Key}(e:H a=Z (.dT kvs))(eb:H b=Z (.tup (k.map kV))):ZdH H a (.ref b) (Zay kvs k):=.inr ⟨kvs,k,b,.inl e,rfl,eb,rfl⟩
theorem ZiZ.k{H:Hp}{a:Addr}{kvs:List (Key × V)}{k:Key}{v:V}(e:H a=Z (.dK kvs))(hl:kvs.length<sizeLine):ZiZ H a (kV k) v (upd H a (.dK (putK kvs k v))):=.inl ⟨kvs,k,e,rfl,hl,rfl⟩
theorem ZiZ.t{k:List Key}{v:V}(e:H a=Z (.dT kvs))(eb:H b=Z (.tup (k.map kV)))(hl:kvs.length<sizeLine) :
  ZiZ H a (.ref b) v (upd H a (.dT (putK kvs k v))):=.inr ⟨kvs,k,b,e,rfl,eb,hl,rfl⟩
section
variable{X:Cx}{pins:List (Addr × Obj)}{σ:St}{H:Hp}{s:Shared}{a:Addr}{y v:V}{u r:Value}{o:Option V}{A:Around}{E:Value->Shared->Prop}
theorem Inv.big(I:Inv X pins σ H s):ZzP<s.heap.objs.size:=by have h:Zy7<s.heap.objs.size:=(I.mod.glob.keeps I.bk).lt;exact ZAf (by decide) h
theorem Zsc(hu:A.units+1<cLine)(I:Inv X pins σ H s)(g:ZdH H a y (Z v))(ry:RelV y u)(h:∀w' s',Inv X pins σ H s'->RelV v w'->Q w' s') :
  wpAny (model X.prog X.w) A (getItem (.ref a) u) Q E s:=by
 rcases g with⟨kvs,k,e,ey,l⟩ | ⟨kvs,k,b,e,ey,eb,l⟩
 ·subst ey
  obtain⟨z,hd,vs,rel,dd⟩:=ZhY I.hok e;obtain⟨w',hw,rw'⟩:=ZgW.some_of (v:=v) (o:=valueAt vs k) (by rw[l]; exact rel.val k);exact wpAny_getItem_of (Zjl ry) dd.mapOf hw (h w' _ (I.tok _) rw')
 ·subst ey
  cases(show u=Zzc b from ry);obtain⟨z,hd,xs,rel,dd⟩:=Zjb I.hok e;obtain⟨w',hw,rw'⟩:=ZgW.some_of (v:=v) (o:=(atKey xs k).map (·.2)) (by rw[l]; exact rel.val k);obtain⟨p,hp,hp2⟩:=Zyl.mp hw;refine wpAny_getItem_heap (ZAU hu) (Zhj I.hok eb) dd hp ?_;rw[hp2];exact h w' _ (I.tok _) rw'
theorem ZxC(hu:A.units+1<cLine)(I:Inv X pins σ H s)(g:ZdH H a y o)(ry:RelV y u)(h:∀s',Inv X pins σ H s'->Q (.bool o.isSome) s') :
  wpAny (model X.prog X.w) A (ZzC .In u (.ref a)) Q E s:=by
 rcases g with⟨kvs,k,e,ey,l⟩ | ⟨kvs,k,b,e,ey,eb,l⟩
 ·subst ey
  obtain⟨z,hd,vs,rel,dd⟩:=ZhY I.hok e;refine wpAny_in_of (Zjl ry) hd dd.mapOf ?_;rw[<-(rel.val k).isSome_eq,<-l];exact h _ (I.tok _)
 ·subst ey
  cases(show u=Zzc b from ry);obtain⟨z,hd,xs,rel,dd⟩:=Zjb I.hok e;refine wpAny_in_heap (ZAU hu) (Zhj I.hok eb) hd dd ?_;have q:=(rel.val k).isSome_eq;rw[ZzM]at q;rw[<-q,<-l];exact h _ (I.tok _)
theorem Zug(hu:A.units+1<cLine)(I:Inv X pins σ H s)(g:ZdH H a y o)(ry:RelV y u)(h:∀s',Inv X pins σ H s'->Q (.bool (!o.isSome)) s') :
  wpAny (model X.prog X.w) A (ZzC .NotIn u (.ref a)) Q E s:=by
 rcases g with⟨kvs,k,e,ey,l⟩ | ⟨kvs,k,b,e,ey,eb,l⟩
 ·subst ey
  obtain⟨z,hd,vs,rel,dd⟩:=ZhY I.hok e;refine wpAny_notIn_of (Zjl ry) hd dd.mapOf ?_;rw[<-(rel.val k).isSome_eq,<-l];exact h _ (I.tok _)
 ·subst ey
  cases(show u=Zzc b from ry);obtain⟨z,hd,xs,rel,dd⟩:=Zjb I.hok e;refine wpAny_notIn_heap (ZAU hu) (Zhj I.hok eb) hd dd ?_;have q:=(rel.val k).isSome_eq;rw[ZzM]at q;rw[<-q,<-l];exact h _ (I.tok _)
theorem Zje{t':Nat}{ob:HO}(I:Inv X pins σ H s)(mu:Mut (H a))(hs:ZAc a s.heap h')(he:∃q,h'.get? a=Z q)(new:ZW X.prog X.w (upd H a ob) h' a ob) :
  Inv X pins σ (upd H a ob) { s with heap:=h',toks:=t' } :=
 I.write (x:=a) (e:=a) mu (.inl rfl) (λb q hb z=>(hs.2 b hb).trans z) he new
theorem ZrO{kvs:List (Key × V)}{vs:List (Key × Value)}(z:kvs.length<=sizeLine)(hd:(a==ZzP)=ZDD)(rel:KV kvs vs)(dd:h'.DictOf (Zav P w) a vs) :
  ZW P w H' h' a (.dK kvs):=⟨z,hd,vs,rel,dd⟩
theorem Zrz{Q:Unit->Shared->Prop}(hu:A.units+1<cLine)(I:Inv X pins σ H s)(g:ZiZ H a y v H')(ry:RelV y u)(rv:RelV v r)(h:∀s',Inv X pins σ H' s'->Q () s') :
  wpAny (model X.prog X.w) A (setItem (.ref a) u r) Q E s:=by
 rcases g with⟨kvs,k,e,ey,l,eH⟩ | ⟨kvs,k,b,e,ey,eb,l,eH⟩
 ·subst ey eH
  obtain⟨z,hd,vs,rel,dd⟩:=Zqq I.hok e;have hz:vs.length<=sizeLine:=by rw[<-rel.length]; exact z
  have hl:(putK kvs k v).length<=sizeLine:=by have:=ZgN kvs k v; omega
  refine wpAny_setItem_pairs (hsz:=hz) (Zjl ry) dd λh' dd' hs=>h _ ?_;have he:∃q,h'.get? a=Z q:=let ⟨q,_,_,hq,_⟩:=dd'; ⟨q,hq⟩
  exact Zje I (by rw[e]; exact ZBl) hs he (ZrO hl hd (rel.put k rv) dd')
 ·subst ey eH
  cases(show u=Zzc b from ry);obtain⟨z,hd,xs,rel,dd⟩:=ZtY I.hok e;have hz:xs.length<=sizeLine:=by rw[<-ZAQ rel]; exact z
  have hl:(putK kvs k v).length<=sizeLine:=by have:=ZgN kvs k v; omega
  refine wpAny_setItem_heap (hsz:=hz) (ZAU hu) (Zhj I.hok eb) dd λh' dd' hs=>h _ ?_;obtain⟨q,es,ep,hq,h2,h3,h4,_,h5⟩:=dd';refine Zje I (by rw[e]; exact ZBl) hs ⟨q,hq⟩ ⟨hl,hd,_,(rel.put k eb rv).keeps λc ys ec=>?_,q,es,ep,hq,h2,h3,h4,h5⟩;rw[Zy (ZtX ec e (λz=>nomatch z))];exact ec
end
section
variable{X:Cx}{pins:List (Addr × Obj)}{σ:St}{H:Hp}{s:Shared}{a:Addr}{kvs:List (Key × V)}{k:Key}{u:Value}{A:Around}{E:Value->Shared->Prop}
theorem ZwH(I:Inv X pins σ H s)(e:Rd H a (.dK kvs))(h:∀t s',Inv X pins σ H s'->Q (.int kvs.length t) s'):wpAny (model X.prog X.w) A (call (.builtin "len") [.ref a]) Q E s:=by obtain⟨z,hd,vs,rel,dd⟩:=ZhY I.hok e;refine call_len_dict hd dd (by rw[<-rel.length]; rw[Zze]at z; omega) ?_;rw[<-rel.length];exact h _ _ (I.tok _)
end
def Zqy(i:Expr):Prop:=∀ov iv,ZC2 i ZDD ov iv=operate [ov,iv] (getItem ov iv)
theorem ZuE{prog:Program}{A:Around}{E:Value->Shared->Prop}{env:Env}{value slice:Expr}{T id:String}
  (hl:typeLookup (.type T) "__getitem__" = pure (Z (.builtin id))) (hs:Zqy slice)
  (h:wpAny (model prog w) A (eval value env) (λo s₁=>wpAny (model prog w) A (eval slice env) (λi s₂=>s₂.TypeIs o T/\wpAny (model prog w) A (getItem o i) Q E s₂) E s₁) E s) :
  wpAny (model prog w) A (eval (.Subscript value slice pos) env) Q E s:=by
 refine Subscript_ (Zzw h (λo s₁ h₁=>Zzw h₁ (λi s₂ h₂=>?_) λ_ _ x=>x) λ_ _ x=>x);obtain⟨hT,h₂⟩:=h₂;unfold subscriptTail;refine Zyi ?_;rw[getitemInPython_of_ne hT.not_modules];refine Zyi (wpAny_specialOf hT hl ?_);have fin:wpAny (model prog w) A (ZC2 slice ZDD o i) (λr s₃=>wpAny (model prog w) A (letTemporaryGo value o r >>= λ_=>pure r) Q E s₃) E s₂:=by rw[hs o i];exact wpAny_operating (Zzw h₂ (λr s₃ h₃=>Zyi (wpAny_letTemporaryGo (Zym h₃))) λ_ _ x=>x)
 first
  | exact Zym (Zyi fin)
  | exact Zyi (Zym (Zyi fin))
  | exact Zyi fin
theorem Zpr(I:Inv X pins σ H s)(g:ZdH H a y o):s.TypeIs (.ref a) "dict":=by
 rcases g with⟨kvs,k,e,_,_⟩ | ⟨kvs,k,b,e,_,_,_⟩
 ·obtain⟨_,_,vs,_,dd⟩:=ZhY I.hok e
  exact dd.typeIs
 ·obtain⟨_,_,xs,_,dd⟩:=Zjb I.hok e
  exact dd.typeIs
def ZwW(td ty:TE):TE:=λσ H Q=>td σ H λx H1=>ty σ H1 λy H2=>∃a v,x=.ref a/\ZdH H2 a y (Z v)/\Q v H2
def Zxv(ty td:TE):TE:=λσ H Q=>ty σ H λy H1=>td σ H1 λx H2=>∃a o,x=.ref a/\ZdH H2 a y o/\Q (.bl o.isSome) H2
def Zud(ty td:TE):TE:=λσ H Q=>ty σ H λy H1=>td σ H1 λx H2=>∃a o,x=.ref a/\ZdH H2 a y o/\Q (.bl (!o.isSome)) H2
def Zw8(td ty tv:TE):TS:=λD σ H=>tv σ H λv H1=>td σ H1 λx H2=>ty σ H2 λy H3=>∃a H4,x=.ref a/\ZiZ H3 a y v H4/\D.nx σ H4
section
variable{X:Cx}{o i e value:Expr}{pos pos' tpos:Pos}{td ty tv:TE}
theorem ZpH(hu:X.A.units+1<cLine)(ho:PE X o td)(hi:PE X i ty)(hs:Zqy i):PE X (.Subscript o i pos) (ZwW td ty):=by intro pins s σ H Q I h;refine ZuE PySem.F.slot_dict_getitem.lookup hs (thn (ho pins s σ H _ I h) λu s1 ⟨x,H1,I1,rx,q1⟩=>thn (hi pins s1 σ H1 _ I1 q1) λiv s2 ⟨y,H2,I2,ry,a,v,ex,g,q2⟩=>?_);subst ex;obtain rfl:u=Zzc a:=rx;exact⟨Zpr I2 g,Zsc hu I2 g ry λw' s3 I3 rw'=>⟨v,H2,I3,rw',q2⟩⟩
theorem Zwt(hu:X.A.units+1<cLine)(hi:PE X i ty)(ho:PE X o td):PC X .In i o (Zxv ty td):=by intro pins s σ H Q I h;refine thn (hi pins s σ H _ I h) λiv s1 ⟨y,H1,I1,ry,q1⟩=>thn (ho pins s1 σ H1 _ I1 q1) λu s2 ⟨x,H2,I2,rx,a,ov,ex,g,q2⟩=>?_;subst ex;obtain rfl:u=Zzc a:=rx;exact ZxC hu I2 g ry λs3 I3=>⟨.bl ov.isSome,H2,I3,rfl,q2⟩
theorem ZrQ(hu:X.A.units+1<cLine)(hi:PE X i ty)(ho:PE X o td):PC X .NotIn i o (Zud ty td):=by intro pins s σ H Q I h;refine thn (hi pins s σ H _ I h) λiv s1 ⟨y,H1,I1,ry,q1⟩=>thn (ho pins s1 σ H1 _ I1 q1) λu s2 ⟨x,H2,I2,rx,a,ov,ex,g,q2⟩=>?_;subst ex;obtain rfl:u=Zzc a:=rx;exact Zug hu I2 g ry λs3 I3=>⟨.bl (!ov.isSome),H2,I3,rfl,q2⟩
theorem ZpG(hu:X.A.units+1<cLine)(ho:PE X o td)(hi:PE X i ty)(hv:PE X value tv)(hs:ZAT value (Z (.Subscript o i pos')) pos.line X.env=pure ZDD) :
  PS X (.Assign [.Subscript o i pos'] value pos) (Zw8 td ty tv):=by
 intro pins s σ H D I h;refine wpAny_Assign_Subscript (thn (hv pins s σ H _ I h) λr s1 ⟨v,H1,I1,rv,q1⟩=>thn (ho pins s1 σ H1 _ I1 q1) λu s2 ⟨x,H2,I2,rx,q2⟩=>thn (hi pins s2 σ H2 _ I2 q2) λiv s3 ⟨y,H3,I3,ry,a,H4,ex,g,q3⟩=>?_) hs;subst ex;obtain rfl:u=Zzc a:=rx;exact Zrz hu I3 g ry rv λs4 I4=>⟨σ,H4,I4,q3⟩
end
theorem ZoB(h:Heap)(hb:ZzP<h.objs.size):ZW P w H (h.push { cls:=.type "dict",data:=.dict #[] }) h.objs.size (.dK []) :=
 ⟨Zzj _,beq_eq_false_iff_ne.mpr (Zzt (ZyG hb)),[],.nil,Heap.DictOf.new h⟩
theorem ZsQ(h:Heap)(hb:ZzP<h.objs.size):ZW P w H (h.push { cls:=.type "dict",data:=.dict #[] }) h.objs.size (.dT []) :=
 ⟨Zzj _,beq_eq_false_iff_ne.mpr (Zzt (ZyG hb)),[],.nil,_,#[],0,ZyC _ rfl,⟨rfl,rfl,rfl⟩,rfl,rfl,ZAa⟩
def ZwC:TE:=λ_ H Q=>∀p,H p=Z_->Q (.ref p) (upd H p (.dK []))
def ZvJ:TE:=λ_ H Q=>∀p,H p=Z_->Q (.ref p) (upd H p (.dT []))
section
variable{X:Cx}{pos:Pos}
theorem Zs6:PE X (.Dict [] [] pos) ZwC:=λpins s σ H Q I h=>wpAny_Dict_empty ⟨.ref s.heap.objs.size,_,I.laid (a:=s.heap.objs.size) (o:=.dK []) (t':=s.toks) (λ_ _ q=>Zyn _ q) (Zyr _) (ZoB s.heap I.big),rfl,h _ (I.hok.fresh (Zyr _))⟩
theorem Zoh:PE X (.Dict [] [] pos) ZvJ:=λpins s σ H Q I h=>wpAny_Dict_empty ⟨.ref s.heap.objs.size,_,I.laid (a:=s.heap.objs.size) (o:=.dT []) (t':=s.toks) (λ_ _ q=>Zyn _ q) (Zyr _) (ZsQ s.heap I.big),rfl,h _ (I.hok.fresh (Zyr _))⟩
end
def ZnM:List (TE × TE)->St->Hp->(List (V × V)->Hp->Prop)->Prop
 | [],_,H,Q=>Q [] H
 | (tk,tv)::r,σ,H,Q=>tk σ H λx H1=>tv σ H1 λy H2=>ZnM r σ H2 λps H3=>Q ((x,y)::ps) H3
abbrev VV:List (V × V)->List (Value × Value)->Prop:=Paired λp q=>RelV p.1 q.1/\RelV p.2 q.2
def PPs(X:Cx)(pos:Pos)(keys:List (Option Expr))(values:List Expr)(trs:List (TE × TE)):Prop :=
 ∀(pins:List (Addr × Obj)) (s:Shared) (σ:St) (H:Hp) (Q:List (V × V)->Hp->Prop),Inv X pins σ H s->ZnM trs σ H Q ->
  wpAny (model X.prog X.w) X.A (evalPairs (pairTrees keys values X.env pos)) (λvs s'=>∃ps H',Inv X pins σ H' s'/\VV ps vs/\Q ps H') X.xe s
theorem Zt8:PPs X pos [] [] []:=λpins s σ H Q I h=>pairTrees_nil_walk ⟨[],H,I,.nil,h⟩
theorem ZsY{k v:Expr}{ks:List (Option Expr)}{vs:List Expr}{tk tv:TE}{trs:List (TE × TE)}(hk:PE X k tk)(hv:PE X v tv)(hr:PPs X pos ks vs trs) :
  PPs X pos (Z k::ks) (v::vs) ((tk,tv)::trs):=λpins s σ H Q I h =>
 pairTrees_cons_walk (thn (hk pins s σ H _ I h) λu s1 ⟨x,H1,I1,rx,q1⟩=>thn (hv pins s1 σ H1 _ I1 q1) λw2 s2 ⟨y,H2,I2,ry,q2⟩=>thn (hr pins s2 σ H2 _ I2 q2) λws s3 ⟨ps,H3,I3,rel,q3⟩=>⟨(x,y)::ps,H3,I3,.cons ⟨rx,ry⟩ rel,q3⟩)
def Zg6(kvs more:List (Key × V)):List (Key × V):=more.foldl (λacc kv=>putK acc kv.1 kv.2) kvs
theorem KV.merge:∀{more:List (Key × V)} {rs:List (Key × Value)} {kvs:List (Key × V)} {vs:List (Key × Value)},KV more rs->KV kvs vs->KV (Zg6 kvs more) (merged vs rs):=by
 intro more rs kvs vs r;unfold KV at r
 induction r generalizing kvs vs with
 | nil=>intro q; exact q
 | @cons p q ps qs h t ih =>
  intro r0;have e:KV (putK kvs p.1 p.2) (stored vs q.1 q.2):=by have:=r0.put p.1 h.2;rw[<-h.1]; exact this
  exact ih e
theorem Zh8:∀(more kvs:List (Key × V)),(Zg6 kvs more).length<=kvs.length+more.length
 | [],kvs=>by show kvs.length<=kvs.length+0; omega
 | p::r,kvs=>by have h1:=Zh8 r (putK kvs p.1 p.2);have h2:=ZgN kvs p.1 p.2;show(Zg6 (putK kvs p.1 p.2) r).length<=_;rw[ZyD]; omega
theorem ZkH{P:Program}{w:World}:∀{kvs:List (Key × V)} {ws:List (Value × Value)},VV (kvs.map λkv=>(kV kv.1,kv.2)) ws->∃rs,Carries (Zav P w) ws rs/\KV kvs rs
 | [],_,r=>by rw[ZA1]at r; cases r; exact⟨[],ZBl,.nil⟩
 | p::kvs,_,r=>by
  rw[Zyv]at r;cases r with
  | @cons a b as bs h t=>obtain⟨rs,c,q⟩:=ZkH (P:=P) (w:=w) t;obtain⟨b1,b2⟩:=b;exact⟨(p.1,b2)::rs,⟨Zjl h.1,rfl,c⟩,.cons ⟨rfl,h.2⟩ q⟩
def Zw0(trs:List (TE × TE)):TE:=λσ H Q=>∀p,H p=Z_->ZnM trs σ (upd H p (.dK [])) λps H2=>H2 p=Z (.dK [])/\∃kvs:List (Key × V),ps=kvs.map (λkv=>(kV kv.1,kv.2))/\kvs.length<=15/\Q (.ref p) (upd H2 p (.dK (Zg6 [] kvs)))
theorem Zuw{keys:List (Option Expr)}{values:List Expr}{trs:List (TE × TE)}(h:PPs X pos keys values trs)(hall:keys.all (·.isSome)=ZDC)(hl:keys.length=values.length)(h0:keys≠[])
  (h15:keys.length<=15):PE X (.Dict keys values pos) (Zw0 trs):=by
 intro pins s σ H Q I q;have hn:=I.hok.fresh (Zyr s.heap.objs.size);have I1:=I.laid (a:=s.heap.objs.size) (o:=.dK []) (h':=s.heap.push { cls:=.type "dict",data:=.dict #[] }) (t':=s.toks) (λ_ _ q=>Zyn _ q) (Zyr _) (ZoB s.heap I.big);refine wpAny_Dict_walk (knd:=Zav X.prog X.w) hall hl h0 h15 (thn (h pins _ σ _ _ I1 (q _ hn)) λws s2 ⟨ps,H2,I2,rel,e,kvs,ep,lk,q2⟩=>?_);subst ep;obtain⟨rs,c,rk⟩:=ZkH (P:=X.prog) (w:=X.w) rel;obtain⟨z,hd,vs0,r0,dd⟩:=Zqq I2.hok e;cases r0;refine⟨rs,c,dd,λh' dd' hs=>⟨.ref s.heap.objs.size,_,?_,rfl,q2⟩⟩;have hz:(Zg6 [] kvs).length<=sizeLine:=by have h1:=Zh8 kvs [];rw[ZBT]at h1;rw[Zze]; omega
 have he:∃q,h'.get? s.heap.objs.size=Z q:=let ⟨q,_,_,hq,_⟩:=dd'; ⟨q,hq⟩
 exact Zje I2 (by rw[e]; exact ZBl) hs he (ZrO hz hd (rk.merge .nil) dd')
structure M2(X:Cx)(o:Expr)(m:Str)(apos:Pos)(e f:Expr)(cpos:Pos):Prop where
 base:ZAS o m X.env (eval o X.env)=eval o X.env
 few:((backTo cpos (Zyz [e,f] X.env)).all (λx=>!x.1)&&(backToKw cpos (ZCi [] X.env)).all (λx=>x.1.isSome)
  && decide (([e,f]:List Expr).length+([]:List Keyword).length+(if([]:List Keyword).isEmpty then 0 else 1)<30))=ZDC
 line:(apos.endLine==cpos.line)=ZDC
 trees:backTo cpos (Zyz [e,f] X.env)=[(ZDD,eval e X.env),(ZDD,eval f X.env)]
def IsD(H:Hp)(a:Addr):Prop:=(∃kvs,Rd H a (.dK kvs))\/∃kvs,Rd H a (.dT kvs)
theorem Zvp(I:Inv X pins σ H s)(d:IsD H a) :
  s.TypeIs (.ref a) "dict"/\(∀b,Zzc a=.ref b->∃ob,s.heap.get? b=Z ob/\ob.dict=Z_)/\(a==ZzP)=ZDD:=by
 rcases d with⟨kvs,e⟩ | ⟨kvs,e⟩
 ·obtain⟨_,hd,vs,_,dd⟩:=ZhY I.hok e
  refine⟨dd.typeIs,λb q=>?_,hd⟩;cases q;obtain⟨ob,_,_,h1,h2,_⟩:=dd;exact⟨ob,h1,h2.2.1⟩
 ·obtain⟨_,hd,xs,_,dd⟩:=Zjb I.hok e
  refine⟨dd.typeIs,λb q=>?_,hd⟩;cases q;obtain⟨ob,_,_,h1,h2,_⟩:=dd;exact⟨ob,h1,h2.2.1⟩
end L2
namespace Att
open PySem PySem.W PySem.Calls PyProof.Rows
variable{h:Heap}{n:Nat}
theorem ZkT{P:Params}:∀(ns:List Int) (vs:List Value),WellAll P h vs (ns.map WData.int)->IntsAre vs ns:=by
 intro ns
 induction ns with
 | nil=>intro vs w;rw[ZA1]at w;cases w;exact .nil
 | cons n ns ih =>
  intro vs w;rw[Zyv]at w;cases w with
  | cons a b=>cases a;exact .cons _ _ (ih _ b)
theorem Zsw{l:OpenLaw}(hn:l.most=Z n){P:Params}{args:List WData}{vals:List Value}
  (hpre:l.row.toRowW.claim.pre args=ZDC) (hwl:WellAll P h vals args) :
  ∃a vs ns,vals=[Zzc a]/\args=[WData.list (ns.map WData.int)]/\h.get? a=Z { cls:=.type "list",data:=.seq vs.toArray }/\IntsAre vs ns/\ns.length<=n:=by
 have hsh:WShape.hasAll [] args [.list .int]=ZDC:=(pre_splitW hpre).1;have hc:l.pre.holds [] { args:=args }=ZDC:=(pre_splitW hpre).2;obtain⟨d,r,rfl,h1,h2⟩:=hasAllW_cons hsh;obtain rfl:=hasAllW_nil h2;obtain⟨xs,rfl,h3⟩:=hasW_list h1;obtain⟨ns,rfl⟩:=items_int h3;have hlen:ns.length<=n:=by
  unfold OpenLaw.pre at hc;have h4:(WTm.not (.lt (.lit (.int (n:Int))) (.len (.arg 0)))).holds [] { args:=[.list (ns.map .int)] }=ZDC:=by have h4:=(holds_andW hc).1;rw[hn]at h4;exact h4
  have h5:=condW_of h4 (w_not (w_lt w_lit (w_len_list (w_arg rfl))));rw[Zyj]at h5;refine ZAm λq=>?_;have q':(n:Int)<((ns.length:Nat):Int):=by omega
  first
   | (rw[decide_eq_true q']at h5; exact absurd h5 (by decide))
   | (simp at h5; omega)
 cases hwl with
 | cons w1 w2 =>
  cases w2;cases w1 with
  | list ho hall=>exact⟨_,_,ns,rfl,rfl,ho,ZkT ns _ hall,hlen⟩
theorem ZrK(l:OpenLaw)(args:List WData):l.row.toRowW.claim.post args (.bool ZDC) args=ZDC :=
 postW_of (r:=l.row.toRowW) (X:=(ZDC==ZDC))
  (show WShape.has [] (.bool ZDC) .bool=ZDC by first | rfl | decide | simp[WShape.has,WShape.arms,WShape.armsAll])
  (show(WTm.eq .res (.lit (.bool ZDC))).value [] { args:=args,res:=Z (.bool ZDC),after:=args }=Z (.bool (ZDC==ZDC)) from w_eq_bool (w_res rfl) w_lit) rfl
theorem Zpj{l:OpenLaw}{q:Program}{loose:List Str}{XP:(Str->Option Value)->Heap->Prop}{YP:World->Heap->Prop}{d:DefRec}
  (hn:l.most=Z n) (hdf:d.params.defaults=[])
  (call:∀(w:World) (s₀ s₁:Shared) (mg mb:Str->Option Value) (fa:Addr) (o:Obj) (pm cd doc:Value) (a:Addr) (vs:List Value) (ns:List Int),
   Ground q loose [] XP w s₀ mg mb s₁.heap->YP w s₁.heap ->
   s₁.heap.get? fa=Z o->o.data=.func (docDef d.name d.params d.body d.scope pm cd doc)->s₁.heap.CodeRec cd d.name->mg d.name=Z (.ref fa) ->
   s₁.heap.get? a=Z { cls:=.type "list",data:=.seq vs.toArray }->IntsAre vs ns->ns.length<=n->s₁.gens=#[] ->
   codeAny (model l.prog w) callerA (.call (.ref fa) ⟨[.ref a],[]⟩) (λr s'=>r=.ok (.ret (.bool ZDC))/\OldK s₁.heap s'.heap/\s'.os=s₁.os/\AllBare s'.gens) s₁) :
  WalkO q loose XP YP l.row.toRowW d [] (λf vs=>PySem.call f vs):=by
 intro w s₀ s₁ mg mb G Y fa o pm cd doc dV kV ho hd hcd hD hmg hg args vals as hpre hlay hrd hwl hlo;obtain rfl:dV=.none:=Dflts.none hD hdf;obtain rfl:kV=.none:=Dflts.noKw hD;obtain⟨a,vs,ns,rfl,rfl,hobj,hints,hlen⟩:=Zsw hn hpre hwl;refine enter_call (ZzU (call w s₀ s₁ mg mb fa o pm cd doc a vs ns G Y ho (fd_plain hd) hcd hmg hobj hints hlen hg) λr s' hq=>?_);obtain⟨rfl,h2,h3,h4⟩:=hq;exact⟨.inl ⟨.bool ZDC,.bool ZDC,[],rfl,λ_=>rfl,.bool ZDC,ZrK l _,λ_=>⟨ZBs,λ_ hm=>(nomatch hm)⟩⟩,h2,h3,h4⟩
end Att
namespace L2
open PySem PySem.Spec PyProof.Rows
theorem ZlO:∀{vs:List Value} {ns:List Int},IntsAre vs ns->Vals (ns.map V.int) vs
 | _,_,.nil=>.nil
 | _,_,.cons n t h=>.cons ⟨t,rfl⟩ (ZlO h)
end L2
namespace L2
open PySem PySem.Spec PyProof.Rows
end L2
namespace L2
open PySem PySem.Spec PyProof.Rows
variable{f:Addr}{H H':Hp}{A:Prop}{qual x:Str}
def Zb2(s:Stmt):Arguments:=match s with
 | .FunctionDef _ a _ _ _ _ _ _ _ _=>a
 | _=>{ posonlyargs:=[],args:=[],vararg:=Z_,kwonlyargs:=[],kw_defaults:=[],kwarg:=Z_,defaults:=[] }
def Zaw(s:Stmt):List Stmt:=match s with
 | .FunctionDef _ _ b _ _ _ _ _ _ _=>b
 | _=>[]
def Ze(s:Stmt):Scope:=match s with
 | .FunctionDef _ _ _ _ _ _ sc _ _ _=>sc
 | _=>{ kind:=.function,names:=[],isGenerator:=ZDD,isCoroutine:=ZDD }
abbrev CX0:CXT:=λ_ _ _ _ _ _=>False
abbrev E0:XK:=λ_ _ _=>False
theorem Zra{X:Cx}:Passes CX0 X E0:=λ_ _ _ _ _ _ _ h=>h.elim
structure Fun(K:Zyk)(x qual:Str)(st:Stmt)(f:Addr)(fd:FuncData):Prop where
 ex:∃(oc:Value) (od:Option Addr) (kV doc pm:Value) (an:Option Addr) (cdv ct:Value) (osl:Array (Option Value)),
  fd=ZzE x qual (Zb2 st) (Zaw st) (Ze st) .none kV doc pm an cdv ct/\K.lookup f=Z ⟨oc,od,.func fd,osl⟩/\ZAl K cdv qual=ZDC
 kp:ZzJ K (.ref f)=ZDC
section
variable{P:Program}{w:World}{K:Zyk}{mg:Str->Option Value}{base:Heap}
theorem Fun.ok{x qual:Str}{st:Stmt}{f:Addr}{fd:FuncData}{N ps:List Str}{k:Nat}{sp:Sp}(F:Fun K x qual st f fd)(S:Zs N ps (Ze st))(len:∀vs H Q E,sp vs H Q E->vs.length=ps.length)
  (hbody:∀(cdv:Value) (A:Around) (outer:List Env) (s:Shared) (H:Hp) (vs:List V) (Q:VK) (E:XK),ZV k (A.deeper (envOfC qual (Ze st) s.heap.objs.size f cdv))->sp vs H Q E ->
   ∃t,PSs (Zfc CX0 P w K mg base N qual (Ze st) f cdv A outer s H E).nox (Zaw st) t/\t { nx:=λ_ H'=>Q .non H',rt:=Q } (start N vs) H):Zc8 P w K mg base CX0 (k+1) f fd ps sp:=by
 obtain⟨oc,od,kV,doc,pm,an,cdv,ct,osl,rfl,lk,hcd⟩:=F.ex;refine ZtT lk hcd S len λA outer s H vs Q E hr hsp=>?_;obtain⟨t,h,q⟩:=hbody cdv A outer s H vs Q E hr hsp;exact⟨t,h.nox,q⟩
theorem Fun.binds{st:Stmt}{fd:FuncData}{ps:List Str}(F:Fun K x qual st f fd)
  (h:∀(kV doc pm:Value) (an:Option Addr) (cdv ct:Value) (us:List Value),us.length=ps.length->ZB9 (ZzE x qual (Zb2 st) (Zaw st) (Ze st) .none kV doc pm an cdv ct) ⟨us,[]⟩=pure (ps.zip us)):Binds K fd ps []:=by
 obtain⟨oc,od,kV,doc,pm,an,cdv,ct,osl,rfl,lk,hcd⟩:=F.ex;exact .all (h kV doc pm an cdv ct)
theorem ZoC{st:Stmt}{oc:Value}{od an:Option Addr}{osl:Array (Option Value)}{kV doc pm cdv ct:Value}(l:K.lookup f=Z ⟨oc,od,.func (ZzE x qual (Zb2 st) (Zaw st) (Ze st) .none kV doc pm an cdv ct),osl⟩)
  (c:ZAl K cdv qual=ZDC) (k:ZzJ K (.ref f)=ZDC):Fun K x qual st f (ZzE x qual (Zb2 st) (Zaw st) (Ze st) .none kV doc pm an cdv ct):=⟨⟨oc,od,kV,doc,pm,an,cdv,ct,osl,rfl,l,c⟩,k⟩
end
theorem Zfw{A:Around}{k:Nat}(hr:ZV k A):A.units+1<cLine:=Nat.lt_of_le_of_lt (Nat.add_le_add_left (by decide:1<=64) _) hr.units
theorem ZlC{B:Prop}(h:B):if ZDD=ZDC then A else B:=by rw[if_neg Zy5];exact h
theorem Zlp{B:Prop}(h:A):if ZDC=ZDC then A else B:=by rw[if_pos rfl];exact h
def Zp(H H':Hp):Prop:=∀b o,H b=Z o->H' b=Z o
theorem Zp.refl(H:Hp):Zp H H:=λ_ _ h=>h
theorem Zp.trans{H1 H2:Hp}(a:Zp H H1)(b:Zp H1 H2):Zp H H2:=λc o h=>b c o (a c o h)
theorem Zp.free(e:Zp H H'){l:Addr}(h:H' l=Option.none):H l=Option.none:=by
 cases q:H l with
 | none=>rfl
 | some o=>rw[e l o q]at h;cases h
theorem Zp.seq{K:Zyk}{a:Addr}{xs:List V}(e:Zp H H')(h:SqL K H a xs):SqL K H' a xs:=by
 rcases h with(h | ⟨o,h⟩) | h
 ·exact .inl (.inl (e _ _ h))
 ·exact .inl (.inr ⟨o,e _ _ h⟩)
 ·exact .inr h
end L2
namespace L2
open PySem PySem.Spec PyProof.Rows
section
variable{X:Cx}
theorem Zsj:ZaE X (.builtin "len") (λxs H Q=>∃a kvs,xs=[V.ref a]/\H a=Z (.dK kvs)/\Q (.int kvs.length) H):=by intro pins s σ H xs us Q I r h;obtain⟨a,kvs,rfl,ha,q⟩:=h;obtain⟨u,rfl,ru⟩:=vals1 r;cases ru;exact ZwH I (.inl ha) λt s' I'=>⟨.int kvs.length,H,I',⟨t,rfl⟩,q⟩
end
end L2
namespace HM
open PySem
abbrev D:=PyData
abbrev Ky:=Sum Int Str
inductive B where
 | pl (d:D)
 | ol (ds:List D)
 | ok (kvs:List (Ky × D))
 | ot (kvs:List (List Ky × D))
 | otl (kvs:List (List Ky × List D))
 | hd (es:List (D × D))
abbrev Env:=List (Option B)
inductive Out where
 | nx (r:Env)
 | rt (d:D)
 | bk (r:Env)
 | ct (r:Env)
abbrev EF:=Env->Option D
abbrev BF:=Env->Option B
abbrev TF:=Env->Option Bool
abbrev IF:=Env->Option (List D)
abbrev AF:=Env->Option (List D)
abbrev SF:=Env->Option Out
@[simp] def big:Nat:=1000000
@[simp] noncomputable def Zc (i:Nat):EF:=λr=>match r[i]? with
 | some (Z (.pl d))=>Z d
 | _=>Z_
@[simp] noncomputable def Zo (i:Nat):BF:=λr=>match r[i]? with
 | some (Z b)=>Z b
 | _=>Z_
@[simp] noncomputable def bOf (f:EF):BF:=λr=>(f r).map B.pl
def Zat:Ky->D
 | .inl i=>.int i
 | .inr x=>.str x
noncomputable def Zm (kvs:List (List Ky × D)):List (D × D):=kvs.map λp=>(.tuple (p.1.map Zat),p.2)
@[simp] noncomputable def frz:B->Option D
 | .pl d=>Z d
 | .ol ds=>Z (.list ds)
 | .ot kvs=>Z (.dict (Zm kvs))
 | .hd es=>Z (.dict es)
 | _=>Z_
@[simp] def eOf(f:BF):EF:=λr=>(f r).bind frz
@[simp] noncomputable def eC (d:D):EF:=λ_=>Z d
@[simp] noncomputable def op2 (g:D->D->Option D) (a b:EF):EF:=λr=>match a r with
 | some x=>match b r with
  | some y=>g x y
  | none=>Z_
 | none=>Z_
@[simp] noncomputable def Zfa (g:Int->Int->Option D):D->D->Option D
 | .int i,.int j=>g i j
 | _,_=>Z_
def ZS(i:Int):Bool:=Nat.blt i.natAbs 18446744073709551616
@[simp] def Zbu(x y:D):Option D:=Zfa (λi j=>Z (.int (i+j))) x y
@[simp] def Zk9(x y:D):Option D:=Zfa (λi j=>Z (.int (i-j))) x y
@[simp] def ZcS(x y:D):Option D:=Zfa (λi j=>if ZS i||ZS j then Z (.int (i*j))else Z_) x y
@[simp] def ZqQ(x y:D):Option D:=Zfa (λi j=>if 0<j then Z (.int (i % j))else Z_) x y
@[simp] def gLt(x y:D):Option D:=Zfa (λi j=>Z (.bool (decide (i<j)))) x y
@[simp] def gLe(x y:D):Option D:=Zfa (λi j=>Z (.bool (decide (i<=j)))) x y
@[simp] def gGt(x y:D):Option D:=Zfa (λi j=>Z (.bool (decide (j<i)))) x y
def Zb6(d:D):Bool:=d.canLay0&&decide (d.depth<=60)
@[simp] def gEq(a b:D):Option D:=if Zb6 a&&Zb6 b then Z (.bool (ZAV a b))else Z_
@[simp] def gNe(a b:D):Option D:=if Zb6 a&&Zb6 b then Z (.bool (!PyData.eqv a b))else Z_
@[simp] def ZqF(a b:D):Option D:=match b with
 | .none=>match a with
  | .none=>Z (.bool ZDC)
  | _=>Z (.bool ZDD)
 | _=>Z_
@[simp] def Zen(a b:D):Option D:=match b with
 | .none=>match a with
  | .none=>Z (.bool ZDD)
  | _=>Z (.bool ZDC)
 | _=>Z_
@[simp] def Zky(g g':D->D->Option D)(a b c:EF):EF:=λr=>match a r with
 | some x=>match b r with
  | some y=>match g x y with
   | some (.bool ZDC)=>match c r with
    | some z=>g' y z
    | none=>Z_
   | some (.bool ZDD)=>Z (.bool ZDD)
   | _=>Z_
  | none=>Z_
 | none=>Z_
@[simp] def ZfZ(a b:EF):EF:=λr=>match a r with
 | some (.bool ZDC)=>b r
 | some (.bool ZDD)=>Z (.bool ZDD)
 | _=>Z_
@[simp] noncomputable def tV (a:EF):TF:=λr=>match a r with
 | some (.bool b)=>Z b
 | _=>Z_
@[simp] def ZbZ(a:TF):TF:=λr=>(a r).map (!·)
@[simp] def Zka(a b:TF):TF:=λr=>match a r with
 | some ZDC=>b r
 | some ZDD=>Z ZDD
 | none=>Z_
@[simp] def tOr(a b:TF):TF:=λr=>match a r with
 | some ZDC=>Z ZDC
 | some ZDD=>b r
 | none=>Z_
@[simp] def eIf(c:TF)(a b:EF):EF:=λr=>match c r with
 | some ZDC=>a r
 | some ZDD=>b r
 | none=>Z_
@[simp] noncomputable def ZdI:B->Option (List D)
 | .pl (.tuple ds)=>Z ds
 | .pl (.list ds)=>Z ds
 | .ol ds=>Z ds
 | _=>Z_
def ixN(n:Nat)(i:Int):Option Nat :=
 if 0<=i then(if i<n then Z i.toNat else Z_)else(if -(n:Int)<=i then Z (i+n).toNat else Z_)
noncomputable def atD (ds:List D) (i:Int):Option D:=match ixN ds.length i with
 | some j=>ds[j]?
 | none=>Z_
@[simp] def eIx(a:BF)(b:EF):EF:=λr=>match a r with
 | some x=>match ZdI x with
  | some ds=>match b r with
   | some (.int i)=>atD ds i
   | _=>Z_
  | none=>Z_
 | none=>Z_
@[simp] def ZxI:B->Option Nat
 | .pl (.tuple ds)=>Z ds.length
 | .pl (.list ds)=>Z ds.length
 | .ol ds=>Z ds.length
 | .ok kvs=>Z kvs.length
 | _=>Z_
@[simp] def Zbe(a:BF):EF:=λr=>match a r with
 | some x=>(ZxI x).map λ(n:Nat)=>ZyV (n:Int)
 | none=>Z_
@[simp] def Z2(a:BF):EF:=λr=>match a r with
 | some x=>(ZdI x).map λds=>.tuple ds
 | none=>Z_
@[simp] def Zja(a:BF):BF:=λr=>match a r with
 | some x=>(ZdI x).map λds=>.ol ds
 | none=>Z_
def Zds:List D->Option (List Bool)
 | []=>Z []
 | .bool b::r=>(Zds r).map (b::·)
 | _::_=>Z_
@[simp] noncomputable def ZgX:B->Option (List D)
 | .pl (.list ds)=>Z ds
 | .ol ds=>Z ds
 | _=>Z_
@[simp] def ZhI(a:BF):EF:=λr=>match a r with
 | some x=>match ZgX x with
  | some ds=>(Zds ds).map λbs=>.bool (bs.all id)
  | none=>Z_
 | none=>Z_
@[simp] def Zlj(a:BF):EF:=λr=>match a r with
 | some x=>match ZgX x with
  | some ds=>(Zds ds).map λbs=>.bool (bs.any id)
  | none=>Z_
 | none=>Z_
@[simp] def Zg:AF:=λ_=>Z []
@[simp] def Za(a:EF)(b:AF):AF:=λr=>match a r with
 | some x=>(b r).map (x::·)
 | none=>Z_
@[simp] def Zac(a:AF):EF:=λr=>(a r).map λds=>.tuple ds
@[simp] def Zeq(a:AF):BF:=λr=>(a r).map λds=>.ol ds
inductive Ty where
 | bool | int | str | tuple | list | dict
@[simp] noncomputable def ZiY:Ty->D->Bool
 | .bool,.bool _=>ZDC
 | .int,.int _=>ZDC
 | .int,.bool _=>ZDC
 | .str,.str _=>ZDC
 | .tuple,.tuple _=>ZDC
 | .list,.list _=>ZDC
 | .dict,.dict _=>ZDC
 | _,_=>ZDD
@[simp] def ZhN(a:EF)(t:Ty):EF:=λr=>match a r with
 | some (.dict _)=>Z_
 | some d=>Z (.bool (ZiY t d))
 | none=>Z_
@[simp] def Zvj(x y:D):Option D:=Zfa (λi j=>Z (.int (if j > i then j else i))) x y
@[simp] def Zv8(x y:D):Option D:=Zfa (λi j=>Z (.int (if j<i then j else i))) x y
@[simp] def Zog(a:EF):EF:=λr=>match a r with
 | some (.int i)=>Z (.int i)
 | some (.bool b)=>Z (.int (if b then 1 else 0))
 | _=>Z_
@[simp] def ZqX(a b:BF):BF:=λr=>match a r with
 | some (.ol xs)=>match b r with
  | some (.ol ys)=>if xs.length+ys.length<big then Z (.ol (xs++ys))else Z_
  | _=>Z_
 | _=>Z_
@[simp] def Ztg(a:BF)(b:EF):BF:=λr=>match a r with
 | some (.ol xs)=>match b r with
  | some (.int k)=>if decide (k.natAbs<1000)&&decide (xs.length<1000)then Z (.ol (ZyT k.toNat xs).flatten)else Z_
  | _=>Z_
 | _=>Z_
def sIx(n d:Nat):Option Int->Nat
 | none=>d
 | some v=>if v<0 then(v+(n:Int)).toNat else min v.toNat n
noncomputable def cutD (xs:List D) (lo hi:Option Int):List D:=(xs.drop (sIx xs.length 0 lo)).take (sIx xs.length xs.length hi-sIx xs.length 0 lo)
@[simp] def Zlx(a:Option EF)(r:Env):Option (Option Int):=match a with
 | none=>Z Z_
 | some f=>match f r with
  | some (.int i)=>Z (Z i)
  | _=>Z_
@[simp] def Ztk(a:BF)(lo hi:Option EF):BF:=λr=>match a r with
 | some x=>match ZgX x with
  | some xs=>match Zlx lo r with
   | some l=>match Zlx hi r with
    | some h=>Z (.ol (cutD xs l h))
    | none=>Z_
   | none=>Z_
  | none=>Z_
 | none=>Z_
noncomputable def Zas:List D->Option (List Int)
 | []=>Z []
 | .int i::r=>(Zas r).map (i::·)
 | _::_=>Z_
def Zgv:List D->Option (List (List Int))
 | []=>Z []
 | .tuple ds::r=>match Zas ds with
  | some ns=>(Zgv r).map (ns::·)
  | none=>Z_
 | _::_=>Z_
def lexLt:List Int->List Int->Bool
 | [],[]=>ZDD
 | [],_::_=>ZDC
 | _::_,[]=>ZDD
 | a::r,b::q=>if a=b then lexLt r q else decide (a<b)
noncomputable def sortI (ns:List Int):List Int:=ns.mergeSort λa b=>decide (a<=b)
def ZeY(ts:List (List Int)):List (List Int):=ts.mergeSort λa b=>!lexLt b a
def ofInts(ns:List Int):List D:=ns.map λi=>ZyV i
def ZaG(ts:List (List Int)):List D:=ts.map λt=>Zzh (ofInts t)
def ZeW(ds:List D):Option (List D) :=
 if ds.length<64 then match Zas ds with
  | some ns=>Z (ofInts (sortI ns))
  | none=>match Zgv ds with
   | some ts=>if ds.length<2||ts.all (λt=>!t.isEmpty)then Z (ZaG (ZeY ts))else Z_
   | none=>Z_
 else Z_
@[simp] noncomputable def ZtQ:B->Option (List D)
 | .pl (.tuple ds)=>Z ds
 | .pl (.list ds)=>Z ds
 | .ol ds=>Z ds
 | .ok kvs=>Z (kvs.map λp=>Zat p.1)
 | .ot kvs=>Z (kvs.map λp=>.tuple (p.1.map Zat))
 | .otl kvs=>Z (kvs.map λp=>.tuple (p.1.map Zat))
 | _=>Z_
@[simp] def Zg5(a:BF):BF:=λr=>match a r with
 | some x=>match ZtQ x with
  | some ds=>(ZeW ds).map λds=>.ol ds
  | none=>Z_
 | none=>Z_
noncomputable def dedup:List Int->List Int->List Int
 | acc,[]=>acc
 | acc,i::r=>if acc.contains i then dedup acc r else dedup (acc++[i]) r
def Zj8(ns:List Int):Bool:=ns.all λn=>decide (0<=n)&&decide (n<8)
@[simp] def ZhB(a:BF):BF:=λr=>match a r with
 | some x=>match ZgX x with
  | some ds=>match Zas ds with
   | some ns=>if Zj8 ns then Z (.ol (ofInts (sortI (dedup [] ns))))else Z_
   | none=>Z_
  | none=>Z_
 | none=>Z_
@[simp] def Zh(m:List D->Option D)(a:AF):EF:=λr=>match a r with
 | some ds=>m ds
 | none=>Z_
@[simp] def ZP(a:BF):IF:=λr=>match a r with
 | some x=>ZdI x
 | none=>Z_
noncomputable def ZcK (lo:Int) (n:Nat):List D:=(Zyp n).map λ(k:Nat)=>ZyV (lo+(k:Int))
def okR(j:Int):Bool:=Nat.blt j.natAbs 1000000
@[simp] def ZbV(a:EF):IF:=λr=>match a r with
 | some (.int j)=>if okR j then Z (ZcK 0 j.toNat)else Z_
 | _=>Z_
@[simp] def ZeE(i:IF):EF:=λr=>match i r with
 | some ds=>if ds.length<big then Z (.tuple ds)else Z_
 | none=>Z_
noncomputable def Zag (c:TF) (e:EF) (r:Env):List D->Option (List D)
 | []=>Z []
 | x::xs=>match c (Z (.pl x)::r)with
  | some ZDC=>match e (Z (.pl x)::r)with
   | some y=>(Zag c e r xs).map (y::·)
   | none=>Z_
  | some ZDD=>Zag c e r xs
  | none=>Z_
@[simp] def Z4:TF:=λ_=>Z ZDC
@[simp] def Zz(i:IF)(c:TF)(e:EF):BF:=λr=>match i r with
 | some xs=>if xs.length<big then(Zag c e r xs).map λys=>.ol ys else Z_
 | none=>Z_
@[simp] def Zu(a b:SF):SF:=λr=>match a r with
 | some (.nx r')=>b r'
 | some (.rt d)=>Z (.rt d)
 | some (.bk r')=>Z (.bk r')
 | some (.ct r')=>Z (.ct r')
 | none=>Z_
@[simp] noncomputable def Zar:SF:=λr=>Z (.nx r)
@[simp] def ZoH:SF:=λ_=>Z_
@[simp] noncomputable def ZA (a:EF):SF:=λr=>(a r).map Out.rt
@[simp] def ZU(i:Nat)(a:EF):SF:=λr=>(a r).map λd=>.nx (r.set i (Z (.pl d)))
@[simp] def ZT(i:Nat)(a:BF):SF:=λr=>(a r).map λb=>.nx (r.set i (Z b))
@[simp] def ZhE(i:Nat)(r:Env):Env:=match r[i]? with
 | some (Z (.ol ds))=>r.set i (Z (.pl (.list ds)))
 | some (Z (.ot kvs))=>r.set i (Z (.pl (.dict (Zm kvs))))
 | _=>r
@[simp] def Zgg(i:Nat):SF->SF:=λa r=>a (ZhE i r)
@[simp] def ZkS(a:EF):SF:=λr=>(a r).map λ_=>.nx r
@[simp] def sIf(c:TF)(a b:SF):SF:=λr=>match c r with
 | some ZDC=>a r
 | some ZDD=>b r
 | none=>Z_
noncomputable def Zaq (i:Nat) (body:SF):List D->Env->Option Out
 | [],r=>Z (.nx r)
 | x::xs,r=>match body (r.set i (Z (.pl x)))with
  | some (.nx r')=>Zaq i body xs r'
  | some (.ct r')=>Zaq i body xs r'
  | some (.bk r')=>Z (.nx r')
  | some (.rt d)=>Z (.rt d)
  | none=>Z_
@[simp] def Zby(i:Nat)(it:IF)(body:SF):SF:=λr=>match it r with
 | some xs=>if xs.length<big then Zaq i body xs r else Z_
 | none=>Z_
noncomputable def Zbw (c:TF) (body:SF):Nat->Env->Option Out
 | 0,_=>Z_
 | n+1,r=>match c r with
  | some ZDC=>match body r with
   | some (.nx r')=>Zbw c body n r'
   | some (.ct r')=>Zbw c body n r'
   | some (.bk r')=>Z (.nx r')
   | some (.rt d)=>Z (.rt d)
   | none=>Z_
  | some ZDD=>Z (.nx r)
  | none=>Z_
@[simp] def ZdQ(i:Nat)(a:EF):SF:=λr=>match r[i]? with
 | some (Z (.ol ds))=>match a r with
  | some d=>if ds.length<big then Z (.nx (r.set i (Z (.ol (ds++[d])))))else Z_
  | none=>Z_
 | _=>Z_
@[simp] def Zq4(i:Nat)(k v:EF):SF:=λr=>match v r with
 | some d=>match r[i]? with
  | some (Z (.ol ds))=>match k r with
   | some (.int n)=>match ixN ds.length n with
    | some j=>Z (.nx (r.set i (Z (.ol (ds.set j d)))))
    | none=>Z_
   | _=>Z_
  | _=>Z_
 | none=>Z_
noncomputable def putD {k v:Type} [DecidableEq k] (kvs:List (k × v)) (x:k) (y:v):List (k × v) :=
 if(kvs.any λp=>decide (p.1=x))=ZDC then kvs.map (λp=>if p.1=x then(p.1,y)else p)else kvs++[(x,y)]
noncomputable def Zn {k v:Type} [DecidableEq k] (kvs:List (k × v)) (x:k):Option v:=(kvs.find? λp=>decide (p.1=x)).map (·.2)
@[simp] def ZiE:D->Option Ky
 | .int i=>Z (.inl i)
 | .str x=>Z (.inr x)
 | _=>Z_
def Zgo:List D->Option (List Ky)
 | []=>Z []
 | d::r=>match ZiE d with
  | some k=>(Zgo r).map (k::·)
  | none=>Z_
noncomputable def tkL:D->Option (List Ky)
 | .tuple ds=>Zgo ds
 | _=>Z_
def Zlh:List D->Option (List Ky)
 | []=>Z []
 | .int i::r=>(Zlh r).map (Zz1 i::·)
 | _::_=>Z_
def ZbR:D->Option (List Ky)
 | .tuple ds=>Zlh ds
 | _=>Z_
@[simp] def ZiJ(i:Nat)(k v:EF):SF:=λr=>match v r with
 | some d=>match k r with
  | some x=>match r[i]? with
   | some (Z (.ok kvs))=>match ZiE x with
    | some y=>if kvs.length<big then Z (.nx (r.set i (Z (.ok (putD kvs y d)))))else Z_
    | none=>Z_
   | some (Z (.ot kvs))=>match ZbR x with
    | some y=>if kvs.length<big then Z (.nx (r.set i (Z (.ot (putD kvs y d)))))else Z_
    | none=>Z_
   | _=>Z_
  | none=>Z_
 | none=>Z_
@[simp] def fDk:BF:=λ_=>Z (.ok [])
@[simp] def fDt:BF:=λ_=>Z (.ot [])
@[simp] def Zwh:BF:=λ_=>Z (.otl [])
@[simp] def Zop(k v:EF):BF:=λr=>match k r with
 | some x=>match v r with
  | some d=>match ZiE x with
   | some y=>Z (.ok [(y,d)])
   | none=>Z_
  | none=>Z_
 | none=>Z_
def Zcm{k v:Type}[DecidableEq k](kvs:List (k × List v))(x:k):List (k × List v):=match Zn kvs x with
 | some _=>kvs
 | none=>kvs++[(x,[])]
def Zdk{k v:Type}[DecidableEq k]:List (k × List v)->k->v->List (k × List v)
 | [],_,_=>[]
 | (x,ds)::r,y,d=>if x=y then(x,ds++[d])::r else(x,ds)::Zdk r y d
@[simp] def ZoM(i:Nat)(k v:EF):SF:=λr=>match k r with
 | some x=>match r[i]? with
  | some (Z (.otl kvs))=>match ZbR x with
   | some y=>if kvs.length<big then
     match v (r.set i (Z (.otl (Zcm kvs y))))with
     | some d=>match Zn (Zcm kvs y) y with
      | some ds=>if ds.length<big then Z (.nx (r.set i (Z (.otl (Zdk (Zcm kvs y) y d)))))else Z_
      | none=>Z_
     | none=>Z_
    else Z_
   | none=>Z_
  | _=>Z_
 | none=>Z_
@[simp] def ZqJ(i:Nat)(k:EF):BF:=λr=>match k r with
 | some x=>match r[i]? with
  | some (Z (.ok kvs))=>match ZiE x with
   | some y=>(Zn kvs y).map B.pl
   | none=>Z_
  | some (Z (.ot kvs))=>match ZbR x with
   | some y=>(Zn kvs y).map B.pl
   | none=>Z_
  | some (Z (.otl kvs))=>match ZbR x with
   | some y=>(Zn kvs y).map B.ol
   | none=>Z_
  | _=>Z_
 | none=>Z_
abbrev fnD(t:Nat)(cs:List D):D:=.dict [(.none,.int (Int.ofNat t)),(.none,.list cs)]
@[simp] noncomputable def Zet (n:Nat) (ds:List D):Env:=ds.map (λd=>Z (B.pl d))++ZyT (n-ds.length) Z_
@[simp] noncomputable def fnOf (k n:Nat) (m:SF):List D->Option D:=λds =>
 if ds.length=k then match m (Zet n ds)with
  | some (.nx _)=>Z .none
  | some (.rt d)=>Z d
  | _=>Z_
 else Z_
end HM
namespace HM
open PySem
def ZnQ(ds:List D)(i:Int):Option Bool:=(Zas ds).map λns=>ns.contains i
@[simp] def ZjW(k:EF)(a:BF):EF:=λr=>match k r with
 | some (.int i)=>match a r with
  | some b=>match ZdI b with
   | some ds=>(ZnQ ds i).map λc=>.bool c
   | none=>Z_
  | none=>Z_
 | _=>Z_
@[simp] def ZeN(k:EF)(a:BF):EF:=λr=>match k r with
 | some (.int i)=>match a r with
  | some b=>match ZdI b with
   | some ds=>(ZnQ ds i).map λc=>.bool (!c)
   | none=>Z_
  | none=>Z_
 | _=>Z_
end HM
namespace HM
open PySem
@[simp] def ZnC(n:Nat)(c:TF)(body:SF):SF:=λr=>Zbw c body n r
end HM
namespace HM
open PySem
end HM
namespace HM
open PySem
noncomputable def Zfg:List (D × D)->Option (List (List Ky × D))
 | []=>Z []
 | (k,v)::r=>match tkL k with
  | some ks=>(Zfg r).map ((ks,v)::·)
  | none=>Z_
@[simp] def Zlk:B->Option (List (List Ky × D))
 | .ot kvs=>Z kvs
 | .pl (.dict es)=>Zfg es
 | .hd es=>Zfg es
 | _=>Z_
@[simp] def Zoc(k:EF)(a:BF):EF:=λr=>match k r with
 | some x=>match a r with
  | some b=>match Zlk b with
   | some kvs=>(ZbR x).map λy=>.bool (Zn kvs y).isSome
   | none=>Z_
  | none=>Z_
 | none=>Z_
@[simp] def ZdU(k:EF)(a:BF):EF:=λr=>match k r with
 | some x=>match a r with
  | some b=>match Zlk b with
   | some kvs=>(ZbR x).map λy=>.bool (!(Zn kvs y).isSome)
   | none=>Z_
  | none=>Z_
 | none=>Z_
@[simp] def Zbf(a:BF)(k:EF):EF:=λr=>match a r with
 | some b=>match Zlk b with
  | some kvs=>match k r with
   | some x=>match ZbR x with
    | some y=>Zn kvs y
    | none=>Z_
   | none=>Z_
  | none=>Z_
 | none=>Z_
@[simp] def Zks:D->Bool
 | .none=>ZDC
 | .bool _=>ZDC
 | .int _=>ZDC
 | .str _=>ZDC
 | _=>ZDD
@[simp] def Zq2(f:BF):EF:=λr=>(f r).bind frz
theorem Zu3(ks:List Ky):tkL (.tuple (ks.map Zat))=Z ks:=by
 show Zgo (ks.map Zat)=Z ks
 induction ks with
 | nil=>rfl
 | cons k ks ih=>show(match ZiE (Zat k)with | some q=>(Zgo (ks.map Zat)).map (q::·) | none=>Z_)=_;rw[ih];cases k<;>rfl
theorem dec_enc(kvs:List (List Ky × D)):Zfg (Zm kvs)=Z kvs:=by
 induction kvs with
 | nil=>rfl
 | cons p kvs ih=>obtain⟨k,d⟩:=p;show(match tkL (.tuple (k.map Zat))with | some ks=>(Zfg (Zm kvs)).map ((ks,d)::·) | none=>Z_)=_;rw[Zu3,ih];rfl
end HM
namespace HM
open PySem
@[simp] def ZkE(a:BF):EF:=λr=>match a r with
 | some x=>match ZgX x with
  | some ds=>match Zas ds with
   | some ns=>ns.max?.map λi=>ZyV i
   | none=>Z_
  | none=>Z_
 | none=>Z_
end HM
namespace HM
open PySem
end HM
namespace HM
open PySem
@[simp] def Zjd(i:Nat)(f:BF):SF:=λr=>match r[i]? with
 | some (Z (.ol ds))=>match f r with
  | some (.ol es)=>if ds.length+es.length<big then Z (.nx (r.set i (Z (.ol (ds++es)))))else Z_
  | _=>Z_
 | _=>Z_
@[simp] def ZsW(i j:Nat):SF:=λr=>match r[j]? with
 | some (Z (.ol ds))=>match ds[ds.length-1]? with
  | some d=>Z (.nx ((r.set j (Z (.ol ds.dropLast))).set i (Z (.pl d))))
  | none=>Z_
 | _=>Z_
@[simp] def ZiW(m:List D->Option D)(a:AF):BF:=λr=>match a r with
 | some ds=>match m ds with
  | some (.list ys)=>Z (.ol ys)
  | _=>Z_
 | none=>Z_
def Zbd:Option B->Bool
 | some (.hd _)=>ZDC
 | _=>ZDD
@[simp] def ZeV(i:Nat)(g:SF):SF:=λr=>match r[i]? with
 | some (Z (.pl (.dict es)))=>if r.all (λq=>!Zbd q)then match g (r.set i (Z (.hd es)))with
   | some (.nx r')=>match r'[i]? with
    | some (Z (.hd es'))=>if(r'.set i Z_).all (λq=>!Zbd q)then Z (.nx (r'.set i (Z (.pl (.dict es')))))else Z_
    | _=>Z_
   | some (.rt d)=>Z (.rt d)
   | _=>Z_
  else Z_
 | _=>g r
@[simp] def ZaR(i:Nat):IF:=λr=>match r[i]? with
 | some (Z (.pl (.tuple ds)))=>Z ds
 | some (Z (.pl (.list ds)))=>Z ds
 | some (Z (.hd es))=>(Zfg es).map λkvs=>kvs.map λp=>.tuple (p.1.map Zat)
 | _=>Z_
end HM
namespace HM
open PySem
@[simp] def Zdx(a:EF)(lo hi:Option EF):EF:=λr=>match a r with
 | some (.tuple xs)=>match Zlx lo r with
  | some l=>match Zlx hi r with
   | some h=>if sIx xs.length 0 l=0/\sIx xs.length xs.length h=xs.length then Z_ else Z (.tuple (cutD xs l h))
   | none=>Z_
  | none=>Z_
 | _=>Z_
end HM
namespace HM
open PySem
end HM
namespace HM
open PySem
abbrev AP:=Nat->List D->List D->Option D
noncomputable def Zk7:D->Option (Nat × List D)
 | .dict [(.none,.int (Int.ofNat t)),(.none,.list cs)]=>Z (t,cs)
 | _=>Z_
@[simp] def Zgi(ap:AP)(i:Nat)(a:AF):EF:=λr=>match r[i]? with
 | some (Z (.pl d))=>match Zk7 d with
  | some (t,cs)=>match a r with
   | some ds=>ap t cs ds
   | none=>Z_
  | none=>Z_
 | _=>Z_
noncomputable def noF:Nat->D->Bool
 | _,.none=>ZDC
 | _,.bool _=>ZDC
 | _,.int _=>ZDC
 | _,.str _=>ZDC
 | n+1,.tuple ds=>ds.all (noF n)
 | n+1,.list ds=>ds.all (noF n)
 | n+1,.dict es=>es.all λp=>(match p.1 with | .none=>ZDD | _=>ZDC)&&noF n p.2
 | _,_=>ZDD
def ZkF:List Nat->Env->Option (List D)
 | [],_=>Z []
 | i::is,r=>match r[i]? with
  | some (Z (.pl d))=>(ZkF is r).map (d::·)
  | _=>Z_
@[simp] def ZhX(m:List D->Option D)(t:Nat)(is:List Nat)(a:EF):EF:=λr=>match a r with
 | some d1=>match ZkF is r with
  | some cs=>if cs.all (noF 20)then match m [d1,fnD t cs]with
    | some d=>if noF 20 d then Z d else Z_
    | none=>Z_
   else Z_
  | none=>Z_
 | none=>Z_
def ZhU(n m:Nat)(e:EF):List D->List D->Option D:=λcs ds=>if ds.length=n/\cs.length=m/\ds.all (noF 20)=ZDC then e ((ds++cs).map λd=>Z (B.pl d))else Z_
@[simp] def Zfp(a:BF):EF:=λr=>match a r with
 | some x=>match ZgX x with
  | some ds=>match Zas ds with
   | some ns=>Z (match ns.min? with | some i=>.int i | none=>.none)
   | none=>Z_
  | none=>Z_
 | none=>Z_
abbrev NF:=Env->Option (List (List Ky × D))
@[simp] def ZjQ(a:SF)(m:NF):NF:=λr=>match a r with
 | some (.nx r')=>m r'
 | _=>Z_
@[simp] def Zof(j:Nat):NF:=λr=>match r[j]? with
 | some (Z (.ot kvs))=>Z kvs
 | _=>Z_
def newOf(k n:Nat)(m:NF):List D->Option (List (List Ky × D)):=λds=>if ds.length=k then m (Zet n ds)else Z_
@[simp] def ZiK(m:List D->Option (List (List Ky × D)))(a:AF):BF:=λr=>match a r with
 | some ds=>match m ds with
  | some kvs=>if kvs.all (λp=>Zks p.2)then Z (.ot kvs)else Z_
  | none=>Z_
 | none=>Z_
end HM
namespace HM
open PySem
@[simp] def ZX(a b:EF):EF:=λr=>match a r with
 | some (.tuple xs)=>match b r with
  | some (.tuple ys)=>if xs.length+ys.length<big then Z (.tuple (xs++ys))else Z_
  | _=>Z_
 | _=>Z_
end HM
namespace HM
open PySem
end HM
namespace HM
open PySem
end HM
namespace HM
open PySem
end HM
namespace HM
open PySem
end HM
namespace HM
open PySem
end HM
namespace HM
open PySem
@[simp] def Zku(a b:BF):BF:=λr=>match a r with
 | some x=>match ZgX x with
  | some xs=>match b r with
   | some y=>match ZgX y with
    | some ys=>if xs.length+ys.length<big then Z (.ol (xs++ys))else Z_
    | none=>Z_
   | none=>Z_
  | none=>Z_
 | none=>Z_
end HM
namespace HM
open PySem
end HM
namespace HM
open PySem
def ZbB(t:List Int):List Int:=(t.length:Int)::t
def ZbU(ts:List (List Int)):List (List Int):=ts.mergeSort λa b=>!lexLt (ZbB b) (ZbB a)
@[simp] def Zgu(a:BF):BF:=λr=>match a r with
 | some x=>match ZgX x with
  | some ds=>match Zgv ds with
   | some ts=>if ts.length<64 then Z (.ol (ZaG (ZbU ts)))else Z_
   | none=>Z_
  | none=>Z_
 | none=>Z_
@[simp] def Zbo(a:EF):BF:=λr=>match a r with
 | some (.tuple ds)=>match Zas ds with
  | some ns=>if Zj8 ns then Z (.ol (ofInts (sortI (dedup [] ns))))else Z_
  | none=>Z_
 | _=>Z_
@[simp] def ZsT(i:Nat)(t:TF):TF:=λr=>t (ZhE i r)
end HM
namespace HP
open PySem PySem.Spec PyProof.Rows L2
variable{a b l p:Addr}{o ob u:HO}{F F' H H' H1:Hp}{vvs:List (List Key × V)}{fp':List Addr}
@[reducible] def ZcW(H':Hp)(b:Addr):HO->Prop
 | .tbl _=>∃ps',H' b=Z (.tbl ps')
 | o=>H' b=Z o
def Zab(H H':Hp):Prop:=∀b o,H b=Z o->ZcW H' b o
theorem ZcW.of(h:H' b=Z o):ZcW H' b o:=by cases o<;>first | exact h | exact⟨_,h⟩
theorem ZcW.ex(h:ZcW H' b o):∃u,H' b=Z u:=by cases o<;>first | exact⟨_,h⟩ | (obtain⟨ps,e⟩:=h; exact⟨_,e⟩)
theorem ZcW.no(h:ZcW H' b o)(n:∀ps,o≠.tbl ps):H' b=Z o:=by cases o<;>first | exact h | exact absurd rfl (n _)
theorem Zab.of{H H':Hp}(s:Zp H H'):Zab H H':=λb o h=>.of (s b o h)
theorem Zab.refl(H:Hp):Zab H H:=.of (.refl H)
theorem Zab.trans{H2:Hp}(a:Zab H H1)(b:Zab H1 H2):Zab H H2:=λc o h=>by have h1:=a c o h;cases o<;>first | exact b c _ h1 | (obtain⟨ps,e⟩:=h1; exact(show ∃ps',H2 c=Z (.tbl ps') from b c _ e))
theorem Zab.free(e:Zab H H')(h:H' l=Z_):H l=Z_:=by
 cases q:H l with
 | none=>rfl
 | some o=>obtain⟨u,z⟩:=(e l o q).ex;rw[h]at z; cases z
theorem Zab.back(e:Zab H H')(h:H l=Z o)(h':H' l=Z u)(n:∀ps,u≠.tbl ps):o=u:=by have z:=e l o h;cases o<;>first | (obtain⟨ps,q⟩:=z; rw[h']at q; cases q; exact absurd rfl (n _)) | (have z:H' l=Z _:=z; rw[h']at z; cases z; rfl)
def ZcD(H:Hp):Hp:=λb=>match H b with
 | some (.tbl _)=>Z_
 | x=>x
def nt:HO->Bool
 | .tbl _=>ZDD
 | _=>ZDC
def NoT(F:Hp):Prop:=∀b o,F b=Z o->nt o=ZDC
theorem Zca(h:H b=Z o)(n:nt o=ZDC):ZcD H b=Z o:=by unfold ZcD; rw[h];cases o<;>first | rfl | cases n
theorem Zgm(h:ZcD H b=Z o):H b=Z o/\nt o=ZDC:=by
 unfold ZcD at h;split at h
 ·cases h
 ·rename_i n
  refine⟨h,?_⟩;cases o<;>first | rfl | exact absurd h (n _)
theorem Zl1:Zp (ZcD H) H:=λb o h=>(Zgm h).1
theorem NoT.drop{H:Hp}:NoT (ZcD H):=λb o h=>(Zgm h).2
theorem NoT.sub(n:NoT F)(s:Zp F H):Zp F (ZcD H):=λb o h=>Zca (s b o h) (n b o h)
theorem NoT.upd{F:Hp}{p:Addr}{o:HO}(n:NoT F)(h:nt o=ZDC):NoT (upd F p o):=λb u z=>by
 by_cases hb:b=p
 ·subst hb; rw[Zx]at z; cases z; exact h
 ·rw[Zy hb]at z; exact n b u z
theorem Zab.ntb(s:Zab H H')(h:H b=Z o)(n:nt o=ZDC):H' b=Z o:=(s b o h).no λps z=>by subst z; cases n
def Dk(vvs:List (List Key × V))(u:HO):Prop:=u=.dT vvs\/∃o,u=.frz o (.dT vvs)
def sw(a:Addr)(ob:HO)(G:Hp):Hp:=λb=>if b=a then(G a).map (λ_=>ob)else G b
class FX where
 tl:List (Addr × Str)
 fv:Nat->List PyData->Hp->Addr->Prop
 sw:∀{t:Nat} {cs:List PyData} {F:Hp} {a b:Addr} {ob:HO} {vvs:List (List Key × V)},(∀u,F a=Z u->Dk vvs u)->Dk vvs ob->fv t cs F b->fv t cs (sw a ob F) b
 drop:∀{t:Nat} {cs:List PyData} {F:Hp} {a:Addr},fv t cs F a->fv t cs (ZcD F) a
 mono:∀{t:Nat} {cs:List PyData} {F F':Hp} {a:Addr},fv t cs F a->Zp F F'->fv t cs F' a
variable[FX]
def Zaz(a:Addr)(o:Obj):HO:=.ext λh=>h.get? a=Z o
def Zll(o:Obj)(q:Str):Prop:=∃vs t,o.data=.fields vs/\vs[1]?=Z (.str q t)
def Tb(H:Hp):Prop:=∀P q,(P,q)∈FX.tl->∃ps,H P=Z (.tbl ps)/\TriplesOk ps.toList/\∀pos c,ZCm pos ps.toList=Z c->∃a o,c=.ref a/\H a=Z (Zaz a o)/\Zll o q
def ZlB:HO->Bool
 | .lst _=>ZDC
 | .dK _=>ZDC
 | .dT _=>ZDC
 | _=>ZDD
def te:HO->Bool
 | .tbl _=>ZDC
 | .ext _=>ZDC
 | _=>ZDD
theorem Zsg(h:ZlB o=ZDC)(h':te o=ZDC):False:=by cases o<;>simp_all [ZlB,te]
theorem Tb.keep(t:Tb H)(k:∀a o,H a=Z o->te o=ZDC->H' a=Z o):Tb H':=λP q hP=>by obtain⟨ps,h1,h2,h3⟩:=t P q hP;refine⟨ps,k _ _ h1 rfl,h2,λpos c hc=>?_⟩;obtain⟨a,o,e1,e2,e3⟩:=h3 pos c hc;exact⟨a,o,e1,k _ _ e2 rfl,e3⟩
theorem Dk.te{vvs:List (List Key × V)}{u:HO}(h:Dk vvs u):te u=ZDD:=by rcases h with h | ⟨o,h⟩<;>subst h<;>rfl
theorem Dk.ntt(h:Dk vvs u):nt u=ZDC:=by rcases h with h | ⟨o,h⟩<;>subst h<;>rfl
theorem Tb.sw{G:Hp}{a:Addr}{ob:HO}{vvs:List (List Key × V)}(hG:∀u,G a=Z u->Dk vvs u)(t:Tb G):Tb (HP.sw a ob G):=t.keep λb o z ht=>by
 have hb:b≠a:=λe=>by subst e; rw[(hG o z).te]at ht; cases ht
 unfold HP.sw; rw[if_neg hb]; exact z
theorem Tb.unsw{G:Hp}(hob:Dk vvs ob)(t:Tb (HP.sw a ob G)):Tb G:=t.keep λb o z ht=>by
 unfold HP.sw at z;split at z
 ·obtain⟨u,_,e⟩:=Zyl.mp z
  subst e; rw[hob.te]at ht; cases ht
 ·exact z
theorem ZcW.cong(e:H' b=H b)(h:ZcW H b o):ZcW H' b o:=by unfold ZcW at h ⊢; rw[e]; exact h
theorem Zab.sw{H0 H:Hp}{a:Addr}{ob:HO}(s:Zab H0 H):Zab (HP.sw a ob H0) (HP.sw a ob H):=λb o z=>by
 by_cases hb:b=a
 ·subst hb
  unfold HP.sw at z;rw[if_pos rfl]at z;obtain⟨u,h1,h2⟩:=Zyl.mp z;obtain⟨w,hw⟩:=(s _ _ h1).ex;refine .of ?_;unfold HP.sw;rw[if_pos rfl,hw,h2.symm]; rfl
 ·unfold HP.sw at z
  rw[if_neg hb]at z;refine(s b o z).cong ?_;unfold HP.sw; rw[if_neg hb]
theorem Tb.same(t:Tb H)(s:Zp H H'):Tb H':=t.keep λa o h _=>s a o h
theorem Zji(r:Rd F a u)(s:Zp F F'):Rd F' a u:=r.imp (λh=>s _ _ h) λ⟨o,h⟩=>⟨o,s _ _ h⟩
def ZxG(K:Zyk)(a:Addr)(vs:List V):Prop:=∃(o:Obj) (its:Array Value) (n:Nat),K.lookup a=Z o/\o.cls=.type "tuple"/\o.data=.seq its n/\its.size<=sizeLine/\Vals vs its.toList
theorem Zhy{K:Zyk}{vs:List V}(h:SqT K F a vs)(s:Zp F F'):SqT K F' a vs:=h.imp (λh=>Zji h s) id
inductive Rep(K:Zyk)(F:Hp):PyData->V->Prop where
 | non:Rep K F .none .non
 | bl (b:Bool):Rep K F (.bool b) (.bl b)
 | int (i:Int):Rep K F (.int i) (.int i)
 | str (x:Str):Rep K F (.str x) (.str x)
 | tupk {a:Addr} {x:Str} (h:ZxG K a [.str x]):Rep K F (.tuple [.str x]) (.ref a)
 | tup {a:Addr} {ds:List PyData} {vs:List V} (h:F a=Z (.tup vs)) (hl:ds.length=vs.length) (hr:∀(i:Nat) (d:PyData) (v:V),ds[i]?=Z d->vs[i]?=Z v->Rep K F d v):Rep K F (.tuple ds) (.ref a)
 | lst {a:Addr} {ds:List PyData} {vs:List V} (h:SqL K F a vs) (hl:ds.length=vs.length) (hr:∀(i:Nat) (d:PyData) (v:V),ds[i]?=Z d->vs[i]?=Z v->Rep K F d v):Rep K F (.list ds) (.ref a)
 | dct {a:Addr} {es:List (PyData × PyData)} {kvs:List (List Key × PyData)} {vvs:List (List Key × V)} (h:Rd F a (.dT vvs)) (he:es=HM.Zm kvs) (hk:kvs.map (·.1)=vvs.map (·.1)) (hr:∀(i:Nat) (d:PyData) (v:V),(kvs.map (·.2))[i]?=Z d->(vvs.map (·.2))[i]?=Z v->Rep K F d v):Rep K F (.dict es) (.ref a)
 | fn {a:Addr} {t:Nat} {cs:List PyData} (h:FX.fv t cs F a):Rep K F (.dict [(.none,.int (Int.ofNat t)),(.none,.list cs)]) (.ref a)
def Zq(K:Zyk)(F:Hp)(ds:List PyData)(vs:List V):Prop:=ds.length=vs.length/\∀(i:Nat) (d:PyData) (v:V),ds[i]?=Z d->vs[i]?=Z v->Rep K F d v
section
variable{K:Zyk}{F F':Hp}{d:PyData}{v:V}{ds es:List PyData}{vs us:List V}
theorem Rep.mono(r:Rep K F d v)(s:Zp F F'):Rep K F' d v:=by
 induction r with
 | non=>exact .non
 | bl b=>exact .bl b
 | int i=>exact .int i
 | str x=>exact .str x
 | tup h hl _ ih=>exact .tup (s _ _ h) hl ih
 | tupk h=>exact .tupk h
 | lst h hl _ ih=>exact .lst (s.seq h) hl ih
 | dct h he hk _ ih=>exact .dct (Zji h s) he hk ih
 | fn h=>exact .fn (FX.mono h s)
theorem Rep.drop(r:Rep K F d v):Rep K (ZcD F) d v:=by
 induction r with
 | non=>exact .non
 | bl b=>exact .bl b
 | int i=>exact .int i
 | str x=>exact .str x
 | tup h hl _ ih=>exact .tup (Zca h rfl) hl ih
 | tupk h=>exact .tupk h
 | lst h hl _ ih =>
  refine .lst ?_ hl ih;rcases h with(h | ⟨o,h⟩) | h
  ·exact .inl (.inl (Zca h rfl))
  ·exact .inl (.inr ⟨o,Zca h rfl⟩)
  ·exact .inr h
 | dct h he hk _ ih =>
  refine .dct ?_ he hk ih;rcases h with h | ⟨o,h⟩
  ·exact .inl (Zca h rfl)
  ·exact .inr ⟨o,Zca h rfl⟩
 | fn h=>exact .fn (FX.drop h)
theorem Zq.drop'(r:Zq K F ds vs):Zq K (ZcD F) ds vs:=⟨r.1,λi d v h1 h2=>(r.2 i d v h1 h2).drop⟩
theorem Zab.dr(s:Zab H H'):Zp (ZcD H) H':=λb o h=>s.ntb (Zgm h).1 (Zgm h).2
theorem Rep.monoT(r:Rep K H d v)(s:Zab H H'):Rep K H' d v:=r.drop.mono s.dr
theorem Zq.mono(r:Zq K F ds vs)(s:Zp F F'):Zq K F' ds vs:=⟨r.1,λi d v h1 h2=>(r.2 i d v h1 h2).mono s⟩
theorem Zq.nil:Zq K F [] []:=⟨rfl,λi d v h=>by simp at h⟩
theorem Zq.cons(r:Rep K F d v)(q:Zq K F ds vs):Zq K F (d::ds) (v::vs) :=
 ⟨by rw[ZyD,ZyD,q.1],λi e u h1 h2=>by
  cases i with
  | zero=>rw[ZAM]at h1 h2;cases h1; cases h2; exact r
  | succ i=>rw[Zy3]at h1 h2;exact q.2 i e u h1 h2⟩
theorem Zq.nil_inv(r:Zq K F [] vs):vs=[]:=ZzT r.1.symm
theorem Zq.cons_inv(r:Zq K F (d::ds) vs):∃v us,vs=v::us/\Rep K F d v/\Zq K F ds us:=by
 cases vs with
 | nil=>exact absurd r.1 (by simp)
 | cons v us =>
  refine⟨v,us,rfl,r.2 0 d v rfl rfl,?_,λi e u h1 h2=>r.2 (i+1) e u ?_ ?_⟩
  ·have:=r.1
   rw[ZyD,ZyD]at this;omega
  ·rw[Zy3]; exact h1
  ·rw[Zy3]; exact h2
theorem Zq.append(r:Zq K F ds vs)(q:Zq K F es us):Zq K F (ds++es) (vs++us):=by
 refine⟨by rw[ZyA,ZyA,r.1,q.1],λi e u h1 h2=>?_⟩
 by_cases hi:i<ds.length
 ·rw[ZyY hi]at h1
  rw[ZyY (by rw[<-r.1]; exact hi)]at h2;exact r.2 i e u h1 h2
 ·rw[Zy0 (by omega)]at h1
  rw[Zy0 (by have:=r.1; omega),<-r.1]at h2;exact q.2 _ e u h1 h2
theorem Zq.get(r:Zq K F ds vs){i:Nat}(h:ds[i]?=Z d):∃v,vs[i]?=Z v/\Rep K F d v:=by
 have hi:i<vs.length:=by rw[<-r.1]; exact(Zyw.mp h).1
 exact⟨vs[i],ZyF hi,r.2 i d _ h (ZyF hi)⟩
theorem Zq.drop(r:Zq K F ds vs)(n:Nat):Zq K F (ds.drop n) (vs.drop n) :=
 ⟨by rw[ZAD,ZAD,r.1],λi e u h1 h2=>by rw[List.getElem?_drop]at h1 h2;exact r.2 _ e u h1 h2⟩
theorem Zq.take(r:Zq K F ds vs)(n:Nat):Zq K F (ds.take n) (vs.take n) :=
 ⟨by rw[ZzH,ZzH,r.1],λi e u h1 h2=>by
  by_cases hi:i<n
  ·rw[ZCL hi]at h1 h2
   exact r.2 _ e u h1 h2
  ·rw[List.getElem?_take_eq_none (by omega)]at h1
   cases h1⟩
theorem Zq.set(r:Zq K F ds vs)(q:Rep K F d v)(j:Nat):Zq K F (ds.set j d) (vs.set j v):=by
 refine⟨by rw[Zzz,Zzz,r.1],λi e u h1 h2=>?_⟩;have hi:i<ds.length:=by have:=(Zyw.mp h1).1; rwa [Zzz]at this
 by_cases e1:j=i
 ·subst e1
  rw[Zzd hi]at h1;rw[Zzd (by rw[<-r.1]; exact hi)]at h2;cases h1; cases h2; exact q
 ·rw[ZyS e1]at h1 h2
  exact r.2 i e u h1 h2
theorem Zq.rep(r:Zq K F ds vs)(k:Nat):Zq K F (ZyT k ds).flatten (ZyT k vs).flatten:=by
 induction k with
 | zero=>exact Zq.nil
 | succ k ih=>rw[Zz2,Zz2,ZAx,ZAx]; exact r.append ih
theorem Zq.one(r:Rep K F d v):Zq K F [d] [v]:=.cons r .nil
end
def Fre(H:Hp)(a:Addr)(o:HO):Prop:=H a=Z_\/∃xs,o=.tup xs/\H a=Z (.tup xs)
theorem Fre.back{H H':Hp}{a:Addr}{o:HO}(s:Zab H H')(f:Fre H' a o):Fre H a o:=by
 rcases f with f | ⟨xs,e,f⟩
 ·exact .inl (s.free f)
 ·cases q:H a with
  | none=>exact .inl q
  | some u =>
   have:=s.back q f λ_ z=>by cases z
   subst this;exact .inr ⟨xs,e,q⟩
theorem Fre.no(f:Fre H a o)(h:H a=Z u)(n:∀xs,u≠.tup xs):False:=by
 rcases f with f | ⟨xs,_,f⟩
 ·rw[h]at f; cases f
 ·rw[h]at f; cases f; exact n xs rfl
structure Ext(F H F' H':Hp):Prop where
 ff:Zp F F'
 hh:Zab H H'
 sub:Zp F' H'
 new:∀a o,F' a=Z o->F a=Z o\/Fre H a o
 tab:Tb H->Tb H'
 nts:NoT F->NoT F'
theorem Ext.refl{F H:Hp}(s:Zp F H):Ext F H F H:=⟨Zp.refl F,Zab.refl H,s,λ_ _ h=>.inl h,id,id⟩
theorem Ext.trans{F H F1 H1 F2 H2:Hp}(a:Ext F H F1 H1)(b:Ext F1 H1 F2 H2):Ext F H F2 H2 :=
 ⟨a.ff.trans b.ff,a.hh.trans b.hh,b.sub,λx o h=>by
  rcases b.new x o h with q | q
  ·exact a.new x o q
  ·exact .inr (q.back a.hh),λt=>b.tab (a.tab t),λt=>b.nts (a.nts t)⟩
theorem ZjO(h:F p=Z_):Zp F (upd F p o):=λb q z=>by rw[Zy (Zak z h)]; exact z
theorem Ext.lay(e:Ext F H F' H')(h:H' p=Z_)(no:nt o=ZDC:=by rfl):Ext F H (upd F' p o) (upd H' p o):=by
 have hF:F' p=Z_:=e.sub.free h;refine⟨λb q z=>?_,e.hh.trans (.of (ZjO h)),λb q z=>?_,λb q z=>?_,λt=>(e.tab t).same (ZjO h),λt=>(e.nts t).upd no⟩
 ·rw[Zy (Zak (e.ff b q z) hF)]; exact e.ff b q z
 ·by_cases hb:b=p
  ·subst hb; rw[Zx]at z ⊢; exact z
  ·rw[Zy hb]at z ⊢; exact e.sub b q z
 ·by_cases hb:b=p
  ·subst hb; exact .inr (.inl (e.hh.free h))
  ·rw[Zy hb]at z; exact e.new b q z
theorem Ext.lay'(e:Ext F H F' H')(h:H' p=Z_):Ext F H F' (upd H' p o):=by refine⟨e.ff,e.hh.trans (.of (ZjO h)),λb q z=>?_,e.new,λt=>(e.tab t).same (ZjO h),e.nts⟩;rw[Zy (Zak (e.sub b q z) h)]; exact e.sub b q z
theorem Zp.upd'(h:F p=Z_):Zp F (upd F p o):=λb q z=>by rw[Zy (Zak z h)]; exact z
def Zcr(F H:Hp):Hp:=λa=>match H a with
 | some (.tup xs)=>Z (.tup xs)
 | _=>F a
theorem Zn0{xs:List V}(h:H a=Z (.tup xs)):Zcr F H a=Z (.tup xs):=by unfold Zcr; rw[h]
theorem Zdi(s:Zp F H):Zp F (Zcr F H):=λa o h=>by
 have:=s a o h;unfold Zcr;split
 ·rename_i xs q
  rw[q]at this;exact this
 ·exact h
theorem Ext.tups(e:Ext F H F' H'):Ext F H (Zcr F' H') H':=by
 have key:Ext F' H' (Zcr F' H') H':=by
  refine⟨Zdi e.sub,Zab.refl H',λa o h=>?_,λa o h=>?_,id,λn a o h=>?_⟩
  ·unfold Zcr at h
   split at h
   ·rename_i xs q; rw[q]; exact h
   ·exact e.sub a o h
  ·unfold Zcr at h
   split at h
   ·rename_i xs q
    cases h;exact .inr (.inr ⟨xs,rfl,q⟩)
   ·exact .inl h
  ·unfold Zcr at h
   split at h
   ·cases h; rfl
   ·exact n a o h
 exact e.trans key
inductive Z9(K:Zyk)(F H:Hp):HM.B->V->List Addr->Prop where
 | pl {d:PyData} {v:V} (r:Rep K F d v):Z9 K F H (.pl d) v []
 | ol {a:Addr} {ds:List PyData} {vs:List V} (h:H a=Z (.lst vs)) (r:Zq K F ds vs):Z9 K F H (.ol ds) (.ref a) [a]
 | ok {a:Addr} {kvs:List (Key × PyData)} {vvs:List (Key × V)} (h:H a=Z (.dK vvs)) (hk:kvs.map (·.1)=vvs.map (·.1)) (r:Zq K F (kvs.map (·.2)) (vvs.map (·.2))):Z9 K F H (.ok kvs) (.ref a) [a]
 | ot {a:Addr} {kvs:List (List Key × PyData)} {vvs:List (List Key × V)} (h:H a=Z (.dT vvs)) (hk:kvs.map (·.1)=vvs.map (·.1)) (r:Zq K F (kvs.map (·.2)) (vvs.map (·.2))):Z9 K F H (.ot kvs) (.ref a) [a]
 | otl {a:Addr} {kvs:List (List Key × List PyData)} {vvs:List (List Key × V)} {ls:List Addr} (h:H a=Z (.dT vvs)) (hk:kvs.map (·.1)=vvs.map (·.1)) (hv:vvs.map (·.2)=ls.map V.ref)
   (r:∀(i:Nat) (ds:List PyData) (l:Addr),(kvs.map (·.2))[i]?=Z ds->ls[i]?=Z l->∃vs,H l=Z (.lst vs)/\Zq K F ds vs):Z9 K F H (.otl kvs) (.ref a) (a::ls)
 | hd {a:Addr} {o:Obj} {es:List (PyData × PyData)} {kvs:List (List Key × PyData)} {vvs:List (List Key × V)} (h:F a=Z (.frz o (.dT vvs))) (he:es=HM.Zm kvs) (hk:kvs.map (·.1)=vvs.map (·.1)) (r:Zq K F (kvs.map (·.2)) (vvs.map (·.2))):Z9 K F H (.hd es) (.ref a) []
 | hf {a:Addr} {t:Nat} {cs:List PyData} (h:FX.fv t cs F a):Z9 K F H (.hd [(.none,.int (Int.ofNat t)),(.none,.list cs)]) (.ref a) []
section
variable{K:Zyk}{F F' H H':Hp}{b:HM.B}{v:V}{fp:List Addr}
theorem Z9.mono(r:Z9 K F H b v fp)(s:Zp F F')(k:∀a∈fp,∀o,H a=Z o->ZcW H' a o):Z9 K F' H' b v fp:=by
 cases r with
 | pl r=>exact .pl (r.mono s)
 | ol h r=>exact .ol (k _ (by simp) _ h) (r.mono s)
 | ok h hk r=>exact .ok (k _ (by simp) _ h) hk (r.mono s)
 | ot h hk r=>exact .ot (k _ (by simp) _ h) hk (r.mono s)
 | hd h he hk r=>exact .hd (s _ _ h) he hk (r.mono s)
 | hf h=>exact .hf (FX.mono h s)
 | otl h hk hv r=>refine .otl (k _ (by simp) _ h) hk hv λi ds l h1 h2=>?_;obtain⟨vs,q1,q2⟩:=r i ds l h1 h2;exact⟨vs,k l (Zyq _ (ZyQ h2)) _ q1,q2.mono s⟩
theorem Z9.there2(r:Z9 K F H b v fp)(h:a∈fp):∃o,H a=Z o/\ZlB o=ZDC:=by
 cases r with
 | pl r=>simp at h
 | hd _ _ _ _=>simp at h
 | hf _=>simp at h
 | ol q r=>simp at h; subst h; exact⟨_,q,rfl⟩
 | ok q hk r=>simp at h; subst h; exact⟨_,q,rfl⟩
 | ot q hk r=>simp at h; subst h; exact⟨_,q,rfl⟩
 | @otl a' kvs vvs ls q hk hv r =>
  rcases ZyH.mp h with e | e
  ·subst e; exact⟨_,q,rfl⟩
  ·obtain⟨i,hi⟩:=List.getElem?_of_mem e
   have hl:kvs.length=ls.length:=by have e1:=congrArg Zy8 hk;have e2:=congrArg Zy8 hv;rw[Zyj,Zyj]at e1 e2;omega
   have hi':i<kvs.length:=by rw[hl]; exact(Zyw.mp hi).1
   obtain⟨vs,q1,_⟩:=r i (kvs[i].2) a (by simp[hi']) hi;exact⟨_,q1,rfl⟩
theorem Z9.there'(r:Z9 K F H b v fp)(h:a∈fp):∃o,H a=Z o/\∀xs,o≠.tup xs:=by
 cases r with
 | pl r=>simp at h
 | hd _ _ _ _=>simp at h
 | hf _=>simp at h
 | ol q r=>simp at h; subst h; exact⟨_,q,λ_ z=>by cases z⟩
 | ok q hk r=>simp at h; subst h; exact⟨_,q,λ_ z=>by cases z⟩
 | ot q hk r=>simp at h; subst h; exact⟨_,q,λ_ z=>by cases z⟩
 | @otl a' kvs vvs ls q hk hv r =>
  rcases ZyH.mp h with e | e
  ·subst e; exact⟨_,q,λ_ z=>by cases z⟩
  ·obtain⟨i,hi⟩:=List.getElem?_of_mem e
   have hl:kvs.length=ls.length:=by have e1:=congrArg Zy8 hk;have e2:=congrArg Zy8 hv;rw[Zyj,Zyj]at e1 e2;omega
   have hi':i<kvs.length:=by rw[hl]; exact(Zyw.mp hi).1
   obtain⟨vs,q1,_⟩:=r i (kvs[i].2) a (by simp[hi']) hi;exact⟨_,q1,λ_ z=>by cases z⟩
theorem Z9.there(r:Z9 K F H b v fp)(h:a∈fp):∃o,H a=Z o:=let ⟨o,q,_⟩:=r.there' h; ⟨o,q⟩
end
structure Za7(K:Zyk)(F0 H0 F H:Hp)(r:HM.Env)(σ:L2.St)(fp:Nat->List Addr):Prop where
 ext:Ext F0 H0 F H
 len:r.length=σ.length
 at_:∀(i:Nat) (b:HM.B),r[i]?=Z (Z b)->∃v,σ[i]?=Z (Z v)/\Z9 K F H b v (fp i)
 emp:∀(i:Nat),(∀b,r[i]?≠Z (Z b))->fp i=[]
 own:∀(i:Nat) (a:Addr),a∈fp i->F a=Z_/\H0 a=Z_
 nd:∀i,(fp i).Nodup
 dis:∀(i j:Nat) (a:Addr),i≠j->a∈fp i->¬a∈fp j
 tb:Tb H0
 nt:NoT F0
def At(K:Zyk)(F0 H0 F H:Hp)(r:HM.Env)(σ:L2.St):Prop:=∃fp,Za7 K F0 H0 F H r σ fp
section
variable{K:Zyk}{F0 H0 F H F' H':Hp}{r:HM.Env}{σ:L2.St}{fp:Nat->List Addr}{i:Nat}{b:HM.B}{v:V}{d:PyData}
theorem Za7.bound(e:Za7 K F0 H0 F H r σ fp)(h:a∈fp i):∃b,r[i]?=Z (Z b):=by
 cases q:r[i]? with
 | none=>rw[e.emp i (λb z=>by rw[q]at z; cases z)]at h; simp at h
 | some x =>
  cases x with
  | none=>rw[e.emp i (λb z=>by rw[q]at z; cases z)]at h; simp at h
  | some b=>exact⟨b,rfl⟩
theorem Za7.there'(e:Za7 K F0 H0 F H r σ fp){a:Addr}(h:a∈fp i):∃o,H a=Z o/\∀xs,o≠.tup xs:=by obtain⟨b,hb⟩:=e.bound h;obtain⟨v,_,q⟩:=e.at_ i b hb;exact q.there' h
theorem Za7.there2(e:Za7 K F0 H0 F H r σ fp){a:Addr}(h:a∈fp i):∃o,H a=Z o/\ZlB o=ZDC:=by obtain⟨b,hb⟩:=e.bound h;obtain⟨v,_,q⟩:=e.at_ i b hb;exact q.there2 h
theorem Za7.there(e:Za7 K F0 H0 F H r σ fp)(h:a∈fp i):∃o,H a=Z o:=let ⟨o,q,_⟩:=e.there' h; ⟨o,q⟩
theorem Za7.sub(e:Za7 K F0 H0 F H r σ fp):Zp F H:=e.ext.sub
theorem Za7.grow(e:Za7 K F0 H0 F H r σ fp)(x:Ext F H F' H'):Za7 K F0 H0 F' H' r σ fp:=by
 refine⟨e.ext.trans x,e.len,λi b h=>?_,e.emp,λi a h=>⟨?_,(e.own i a h).2⟩,e.nd,e.dis,e.tb,e.nt⟩
 ·obtain⟨v,h1,h2⟩:=e.at_ i b h
  exact⟨v,h1,h2.mono x.ff λa _ o q=>x.hh a o q⟩
 ·cases q:F' a with
  | none=>rfl
  | some o =>
   rcases x.new a o q with z | z
   ·rw[(e.own i a h).1]at z; cases z
   ·obtain⟨o',h',hn⟩:=e.there' h
    exact(z.no h' hn).elim
theorem At.grow(e:At K F0 H0 F H r σ)(x:Ext F H F' H'):At K F0 H0 F' H' r σ:=let ⟨fp,e⟩:=e; ⟨fp,e.grow x⟩
theorem At.tb(e:At K F0 H0 F H r σ):Tb H:=let ⟨_,e⟩:=e; e.ext.tab e.tb
theorem At.tbx(e:At K F0 H0 F H r σ)(x:Ext F H F' H'):Tb H':=x.tab e.tb
theorem At.nt(e:At K F0 H0 F H r σ):NoT F:=let ⟨_,e⟩:=e; e.ext.nts e.nt
theorem At.ntx(e:At K F0 H0 F H r σ)(x:Ext F H F' H'):NoT F':=x.nts e.nt
theorem At.nt0(e:At K F0 H0 F H r σ):NoT F0:=let ⟨_,e⟩:=e; e.nt
theorem At.sub(e:At K F0 H0 F H r σ):Zp F H:=let ⟨_,e⟩:=e; e.ext.sub
theorem At.ext(e:At K F0 H0 F H r σ):Ext F0 H0 F H:=let ⟨_,e⟩:=e; e.ext
theorem At.refl(e:At K F0 H0 F H r σ):Ext F H F H:=.refl e.sub
theorem At.plain(e:At K F0 H0 F H r σ)(h:r[i]?=Z (Z (.pl d))):∃v,σ[i]?=Z (Z v)/\Rep K F d v:=by
 obtain⟨fp,e⟩:=e;obtain⟨v,h1,h2⟩:=e.at_ i _ h;generalize fp i=f at h2;cases h2 with
 | pl q=>exact⟨v,h1,q⟩
theorem At.any(e:At K F0 H0 F H r σ)(h:r[i]?=Z (Z b)):∃v fp,σ[i]?=Z (Z v)/\Z9 K F H b v fp:=by obtain⟨fp,e⟩:=e;obtain⟨v,h1,h2⟩:=e.at_ i _ h;exact⟨v,_,h1,h2⟩
theorem At.store(e:At K F0 H0 F H r σ)(q:Z9 K F H b v fp')(nd:fp'.Nodup)(h1:∀a∈fp',F a=Z_/\H0 a=Z_)(h2:∀fp,Za7 K F0 H0 F H r σ fp->∀j a,j≠i->a∈fp j->¬a∈fp') :
  At K F0 H0 F H (r.set i (Z b)) (σ.set i (Z v)):=by
 obtain⟨fp,e⟩:=e;have h2:=h2 fp e
 by_cases hi:i<r.length
 ·refine⟨λj=>if j=i then fp' else fp j,e.ext,by rw[Zzz,Zzz,e.len],λj c h=>?_,λj h=>?_,λj a h=>?_,λj=>?_,λj k a hjk h=>?_,e.tb,e.nt⟩
  ·by_cases hj:j=i
   ·subst hj
    rw[Zzd hi]at h;cases h;refine⟨v,Zzd (by rw[<-e.len]; exact hi),?_⟩;rw[if_pos rfl]; exact q
   ·rw[ZyS (Zzt hj)]at h
    obtain⟨u,q1,q2⟩:=e.at_ j c h;refine⟨u,by rw[ZyS (Zzt hj)]; exact q1,?_⟩;rw[if_neg hj]; exact q2
  ·by_cases hj:j=i
   ·subst hj
    exact absurd (Zzd hi) (h b)
   ·show(if j=i then fp' else fp j)=[]
    rw[if_neg hj];exact e.emp j λc z=>h c (by rw[ZyS (Zzt hj)]; exact z)
  ·by_cases hj:j=i
   ·rw[if_pos hj]at h; exact h1 a h
   ·rw[if_neg hj]at h; exact e.own j a h
  ·show(if j=i then fp' else fp j).Nodup
   by_cases hj:j=i
   ·rw[if_pos hj]; exact nd
   ·rw[if_neg hj]; exact e.nd j
  ·show ¬a∈(if k=i then fp' else fp k)
   by_cases hj:j=i
   ·rw[if_pos hj]at h
    by_cases hk:k=i
    ·exact absurd (hj.trans hk.symm) hjk
    ·rw[if_neg hk]; exact λz=>h2 k a hk z h
   ·rw[if_neg hj]at h
    by_cases hk:k=i
    ·rw[if_pos hk]; exact h2 j a hj h
    ·rw[if_neg hk]; exact e.dis j k a hjk h
 ·have e1:r.set i (Z b)=r:=ZCO (by omega)
  have e2:σ.set i (Z v)=σ:=ZCO (by have:=e.len; omega);rw[e1,e2];exact⟨fp,e⟩
theorem At.set(e:At K F0 H0 F H r σ)(q:Rep K F d v):At K F0 H0 F H (r.set i (Z (.pl d))) (σ.set i (Z v)) :=
 e.store (.pl q) ZAa (λa h=>by simp at h) λ_ _ _ _ _ _ h=>by simp at h
theorem Za7.changeW(e:Za7 K F0 H0 F H r σ fp)(hv:σ[i]?=Z (Z v))(q:Z9 K F H' b v fp')(nd:fp'.Nodup)(h1:∀a∈fp',a∈fp i\/(F a=Z_/\H0 a=Z_/\∀j,a ∉ fp j))
  (h2:∀a o,H a=Z o->¬a∈fp i->H' a=Z o):At K F0 H0 F H' (r.set i (Z b)) σ:=by
 have sF:Zp F H':=λa o z=>h2 a o (e.sub a o z) λm=>by rw[(e.own i a m).1]at z; cases z
 have sH:Zab H0 H':=λa o z=>by
  have nm:¬a∈fp i:=λm=>by rw[(e.own i a m).2]at z; cases z
  have y:=e.ext.hh a o z;cases o<;>first | exact h2 a _ y nm | (obtain⟨ps,q⟩:=y; exact⟨ps,h2 a _ q nm⟩)
 have sT:Tb H0->Tb H':=λt=>(e.ext.tab t).keep λa o z ho=>h2 a o z λm=>by obtain⟨o',q1,q2⟩:=e.there2 m;rw[z]at q1; cases q1; exact Zsg q2 ho
 have e':Za7 K F0 H0 F H' (r.set i Z_) (σ.set i Z_) (λj=>if j=i then[]else fp j):=by
  refine⟨⟨e.ext.ff,sH,sF,e.ext.new,sT,e.ext.nts⟩,by rw[Zzz,Zzz,e.len],λj c h=>?_,λj h=>?_,λj a h=>?_,λj=>?_,λj k a hjk h=>?_,e.tb,e.nt⟩
  ·by_cases hj:j=i
   ·subst hj
    by_cases hi:j<r.length
    ·rw[Zzd hi]at h; cases h
    ·rw[ZC9 (by rw[Zzz]; omega)]at h; cases h
   ·rw[ZyS (Zzt hj)]at h
    obtain⟨u,q1,q2⟩:=e.at_ j c h;refine⟨u,by rw[ZyS (Zzt hj)]; exact q1,?_⟩;rw[if_neg hj];exact q2.mono (Zp.refl F) λa ha o z=>.of (h2 a o z (e.dis j i a hj ha))
  ·show(if j=i then[]else fp j)=[]
   by_cases hj:j=i
   ·rw[if_pos hj]
   ·rw[if_neg hj]
    exact e.emp j λc z=>h c (by rw[ZyS (Zzt hj)]; exact z)
  ·by_cases hj:j=i
   ·rw[if_pos hj]at h; simp at h
   ·rw[if_neg hj]at h; exact e.own j a h
  ·show(if j=i then[]else fp j).Nodup
   by_cases hj:j=i
   ·rw[if_pos hj]; exact ZAa
   ·rw[if_neg hj]; exact e.nd j
  ·show ¬a∈(if k=i then[]else fp k)
   by_cases hj:j=i
   ·rw[if_pos hj]at h; simp at h
   ·rw[if_neg hj]at h
    by_cases hk:k=i
    ·rw[if_pos hk]; simp
    ·rw[if_neg hk]; exact e.dis j k a hjk h
 have hF:∀a∈fp',F a=Z_/\H0 a=Z_:=λa ha=>by
  rcases h1 a ha with z | z
  ·exact e.own i a z
  ·exact⟨z.1,z.2.1⟩
 have e2:=At.store (i:=i) ⟨_,e'⟩ q nd hF λfq eq j a hj ha z=>by
  obtain⟨c,hc⟩:=eq.bound ha;rw[ZyS (Zzt hj)]at hc;obtain⟨u1,s1,r1⟩:=eq.at_ j c (by rw[ZyS (Zzt hj)]; exact hc);obtain⟨u2,s2,r2⟩:=e.at_ j c hc;rw[ZyS (Zzt hj),s2]at s1;cases s1;have hm:a∈fp j:=by
   have r2':=r2.mono (H':=H') (Zp.refl F) λa ha o z=>.of (h2 a o z (e.dis j i a hj ha))
   clear r2
   generalize fq j=f1 at r1 ha;generalize fp j=f2 at r2' ⊢;cases r1 with
   | pl _=>simp at ha
   | hd _ _ _ _=>simp at ha
   | hf _=>simp at ha
   | ol _ _=>cases r2' with | ol _ _=>exact ha
   | ok _ _ _=>cases r2' with | ok _ _ _=>exact ha
   | ot _ _ _=>cases r2' with | ot _ _ _=>exact ha
   | otl a1 _ v1 _ =>
    cases r2' with
    | otl a2 _ v2 _ =>
     rw[a1]at a2;cases a2;rw[v1]at v2;have:∀{l l':List Addr},l.map V.ref=l'.map V.ref->l=l':=by
      intro l
      induction l with
      | nil=>intro l' h; cases l' with | nil=>rfl | cons _ _=>simp at h
      | cons x xs ih =>
       intro l' h;cases l' with
       | nil=>simp at h
       | cons y ys =>
        rw[Zyv,Zyv]at h;injection h with h1 h2
        injection h1 with h1
        rw[h1,ih h2]
     rw[<-this v2]; exact ha
  rcases h1 a z with w | w
  ·exact e.dis j i a hj hm w
  ·exact w.2.2 j hm
 rw[ZBU,ZBU]at e2;have es:σ.set i (Z v)=σ:=by have hi:i<σ.length:=(Zyw.mp hv).1;have hq:σ[i]=Z v:=(Zyw.mp hv).2;rw[<-hq];exact ZA2 hi
 rwa [es]at e2
theorem Za7.change(e:Za7 K F0 H0 F H r σ fp)(hv:σ[i]?=Z (Z v))(q:Z9 K F H' b v fp')(nd:fp'.Nodup)(h1:∀a∈fp',a∈fp i\/H a=Z_)
  (h2:∀a o,H a=Z o->¬a∈fp i->H' a=Z o):At K F0 H0 F H' (r.set i (Z b)) σ :=
 e.changeW hv q nd (λa ha=>(h1 a ha).imp id λz=>⟨e.sub.free z,e.ext.hh.free z,λj hj=>by obtain⟨o,ho⟩:=e.there hj;rw[z]at ho; cases ho⟩) h2
theorem At.storeNew{Hb:Hp}(e:At K F0 H0 F H r σ)(hb:At K F0 H0 F' Hb r σ)(sb:Zab Hb H)(q:Z9 K F H b v fp')(nd:fp'.Nodup)(h1:∀a∈fp',F a=Z_/\Hb a=Z_) :
  At K F0 H0 F H (r.set i (Z b)) (σ.set i (Z v)):=by
 refine e.store q nd (λa h=>⟨(h1 a h).1,hb.ext.hh.free (h1 a h).2⟩) λfp e1 j a hj ha z=>?_;obtain⟨fq,eb⟩:=hb;obtain⟨c,hc⟩:=e1.bound ha;obtain⟨u1,s1,r1⟩:=e1.at_ j c hc;obtain⟨u2,s2,r2⟩:=eb.at_ j c hc;rw[s2]at s1;cases s1;have hn:=(h1 a z).2;have old:∀{x:Addr} {o o':HO},Hb x=Z o->H x=Z o'->(∀ps,o'≠.tbl ps)->o=o':=λ{x o o'} h1 h2 n=>sb.back h1 h2 n;generalize fp j=f1 at r1 ha;generalize fq j=f2 at r2;cases r1 with
 | pl _=>simp at ha
 | hd _ _ _ _=>simp at ha
 | hf _=>simp at ha
 | ol k _=>cases r2 with | ol k' _=>simp at ha; subst ha; rw[hn]at k'; cases k'
 | ok k _ _=>cases r2 with | ok k' _ _=>simp at ha; subst ha; rw[hn]at k'; cases k'
 | ot k _ _=>cases r2 with | ot k' _ _=>simp at ha; subst ha; rw[hn]at k'; cases k'
 | otl k _ v1 _ =>
  cases r2 with
  | otl k' hk' v2 r2' =>
   have eo:=old k' k λ_ z=>by cases z
   injection eo with eo
   subst eo;have v2':=v2;rw[v1]at v2;rcases ZyH.mp ha with z2 | z2
   ·subst z2; rw[hn]at k'; cases k'
   ·have:V.ref a∈ZCa V.ref _:=Zyy.mpr ⟨a,z2,rfl⟩
    rw[v2]at this;obtain⟨a',m1,m2⟩:=Zyy.mp this;injection m2 with m2
    subst m2;obtain⟨o,ho⟩:=Z9.there (Z9.otl k' hk' v2' r2') (Zyq _ m1);rw[hn]at ho; cases ho
theorem At.rebase(e:At K F0 H0 F H r σ):At K F H0 F H r σ:=by obtain⟨fp,e⟩:=e;exact⟨fp,⟨Zp.refl F,e.ext.hh,e.ext.sub,λ_ _ z=>.inl z,e.ext.tab,id⟩,e.len,e.at_,e.emp,e.own,e.nd,e.dis,e.tb,e.ext.nts e.nt⟩
theorem Ext.unbase{F1:Hp}(x:Ext F0 H0 F1 H1)(y:Ext F1 H0 F H):Ext F0 H0 F H :=
 ⟨x.ff.trans y.ff,y.hh,y.sub,λa o z=>(y.new a o z).elim (λq=>x.new a o q) .inr,y.tab,λt=>y.nts (x.nts t)⟩
theorem At.unbase{F1 H1:Hp}(x:Ext F0 H0 F1 H1)(n:NoT F0)(e:At K F1 H0 F H r σ):At K F0 H0 F H r σ:=by obtain⟨fp,e⟩:=e;exact⟨fp,x.unbase e.ext,e.len,e.at_,e.emp,e.own,e.nd,e.dis,e.tb,n⟩
theorem Za7.freeze{fp:Nat->List Addr}(e:Za7 K F0 H0 F H r σ fp)(i:Nat){b:HM.B}{d:PyData}(hb:r[i]?=Z (Z b))(h1:σ[i]?=Z (Z (.ref a)))(hfp:fp i=[a])(ha:H a=Z ob)(hr:Zp F (upd F a ob)->Rep K (upd F a ob) d (.ref a))(no:HP.nt ob=ZDC:=by rfl) :
  ∃F',Ext F0 H0 F' H/\Zp F F'/\At K F0 H0 F' H (r.set i (Z (.pl d))) σ:=by
 have hF:F a=Z_:=(e.own i a (by rw[hfp]; simp)).1;have s:Zp F (upd F a ob):=Zp.upd' hF;have x:Ext F0 H0 (upd F a ob) H:=by
  refine⟨e.ext.ff.trans s,e.ext.hh,λc o z=>?_,λc o z=>?_,e.ext.tab,λt=>(e.ext.nts t).upd no⟩
  ·by_cases hc:c=a
   ·subst hc; rw[Zx]at z; cases z; exact ha
   ·rw[Zy hc]at z; exact e.sub c o z
  ·by_cases hc:c=a
   ·subst hc; exact .inr (.inl (e.own i c (by rw[hfp]; simp)).2)
   ·rw[Zy hc]at z; exact e.ext.new c o z
 refine⟨_,x,s,?_⟩;have e1:Za7 K F0 H0 (upd F a ob) H (r.set i Z_) (σ.set i Z_) (λj=>if j=i then[]else fp j):=by
  refine⟨x,by rw[Zzz,Zzz,e.len],λj c h=>?_,λj h=>?_,λj c h=>?_,λj=>?_,λj k c hjk h=>?_,e.tb,e.nt⟩
  ·by_cases hj:j=i
   ·subst hj
    rw[Zzd (Zyw.mp hb).1]at h; cases h
   ·rw[ZyS (Zzt hj)]at h
    obtain⟨u,q1,q2⟩:=e.at_ j c h;refine⟨u,by rw[ZyS (Zzt hj)]; exact q1,?_⟩;rw[if_neg hj]; exact q2.mono s λ_ _ _ z=>.of z
  ·show(if j=i then[]else fp j)=[]
   by_cases hj:j=i
   ·rw[if_pos hj]
   ·rw[if_neg hj]
    exact e.emp j λc z=>h c (by rw[ZyS (Zzt hj)]; exact z)
  ·by_cases hj:j=i
   ·rw[if_pos hj]at h; simp at h
   ·rw[if_neg hj]at h
    have hca:c≠a:=λz=>e.dis j i c hj h (by rw[hfp,z]; simp);exact⟨by rw[Zy hca]; exact(e.own j c h).1,(e.own j c h).2⟩
  ·show(if j=i then[]else fp j).Nodup
   by_cases hj:j=i
   ·rw[if_pos hj]; exact ZAa
   ·rw[if_neg hj]; exact e.nd j
  ·show ¬c∈(if k=i then[]else fp k)
   by_cases hj:j=i
   ·rw[if_pos hj]at h; simp at h
   ·rw[if_neg hj]at h
    by_cases hk:k=i
    ·rw[if_pos hk]; simp
    ·rw[if_neg hk]; exact e.dis j k c hjk h
 have rp:=hr s;have e2:=At.set (i:=i) ⟨_,e1⟩ rp;rw[ZBU,ZBU]at e2;have es:σ.set i (Z (.ref a))=σ:=by have hi:i<σ.length:=(Zyw.mp h1).1;have hq:σ[i]=Z (.ref a):=(Zyw.mp h1).2;rw[<-hq];exact ZA2 hi
 rwa [es]at e2
theorem At.freeze(e:At K F0 H0 F H r σ)(i:Nat):∃F',Ext F0 H0 F' H/\Zp F F'/\At K F0 H0 F' H (HM.ZhE i r) σ:=by
 unfold HM.ZhE;split
 ·rename_i ds hb
  obtain⟨fp,e⟩:=e;obtain⟨v,h1,h2⟩:=e.at_ i _ hb;generalize hfp:fp i=f at h2;cases h2 with
  | @ol a _ vs ha q=>exact e.freeze i hb h1 hfp ha λs=>.lst (.of Zx) q.1 (q.mono s).2
 ·rename_i kvs hb
  obtain⟨fp,e⟩:=e;obtain⟨v,h1,h2⟩:=e.at_ i _ hb;generalize hfp:fp i=f at h2;cases h2 with
  | @ot a _ vvs ha hk q=>exact e.freeze i hb h1 hfp ha λs=>.dct (.inl Zx) rfl hk (q.mono s).2
 ·exact⟨F,e.ext,Zp.refl F,e⟩
end
inductive Now(K:Zyk)(r:HM.Env)(σ:L2.St)(H:Hp)(C:Hp->Hp->Hp->Prop):Prop
 | mk (F0 H0 F:Hp) (at_:At K F0 H0 F H r σ) (k:C F0 H0 F):Now K r σ H C
end HP
namespace HP
open PySem PySem.Spec PyProof.Rows L2
variable{X:Cx}{f:HM.AF}{r:HM.Env}{u:HM.TF}{F:Hp}{i:Int}{es rest:List Expr}{j:Nat}{g:PyData->PyData->Option PyData}{K:Zyk}{x:Str}
variable[FX]
def tAt(K:Zyk)(r:HM.Env)(P:Hp->Hp->Hp->V->Prop):TE:=λσ H Q=>Now K r σ H λF0 H0 F=>∀v F' H',Ext F H F' H'->P H F' H' v->Q v H'
def XE(X:Cx)(e:Expr)(f:HM.EF):Prop:=∀r d,f r=Z d->PE X e (tAt X.K r λ_ F' _ v=>Rep X.K F' d v)
def XB(X:Cx)(e:Expr)(f:HM.BF):Prop:=∀r b,f r=Z b->PE X e (tAt X.K r λ_ F' H' v=>∃fp,Z9 X.K F' H' b v fp)
def XF(X:Cx)(e:Expr)(f:HM.BF):Prop:=∀r b,f r=Z b->PE X e (tAt X.K r λH F' H' v=>∃fp,Z9 X.K F' H' b v fp/\fp.Nodup/\∀a∈fp,F' a=Z_/\H a=Z_)
def XT(X:Cx)(e:Expr)(f:HM.TF):Prop:=∀r c,f r=Z c->PT X e λσ H Q=>Now X.K r σ H λF0 H0 F=>∀F' H',Ext F H F' H'->Q c H'
def XW(X:Cx)(e:Expr)(f:HM.TF):Prop:=∀r c,f r=Z c->PW X e λσ H Q=>Now X.K r σ H λF0 H0 F=>∀F' H',Ext F H F' H'->Q c H'
structure XA(X:Cx)(es:List Expr)(f:HM.AF):Prop where
 len:∀r ds,f r=Z ds->ds.length=es.length
 pa:∀r ds,f r=Z ds->PA X es λσ H Q=>Now X.K r σ H λF0 H0 F=>∀vs F' H',Ext F H F' H'->Zq X.K F' ds vs->Q vs H'
def ItD(K:Zyk)(J:It)(ds:List PyData)(F:Hp):Prop:=∀F' H,Zp F F'->Zp F' H ->
 (∀(i:Nat) (d:PyData),ds[i]?=Z d->J.go i H/\∀x H',J.yld i H x H'->H'=H/\Rep K (Zcr F' H) d x)/\J.stop ds.length H
def XI(X:Cx)(tg e:Expr)(f:HM.IF):Prop:=∀r ds,f r=Z ds->PI X tg e λσ H R=>Now X.K r σ H λF0 H0 F=>∀J F' H',Ext F H F' H'->ItD X.K J ds F'->R J H'
def ZxD(K:Zyk)(F0 H0:Hp)(o:HM.Out)(E:Ends):Prop:=match o with
 | .nx r=>∀σ F H,At K F0 H0 F H r σ->E.nx σ H
 | .rt d=>∀v F H,Ext F0 H0 F H->Rep K F d v->E.rt v H
 | .bk r=>∀σ F H,At K F0 H0 F H r σ->E.bk σ H
 | .ct r=>∀σ F H,At K F0 H0 F H r σ->E.ct σ H
def tSt(K:Zyk)(r:HM.Env)(o:HM.Out):TS:=λE σ H=>Now K r σ H λF0 H0 F=>ZxD K F0 H0 o E
def XS(X:Cx)(st:Stmt)(g:HM.SF):Prop:=∀r o,g r=Z o->PS X st (tSt X.K r o)
def XSs(X:Cx)(sts:List Stmt)(g:HM.SF):Prop:=∀r o,g r=Z o->PSs X sts (tSt X.K r o)
theorem PE.imp{e:Expr}{t u:TE}(h:PE X e t)(hi:∀σ H Q,u σ H Q->t σ H Q):PE X e u:=λpins s σ H Q I q=>h pins s σ H Q I (hi σ H Q q)
theorem PT.imp{e:Expr}{t u:TT}(h:PT X e t)(hi:∀σ H Q,u σ H Q->t σ H Q):PT X e u:=λpins s σ H Q I q=>h pins s σ H Q I (hi σ H Q q)
theorem PW.imp{e:Expr}{t u:TT}(h:PW X e t)(hi:∀σ H Q,u σ H Q->t σ H Q):PW X e u:=λwh pins s σ H Q I q=>h wh pins s σ H Q I (hi σ H Q q)
theorem PA.imp{t u:TA}(h:PA X es t)(hi:∀σ H Q,u σ H Q->t σ H Q):PA X es u:=λp pins s σ H Q I q=>h p pins s σ H Q I (hi σ H Q q)
theorem PS.imp{st:Stmt}{t u:TS}(h:PS X st t)(hi:∀E σ H,u E σ H->t E σ H):PS X st u:=λpins s σ H E I q=>h pins s σ H E I (hi E σ H q)
theorem PSs.imp{sts:List Stmt}{t u:TS}(h:PSs X sts t)(hi:∀E σ H,u E σ H->t E σ H):PSs X sts u:=λpins s σ H E I q=>h pins s σ H E I (hi E σ H q)
section
variable{X:Cx}{a b c e:Expr}{fa fb fc:HM.EF}{pos p:Pos}
theorem Ztp{i:Nat}{d:PyData}(h:HM.Zc i r=Z d):r[i]?=Z (Z (.pl d)):=by
 unfold HM.Zc at h;split at h
 ·rename_i q; cases h; exact q
 ·cases h
theorem ZsO{i:Nat}{d:HM.B}(h:HM.Zo i r=Z d):r[i]?=Z (Z d):=by
 unfold HM.Zo at h;split at h
 ·rename_i q; cases h; exact q
 ·cases h
theorem Zd(i:Nat){pos:Pos}(hN:X.N[i]?=Z x:=by rfl)(hv:Vis X.env.scope x:=by first | exact Zzq rfl | exact ZyX (Zzq rfl) | exact ZyX (ZyX rfl))(hd:(x==("__debug__":Str))=ZDD:=by decide)
  (hcd:(x==("__classdict__":Str))=ZDD:=by decide):XE X (.Name x pos) (HM.Zc i):=by
 intro r d h;refine PE.imp (Zco hN hv hd hcd) λσ H Q ⟨F0,H0,F,at_,k⟩=>?_;obtain⟨v,h1,h2⟩:=at_.plain (Ztp h);exact⟨v,h1,k v F H at_.refl h2⟩
theorem Zv(i:Nat){pos:Pos}(hN:X.N[i]?=Z x:=by rfl)(hv:Vis X.env.scope x:=by first | exact Zzq rfl | exact ZyX (Zzq rfl) | exact ZyX (ZyX rfl))(hd:(x==("__debug__":Str))=ZDD:=by decide)
  (hcd:(x==("__classdict__":Str))=ZDD:=by decide):XB X (.Name x pos) (HM.Zo i):=by
 intro r d h;refine PE.imp (Zco hN hv hd hcd) λσ H Q ⟨F0,H0,F,at_,k⟩=>?_;obtain⟨v,fp,h1,h2⟩:=at_.any (ZsO h);exact⟨v,h1,k v F H at_.refl ⟨fp,h2⟩⟩
theorem Zfz{v:V}{d:PyData}(h:PE X e (tC v))(r:∀F,Rep X.K F d v):XE X e (HM.eC d):=by intro r' d' h';cases h';exact PE.imp h λσ H Q ⟨F0,H0,F,at_,k⟩=>k v F H at_.refl (r F)
theorem Zk:XE X (.Constant (.int i) j pos) (HM.eC (.int i)):=Zfz ZrL λ_=>.int i
theorem Za9{q:Bool}:XE X (.Constant (.bool q) j pos) (HM.eC (.bool q)):=Zfz ZwQ λ_=>.bl q
theorem Zc9:XE X (.Constant .none j pos) (HM.eC .none):=Zfz Zsk λ_=>.non
theorem ZgY(hm:∃t,X.mg x=Z (.int i t))(hg:Gl X x:=by rfl)(hd:(x==("__debug__":Str))=ZDD:=by decide):XE X (.Name x pos) (HM.eC (.int i)):=by obtain⟨t,hm⟩:=hm;exact Zfz (Zp3 hg hm (v:=.int i) ⟨t,rfl⟩ hd) λ_=>.int i
theorem Zu5{p':Pos}:XE X (.UnaryOp .USub (.Constant (.int i) j p') pos) (HM.eC (.int (-i))):=by intro r d h;cases h;intro pins s σ H Q I q;obtain⟨F0,H0,F,at_,k⟩:=q;refine UnaryOp_ (thn (ZrL pins s σ H (λv H'=>v=.int i/\H'=H) I ⟨rfl,rfl⟩) λu s1 ⟨x,H1,I1,r1,e1,e2⟩=>?_);subst e1 e2;obtain⟨t,rfl⟩:=r1;exact neg_int ⟨.int (-i),H1,I1.tok _,⟨_,rfl⟩,k _ F H1 at_.refl (.int _)⟩
theorem ZcF(h:XE X e fa):XB X e (HM.bOf fa):=by intro r b hb;obtain⟨d,h1,h2⟩:=Zyl.mp hb;subst h2;exact PE.imp (h r d h1) λσ H Q ⟨F0,H0,F,at_,k⟩=>⟨F0,H0,F,at_,λv F' H' x q=>k v F' H' x ⟨[],.pl q⟩⟩
theorem ZaC{f:HM.BF}(h:XF X e f):XB X e f:=λr b hb=>PE.imp (h r b hb) λσ H Q ⟨F0,H0,F,at_,k⟩=>⟨F0,H0,F,at_,λv F' H' x ⟨fp,q,_⟩=>k v F' H' x ⟨fp,q⟩⟩
theorem Zfi{f:HM.BF}(h:XF X e f):XE X e (HM.eOf f):=by
 intro r d hd;unfold HM.eOf at hd;obtain⟨b,h1,h2⟩:=ZBr.mp hd;refine PE.imp (h r b h1) λσ H Q ⟨F0,H0,F,at_,k⟩=>⟨F0,H0,F,at_,λv F' H' x ⟨fp,q,_,hn⟩=>?_⟩;cases q with
 | pl q=>cases h2;exact k v F' H' x q
 | @ol l ds vs hl q =>
  cases h2;have hF:F' l=Z_:=(hn l (by simp)).1;have s:Zp F' (upd F' l (.lst vs)):=Zp.upd' hF;refine k _ (upd F' l (.lst vs)) H' ⟨x.ff.trans s,x.hh,λc o z=>?_,λc o z=>?_,x.tab,λt=>(x.nts t).upd rfl⟩ (.lst (.of Zx) q.1 (q.mono s).2)
  ·by_cases hc:c=l
   ·subst hc; rw[Zx]at z; cases z; exact hl
   ·rw[Zy hc]at z; exact x.sub c o z
  ·by_cases hc:c=l
   ·subst hc; exact .inr (.inl (hn c (by simp)).2)
   ·rw[Zy hc]at z; exact x.new c o z
 | @ot l kvs vvs hl hk q =>
  cases h2;have hF:F' l=Z_:=(hn l (by simp)).1;have s:Zp F' (upd F' l (.dT vvs)):=Zp.upd' hF;refine k _ (upd F' l (.dT vvs)) H' ⟨x.ff.trans s,x.hh,λc o z=>?_,λc o z=>?_,x.tab,λt=>(x.nts t).upd rfl⟩ (.dct (.inl Zx) rfl hk (q.mono s).2)
  ·by_cases hc:c=l
   ·subst hc; rw[Zx]at z; cases z; exact hl
   ·rw[Zy hc]at z; exact x.sub c o z
  ·by_cases hc:c=l
   ·subst hc; exact .inr (.inl (hn c (by simp)).2)
   ·rw[Zy hc]at z; exact x.new c o z
 | ok _ _ _=>cases h2
 | hd h3 h4 h5 h6=>cases h2; exact k _ F' H' x (.dct (.inr ⟨_,h3⟩) h4 h5 h6.2)
 | hf h3=>cases h2; exact k _ F' H' x (.fn h3)
 | otl _ _ _ _=>cases h2
def Bin(K:Zyk)(r:R2)(g:PyData->PyData->Option PyData):Prop:=∀(F H:Hp) (x y z:PyData) (v w:V) (Q:VK),Zp F H->g x y=Z z->Rep K F x v->Rep K F y w->(∀u,Rep K F z u->Q u H)->r v w H Q
structure ZnH(X:Cx)(op:Operator)(g:PyData->PyData->Option PyData):Prop where
 ex:∃r,OpR X (ZAC op) r/\Bin X.K r g
structure Zf7(X:Cx)(op:CmpOp)(g:PyData->PyData->Option PyData):Prop where
 ex:∃r,OpR X (ZzC op) r/\Bin X.K r g
 n1:op≠.In
 n2:op≠.NotIn
theorem Zg7{d:PyData}(h:HM.op2 g fa fb r=Z d):∃x y,fa r=Z x/\fb r=Z y/\g x y=Z d:=by
 unfold HM.op2 at h;split at h
 ·split at h
  ·exact⟨_,_,by assumption,by assumption,h⟩
  ·cases h
 ·cases h
theorem two{x y:PyData}{P:Hp->Hp->Hp->V->Prop}{σ:L2.St}{H:Hp}{Q:VK}{R:V->V->Hp->VK->Prop}(h:tAt K r P σ H Q)
  (hk:∀H F2 H2 v w,Zp F2 H2->Rep K F2 x v->Rep K F2 y w->(∀u F3 H3,Ext F2 H2 F3 H3->P H F3 H3 u->Q u H3)->Zab H H2->R v w H2 Q) :
  tOp R (tAt K r λ_ F' _ v=>Rep K F' x v) (tAt K r λ_ F' _ v=>Rep K F' y v) σ H Q:=by
 obtain⟨F0,H0,F,at_,k⟩:=h;refine⟨F0,H0,F,at_,λv F1 H1 x1 r1=>⟨F0,H0,F1,at_.grow x1,λw F2 H2 x2 r2=>?_⟩⟩;exact hk H F2 H2 v w x2.sub (r1.mono x2.ff) r2 (λu F3 H3 x3 q=>k u F3 H3 ((x1.trans x2).trans x3) q) (x1.hh.trans x2.hh)
theorem ZE{op:Operator}(o:ZnH X op g)(ha:XE X a fa)(hb:XE X b fb):XE X (.BinOp a op b pos) (HM.op2 g fa fb):=by intro r d h;obtain⟨x,y,h1,h2,h3⟩:=Zg7 h;obtain⟨R,o1,o2⟩:=o.ex;refine PE.imp (ZkA o1 (ha r x h1) (hb r y h2)) λσ H Q q=>?_;exact two q λ_ F2 H2 v w s r1 r2 k _=>o2 F2 H2 x y d v w Q s h3 r1 r2 λu ru=>k u F2 H2 (.refl s) ru
theorem ZdY{op:CmpOp}(o:Zf7 X op g)(ha:XE X a fa)(hb:XE X b fb):XE X (.Compare a [op] [b] pos) (HM.op2 g fa fb):=by intro r d h;obtain⟨x,y,h1,h2,h3⟩:=Zg7 h;obtain⟨R,o1,o2⟩:=o.ex;refine PE.imp (ZpD o1 (ha r x h1) (hb r y h2) (Zj1 _ o.n1 o.n2)) λσ H Q q=>?_;exact two q λ_ F2 H2 v w s r1 r2 k _=>o2 F2 H2 x y d v w Q s h3 r1 r2 λu ru=>k u F2 H2 (.refl s) ru
theorem ZiT{c:Bool}(h:HM.tV fa r=Z c):fa r=Z (.bool c):=by
 unfold HM.tV at h;split at h
 ·rename_i q; cases h; exact q
 ·cases h
theorem Rep.bool_inv{c:Bool}{v:V}(h:Rep K F (.bool c) v):v=.bl c:=by cases h; rfl
theorem Rep.int_inv{v:V}(h:Rep K F (.int i) v):v=.int i:=by cases h; rfl
theorem Rep.none_inv{v:V}(h:Rep K F .none v):v=.non:=by cases h; rfl
theorem ZaF{op:CmpOp}(o:Zf7 X op g)(ha:XE X a fa)(hb:XE X b fb):XT X (.Compare a [op] [b] pos) (HM.tV (HM.op2 g fa fb)):=by intro r d h;obtain⟨x,y,h1,h2,h3⟩:=Zg7 (ZiT h);obtain⟨R,o1,o2⟩:=o.ex;refine PT.imp (ZpX o1 (ha r x h1) (hb r y h2) (Zj1 _ o.n1 o.n2)) λσ H Q ⟨F0,H0,F,at_,k⟩=>?_;refine⟨F0,H0,F,at_,λv F1 H1 x1 r1=>⟨F0,H0,F1,at_.grow x1,λw F2 H2 x2 r2=>?_⟩⟩;refine o2 F2 H2 x y _ v w _ x2.sub h3 (r1.mono x2.ff) r2 λu ru=>?_;exact⟨d,ru.bool_inv,k F2 H2 (x1.trans x2)⟩
theorem ZaU(h:XE X e fa)(he:∀whole,isTrue e X.env whole=(do let v <-whole; standAt e.pos; holding [v] (truthy v)):=by intro _; rfl):XT X e (HM.tV fa):=by intro r c hc;refine PT.imp (Zwu (h r _ (ZiT hc)) he) λσ H Q ⟨F0,H0,F,at_,k⟩=>?_;exact⟨F0,H0,F,at_,λv F1 H1 x1 r1=>⟨c,r1.bool_inv,k F1 H1 x1⟩⟩
theorem ZbH{t:HM.TF}(h:XT X a t):XT X (.UnaryOp .Not a pos) (HM.ZbZ t):=by intro r c hc;obtain⟨d,h1,h2⟩:=Zyl.mp hc;subst h2;refine PT.imp (Zv7 (h r d h1)) λσ H Q ⟨F0,H0,F,at_,k⟩=>?_;exact⟨F0,H0,F,at_,λF1 H1 x1=>k F1 H1 x1⟩
theorem ZmP{t:HM.TF}(h:XW X e t):XT X e t:=λr c hc=>(h r c hc).pt
theorem Zt1{t:HM.TF}(h:XT X a t):XW X (.BoolOp .And [a] pos) t:=λr c hc=>ZuR (h r c hc)
theorem Zkf{t:HM.TF}(h:XT X a t):XW X (.BoolOp .Or [a] pos) t:=λr c hc=>Zwl (h r c hc)
theorem ZnD{e:Expr}:PW X e λ_ _ _=>False:=λ_ _ _ _ _ _ _ h=>h.elim
theorem ZhK{e:Expr}:PE X e λ_ _ _=>False:=λ_ _ _ _ _ _ h=>h.elim
theorem Zu6{t:HM.TF}(ha:XT X a t)(hb:XW X (.BoolOp .And (b::rest) pos) u):XW X (.BoolOp .And (a::b::rest) pos) (HM.Zka t u):=by
 intro r c hc;unfold HM.Zka at hc;split at hc
 ·rename_i q
  refine PW.imp (Zr5 (ha r ZDC q) (hb r c hc)) λσ H Q ⟨F0,H0,F,at_,k⟩=>?_;exact⟨F0,H0,F,at_,λF1 H1 x1=>Zlp ⟨F0,H0,F1,at_.grow x1,λF2 H2 x2=>k F2 H2 (x1.trans x2)⟩⟩
 ·rename_i q
  cases hc;refine PW.imp (Zr5 (ha r ZDD q) ZnD) λσ H Q ⟨F0,H0,F,at_,k⟩=>?_;exact⟨F0,H0,F,at_,λF1 H1 x1=>ZlC (k F1 H1 x1)⟩
 ·cases hc
theorem ZmG{t:HM.TF}(ha:XT X a t)(hb:XW X (.BoolOp .Or (b::rest) pos) u):XW X (.BoolOp .Or (a::b::rest) pos) (HM.tOr t u):=by
 intro r c hc;unfold HM.tOr at hc;split at hc
 ·rename_i q
  cases hc;refine PW.imp (ZtP (ha r ZDC q) ZnD) λσ H Q ⟨F0,H0,F,at_,k⟩=>?_;exact⟨F0,H0,F,at_,λF1 H1 x1=>Zlp (k F1 H1 x1)⟩
 ·rename_i q
  refine PW.imp (ZtP (ha r ZDD q) (hb r c hc)) λσ H Q ⟨F0,H0,F,at_,k⟩=>?_;exact⟨F0,H0,F,at_,λF1 H1 x1=>ZlC ⟨F0,H0,F1,at_.grow x1,λF2 H2 x2=>k F2 H2 (x1.trans x2)⟩⟩
 ·cases hc
theorem ZdZ{op:BoolOp}(h:XE X a fa):XE X (.BoolOp op [a] pos) fa:=λr d hd=>ZvF (h r d hd)
theorem Zd0(ha:XE X a fa)(hb:XE X (.BoolOp .And (b::rest) pos) fb):XE X (.BoolOp .And (a::b::rest) pos) (HM.ZfZ fa fb):=by
 intro r d hd;unfold HM.ZfZ at hd;split at hd
 ·rename_i q
  refine PE.imp (Zr6 (ha r _ q) (hb r d hd)) λσ H Q ⟨F0,H0,F,at_,k⟩=>?_;exact⟨F0,H0,F,at_,λv F1 H1 x1 r1=>⟨ZDC,r1.bool_inv,Zlp ⟨F0,H0,F1,at_.grow x1,λw F2 H2 x2 r2=>k w F2 H2 (x1.trans x2) r2⟩⟩⟩
 ·rename_i q
  cases hd;refine PE.imp (Zr6 (ha r _ q) ZhK) λσ H Q ⟨F0,H0,F,at_,k⟩=>?_;exact⟨F0,H0,F,at_,λv F1 H1 x1 r1=>⟨ZDD,r1.bool_inv,ZlC (k _ F1 H1 x1 (.bl ZDD))⟩⟩
 ·cases hd
theorem ZtO{t:HM.TF}(hc:XT X c t)(ha:XE X a fa)(hb:XE X b fb):XE X (.IfExp c a b pos) (HM.eIf t fa fb):=by
 intro r d hd;unfold HM.eIf at hd;split at hd
 ·rename_i q
  refine PE.imp (Znx (hc r _ q) (ha r d hd) ZhK) λσ H Q ⟨F0,H0,F,at_,k⟩=>?_;exact⟨F0,H0,F,at_,λF1 H1 x1=>Zlp ⟨F0,H0,F1,at_.grow x1,λw F2 H2 x2 r2=>k w F2 H2 (x1.trans x2) r2⟩⟩
 ·rename_i q
  refine PE.imp (Znx (hc r _ q) ZhK (hb r d hd)) λσ H Q ⟨F0,H0,F,at_,k⟩=>?_;exact⟨F0,H0,F,at_,λF1 H1 x1=>ZlC ⟨F0,H0,F1,at_.grow x1,λw F2 H2 x2 r2=>k w F2 H2 (x1.trans x2) r2⟩⟩
 ·cases hd
theorem ZmQ{op op':CmpOp}{g':PyData->PyData->Option PyData}(o:Zf7 X op g)(o':Zf7 X op' g')(ha:XE X a fa)(hb:XE X b fb)(hc:XE X c fc)
  (hm:lastMarks [op,op'] [b,c]=ZDD:=by with_unfolding_all rfl):XE X (.Compare a [op,op'] [b,c] pos) (HM.Zky g g' fa fb fc):=by
 intro r d hd;unfold HM.Zky at hd;obtain⟨R,o1,o2⟩:=o.ex;obtain⟨R',o1',o2'⟩:=o'.ex;split at hd
 ·rename_i x hx
  split at hd
  ·rename_i y hy
   split at hd
   ·rename_i hg
    split at hd
    ·rename_i z hz
     refine PE.imp (ZnG o1 o1' (ha r x hx) (hb r y hy) (hc r z hz) hm) λσ H Q ⟨F0,H0,F,at_,k⟩=>?_;refine⟨F0,H0,F,at_,λv F1 H1 x1 r1=>⟨F0,H0,F1,at_.grow x1,λw F2 H2 x2 r2=>?_⟩⟩;refine o2 F2 H2 x y _ v w _ x2.sub hg (r1.mono x2.ff) r2 λu ru=>?_;refine⟨ZDC,ru.bool_inv,Zlp ⟨F0,H0,F2,(at_.grow x1).grow x2,λw' F3 H3 x3 r3=>?_⟩⟩;exact o2' F3 H3 y z d w w' Q x3.sub hd (r2.mono x3.ff) r3 λu' ru'=>k u' F3 H3 ((x1.trans x2).trans x3) ru'
    ·cases hd
   ·rename_i hg
    cases hd;refine PE.imp (ZnG o1 o1' (ha r x hx) (hb r y hy) ZhK hm) λσ H Q ⟨F0,H0,F,at_,k⟩=>?_;refine⟨F0,H0,F,at_,λv F1 H1 x1 r1=>⟨F0,H0,F1,at_.grow x1,λw F2 H2 x2 r2=>?_⟩⟩;refine o2 F2 H2 x y _ v w _ x2.sub hg (r1.mono x2.ff) r2 λu ru=>?_;exact⟨ZDD,ru.bool_inv,ZlC (k _ F2 H2 (x1.trans x2) (.bl ZDD))⟩
   ·cases hd
  ·cases hd
 ·cases hd
theorem Zf:XA X [] HM.Zg:=by refine⟨λr ds h=>by cases h; rfl,λr ds h=>?_⟩;cases h;exact PA.imp Zbt λσ H Q ⟨F0,H0,F,at_,k⟩=>k [] F H at_.refl .nil
theorem Zb(ha:XE X e fa)(hr:XA X es f)(hs:Zyz (e::es) X.env=(ZDD,eval e X.env)::Zyz es X.env:=by rfl):XA X (e::es) (HM.Za fa f):=by
 refine⟨λr ds h=>?_,λr ds h=>?_⟩
 ·unfold HM.Za at h
  split at h
  ·obtain⟨xs,h1,h2⟩:=Zyl.mp h
   subst h2;rw[ZyD,ZyD,hr.len r xs h1]
  ·cases h
 unfold HM.Za at h;split at h
 ·rename_i x hx
  obtain⟨xs,h1,h2⟩:=Zyl.mp h;subst h2;refine PA.imp (Zaf (ha r x hx) (hr.pa r xs h1) hs) λσ H Q ⟨F0,H0,F,at_,k⟩=>?_;exact⟨F0,H0,F,at_,λv F1 H1 x1 r1=>⟨F0,H0,F1,at_.grow x1,λvs F2 H2 x2 r2=>k (v::vs) F2 H2 (x1.trans x2) (.cons (r1.mono x2.ff) r2)⟩⟩
 ·cases h
theorem ZaV{x1:Nat}(h:XA X es f)(hl:es.length<=100:=by exact Nat.le_of_ble_eq_true rfl):XE X (.Tuple es x1 pos) (HM.Zac f):=by
 intro r d hd;obtain⟨ds,h1,h2⟩:=Zyl.mp hd;subst h2;refine PE.imp (Zv6 (h.pa r ds h1)) λσ H Q ⟨F0,H0,F,at_,k⟩=>⟨F0,H0,F,at_,λvs F1 H1 x1 r1=>⟨?_,λp hp=>?_⟩⟩
 ·have e1:=h.len r ds h1
  have e2:=r1.1;have e3:(100:Nat)<=sizeLine:=by decide
  omega
 ·have hF:F1 p=Z_:=x1.sub.free hp
  exact k _ (upd F1 p (.tup vs)) _ (x1.lay hp) (.tup Zx r1.1 (r1.mono (Zp.upd' hF)).2)
theorem Zce(h:XA X es f)(hl:es.length<=100:=by exact Nat.le_of_ble_eq_true rfl):XF X (.List es pos) (HM.Zeq f):=by
 intro r d hd;obtain⟨ds,h1,h2⟩:=Zyl.mp hd;subst h2;refine PE.imp (Zwj (h.pa r ds h1)) λσ H Q ⟨F0,H0,F,at_,k⟩=>⟨F0,H0,F,at_,λvs F1 H1 x1 r1=>⟨?_,λp hp=>?_⟩⟩
 ·have e1:=h.len r ds h1
  have e2:=r1.1;have e3:(100:Nat)<=sizeLine:=by decide
  omega
 ·have hF:F1 p=Z_:=x1.sub.free hp
  refine k _ F1 _ (x1.lay' hp) ⟨[p],.ol Zx r1,by simp,λa ha=>?_⟩;have:a=p:=by simpa using ha
  subst this;exact⟨hF,x1.hh.free hp⟩
end
end HP
namespace HP
open PySem PySem.Spec PyProof.Rows L2
variable{f:Addr}{fd:FuncData}{g:HM.SF}{base:Heap}{N ps:List Str}{p':Pos}{P:Program}{K:Zyk}{qual x:Str}{mg:Str->Option Value}{w:World}
variable[FX]
section
variable{X:Cx}{a b c e:Expr}{fa fb fc:HM.EF}{pos p:Pos}{st:Stmt}{rest:List Stmt}{g u:HM.SF}
theorem ZlY(h:X.xe=λ_ _=>False):PassesOwn (model X.prog X.w) X.A X.env X.xe:=by rw[h]; exact PassesOwn.never
theorem Z5:XSs X [] HM.Zar:=by intro r o h;cases h;exact PSs.imp ZuG λE σ H ⟨F0,H0,F,at_,k⟩=>k σ F H at_
theorem Zl(h:XS X st g):XSs X [st] g:=λr o ho=>ZpI (h r o ho)
theorem Zj(h1:XS X st g)(h2:XSs X rest u):XSs X (st::rest) (HM.Zu g u):=by
  intro r o h
  unfold HM.Zu at h
  split at h
  · rename_i r' q
    refine PSs.imp (Zh2 (h1 r _ q) (h2 r' o h)) λE σ H ⟨F0,H0,F,at_,k⟩=>?_
    exact⟨F0,H0,F,at_,λσ' F' H' at'=>⟨F0,H0,F',at',k⟩⟩
  all_goals first
    | cases h
      rename_i q
      refine PSs.imp (Zh2 (h1 r _ q) Zgq) λE σ H ⟨F0,H0,F,at_,k⟩=>?_
      exact⟨F0,H0,F,at_,k⟩
    | cases h
theorem ZmR:XS X st HM.ZoH:=λr o h=>nomatch h
theorem Zw(h:XE X e fa):XS X (.Return (Z e) pos) (HM.ZA fa):=by intro r o ho;obtain⟨d,h1,h2⟩:=Zyl.mp ho;subst h2;refine PS.imp (Zow (h r d h1)) λE σ H ⟨F0,H0,F,at_,k⟩=>?_;exact⟨F0,H0,F,at_,λv F' H' x q=>k v F' H' (at_.ext.trans x) q⟩
theorem Zi4(h:XE X e fa)(hs:ZAT e Z_ pos.line X.env=pure ZDD:=by rfl):XS X (.Expr e pos) (HM.ZkS fa):=by intro r o ho;obtain⟨d,h1,h2⟩:=Zyl.mp ho;subst h2;refine PS.imp (Zjc (h r d h1) hs) λE σ H ⟨F0,H0,F,at_,k⟩=>?_;exact⟨F0,H0,F,at_,λv F' H' x q=>k σ F' H' (at_.grow x)⟩
theorem ZaI{t:HM.TF}{sa sb:List Stmt}(hc:XT X c t)(ha:XSs X sa g)(hb:XSs X sb u):XS X (.If c sa sb pos) (HM.sIf t g u):=by
 intro r o ho;unfold HM.sIf at ho;split at ho
 ·rename_i q
  refine PS.imp (ZtR (hc r _ q) (ha r o ho) Zgq) λE σ H ⟨F0,H0,F,at_,k⟩=>?_;exact⟨F0,H0,F,at_,λF' H' x=>Zlp ⟨F0,H0,F',at_.grow x,k⟩⟩
 ·rename_i q
  refine PS.imp (ZtR (hc r _ q) Zgq (hb r o ho)) λE σ H ⟨F0,H0,F,at_,k⟩=>?_;exact⟨F0,H0,F,at_,λF' H' x=>ZlC ⟨F0,H0,F',at_.grow x,k⟩⟩
 ·cases ho
theorem Zd1(i:Nat)(h:XS X st g):XS X st (HM.Zgg i g):=by intro r o ho;refine PS.imp (h (HM.ZhE i r) o ho) λE σ H ⟨F0,H0,F,at_,k⟩=>?_;obtain⟨F',_,_,a'⟩:=at_.freeze i;exact⟨F0,H0,F',a',k⟩
theorem ZO(i:Nat)(hN:X.N.Nodup)(h:XE X e fa)(hi:X.N[i]?=Z x:=by rfl)(hx:Loc X.env.scope x:=by first | exact Zzq rfl | exact ZyX rfl)
  (hs:ZAT e (Z (.Name x p')) pos.line X.env=pure ZDD:=by rfl) (hf:X.fn x=ZDC\/X.env.scope.names.lookup x=Z .local:=by first | exact .inl rfl | exact .inr rfl) :
  XS X (.Assign [.Name x p'] e pos) (HM.ZU i fa):=by
 intro r o ho;obtain⟨d,h1,h2⟩:=Zyl.mp ho;subst h2;refine PS.imp (Zn4 hN hi hx (h r d h1) hs hf) λE σ H ⟨F0,H0,F,at_,k⟩=>?_;exact⟨F0,H0,F,at_,λv F' H' x q=>k _ F' H' ((at_.grow x).set q)⟩
theorem ZaK(i:Nat){f:HM.BF}(hN:X.N.Nodup)(h:XF X e f)(hi:X.N[i]?=Z x:=by rfl)(hx:Loc X.env.scope x:=by first | exact Zzq rfl | exact ZyX rfl)
  (hs:ZAT e (Z (.Name x p')) pos.line X.env=pure ZDD:=by rfl) (hf:X.fn x=ZDC\/X.env.scope.names.lookup x=Z .local:=by first | exact .inl rfl | exact .inr rfl) :
  XS X (.Assign [.Name x p'] e pos) (HM.ZT i f):=by
 intro r o ho;obtain⟨d,h1,h2⟩:=Zyl.mp ho;subst h2;refine PS.imp (Zn4 hN hi hx (h r d h1) hs hf) λE σ H ⟨F0,H0,F,at_,k⟩=>?_;exact⟨F0,H0,F,at_,λv F' H' x ⟨fp,q,nd,hn⟩=>k _ F' H' ((at_.grow x).storeNew at_ x.hh q nd hn)⟩
theorem Zcf(i:Nat){iter:Expr}{body:List Stmt}{fi:HM.IF}(hN:X.N.Nodup)(hxe:X.xe=λ_ _=>False)(hc:X.calm=ZDC)(hi:XI X (.Name x p') iter fi)(hb:XSs X body g)(hix:X.N[i]?=Z x:=by rfl)
  (hx:Loc X.env.scope x:=by first | exact Zzq rfl | exact ZyX rfl) (hf:X.fn x=ZDC\/X.env.scope.names.lookup x=Z .local:=by first | exact .inl rfl | exact .inr rfl)
  (hs:∀x,ZAw iter X.env x=pure x:=by intro _; rfl):XS X (.For (.Name x p') iter body [] pos) (HM.Zby i fi g):=by
 intro r o ho;unfold HM.Zby at ho;split at ho
 ·rename_i ds hds
  split at ho
  ·rename_i hbig
   have pb:PSs X body (λE σ H=>∃r o,g r=Z o/\tSt X.K r o E σ H):=λpins s σ H E I ⟨r,o,h1,h2⟩=>hb r o h1 pins s σ H E I h2;refine PS.imp (ZvR (ZlY hxe) hc (hi r ds hds) (ZpW hN hix hx hf) pb hs) λE σ H ⟨F0,H0,F,at_,k⟩=>?_;refine⟨F0,H0,F,at_,λJ F1 H1 x1 it=>?_⟩;refine⟨λn m σ H=>∃F r,At X.K F0 H0 F H r σ/\Zp F1 F/\n+m=ds.length/\HM.Zaq i g (ds.drop n) r=Z o,⟨ds.length,F1,r,at_.grow x1,Zp.refl _,by omega,ho⟩,?_⟩
   rintro n m σ H ⟨F2,r2,at2,s2,hn,go⟩
   obtain⟨it1,it2⟩:=it F2 H s2 at2.sub;cases m with
   | zero =>
    have e:n=ds.length:=by omega
    subst e;rw[List.drop_length]at go;cases go;exact .inl ⟨it2,k σ F2 H at2⟩
   | succ m =>
    have hlt:n<ds.length:=by omega
    rw[ZCG hlt]at go;obtain⟨j1,j2⟩:=it1 n ds[n] (ZyF hlt);refine .inr ⟨j1,λσ' H'=>∃F r,At X.K F0 H0 F H' r σ'/\Zp F1 F/\HM.Zaq i g (ds.drop (n+1)) r=Z o,λσ' H' ⟨F,r,a1,a2,a3⟩=>⟨m,by omega,F,r,a1,a2,by omega,a3⟩,λy H' hy=>?_⟩;obtain⟨e1,ry⟩:=j2 y H' hy;subst e1;obtain⟨F3,at3,s3,ry⟩:∃F3,At X.K F0 H0 F3 H' r2 σ/\Zp F1 F3/\Rep X.K F3 ds[n] y:=⟨_,at2.grow at2.refl.tups,s2.trans (Zdi at2.sub),ry⟩;have a3:=at3.set (i:=i) ry;have a4:=a3.rebase;unfold HM.Zaq at go;split at go
    ·rename_i r' hr
     exact⟨_,_,hr,F3,H0,F3,a4,λσ' F' H' a'=>⟨F',r',a'.unbase at3.ext at3.nt0,s3.trans a'.ext.ff,go⟩⟩
    ·rename_i r' hr
     exact⟨_,_,hr,F3,H0,F3,a4,λσ' F' H' a'=>⟨F',r',a'.unbase at3.ext at3.nt0,s3.trans a'.ext.ff,go⟩⟩
    ·rename_i r' hr
     cases go;exact⟨_,_,hr,F3,H0,F3,a4,λσ' F' H' a'=>k σ' F' H' (a'.unbase at3.ext at3.nt0)⟩
    ·rename_i d hr
     cases go;exact⟨_,_,hr,F3,H0,F3,a4,λv F' H' x q=>k v F' H' (at3.ext.unbase x) q⟩
    ·cases go
  ·cases ho
 ·cases ho
end
def spD(K:Zyk)(n:Nat)(M:List PyData->Option PyData):Sp:=λvs H Q _=>∃F ds d,vs.length=n/\Zp F H/\Tb H/\NoT F/\Zq K F ds vs/\M ds=Z d/\∀v F' H',Ext F H F' H'->Rep K F' d v->Q v H'
structure Callee(P:Program)(w:World)(K:Zyk)(mg:Str->Option Value)(base:Heap)(k:Nat)(x:Str)(M:List PyData->Option PyData):Prop where
 ex:∃f fd ps,(∀ds d,M ds=Z d->ds.length=ps.length)/\Zc8 P w K mg base CX0 k f fd ps (spD K ps.length M)/\mg x=Z (.ref f)/\ZzJ K (.ref f)=ZDC/\Binds K fd ps []
theorem Callee.mono{P:Program}{w:World}{K:Zyk}{mg:Str->Option Value}{base:Heap}{j k:Nat}{x:Str}{M:List PyData->Option PyData}(C:Callee P w K mg base j x M)(h:j<=k):Callee P w K mg base k x M:=by obtain⟨f,fd,ps,l,F,r⟩:=C.ex;exact⟨f,fd,ps,l,F.mono h,r⟩
section
variable{X:Cx}{pos p:Pos}{e:Expr}{es:List Expr}{f:HM.AF}
theorem Zi{k:Nat}{M:List PyData->Option PyData}(C:Callee X.prog X.w X.K X.mg X.base k x M)(hr:ZV k X.A)(ha:XA X (e::es) f)(hg:Gl X x:=by rfl)(hdb:(x==("__debug__":Str))=ZDD:=by decide)
  (he:Zyz (e::es) X.env=(ZDD,eval e X.env)::Zyz es X.env:=by rfl) (hpl:(backTo pos (Zyz es X.env)).any (·.1)=ZDD:=by rfl):XE X (.Call (.Name x p) (e::es) [] pos) (HM.Zh M f):=by
 intro r d hd;unfold HM.Zh at hd;split at hd
 ·rename_i ds hds
  obtain⟨fa,fd,ps,hl,F,hm,hk,hb⟩:=C.ex;refine PE.imp (Zk8 (E:=E0) F hr hg hm hk hb .nil Zra (ha.pa r ds hds) hdb he hpl) λσ H Q ⟨F0,H0,F1,at_,k⟩=>?_;refine⟨F0,H0,F1,at_,λvs F' H' x q=>?_⟩;show spD X.K ps.length M (vs++[]) H' Q E0;rw[Zy6];exact⟨F',ds,d,by rw[<-q.1]; exact hl ds d hd,x.sub,at_.tbx x,at_.ntx x,q,hd,λv F2 H2 x2 q2=>k v F2 H2 (x.trans x2) q2⟩
 ·cases hd
end
theorem Zgb{F H:Hp}{ds:List PyData}{vs:List V}(s:Zp F H)(tb:Tb H)(nt:NoT F)(q:Zq K F ds vs)(hl:ds.length<=N.length):At K F H F H (HM.Zet N.length ds) (L2.start N vs):=by
 have hv:=q.1;refine⟨λ_=>[],.refl s,?_,λi b h=>?_,λ_ _=>rfl,λi a h=>by simp at h,λ_=>ZAa,λi j a _ h=>by simp at h,tb,nt⟩
 ·unfold HM.Zet L2.start
  rw[ZyA,ZyA,Zyj,Zyj,Zy9,Zy9,hv]
 ·unfold HM.Zet at h
  by_cases hi:i<ds.length
  ·rw[ZyY (by rw[Zyj]; exact hi),ZyI,ZyF hi]at h
   cases h;obtain⟨v,h1,h2⟩:=q.get (ZyF hi);refine⟨v,?_,.pl h2⟩;unfold L2.start;rw[ZyY (by rw[Zyj,<-hv]; exact hi),ZyI,h1];rfl
  ·rw[Zy0 (by rw[Zyj]; omega),ZAL]at h
   split at h<;>cases h
theorem ZpU{k:Nat}{st:Stmt}(Fn:Fun K x qual st f fd)(S:Zs N ps (Ze st))
  (body:∀(cdv:Value) (A:Around) (outer:List Env) (s:Shared) (H:Hp) (E:XK),ZV k (A.deeper (envOfC qual (Ze st) s.heap.objs.size f cdv))->XSs (Zfc CX0 P w K mg base N qual (Ze st) f cdv A outer s H E).nox (Zaw st) g) :
  Zc8 P w K mg base CX0 (k+1) f fd ps (spD K ps.length (HM.fnOf ps.length N.length g)):=by
 have hpl:ps.length<=N.length:=by have:=congrArg Zy8 S.pre; rw[ZzH]at this; omega
 refine Fn.ok S (λvs H Q E h=>?_) (λcdv A outer s H vs Q E hr h=>?_)
 ·obtain⟨_,_,_,h,_⟩:=h
  exact h
 ·obtain⟨F,ds,d,hl,sub,tb,nt,q,hM,kk⟩:=h
  unfold HM.fnOf at hM;split at hM
  ·rename_i hds
   have a0:=Zgb (N:=N) sub tb nt q (by omega);split at hM
   ·rename_i r hr'
    cases hM;exact⟨_,body cdv A outer s H E hr _ _ hr',F,H,F,a0,λσ F' H' a'=>kk .non F' H' a'.ext .non⟩
   ·rename_i d' hr'
    cases hM;exact⟨_,body cdv A outer s H E hr _ _ hr',F,H,F,a0,λv F' H' x q=>kk v F' H' x q⟩
   ·cases hM
  ·cases hM
theorem ZrH{k:Nat}{st:Stmt}(Fn:Fun K x qual st f fd)(S:Zs N ps (Ze st))(hm:mg x=Z (.ref f))(hb:Binds K fd ps [])
  (body:∀(cdv:Value) (A:Around) (outer:List Env) (s:Shared) (H:Hp) (E:XK),ZV k (A.deeper (envOfC qual (Ze st) s.heap.objs.size f cdv))->XSs (Zfc CX0 P w K mg base N qual (Ze st) f cdv A outer s H E).nox (Zaw st) g) :
  Callee P w K mg base (k+1) x (HM.fnOf ps.length N.length g):=by
 refine⟨f,fd,ps,λds d h=>?_,ZpU Fn S body,hm,Fn.kp,hb⟩;unfold HM.fnOf at h;split at h
 ·assumption
 ·cases h
end HP
namespace HP
open PySem PySem.Spec PyProof.Rows L2
variable{q:HM.B}{F H:Hp}{ds:List PyData}{K:Zyk}
variable[FX]
section
variable{X:Cx}{a b c e:Expr}{fa fb fc:HM.EF}{pos p:Pos}
theorem Zf3{h:Int->Int->Option PyData}{x y z:PyData}(e:HM.Zfa h x y=Z z):∃i j,x=.int i/\y=.int j/\h i j=Z z:=by
 unfold HM.Zfa at e;split at e
 ·exact⟨_,_,rfl,rfl,e⟩
 ·cases e
theorem Zox{g:Int->Int->V}{h:Int->Int->PyData}(hr:∀F i j,Rep K F (h i j) (g i j)):Bin K (rI0 g) (HM.Zfa λi j=>Z (h i j)):=by intro F H x y z v w Q s e r1 r2 k;obtain⟨i,j,rfl,rfl,e⟩:=Zf3 e;cases e;exact⟨i,j,r1.int_inv,r2.int_inv,k _ (hr F i j)⟩
theorem ZbS:ZnH X .Add HM.Zbu:=⟨_,Zv0,Zox λ_ _ _=>.int _⟩
theorem ZsZ:ZnH X .Sub HM.Zk9:=⟨_,Zwp,Zox λ_ _ _=>.int _⟩
theorem ZeJ:ZnH X .Mult HM.ZcS:=by
 refine⟨_,ZvE,λF H x y z v w Q s e r1 r2 k=>?_⟩;obtain⟨i,j,rfl,rfl,e'⟩:=Zf3 e;split at e'
 ·rename_i hs
  cases e';refine⟨i,j,r1.int_inv,r2.int_inv,?_,k _ (.int _)⟩;unfold HM.ZS at hs;rw[ZzQ,ZBm,ZBm]at hs;unfold Zq8;omega
 ·cases e'
theorem oMod:ZnH X .Mod HM.ZqQ:=by
 refine⟨_,Zws,λF H x y z v w Q s e r1 r2 k=>?_⟩;obtain⟨i,j,rfl,rfl,e'⟩:=Zf3 e;split at e'
 ·rename_i hs
  cases e';exact⟨i,j,r1.int_inv,r2.int_inv,hs,k _ (.int _)⟩
 ·cases e'
theorem cLt:Zf7 X .Lt HM.gLt:=⟨⟨_,Zw3,Zox λ_ _ _=>.bl _⟩,by decide,by decide⟩
theorem cLe:Zf7 X .LtE HM.gLe:=⟨⟨_,ZwS,Zox λ_ _ _=>.bl _⟩,by decide,by decide⟩
theorem cGt:Zf7 X .Gt HM.gGt:=⟨⟨_,ZwP,Zox λ_ _ _=>.bl _⟩,by decide,by decide⟩
theorem Rep.non_iff{d:PyData}{v:V}(h:Rep K F d v):decide (v=.non)=match d with | .none=>ZDC | _=>ZDD:=by cases h<;>first | rfl | exact decide_eq_false (λz=>nomatch z)
theorem Zwy:Zf7 X .Is HM.ZqF:=by
 refine⟨⟨_,ZvN,λF H x y z v w Q s e r1 r2 k=>?_⟩,by decide,by decide⟩;unfold HM.ZqF at e;split at e
 ·refine⟨r2.none_inv,k _ ?_⟩
  rw[r1.non_iff];split at e
  ·cases e; exact .bl _
  ·rename_i hx
   cases e;cases x<;>first | exact .bl _ | exact absurd rfl hx
 ·cases e
theorem ZkI:Zf7 X .IsNot HM.Zen:=by
 refine⟨⟨_,ZuL,λF H x y z v w Q s e r1 r2 k=>?_⟩,by decide,by decide⟩;unfold HM.Zen at e;split at e
 ·refine⟨r2.none_inv,k _ ?_⟩
  rw[r1.non_iff];split at e
  ·cases e; exact .bl _
  ·rename_i hx
   cases e;cases x<;>first | exact .bl _ | exact absurd rfl hx
 ·cases e
theorem ZgP{h:Heap}:∀{ds:List PyData} {us:List Value},ds.length=us.length->(∀(i:Nat) d u,ds[i]?=Z d->us[i]?=Z u->∃as,Reads h u d as)->∃as,ReadsAll h us ds as
 | [],[],_,_=>⟨[],.nil⟩
 | [],_::_,hl,_=>by simp at hl
 | _::_,[],hl,_=>by simp at hl
 | d::ds,u::us,hl,k=>by obtain⟨as,h1⟩:=k 0 d u rfl rfl;obtain⟨bs,h2⟩:=ZgP (ds:=ds) (us:=us) (by simpa using hl) λi d u e1 e2=>k (i+1) d u (by simpa using e1) (by simpa using e2);exact⟨_,.cons h1 h2⟩
theorem Zp0:∀{ds:List PyData},ZAX ds=ZDC->∀{i:Nat} {d:PyData},ds[i]?=Z d->d.canLay0=ZDC
 | [],_,i,d,e=>by simp at e
 | x::ds,h,i,d,e=>by
  have h':(x.canLay0&&ZAX ds)=ZDC:=h;rw[ZyE]at h';cases i with
  | zero=>rw[ZAM]at e; cases e; exact h'.1
  | succ i=>rw[Zy3]at e; exact Zp0 h'.2 e
theorem ZnX(h:ZAX ds=ZDC){i:Nat}{d:PyData}(e:ds[i]?=Z d):d.canLay0=ZDC:=Zp0 h e
theorem Rep.reads{pins:List (Addr × Obj)}{s:Shared}{σ:L2.St}{d:PyData}{v:V}(I:Inv X pins σ H s)(sub:Zp F H)(r:Rep X.K F d v):d.canLay0=ZDC->∀u,RelV v u->∃as,Reads s.heap u d as:=by
 induction r with
 | non=>intro _ u ru; cases ru; exact⟨[],.none⟩
 | bl b=>intro _ u ru; cases ru; exact⟨[],.bool b⟩
 | int i=>intro _ u ru; obtain⟨t,rfl⟩:=ru; exact⟨[],.int i t⟩
 | str x=>intro _ u ru; obtain⟨t,rfl⟩:=ru; exact⟨[],.str x t⟩
 | dct _ _ _ _ _=>intro z; cases z
 | fn _=>intro z; cases z
 | @tupk a x h=>intro z u ru;cases ru;obtain⟨its,rv,⟨o,ho,hc,n,hd⟩,_⟩:=I.tuple (.inr h);obtain⟨u,rfl,t,rfl⟩:=rv.one;exact⟨_,.tuple ho hc hd (by simpa using ReadsAll.cons (.str x t) .nil)⟩
 | @tup a ds vs h hl _ ih =>
  intro z u ru;cases ru;obtain⟨its,rv,⟨o,ho,hc,n,hd⟩,_⟩:=I.tuple (.of (sub _ _ h));obtain⟨as,hr⟩:=ZgP (h:=s.heap) (ds:=ds) (us:=its) (hl.trans rv.length) λi d u e1 e2=>by
   have hi:i<vs.length:=by rw[<-hl]; exact(Zyw.mp e1).1
   obtain⟨u',q1,q2⟩:=rv.get (ZyF hi);rw[e2]at q1;cases q1;exact ih i d _ e1 (ZyF hi) (ZnX z e1) u q2
  exact⟨_,.tuple ho hc hd (by simpa using hr)⟩
 | @lst a ds vs h hl _ ih =>
  intro z u ru;cases ru;obtain⟨its,rv,⟨o,n,ho,hc,_,hd⟩,_⟩:=I.list (sub.seq h);obtain⟨as,hr⟩:=ZgP (h:=s.heap) (ds:=ds) (us:=its) (hl.trans rv.length) λi d u e1 e2=>by
   have hi:i<vs.length:=by rw[<-hl]; exact(Zyw.mp e1).1
   obtain⟨u',q1,q2⟩:=rv.get (ZyF hi);rw[e2]at q1;cases q1;exact ih i d _ e1 (ZyF hi) (ZnX z e1) u q2
  exact⟨_,.list ho hc hd (by simpa using hr)⟩
def Zvn(K:Zyk)(neg:Bool):R2:=λv w H Q=>∃F x y,Zp F H/\Rep K F x v/\Rep K F y w/\HM.Zb6 x=ZDC/\HM.Zb6 y=ZDC/\Q (.bl (if neg then !PyData.eqv x y else ZAV x y)) H
theorem Zfu{d:PyData}(h:HM.Zb6 d=ZDC):d.canLay0=ZDC/\d.depth<=60:=by unfold HM.Zb6 at h;simpa using h
theorem ZwU{k:Nat}(hr:ZV k X.A):OpR X (ZzC .Eq) (Zvn X.K ZDD):=by intro pins s σ H v w u u' Q I r1 r2 ⟨F,x,y,sub,q1,q2,p1,p2,q⟩;obtain⟨a1,a2⟩:=Zfu p1;obtain⟨b1,b2⟩:=Zfu p2;obtain⟨as,h1⟩:=q1.reads I sub a1 u r1;obtain⟨bs,h2⟩:=q2.reads I sub b1 u' r2;refine PySem.SeqAt.eqOverData X.prog X.w X.A X.xe s u u' x y as bs _ h1 h2 a1 b1 ?_ ⟨.bl _,H,I,rfl,q⟩;have:=hr.un;have:min x.depth y.depth<=60:=Zy2 (Nat.min_le_left _ _) a2;omega
theorem ZwJ{k:Nat}(hr:ZV k X.A):OpR X (ZzC .NotEq) (Zvn X.K ZDC):=by intro pins s σ H v w u u' Q I r1 r2 ⟨F,x,y,sub,q1,q2,p1,p2,q⟩;obtain⟨a1,a2⟩:=Zfu p1;obtain⟨b1,b2⟩:=Zfu p2;obtain⟨as,h1⟩:=q1.reads I sub a1 u r1;obtain⟨bs,h2⟩:=q2.reads I sub b1 u' r2;refine PySem.SeqAt.neOverData X.prog X.w X.A X.xe s u u' x y as bs _ h1 h2 a1 b1 ?_ ⟨.bl _,H,I,rfl,q⟩;have:=hr.un;have:min x.depth y.depth<=60:=Zy2 (Nat.min_le_left _ _) a2;omega
theorem cEq{k:Nat}(hr:ZV k X.A):Zf7 X .Eq HM.gEq:=by
 refine⟨⟨_,ZwU hr,λF H x y z v w Q s e r1 r2 k=>?_⟩,by decide,by decide⟩;unfold HM.gEq at e;split at e
 ·rename_i hp
  cases e;rw[ZyE]at hp;exact⟨F,x,y,s,r1,r2,hp.1,hp.2,k _ (.bl _)⟩
 ·cases e
theorem cNe{k:Nat}(hr:ZV k X.A):Zf7 X .NotEq HM.gNe:=by
 refine⟨⟨_,ZwJ hr,λF H x y z v w Q s e r1 r2 k=>?_⟩,by decide,by decide⟩;unfold HM.gNe at e;split at e
 ·rename_i hp
  cases e;rw[ZyE]at hp;exact⟨F,x,y,s,r1,r2,hp.1,hp.2,k _ (.bl _)⟩
 ·cases e
theorem Zhx{v:V}{fp:List Addr}(sub:Zp F H)(r:Z9 K F H q v fp)(h:HM.ZdI q=Z ds):∃a vs,v=.ref a/\(SqL K H a vs\/SqT K H a vs)/\Zq K F ds vs:=by
 cases r with
 | pl r =>
  cases r with
  | tup h1 h2 h3=>cases h; exact⟨_,_,rfl,.inr (.of (sub _ _ h1)),h2,h3⟩
  | @tupk a x h1=>cases h; exact⟨_,_,rfl,.inr (.inr h1),.one (.str x)⟩
  | lst h1 h2 h3=>cases h; exact⟨_,_,rfl,.inl (sub.seq h1),h2,h3⟩
  | dct _ _ _ _=>cases h
  | fn _=>cases h
  | non=>cases h
  | bl _=>cases h
  | int _=>cases h
  | str _=>cases h
 | ol h1 r=>cases h; exact⟨_,_,rfl,.inl (.of h1),r⟩
 | ok _ _ _=>cases h
 | hd _ _ _ _=>cases h
 | hf _=>cases h
 | ot _ _ _=>cases h
 | otl _ _ _ _=>cases h
theorem ZuQ{vs:List V}{i:Int}{d:PyData}(r:Zq K F ds vs)(h:HM.atD ds i=Z d):∃v,atI vs i=Z v/\Rep K F d v:=by
 unfold HM.atD at h;split at h
 ·rename_i j hj
  obtain⟨v,h1,h2⟩:=r.get h;refine⟨v,?_,h2⟩;unfold atI;rw[<-r.1,show ixN ds.length i=Z j from hj];exact h1
 ·cases h
theorem Zan{fb':HM.BF}(ha:XB X a fb')(hb:XE X b fb)(hs:ZpY b:=by intro _ _; rfl):XE X (.Subscript a b pos) (HM.eIx fb' fb):=by
 intro r d h;unfold HM.eIx at h;split at h
 ·rename_i x hx
  split at h
  ·rename_i ds hds
   split at h
   ·rename_i i hi
    refine PE.imp (ZwN Zv2 (ha r x hx) (hb r _ hi) hs) λσ H Q ⟨F0,H0,F,at_,k⟩=>?_;refine⟨F0,H0,F,at_,λv F1 H1 x1 ⟨fp,r1⟩=>⟨F0,H0,F1,at_.grow x1,λw F2 H2 x2 r2=>?_⟩⟩;obtain⟨l,vs,e1,hq,rs⟩:=Zhx x2.sub (r1.mono x2.ff λ_ _ _ z=>x2.hh _ _ z) hds;obtain⟨u,hu,ru⟩:=ZuQ rs h;have fin:=k u F2 H2 (x1.trans x2) ru;rcases hq with hq | hq
    ·exact .inl ⟨l,vs,i,u,e1,r2.int_inv,hq,hu,fin⟩
    ·exact .inr (.inl ⟨l,vs,i,u,e1,r2.int_inv,hq,hu,fin⟩)
   ·cases h
  ·cases h
 ·cases h
def PAB(X:Cx)(e:Expr)(r:HM.Env)(q:HM.B):Prop:=PA X [e] λσ H Q=>Now X.K r σ H λF0 H0 F=>∀v fp F' H',Ext F H F' H'->Z9 X.K F' H' q v fp->Q [v] H'
theorem Zdr{f:HM.BF}{r:HM.Env}(ha:XB X e f)(h:f r=Z q)(hs:Zyz [e] X.env=[(ZDD,eval e X.env)]:=by rfl):PAB X e r q:=by refine PA.imp (Zaf (ha r q h) Zbt hs) λσ H Q ⟨F0,H0,F,at_,k⟩=>?_;exact⟨F0,H0,F,at_,λv F1 H1 x1 ⟨fp,r1⟩=>k v fp F1 H1 x1 r1⟩
end
end HP
namespace HP
open PySem PySem.Spec PyProof.Rows L2
variable[FX]
theorem Zwo:Zzl "all" = Z (.builtin "all"):=by decide +kernel
theorem ZvZ:Zzl "any" = Z (.builtin "any"):=by decide +kernel
theorem Zvx:Zzl "len" = Z (.builtin "len"):=by decide +kernel
theorem ZrS:Zzl "max" = Z (.builtin "max"):=by decide +kernel
theorem Zsq:Zzl "min" = Z (.builtin "min"):=by decide +kernel
theorem Zgw:Zzl "sorted" = Z (.builtin "sorted"):=by decide +kernel
theorem ZmA:Zzl "isinstance" = Z (.builtin "isinstance"):=by decide +kernel
theorem Zny:Zzl "int" = Z (.type "int"):=by decide +kernel
theorem Zub:Zzl "bool" = Z (.type "bool"):=by decide +kernel
theorem Zuv:Zzl "list" = Z (.type "list"):=by decide +kernel
theorem ZjS:Zzl "tuple" = Z (.type "tuple"):=by decide +kernel
theorem Zrq:Zzl "set" = Z (.type "set"):=by decide +kernel
section
variable{X:Cx}{a b c e:Expr}{fa fb fc:HM.EF}{pos p:Pos}{f:HM.BF}
theorem Zbz(hm:X.mg "len" = Z_)(ha:XB X a f)(hg:Gl X "len":=by rfl)(hs:Zyz [a] X.env=[(ZDD,eval a X.env)]:=by rfl):XE X (.Call (.Name "len" p) [a] [] pos) (HM.Zbe f):=by
 intro r d h;unfold HM.Zbe at h;split at h
 ·rename_i x hx
  obtain⟨n,h1,h2⟩:=Zyl.mp h;subst h2;refine PE.imp (Zcb (Zn8.or Zsj) hg hm Zvx (Zdr ha hx hs) (he:=hs)) λσ H Q ⟨F0,H0,F,at_,k⟩=>?_;refine⟨F0,H0,F,at_,λv fp F1 H1 x1 r1=>?_⟩;have fin:=λ(m:Nat) (e:m=n)=>k (.int m) F1 H1 x1 (by rw[e]; exact .int _);cases r1 with
  | pl q =>
   cases q with
   | tup q1 q2 q3=>cases h1; exact .inl ⟨_,_,rfl,.inr (.of (x1.sub _ _ q1)),fin _ q2.symm⟩
   | tupk q1=>cases h1; exact .inl ⟨_,_,rfl,.inr (.inr q1),fin _ rfl⟩
   | lst q1 q2 q3=>cases h1; exact .inl ⟨_,_,rfl,.inl (x1.sub.seq q1),fin _ q2.symm⟩
   | dct _ _ _ _=>cases h1
   | fn _=>cases h1
   | non=>cases h1
   | bl _=>cases h1
   | int _=>cases h1
   | str _=>cases h1
  | ol q1 q2=>cases h1; exact .inl ⟨_,_,rfl,.inl (.of q1),fin _ q2.1.symm⟩
  | ok q1 q2 q3=>cases h1;refine .inr ⟨_,_,rfl,q1,fin _ ?_⟩;have:=congrArg Zy8 q2;rw[Zyj,Zyj]at this;exact this.symm
  | ot _ _ _=>cases h1
  | otl _ _ _ _=>cases h1
  | hd _ _ _ _=>cases h1
  | hf _=>cases h1
 ·cases h
theorem Zad(hm:X.mg "tuple" = Z_)(ha:XB X a f)(hg:Gl X "tuple":=by rfl)(hs:Zyz [a] X.env=[(ZDD,eval a X.env)]:=by rfl):XE X (.Call (.Name "tuple" p) [a] [] pos) (HM.Z2 f):=by
 intro r d h;unfold HM.Z2 at h;split at h
 ·rename_i x hx
  obtain⟨ds,h1,h2⟩:=Zyl.mp h;subst h2;refine PE.imp (Zcv ZmE hg hm ZjS (Zdr ha hx hs) (he:=hs)) λσ H Q ⟨F0,H0,F,at_,k⟩=>?_;refine⟨F0,H0,F,at_,λv fp F1 H1 x1 r1=>?_⟩;have new:∀(vs:List V),Zq X.K F1 ds vs->∀l,H1 l=Z_->Q (.ref l) (upd H1 l (.tup vs)):=λvs q l hl=>k _ (upd F1 l (.tup vs)) _ (x1.lay hl) (.tup Zx q.1 (q.mono (Zp.upd' (x1.sub.free hl))).2);cases r1 with
  | pl q =>
   cases q with
   | tup q1 q2 q3=>cases h1; exact⟨_,_,rfl,.inr ⟨.of (x1.sub _ _ q1),k _ F1 H1 x1 (.tup q1 q2 q3)⟩⟩
   | tupk q1=>cases h1; exact⟨_,_,rfl,.inr ⟨.inr q1,k _ F1 H1 x1 (.tupk q1)⟩⟩
   | lst q1 q2 q3=>cases h1; exact⟨_,_,rfl,.inl ⟨x1.sub.seq q1,new _ ⟨q2,q3⟩⟩⟩
   | dct _ _ _ _=>cases h1
   | fn _=>cases h1
   | non=>cases h1
   | bl _=>cases h1
   | int _=>cases h1
   | str _=>cases h1
  | ol q1 q2=>cases h1; exact⟨_,_,rfl,.inl ⟨.of q1,new _ q2⟩⟩
  | ok _ _ _=>cases h1
  | ot _ _ _=>cases h1
  | otl _ _ _ _=>cases h1
  | hd _ _ _ _=>cases h1
  | hf _=>cases h1
 ·cases h
theorem ZcC{K:Zyk}{F H F1 H1:Hp}{ds:List PyData}{vs:List V}{l:Addr}{P:V->Hp->Hp->Prop}(x1:Ext F H F1 H1)(q:Zq K F1 ds vs)(hl:H1 l=Z_)
  (k:∀v F' H',Ext F H F' H'->(∃fp,Z9 K F' H' (.ol ds) v fp/\fp.Nodup/\∀a∈fp,F' a=Z_/\H a=Z_)->P v F' H'):P (.ref l) F1 (upd H1 l (.lst vs)):=by
 refine k _ F1 _ (x1.lay' hl) ⟨[l],.ol Zx q,by simp,λa ha=>?_⟩;have:a=l:=by simpa using ha
 subst this;exact⟨x1.sub.free hl,x1.hh.free hl⟩
theorem ZlD(hm:X.mg "list" = Z_)(ha:XB X a f)(hg:Gl X "list":=by rfl)(hs:Zyz [a] X.env=[(ZDD,eval a X.env)]:=by rfl):XF X (.Call (.Name "list" p) [a] [] pos) (HM.Zja f):=by
 intro r d h;unfold HM.Zja at h;split at h
 ·rename_i x hx
  obtain⟨ds,h1,h2⟩:=Zyl.mp h;subst h2;refine PE.imp (Zcv ZnI hg hm Zuv (Zdr ha hx hs) (he:=hs)) λσ H Q ⟨F0,H0,F,at_,k⟩=>?_;refine⟨F0,H0,F,at_,λv fp F1 H1 x1 r1=>?_⟩;obtain⟨l,vs,e1,hq,rs⟩:=Zhx x1.sub r1 h1;subst e1;exact⟨l,vs,rfl,hq,λl' hl'=>ZcC (P:=λv _ H'=>Q v H') x1 rs hl' k⟩
 ·cases h
theorem ZhO{K:Zyk}{F:Hp}:∀{ds:List PyData} {vs:List V} {bs:List Bool},HM.Zds ds=Z bs->Zq K F ds vs->vs=bs.map V.bl
 | [],vs,bs,h,r=>by cases h;exact r.nil_inv
 | d::ds,vs,bs,h,r=>by
  obtain⟨v,us,rfl,r1,r2⟩:=r.cons_inv;cases d with
  | bool b=>obtain⟨bs',h1,h2⟩:=Zyl.mp h;subst h2;rw[r1.bool_inv,ZhO h1 r2];rfl
  | none=>cases h
  | int _=>cases h
  | str _=>cases h
  | list _=>cases h
  | tuple _=>cases h
  | dict _=>cases h
end
end HP
namespace HP
open PySem PySem.Spec PyProof.Rows L2
variable{p2:Pos}
variable[FX]
section
variable{X:Cx}{a b c e:Expr}{fa fb fc:HM.EF}{pos p:Pos}{f:HM.BF}
theorem ZjD:∀{bs:List Bool} {us:List Value},Vals (bs.map V.bl) us->LSm.BoolsAre us bs:=by
 intro bs
 induction bs with
 | nil=>intro us r; rw[ZA1]at r; cases r; exact .nil
 | cons b bs ih =>
  intro us r;rw[Zyv]at r;cases r with
  | cons r1 r2=>cases r1;exact .cons b (ih r2)
theorem ZrG{A:Around}{s:Shared}{l:Addr}{vs:List Value}{bs:List Bool}{dflt:Bool}(hh:A.handled=Z_)(hl:s.heap.IsList l vs.toArray)(hb:LSm.BoolsAre vs bs){E:Value->Shared->Prop}{Q:Value->Shared->Prop}{prog:Program}{w:World}
  (h:∀it fp wr (P:Nat->Value->Prop) St,Walks prog w A it fp wr vs.length P St->St 0 (s.heap.push { cls:=.type "list_iterator",data:=.fields #[.ref l,rawInt 0] })->TruthOf prog w A P (λi=>(bs[i]?).getD dflt)->wr=[s.heap.objs.size]->it=s.heap.objs.size->Q (.ref it) { s with heap:=s.heap.push { cls:=.type "list_iterator",data:=.fields #[.ref l,rawInt 0] } }) :
  wpAny (model prog w) A (pyIter (.ref l)) Q E s:=by
 have hlt:l<s.heap.objs.size:=let ⟨_,e,_⟩:=hl; ZyB e
 refine ZCw hl ?_;have W:=Walks.list (prog:=prog) (w:=w) hh s.heap.objs.size l (ZyG hlt) vs.toArray;rw[Zyu]at W;refine h _ _ _ _ _ W ⟨⟨_,ZyC _ rfl,rfl,rfl⟩,hl.push _⟩ (λi v s' Q' E' hP hQ=>?_) rfl rfl;obtain⟨b,e,rfl⟩:=hb.get i v (by simpa using hP);simp only[e,Option.getD_some]at hQ;exact ZAg hQ
theorem ZrX(hc:X.calm=ZDC):ZaE X (.builtin "all") (λxs H Q=>∃(p:Addr) (bs:List Bool),xs=[.ref p]/\SqL X.K H p (bs.map V.bl)/\Q (.bl (bs.all id)) H):=by intro pins s σ H xs us Q I r h;obtain⟨p,bs,rfl,hq,q⟩:=h;obtain⟨u,rfl,rx⟩:=vals1 r;cases rx;obtain⟨its,rv,pl,hz⟩:=I.list hq;have hb:=ZjD rv;refine call_all_walk (ZrG (dflt:=ZDC) (A:=X.A.in1) (I.ok.hd hc) pl.isList hb λit fp wr P St W st tr e1 e2=>?_);subst e1 e2;refine⟨_,_,_,_,P,St,_,rfl,W,st,tr,λh' tk hk=>?_⟩;rw[hb.length,LSm.range_all bs];exact⟨.bl _,H,I.kept (LSm.kept_iter hk),rfl,q⟩
theorem ZrT(hc:X.calm=ZDC):ZaE X (.builtin "any") (λxs H Q=>∃(p:Addr) (bs:List Bool),xs=[.ref p]/\SqL X.K H p (bs.map V.bl)/\Q (.bl (bs.any id)) H):=by intro pins s σ H xs us Q I r h;obtain⟨p,bs,rfl,hq,q⟩:=h;obtain⟨u,rfl,rx⟩:=vals1 r;cases rx;obtain⟨its,rv,pl,hz⟩:=I.list hq;have hb:=ZjD rv;refine call_any_walk (ZrG (dflt:=ZDD) (A:=X.A.in1) (I.ok.hd hc) pl.isList hb λit fp wr P St W st tr e1 e2=>?_);subst e1 e2;refine⟨_,_,_,_,P,St,_,rfl,W,st,tr,λh' tk hk=>?_⟩;rw[hb.length,LSm.range_any bs];exact⟨.bl _,H,I.kept (LSm.kept_iter hk),rfl,q⟩
theorem ZcE{K:Zyk}{F H:Hp}{q:HM.B}{v:V}{fp:List Addr}{ds:List PyData}(sub:Zp F H)(r:Z9 K F H q v fp)(h:HM.ZgX q=Z ds):∃a vs,v=.ref a/\SqL K H a vs/\Zq K F ds vs:=by
 cases r with
 | pl r =>
  cases r with
  | lst h1 h2 h3=>cases h; exact⟨_,_,rfl,sub.seq h1,h2,h3⟩
  | dct _ _ _ _=>cases h
  | fn _=>cases h
  | tupk _=>cases h
  | tup _ _ _=>cases h
  | non=>cases h
  | bl _=>cases h
  | int _=>cases h
  | str _=>cases h
 | ol h1 r=>cases h; exact⟨_,_,rfl,.of h1,r⟩
 | ok _ _ _=>cases h
 | hd _ _ _ _=>cases h
 | hf _=>cases h
 | ot _ _ _=>cases h
 | otl _ _ _ _=>cases h
theorem ZfA(hm:X.mg "all" = Z_)(hc:X.calm=ZDC)(ha:XB X a f)(hg:Gl X "all":=by rfl)(hs:Zyz [a] X.env=[(ZDD,eval a X.env)]:=by rfl):XE X (.Call (.Name "all" p) [a] [] pos) (HM.ZhI f):=by
 intro r d h;unfold HM.ZhI at h;split at h
 ·rename_i x hx
  split at h
  ·rename_i ds hds
   obtain⟨bs,h1,h2⟩:=Zyl.mp h;subst h2;refine PE.imp (Zcb (ZrX hc) hg hm Zwo (Zdr ha hx hs) (he:=hs)) λσ H Q ⟨F0,H0,F,at_,k⟩=>?_;refine⟨F0,H0,F,at_,λv fp F1 H1 x1 r1=>?_⟩;obtain⟨l,vs,e1,hq,rs⟩:=ZcE x1.sub r1 hds;rw[ZhO h1 rs]at hq;exact⟨l,bs,by rw[e1],hq,k _ F1 H1 x1 (.bl _)⟩
  ·cases h
 ·cases h
theorem Zu7(hm:X.mg "any" = Z_)(hc:X.calm=ZDC)(ha:XB X a f)(hg:Gl X "any":=by rfl)(hs:Zyz [a] X.env=[(ZDD,eval a X.env)]:=by rfl):XE X (.Call (.Name "any" p) [a] [] pos) (HM.Zlj f):=by
 intro r d h;unfold HM.Zlj at h;split at h
 ·rename_i x hx
  split at h
  ·rename_i ds hds
   obtain⟨bs,h1,h2⟩:=Zyl.mp h;subst h2;refine PE.imp (Zcb (ZrT hc) hg hm ZvZ (Zdr ha hx hs) (he:=hs)) λσ H Q ⟨F0,H0,F,at_,k⟩=>?_;refine⟨F0,H0,F,at_,λv fp F1 H1 x1 r1=>?_⟩;obtain⟨l,vs,e1,hq,rs⟩:=ZcE x1.sub r1 hds;rw[ZhO h1 rs]at hq;exact⟨l,bs,by rw[e1],hq,k _ F1 H1 x1 (.bl _)⟩
  ·cases h
 ·cases h
theorem ZnL{tyn:String}{t:HM.Ty}(hr:∀(s:Shared) (d:PyData) (v:V) (u:Value) (Q:Value->Shared->Prop),RelV v u->(∃(K:Zyk) (F:Hp),Rep K F d v)->(∀es,d≠.dict es)->(∀x,v=.ref x->∃o,s.heap.get? x=Z o/\((∃ds,d=.tuple ds/\o.cls=.type "tuple")\/(∃ds,d=.list ds/\o.cls=.type "list")\/∃ds,d=.dict ds/\o.cls=.type "dict")) ->
   (∀tk,Q (.bool (HM.ZiY t d)) { s with toks:=tk })->wpAny (model X.prog X.w) X.A (call (.builtin "isinstance") [u,.type tyn]) Q X.xe s) :
  ZaE X (.builtin "isinstance") (λxs H Q=>∃F d v,xs=[v,.ty tyn]/\Zp F H/\Rep X.K F d v/\(∀es,d≠.dict es)/\Q (.bl (HM.ZiY t d)) H):=by
 intro pins s σ H xs us Q I r h;obtain⟨F,d,v,rfl,sub,rp,nd,q⟩:=h;obtain⟨u,u',rfl,ru,ru'⟩:=vals2 r;cases(show u'=ZAo tyn from ru');refine hr s d v u _ ru ⟨_,_,rp⟩ nd (λx e=>?_) λtk=>⟨.bl _,H,I.tok tk,rfl,q⟩;subst e;cases rp with
 | tup h1 h2 h3=>obtain⟨its,rv,⟨o,ho,hc,n,hd⟩,_⟩:=I.tuple (.of (sub _ _ h1));exact⟨o,ho,.inl ⟨_,rfl,hc⟩⟩
 | tupk h1=>obtain⟨its,rv,⟨o,ho,hc,n,hd⟩,_⟩:=I.tuple (.inr h1);exact⟨o,ho,.inl ⟨_,rfl,hc⟩⟩
 | lst h1 h2 h3=>obtain⟨its,rv,⟨o,n,ho,hc,_,hd⟩,_⟩:=I.list (sub.seq h1);exact⟨o,ho,.inr (.inl ⟨_,rfl,hc⟩)⟩
 | @dct a es kvs vvs h1 _ _ _=>obtain⟨_,_,xs,_,o,es,ep,q1,q2,_⟩:=(show ZW X.prog X.w H s.heap x (.dT vvs) from Zkx I.hok (Zji h1 sub));exact⟨o,q1,.inr (.inr ⟨_,rfl,q2.1⟩)⟩
 | fn _=>exact absurd rfl (nd _)
theorem ZsJ:ZaE X (.builtin "isinstance") (λxs H Q=>∃F d v,xs=[v,.ty "bool"]/\Zp F H/\Rep X.K F d v/\(∀es,d≠.dict es)/\Q (.bl (HM.ZiY .bool d)) H):=by
 refine ZnL λs d v u Q ru ⟨K,F,rp⟩ nd ho k=>?_;cases rp with
 | non=>cases ru; exact IsiPair.NoneType_bool (k _)
 | bl _=>cases ru; exact IsiPair.bool_bool (k _)
 | int _=>obtain⟨t,rfl⟩:=ru; exact IsiPair.int_bool (k _)
 | str _=>obtain⟨t,rfl⟩:=ru; exact IsiPair.str_bool (k _)
 | tup _ _ _ | tupk _ =>
  cases ru;obtain⟨o,h1,⟨_,_,h2⟩ | ⟨_,e,_⟩ | ⟨_,e,_⟩⟩:=ho _ rfl
  ·exact IsiPair.tuple_bool h1 h2 (k _)
  ·cases e
  ·cases e
 | lst _ _ _ =>
  cases ru;obtain⟨o,h1,⟨_,e,_⟩ | ⟨_,_,h2⟩ | ⟨_,e,_⟩⟩:=ho _ rfl
  ·cases e
  ·exact IsiPair.list_bool h1 h2 (k _)
  ·cases e
 | dct _ _ _ _ =>
  cases ru;obtain⟨o,h1,⟨_,e,_⟩ | ⟨_,e,_⟩ | ⟨_,_,h2⟩⟩:=ho _ rfl
  ·cases e
  ·cases e
  ·exact IsiPair.dict_bool h1 h2 (k _)
 | fn _=>exact absurd rfl (nd _)
theorem Zuz:ZaE X (.builtin "isinstance") (λxs H Q=>∃F d v,xs=[v,.ty "int"]/\Zp F H/\Rep X.K F d v/\(∀es,d≠.dict es)/\Q (.bl (HM.ZiY .int d)) H):=by
 refine ZnL λs d v u Q ru ⟨K,F,rp⟩ nd ho k=>?_;cases rp with
 | non=>cases ru; exact IsiPair.NoneType_int (k _)
 | bl _=>cases ru; exact IsiPair.bool_int (k _)
 | int _=>obtain⟨t,rfl⟩:=ru; exact IsiPair.int_int (k _)
 | str _=>obtain⟨t,rfl⟩:=ru; exact IsiPair.str_int (k _)
 | tup _ _ _ | tupk _ =>
  cases ru;obtain⟨o,h1,⟨_,_,h2⟩ | ⟨_,e,_⟩ | ⟨_,e,_⟩⟩:=ho _ rfl
  ·exact IsiPair.tuple_int h1 h2 (k _)
  ·cases e
  ·cases e
 | lst _ _ _ =>
  cases ru;obtain⟨o,h1,⟨_,e,_⟩ | ⟨_,_,h2⟩ | ⟨_,e,_⟩⟩:=ho _ rfl
  ·cases e
  ·exact IsiPair.list_int h1 h2 (k _)
  ·cases e
 | dct _ _ _ _ =>
  cases ru;obtain⟨o,h1,⟨_,e,_⟩ | ⟨_,e,_⟩ | ⟨_,_,h2⟩⟩:=ho _ rfl
  ·cases e
  ·cases e
  ·exact IsiPair.dict_int h1 h2 (k _)
 | fn _=>exact absurd rfl (nd _)
theorem ZrA:ZaE X (.builtin "isinstance") (λxs H Q=>∃F d v,xs=[v,.ty "tuple"]/\Zp F H/\Rep X.K F d v/\(∀es,d≠.dict es)/\Q (.bl (HM.ZiY .tuple d)) H):=by
 refine ZnL λs d v u Q ru ⟨K,F,rp⟩ nd ho k=>?_;cases rp with
 | non=>cases ru; exact IsiPair.NoneType_tuple (k _)
 | bl _=>cases ru; exact IsiPair.bool_tuple (k _)
 | int _=>obtain⟨t,rfl⟩:=ru; exact IsiPair.int_tuple (k _)
 | str _=>obtain⟨t,rfl⟩:=ru; exact IsiPair.str_tuple (k _)
 | tup _ _ _ | tupk _ =>
  cases ru;obtain⟨o,h1,⟨_,_,h2⟩ | ⟨_,e,_⟩ | ⟨_,e,_⟩⟩:=ho _ rfl
  ·exact IsiPair.tuple_tuple h1 h2 (k _)
  ·cases e
  ·cases e
 | lst _ _ _ =>
  cases ru;obtain⟨o,h1,⟨_,e,_⟩ | ⟨_,_,h2⟩ | ⟨_,e,_⟩⟩:=ho _ rfl
  ·cases e
  ·exact IsiPair.list_tuple h1 h2 (k _)
  ·cases e
 | dct _ _ _ _ =>
  cases ru;obtain⟨o,h1,⟨_,e,_⟩ | ⟨_,e,_⟩ | ⟨_,_,h2⟩⟩:=ho _ rfl
  ·cases e
  ·cases e
  ·exact IsiPair.dict_tuple h1 h2 (k _)
 | fn _=>exact absurd rfl (nd _)
theorem ZmS{tyn:Str}{tys:String}{t:HM.Ty}(hR:ZaE X (.builtin "isinstance") (λxs H Q=>∃F d v,xs=[v,.ty tys]/\Zp F H/\Rep X.K F d v/\(∀es,d≠.dict es)/\Q (.bl (HM.ZiY t d)) H))(bt:Zzl tyn=Z (.type tys))
  (hm:X.mg "isinstance" = Z_) (hm2:X.mg tyn=Z_) (ha:XE X a fa) (hg:Gl X "isinstance") (hg2:Gl X tyn) (hn:tyn ≠ "__name__") (hd:(tyn==("__debug__":Str))=ZDD)
  (hs1:Zyz [a,.Name tyn p2] X.env=(ZDD,eval a X.env)::Zyz [.Name tyn p2] X.env) (hs2:Zyz [.Name tyn p2] X.env=[(ZDD,eval (.Name tyn p2) X.env)]):XE X (.Call (.Name "isinstance" p) [a,.Name tyn p2] [] pos) (HM.ZhN fa t):=by
 intro r d h;have key:∃x,fa r=Z x/\(∀es,x≠.dict es)/\d=.bool (HM.ZiY t x):=by
  unfold HM.ZhN at h;split at h
  ·cases h
  ·rename_i x hn hx
   cases h;exact⟨x,hx,λes z=>hn es (by rw[z]),rfl⟩
  ·cases h
 obtain⟨x,h1,nd,h2⟩:=key;subst h2;refine PE.imp (Zcb hR hg hm ZmA (Zaf (ha r x h1) (Zaf (ZuW (v:=.ty tys) hg2 hm2 bt rfl hn hd) Zbt (by rw[hs2]; rfl)) hs1) (he:=hs1) (hpl:=by rw[hs2]; rfl)) λσ H Q ⟨F0,H0,F,at_,k⟩=>?_;exact⟨F0,H0,F,at_,λv F1 H1 x1 r1=>⟨F1,x,v,rfl,x1.sub,r1,nd,k _ F1 H1 x1 (.bl _)⟩⟩
theorem ZoQ(hm:X.mg "isinstance" = Z_)(hm2:X.mg "bool" = Z_)(ha:XE X a fa)(hg:Gl X "isinstance":=by rfl)(hg2:Gl X "bool":=by rfl)(hs1:Zyz [a,.Name "bool" p2] X.env=(ZDD,eval a X.env)::Zyz [.Name "bool" p2] X.env:=by rfl) :
  XE X (.Call (.Name "isinstance" p) [a,.Name "bool" p2] [] pos) (HM.ZhN fa .bool):=ZmS ZsJ Zub hm hm2 ha hg hg2 (by decide) (by decide) hs1 rfl
theorem Zp8(hm:X.mg "isinstance" = Z_)(hm2:X.mg "int" = Z_)(ha:XE X a fa)(hg:Gl X "isinstance":=by rfl)(hg2:Gl X "int":=by rfl)(hs1:Zyz [a,.Name "int" p2] X.env=(ZDD,eval a X.env)::Zyz [.Name "int" p2] X.env:=by rfl) :
  XE X (.Call (.Name "isinstance" p) [a,.Name "int" p2] [] pos) (HM.ZhN fa .int):=ZmS Zuz Zny hm hm2 ha hg hg2 (by decide) (by decide) hs1 rfl
theorem Zid(hm:X.mg "isinstance" = Z_)(hm2:X.mg "tuple" = Z_)(ha:XE X a fa)(hg:Gl X "isinstance":=by rfl)(hg2:Gl X "tuple":=by rfl)(hs1:Zyz [a,.Name "tuple" p2] X.env=(ZDD,eval a X.env)::Zyz [.Name "tuple" p2] X.env:=by rfl) :
  XE X (.Call (.Name "isinstance" p) [a,.Name "tuple" p2] [] pos) (HM.ZhN fa .tuple):=ZmS ZrA ZjS hm hm2 ha hg hg2 (by decide) (by decide) hs1 rfl
theorem Zu8(hm:X.mg "max" = Z_)(hc:X.calm=ZDC)(ha:XE X a fa)(hb:XE X b fb)(hg:Gl X "max":=by rfl)(hs1:Zyz [a,b] X.env=(ZDD,eval a X.env)::Zyz [b] X.env:=by rfl)(hs2:Zyz [b] X.env=[(ZDD,eval b X.env)]:=by rfl) :
  XE X (.Call (.Name "max" p) [a,b] [] pos) (HM.op2 HM.Zvj fa fb):=by
 intro r d h;obtain⟨x,y,h1,h2,h3⟩:=Zg7 h;obtain⟨i,j,rfl,rfl,e⟩:=Zf3 h3;cases e;refine PE.imp (Zcb (ZrI hc) hg hm ZrS (Zaf (ha r _ h1) (Zaf (hb r _ h2) Zbt hs2) hs1) (he:=hs1) (hpl:=by rw[hs2]; rfl)) λσ H Q ⟨F0,H0,F,at_,k⟩=>?_;exact⟨F0,H0,F,at_,λv F1 H1 x1 r1=>⟨F0,H0,F1,at_.grow x1,λw F2 H2 x2 r2=>⟨i,j,by rw[r1.int_inv,r2.int_inv],k _ F2 H2 (x1.trans x2) (.int _)⟩⟩⟩
theorem Zu9(hm:X.mg "min" = Z_)(hc:X.calm=ZDC)(ha:XE X a fa)(hb:XE X b fb)(hg:Gl X "min":=by rfl)(hs1:Zyz [a,b] X.env=(ZDD,eval a X.env)::Zyz [b] X.env:=by rfl)(hs2:Zyz [b] X.env=[(ZDD,eval b X.env)]:=by rfl) :
  XE X (.Call (.Name "min" p) [a,b] [] pos) (HM.op2 HM.Zv8 fa fb):=by
 intro r d h;obtain⟨x,y,h1,h2,h3⟩:=Zg7 h;obtain⟨i,j,rfl,rfl,e⟩:=Zf3 h3;cases e;refine PE.imp (Zcb (Zsb hc) hg hm Zsq (Zaf (ha r _ h1) (Zaf (hb r _ h2) Zbt hs2) hs1) (he:=hs1) (hpl:=by rw[hs2]; rfl)) λσ H Q ⟨F0,H0,F,at_,k⟩=>?_;exact⟨F0,H0,F,at_,λv F1 H1 x1 r1=>⟨F0,H0,F1,at_.grow x1,λw F2 H2 x2 r2=>⟨i,j,by rw[r1.int_inv,r2.int_inv],k _ F2 H2 (x1.trans x2) (.int _)⟩⟩⟩
theorem ZsA(hm:X.mg "int" = Z_)(ha:XE X a fa)(hg:Gl X "int":=by rfl)(hs:Zyz [a] X.env=[(ZDD,eval a X.env)]:=by rfl):XE X (.Call (.Name "int" p) [a] [] pos) (HM.Zog fa):=by
 intro r d h;unfold HM.Zog at h;split at h
 ·rename_i i hi
  cases h;refine PE.imp (Zcv Zl5 hg hm Zny (Zaf (ha r _ hi) Zbt hs) (he:=hs)) λσ H Q ⟨F0,H0,F,at_,k⟩=>?_;exact⟨F0,H0,F,at_,λv F1 H1 x1 r1=>.inl ⟨i,by rw[r1.int_inv],k _ F1 H1 x1 (.int _)⟩⟩
 ·rename_i q hq
  cases h;refine PE.imp (Zcv Zl5 hg hm Zny (Zaf (ha r _ hq) Zbt hs) (he:=hs)) λσ H Q ⟨F0,H0,F,at_,k⟩=>?_;exact⟨F0,H0,F,at_,λv F1 H1 x1 r1=>.inr ⟨q,by rw[r1.bool_inv],k _ F1 H1 x1 (.int _)⟩⟩
 ·cases h
end
end HP
namespace HP
open PySem PySem.Spec PyProof.Rows L2
variable{ga:HM.BF}{r:HM.Env}{F F0 H H0:Hp}{σ:L2.St}{ds:List PyData}{vs:List V}{i:Nat}{p1 p2:Pos}{K:Zyk}{x:Str}
variable[FX]
section
variable{X:Cx}{a b c e:Expr}{fa fb fc:HM.EF}{pos p:Pos}{f:HM.BF}{tg:Expr}
theorem PI.imp{X:Cx}{tg e:Expr}{t u:TI}(h:PI X tg e t)(hi:∀σ H R,u σ H R->t σ H R):PI X tg e u:=λpins s σ H R I q=>h pins s σ H R I (hi σ H R q)
theorem Zwn{l:Expr}{tl:TE}(hl:PE X l tl):PI X tg l (λσ H R=>tl σ H λx H1=>∃a,x=.ref a/\((∃xs,SqL X.K H1 a xs)/\R (Itl X.K a) H1\/(∃xs,SqT X.K H1 a xs)/\R (Itt X.K a) H1)):=by
 intro pins s σ H R I h;refine thn (hl pins s σ H _ I h) λv s1 ⟨x,H1,I1,r1,q1⟩=>?_;obtain⟨a,e,q1⟩:=q1;subst e;cases r1;rcases q1 with⟨⟨xs,hq⟩,q⟩ | ⟨⟨xs,hq⟩,q⟩
 ·obtain⟨its,rv,p,hz⟩:=I1.list hq
  refine ZCw p.isList ⟨s1.heap.objs.size,[s1.heap.objs.size],_,_,H1,rfl,I1.kept (t':=s1.toks) λb o e=>Zyn _ e,Zr7 a _,⟨_,ZyC _ rfl,rfl,rfl⟩,λb hb=>?_,q⟩;obtain rfl:b=s1.heap.objs.size:=by simpa using hb
  exact I1.fpOk (Zyr _) (I1.hok.fresh (Zyr _))
 ·obtain⟨its,rv,p,hz⟩:=I1.tuple hq
  refine wpAny_pyIter_tuple (show s1.heap.IsTuple a its.toArray from p) ⟨s1.heap.objs.size,[s1.heap.objs.size],_,_,H1,rfl,I1.kept (t':=s1.toks) λb o e=>Zyn _ e,Zq7 a _,⟨_,ZyC _ rfl,rfl,rfl⟩,λb hb=>?_,q⟩;obtain rfl:b=s1.heap.objs.size:=by simpa using hb
  exact I1.fpOk (Zyr _) (I1.hok.fresh (Zyr _))
theorem Zs5{a:Addr}(h:SqL K F a vs)(r:Zq K F ds vs):ItD K (Itl K a) ds F:=by intro F' H s1 s2;have hq:SqL K H a vs:=(s1.trans s2).seq h;refine⟨λi d hd=>?_,⟨vs,hq,by rw[r.1]; exact Zyr _⟩⟩;obtain⟨v,h1,h2⟩:=r.get hd;refine⟨⟨vs,v,hq,h1⟩,λx H' hy=>?_⟩;obtain⟨e,y⟩:=hy;refine⟨e,?_⟩;have:=y vs hq;rw[h1]at this;cases this;exact h2.mono (s1.trans (Zdi s2))
theorem ZtN{a:Addr}(h:SqT K F a vs)(r:Zq K F ds vs):ItD K (Itt K a) ds F:=by intro F' H s1 s2;have hq:SqT K H a vs:=Zhy h (s1.trans s2);refine⟨λi d hd=>?_,⟨vs,hq,by rw[r.1]; exact Zyr _⟩⟩;obtain⟨v,h1,h2⟩:=r.get hd;refine⟨⟨vs,v,hq,h1⟩,λx H' hy=>?_⟩;obtain⟨e,y⟩:=hy;refine⟨e,?_⟩;have:=y vs hq;rw[h1]at this;cases this;exact h2.mono (s1.trans (Zdi s2))
theorem ZuS{a:Addr}(h:F a=Z (.tup vs))(r:Zq K F ds vs):ItD K (Itt K a) ds F:=by intro F' H s1 s2;have hq:SqT K H a vs:=.of (s2 _ _ (s1 _ _ h));refine⟨λi d hd=>?_,⟨vs,hq,by rw[r.1]; exact Zyr _⟩⟩;obtain⟨v,h1,h2⟩:=r.get hd;refine⟨⟨vs,v,hq,h1⟩,λx H' hy=>?_⟩;obtain⟨e,y⟩:=hy;refine⟨e,?_⟩;have:=y vs hq;rw[h1]at this;cases this;exact h2.mono (s1.trans (Zdi s2))
theorem Z6(h:XE X e fa):XI X tg e (HM.ZP (HM.bOf fa)):=by
 intro r ds hd;unfold HM.ZP HM.bOf at hd;cases hx:fa r with
 | none=>rw[hx]at hd; cases hd
 | some d =>
  rw[hx]at hd;have hd:HM.ZdI (.pl d)=Z ds:=hd;refine PI.imp (Zwn (h r d hx)) λσ H R ⟨F0,H0,F,at_,k⟩=>?_;refine⟨F0,H0,F,at_,λv F1 H1 x1 r1=>?_⟩;cases r1 with
  | @tupk a x h1=>cases hd;exact⟨a,rfl,.inr ⟨⟨_,.inr h1⟩,k _ F1 H1 x1 (ZtN (.inr h1) (.one (.str x)))⟩⟩
  | @tup a ds' vs h1 h2 h3=>cases hd;exact⟨a,rfl,.inr ⟨⟨vs,.of (x1.sub _ _ h1)⟩,k _ F1 H1 x1 (ZuS h1 ⟨h2,h3⟩)⟩⟩
  | @lst a ds' vs h1 h2 h3=>cases hd;exact⟨a,rfl,.inl ⟨⟨vs,x1.sub.seq h1⟩,k _ F1 H1 x1 (Zs5 h1 ⟨h2,h3⟩)⟩⟩
  | dct _ _ _ _=>cases hd
  | fn _=>cases hd
  | non=>cases hd
  | bl _=>cases hd
  | int _=>cases hd
  | str _=>cases hd
theorem ZuY(lo:Int)(n:Nat):ItD K (Itr lo n) (HM.ZcK lo n) F:=by
 intro F' H s1 s2;have hl:(HM.ZcK lo n).length=n:=by unfold HM.ZcK; rw[Zyj,ZzZ]
 refine⟨λi d hd=>?_,?_⟩
 ·have hi:i<n:=by rw[<-hl]; exact(Zyw.mp hd).1
  unfold HM.ZcK at hd;rw[ZyI,List.getElem?_range hi]at hd;cases hd;exact⟨hi,λx H' ⟨e1,e2⟩=>⟨e1,by rw[e2]; exact .int _⟩⟩
 ·rw[hl]; exact Zyr _
theorem Zpz{j:Int}(h:HM.okR j=ZDC):-1000000<j/\j<1000000:=by unfold HM.okR at h;rw[ZBm]at h;omega
theorem Zct(hm:X.mg "range" = Z_)(ha:XE X a fa)(hg:Gl X "range":=by rfl)(hs:Zyz [a] X.env=[(ZDD,eval a X.env)]:=by rfl):XI X tg (.Call (.Name "range" p) [a] [] pos) (HM.ZbV fa):=by
 intro r ds hd;unfold HM.ZbV at hd;split at hd
 ·rename_i j hj
  split at hd
  ·rename_i hok
   cases hd;obtain⟨k1,k2⟩:=Zpz hok;refine PI.imp (Zru hg hm (Zaf (ha r _ hj) Zbt hs) hs) λσ H R ⟨F0,H0,F,at_,k⟩=>?_;exact⟨F0,H0,F,at_,λv F1 H1 x1 r1=>⟨j,by rw[r1.int_inv],by omega,by omega,k _ F1 H1 x1 (ZuY 0 j.toNat)⟩⟩
  ·cases hd
 ·cases hd
theorem Zrc{gb:HM.BF}(ha:XB X a ga)(hb:XB X b gb):XF X (.BinOp a .Add b pos) (HM.ZqX ga gb):=by
 intro r d h;unfold HM.ZqX at h;split at h
 ·rename_i xs hx
  split at h
  ·rename_i ys hy
   split at h
   ·rename_i hz
    cases h;refine PE.imp (ZkA Zvu (ha r _ hx) (hb r _ hy)) λσ H Q ⟨F0,H0,F,at_,k⟩=>?_;refine⟨F0,H0,F,at_,λv F1 H1 x1 ⟨fp,r1⟩=>⟨F0,H0,F1,at_.grow x1,λw F2 H2 x2 ⟨fq,r2⟩=>?_⟩⟩;cases r1 with
    | ol h1 q1 =>
     cases r2 with
     | ol h2 q2 =>
      have q1':=q1.mono x2.ff;refine⟨_,_,_,_,rfl,rfl,x2.hh _ _ h1,h2,?_,λl hl=>ZcC (P:=λv _ H'=>Q v H') (x1.trans x2) (q1'.append q2) hl k⟩;have e1:=q1.1;have e2:=q2.1;have e3:(1000000:Nat)<=sizeLine:=by decide
      unfold HM.big at hz;omega
   ·cases h
  ·cases h
 ·cases h
theorem Zva(ha:XB X a ga)(hb:XE X b fb):XF X (.BinOp a .Mult b pos) (HM.Ztg ga fb):=by
 intro r d h;unfold HM.Ztg at h;split at h
 ·rename_i xs hx
  split at h
  ·rename_i i hy
   split at h
   ·rename_i hz
    cases h;rw[ZyE,decide_eq_true_eq,decide_eq_true_eq]at hz;refine PE.imp (ZkA ZvC (ha r _ hx) (hb r _ hy)) λσ H Q ⟨F0,H0,F,at_,k⟩=>?_;refine⟨F0,H0,F,at_,λv F1 H1 x1 ⟨fp,r1⟩=>⟨F0,H0,F1,at_.grow x1,λw F2 H2 x2 r2=>?_⟩⟩;cases r1 with
    | ol h1 q1 =>
     have q1':=q1.mono x2.ff;refine⟨_,i,_,rfl,r2.int_inv,x2.hh _ _ h1,by omega,by omega,?_,λl hl=>ZcC (P:=λv _ H'=>Q v H') (x1.trans x2) (q1'.rep i.toNat) hl k⟩;have e1:=q1.1;have e3:(1000*1000:Nat)<=sizeLine:=by decide
     refine Zy2 (Nat.mul_le_mul (?_:_<=1000) (?_:_<=1000)) e3<;>omega
   ·cases h
  ·cases h
 ·cases h
def XO(X:Cx)(e:Option Expr)(f:Option HM.EF):Prop:=∀r o,HM.Zlx f r=Z o->PO X e λσ H Q=>Now X.K r σ H λF0 H0 F=>∀F' H',Ext F H F' H'->Q o H'
theorem Zg8:XO X Z_ Z_:=by intro r o h;cases h;intro pins s σ H Q I q;obtain⟨F0,H0,F,at_,k⟩:=q;exact ZuB pins s σ H Q I (k F H at_.refl)
theorem Zhf(h:XE X e fa):XO X (Z e) (Z fa):=by
 intro r o ho;unfold HM.Zlx at ho;split at ho
 ·rename_i z; cases z
 ·rename_i g z
  cases z;split at ho
  ·rename_i i hi
   cases ho;intro pins s σ H Q I q;obtain⟨F0,H0,F,at_,k⟩:=q;exact ZuT (h r _ hi) pins s σ H Q I ⟨F0,H0,F,at_,λv F1 H1 x1 r1=>⟨i,r1.int_inv,k F1 H1 x1⟩⟩
  ·cases ho
theorem Zvb{lo hi:Option Expr}{fl fh:Option HM.EF}(ha:XB X a ga)(hl:XO X lo fl)(hh:XO X hi fh):XF X (.Subscript a (.Slice lo hi Z_ p2) pos) (HM.Ztk ga fl fh):=by
 intro r d h;unfold HM.Ztk at h;split at h
 ·rename_i x hx
  split at h
  ·rename_i xs hxs
   split at h
   ·rename_i l hl'
    split at h
    ·rename_i u hu'
     cases h;refine PE.imp (ZnJ Zu4 (ha r _ hx) (hl r _ hl') (hh r _ hu')) λσ H Q ⟨F0,H0,F,at_,k⟩=>?_;refine⟨F0,H0,F,at_,λv F1 H1 x1 ⟨fp,r1⟩=>⟨F0,H0,F1,at_.grow x1,λF2 H2 x2=>⟨F0,H0,F2,(at_.grow x1).grow x2,λF3 H3 x3=>?_⟩⟩⟩;have x23:=x2.trans x3;obtain⟨l',vs,e1,hq,rs⟩:=ZcE x3.sub (r1.mono x23.ff λ_ _ _ z=>x23.hh _ _ z) hxs;refine⟨l',vs,e1,hq,λl2 hl2=>ZcC (P:=λv _ H'=>Q v H') (x1.trans x23) ?_ hl2 k⟩;unfold HM.cutD ZgO;rw[<-rs.1];exact(rs.drop _).take _
    ·cases h
   ·cases h
  ·cases h
 ·cases h
theorem Za7.val{fp:Nat->List Addr}(e:Za7 K F0 H0 F H r σ fp)(h:r[i]?=Z (Z (.ol ds))) :
  ∃l vs,σ[i]?=Z (Z (.ref l))/\H l=Z (.lst vs)/\Zq K F ds vs/\fp i=[l]:=by
 obtain⟨v,h1,h2⟩:=e.at_ i _ h;generalize hf:fp i=q at h2;cases h2 with
 | ol k1 k2=>exact⟨_,_,h1,k1,k2,rfl⟩
theorem At.chgList{es:List PyData}(e:At K F0 H0 F H r σ)(h:r[i]?=Z (Z (.ol ds))) :
  ∃l vs,σ[i]?=Z (Z (.ref l))/\H l=Z (.lst vs)/\Zq K F ds vs/\∀us,Zq K F es us->At K F0 H0 F (upd H l (.lst us)) (r.set i (Z (.ol es))) σ:=by
 obtain⟨fp,e⟩:=e;obtain⟨l,vs,h1,h2,h3,h4⟩:=e.val h;refine⟨l,vs,h1,h2,h3,λus q=>e.change (fp':=[l]) h1 (.ol Zx q) (by simp) (λa ha=>.inl (by rw[h4]; exact ha)) λa o z hn=>?_⟩;rw[Zy (λz=>hn (by rw[h4,z]; simp))];exact z
theorem ZdN(i:Nat){p3:Pos}(ha:XE X a fa)(hN:X.N[i]?=Z x:=by rfl)(hv:Vis X.env.scope x:=by first | exact Zzq rfl | exact ZyX (Zzq rfl) | exact ZyX (ZyX rfl))(hd:(x==("__debug__":Str))=ZDD:=by decide)(hcd:(x==("__classdict__":Str))=ZDD:=by decide)
  (hbase:ZAS (.Name x p1) "append" X.env (eval (.Name x p1) X.env)=eval (.Name x p1) X.env:=by rfl)
  (hfew:((backTo p3 (Zyz [a] X.env)).all (λx=>!x.1)&&(backToKw p3 (ZCi [] X.env)).all (λx=>x.1.isSome)&&decide (([a]:List Expr).length+([]:List Keyword).length+(if([]:List Keyword).isEmpty then 0 else 1)<30))=ZDC:=by rfl)
  (hline:(p2.endLine==p3.line)=ZDC:=by rfl) (hs:Zyz [a] X.env=[(ZDD,eval a X.env)]:=by rfl):XS X (.Expr (.Call (.Attribute (.Name x p1) "append" p2) [a] [] p3) pos) (HM.ZdQ i fa):=by
 intro r o h;unfold HM.ZdQ at h;split at h
 ·rename_i ds hds
  split at h
  ·rename_i d hd'
   split at h
   ·rename_i hz
    cases h;refine PS.imp (Zjc (ZqB ZAN ZCP ZCQ Ziw (Zco hN hv hd hcd) (Zaf (ha r d hd') Zbt hs) hbase hfew hline hs rfl)) λE σ H ⟨F0,H0,F,at_,k⟩=>?_;obtain⟨l,vs,e1,e2,e3,_⟩:=at_.chgList (es:=ds) hds;refine⟨.ref l,e1,.inl ⟨rfl,_,SqL.of e2⟩,F0,H0,F,at_,λv F1 H1 x1 r1=>?_⟩;have at1:=at_.grow x1;obtain⟨l',vs',f1,f2,f3,f4⟩:=at1.chgList (es:=ds++[d]) hds;rw[e1]at f1;cases f1;refine⟨_,vs',v,rfl,rfl,f2,?_,k _ F1 _ (f4 _ (f3.append (.one r1)))⟩;have e4:=f3.1;have e5:(1000000:Nat)<=sizeLine:=by decide
    unfold HM.big at hz;omega
   ·cases h
  ·cases h
 ·cases h
theorem Zt2(i:Nat)(hk:XE X b fb)(ha:XE X a fa)(hN:X.N[i]?=Z x:=by rfl)(hv:Vis X.env.scope x:=by first | exact Zzq rfl | exact ZyX (Zzq rfl) | exact ZyX (ZyX rfl))(hd:(x==("__debug__":Str))=ZDD:=by decide)(hcd:(x==("__classdict__":Str))=ZDD:=by decide)
  (hsub:∀v,assign (.Subscript (.Name x p1) b p2) X.env v=(do
   let ov <-holding [v] (eval (.Name x p1) X.env)
   let iv <-holding [v,ov] (eval b X.env)
   standAt p2
   holding [v,ov,iv] (setItem ov iv v)
   release [v,ov,iv] []):=by intro _; rfl)
  (hs:swapsWithSole [.Subscript (.Name x p1) b p2] a pos.line X.env=pure ZDD:=by rfl) (hw:swappedStores [.Subscript (.Name x p1) b p2] a X.env=pure Z_:=by rfl)
  (h1:(assignEach [.Subscript (.Name x p1) b p2] X.env).map (·.2)=[assign (.Subscript (.Name x p1) b p2) X.env]:=by rfl):XS X (.Assign [.Subscript (.Name x p1) b p2] a pos) (HM.Zq4 i fb fa):=by
 intro r o h;unfold HM.Zq4 at h;split at h
 ·rename_i d hd'
  split at h
  ·rename_i ds hds
   split at h
   ·rename_i n hn
    split at h
    ·rename_i j hj
     cases h;refine PS.imp (Zvt (ha r d hd') (Zvw (Zco hN hv hd hcd) (hk r _ hn) set_list hsub) hs hw h1) λE σ H ⟨F0,H0,F,at_,k⟩=>?_;refine⟨F0,H0,F,at_,λv F1 H1 x1 r1=>?_⟩;have at1:=at_.grow x1;obtain⟨l,vs,e1,e2,e3,_⟩:=at1.chgList (es:=ds) hds;refine⟨.ref l,e1,F0,H0,F1,at1,λw F2 H2 x2 r2=>?_⟩;obtain⟨l',vs',f1,f2,f3,f4⟩:=(at1.grow x2).chgList (es:=ds.set j d) hds;rw[e1]at f1;cases f1;refine⟨_,vs',n,j,rfl,r2.int_inv,f2,?_,k _ F2 _ (f4 _ (f3.set (r1.mono x2.ff) j))⟩;rw[<-f3.1];exact hj
    ·cases h
   ·cases h
  ·cases h
 ·cases h
end
end HP
namespace HP
open PySem PySem.Spec PyProof.Rows L2
variable[FX]
section
variable{K:Zyk}{F:Hp}{κ:Type}[DecidableEq κ]
def ZaH(K:Zyk)(F:Hp)(kvs:List (κ × PyData))(vvs:List (κ × V)):Prop:=kvs.map (·.1)=vvs.map (·.1)/\Zq K F (kvs.map (·.2)) (vvs.map (·.2))
theorem ZaH.nil:ZaH K F ([]:List (κ × PyData)) []:=⟨rfl,.nil⟩
theorem ZaH.cons{k:κ}{d:PyData}{v:V}{kvs:List (κ × PyData)}{vvs:List (κ × V)}(r:Rep K F d v)(q:ZaH K F kvs vvs):ZaH K F ((k,d)::kvs) ((k,v)::vvs) :=
 ⟨by rw[Zyv,Zyv,q.1],by rw[Zyv,Zyv]; exact .cons r q.2⟩
theorem ZaH.inv{kvs:List (κ × PyData)}{vvs:List (κ × V)}(q:ZaH K F kvs vvs):(kvs=[]/\vvs=[])\/∃k d v kvs' vvs',kvs=(k,d)::kvs'/\vvs=(k,v)::vvs'/\Rep K F d v/\ZaH K F kvs' vvs':=by
 cases kvs with
 | nil =>
  cases vvs with
  | nil=>exact .inl ⟨rfl,rfl⟩
  | cons p r=>exact absurd q.1 (by simp)
 | cons p kvs' =>
  cases vvs with
  | nil=>exact absurd q.1 (by simp)
  | cons p' vvs' =>
   obtain⟨k,d⟩:=p;obtain⟨k',v⟩:=p';obtain⟨q1,q2⟩:=q;rw[Zyv,Zyv]at q1 q2;injection q1 with e1 e2
   have e1:k=k':=e1;subst e1;obtain⟨v',us,e3,r1,r2⟩:=q2.cons_inv;injection e3 with e3 e4
   refine .inr ⟨k,d,v,kvs',vvs',rfl,rfl,?_,e2,?_⟩
   ·rw[show v=v' from e3]; exact r1
   ·rw[e4]; exact r2
theorem ZaH.len{kvs:List (κ × PyData)}{vvs:List (κ × V)}(q:ZaH K F kvs vvs):kvs.length=vvs.length:=by
 have:=congrArg Zy8 q.1
 rwa [Zyj,Zyj]at this
theorem ZaH.any{kvs:List (κ × PyData)}{vvs:List (κ × V)}(k:κ)(q:ZaH K F kvs vvs):(kvs.any λp=>decide (p.1=k))=vvs.any λp=>decide (p.1=k):=by
 have e:∀{β:Type} (l:List (κ × β)),(l.any λp=>decide (p.1=k))=(l.map (·.1)).any λx=>decide (x=k):=λl=>by rw[ZDz]; rfl
 rw[e,e,q.1]
theorem ZaH.repl{d:PyData}{v:V}(k:κ)(r:Rep K F d v):∀{kvs:List (κ × PyData)} {vvs:List (κ × V)},ZaH K F kvs vvs->ZaH K F (kvs.map λp=>if p.1=k then(p.1,d)else p) (vvs.map λp=>if p.1=k then(p.1,v)else p)
 | [],vvs,q=>by
  rcases q.inv with⟨_,e⟩ | ⟨_,_,_,_,_,e,_⟩
  ·subst e; exact .nil
  ·cases e
 | p::kvs,vvs,q=>by
  rcases q.inv with⟨e,_⟩ | ⟨k',d',v',kvs',vvs',e1,e2,r1,r2⟩
  ·cases e
  ·cases e1
   subst e2;have ih:=ZaH.repl k r r2;rw[Zyv,Zyv]
   by_cases h:k'=k
   ·rw[if_pos h,if_pos h]; exact .cons r ih
   ·rw[if_neg h,if_neg h]; exact .cons r1 ih
theorem ZaH.snoc{kvs:List (κ × PyData)}{vvs:List (κ × V)}{k:κ}{d:PyData}{v:V}(q:ZaH K F kvs vvs)(r:Rep K F d v):ZaH K F (kvs++[(k,d)]) (vvs++[(k,v)]) :=
 ⟨by rw[ZyR,ZyR,q.1]; rfl,by rw[ZyR,ZyR]; exact q.2.append (.one r)⟩
theorem ZaH.put{kvs:List (κ × PyData)}{vvs:List (κ × V)}{d:PyData}{v:V}(q:ZaH K F kvs vvs)(k:κ)(r:Rep K F d v):ZaH K F (HM.putD kvs k d) (putK vvs k v):=by
 unfold HM.putD putK;rw[q.any k]
 by_cases h:(vvs.any λp=>decide (p.1=k))=ZDC
 ·rw[if_pos h,if_pos h]; exact q.repl k r
 ·rw[if_neg h,if_neg h]; exact q.snoc r
theorem ZaH.look{k:κ}:∀{kvs:List (κ × PyData)} {vvs:List (κ × V)},ZaH K F kvs vvs->(∀d,HM.Zn kvs k=Z d->∃v,Zay vvs k=Z v/\Rep K F d v)/\(HM.Zn kvs k=Z_->Zay vvs k=Z_)
 | [],vvs,q=>by
  rcases q.inv with⟨_,e⟩ | ⟨_,_,_,_,_,e,_⟩
  ·subst e; exact⟨λd h=>(by cases h),λ_=>rfl⟩
  ·cases e
 | p::kvs,vvs,q=>by
  rcases q.inv with⟨e,_⟩ | ⟨k',d',v',kvs',vvs',e1,e2,r1,r2⟩
  ·cases e
  ·cases e1
   subst e2;obtain⟨i1,i2⟩:=ZaH.look (k:=k) r2
   by_cases h:k'=k
   ·have e3:HM.Zn ((k',d')::kvs) k=Z d':=by simp[HM.Zn,Zzo,h]
    rw[e3,ZdM (p:=(k',v')) h];exact⟨λd hd=>(by cases hd; exact⟨v',rfl,r1⟩),λhd=>by cases hd⟩
   ·have e3:HM.Zn ((k',d')::kvs) k=HM.Zn kvs k:=by simp[HM.Zn,Zzo,h]
    rw[e3,ZdF (p:=(k',v')) h];exact⟨i1,i2⟩
theorem ZaH.some_iff{k:κ}{kvs:List (κ × PyData)}{vvs:List (κ × V)}(q:ZaH K F kvs vvs):(Zay vvs k).isSome=(HM.Zn kvs k).isSome:=by
 obtain⟨i1,i2⟩:=q.look (k:=k);cases h:HM.Zn kvs k with
 | none=>rw[i2 h]; rfl
 | some d=>obtain⟨v,h1,_⟩:=i1 d h; rw[h1]; rfl
end
section
variable{K:Zyk}{F:Hp}
theorem ZhC{d:PyData}{k:Key}{v:V}(h:HM.ZiE d=Z k)(r:Rep K F d v):v=kV k:=by cases r<;>first | (cases h; rfl) | cases h
theorem ZlI:∀{ds:List PyData} {ks:List Key} {vs:List V},HM.Zgo ds=Z ks->Zq K F ds vs->vs=ks.map kV
 | [],ks,vs,h,r=>by cases h; exact r.nil_inv
 | d::ds,ks,vs,h,r=>by
  obtain⟨v,us,rfl,r1,r2⟩:=r.cons_inv;unfold HM.Zgo at h;split at h
  ·rename_i k hk
   obtain⟨ks',h1,h2⟩:=Zyl.mp h;subst h2;rw[ZhC hk r1,ZlI h1 r2];rfl
  ·cases h
theorem ZpT:∀{ds:List PyData} {ks:List Key},HM.Zlh ds=Z ks->HM.Zgo ds=Z ks
 | [],ks,h=>h
 | d::ds,ks,h=>by
  unfold HM.Zlh at h;split at h
  ·cases ‹_=[]›
  ·rename_i i r e
   injection e with e1 e2
   subst e1 e2;obtain⟨ks',h1,h2⟩:=Zyl.mp h;subst h2;show(match HM.ZiE (.int i)with | some k=>(HM.Zgo ds).map (k::·) | none=>Z_)=_;rw[ZpT h1];rfl
  ·cases h
theorem ZdL{d:PyData}{ks:List Key}{v:V}(h:HM.ZbR d=Z ks)(r:Rep K F d v):∃b,v=.ref b/\F b=Z (.tup (ks.map kV)):=by
 cases r with
 | tup h1 h2 h3=>refine⟨_,rfl,?_⟩;rw[<-ZlI (ZpT h) ⟨h2,h3⟩];exact h1
 | tupk _=>cases h
 | lst _ _ _=>cases h
 | dct _ _ _ _=>cases h
 | fn _=>cases h
 | non=>cases h
 | bl _=>cases h
 | int _=>cases h
 | str _=>cases h
end
section
variable{X:Cx}{a b c e:Expr}{fa fb fc:HM.EF}{pos p:Pos}{f:HM.BF}
theorem fresh_one{K:Zyk}{F H F1 H1:Hp}{o:HO}{q:HM.B}{l:Addr}{P:V->Hp->Hp->Prop}(x1:Ext F H F1 H1)(hl:H1 l=Z_)(hq:Z9 K F1 (upd H1 l o) q (.ref l) [l])
  (k:∀v F' H',Ext F H F' H'->(∃fp,Z9 K F' H' q v fp/\fp.Nodup/\∀a∈fp,F' a=Z_/\H a=Z_)->P v F' H'):P (.ref l) F1 (upd H1 l o):=by
 refine k _ F1 _ (x1.lay' hl) ⟨[l],hq,by simp,λa ha=>?_⟩;obtain rfl:a=l:=by simpa using ha
 exact⟨x1.sub.free hl,x1.hh.free hl⟩
theorem ZwG:XF X (.Dict [] [] pos) HM.fDk:=by intro r d h;cases h;exact PE.imp Zs6 λσ H Q ⟨F0,H0,F,at_,k⟩ l hl=>fresh_one (P:=λv _ H'=>Q v H') at_.refl hl (.ok Zx rfl .nil) k
theorem Zp9:XF X (.Dict [] [] pos) HM.fDt:=by intro r d h;cases h;exact PE.imp Zoh λσ H Q ⟨F0,H0,F,at_,k⟩ l hl=>fresh_one (P:=λv _ H'=>Q v H') at_.refl hl (.ot Zx rfl .nil) k
theorem Zvc:XF X (.Dict [] [] pos) HM.Zwh:=by intro r d h;cases h;exact PE.imp Zoh λσ H Q ⟨F0,H0,F,at_,k⟩ l hl=>fresh_one (P:=λv _ H'=>Q v H') at_.refl hl (.otl Zx rfl rfl λi ds l' h=>by simp at h) k
theorem ZsB(ha:XE X a fa)(hb:XE X b fb):XF X (.Dict [Z a] [b] pos) (HM.Zop fa fb):=by
 intro r d h;unfold HM.Zop at h;split at h
 ·rename_i x hx
  split at h
  ·rename_i y hy
   split at h
   ·rename_i k hk
    cases h;refine PE.imp (Zuw (ZsY (ha r x hx) (hb r y hy) Zt8) rfl rfl (by simp) (by simp)) λσ H Q ⟨F0,H0,F,at_,kk⟩ l hl=>?_;have hFl:F l=Z_:=at_.sub.free hl;have x0:Ext F H F (upd H l (.dK [])):=at_.refl.lay' hl;refine⟨F0,H0,F,at_.grow x0,λv F1 H1 x1 r1=>⟨F0,H0,F1,(at_.grow x0).grow x1,λw F2 H2 x2 r2=>?_⟩⟩;have x12:=x1.trans x2;have hl2:H2 l=Z (.dK []):=x12.hh l _ Zx;have hF2:F2 l=Z_:=by
     cases q:F2 l with
     | none=>rfl
     | some o =>
      rcases x12.new l o q with z | z
      ·rw[hFl]at z; cases z
      ·exact(z.no Zx λ_ q=>by cases q).elim
    refine⟨hl2,[(k,w)],?_,by simp,?_⟩
    ·rw[ZhC hk r1]
     rfl
    have xe:Ext F H F2 (upd H2 l (.dK (Zg6 [] [(k,w)]))):=by
     refine⟨x12.ff,λc o z=>?_,λc o z=>?_,λc o z=>?_,λt=>(x12.tab (t.same (ZjO hl))).keep λa u z hu=>?_,x12.nts⟩
     ·have hc:c≠l:=Zak z hl
      exact(x12.hh c o (by rw[Zy hc]; exact z)).cong (Zy hc)
     ·rw[Zy (λe=>by rw[e,hF2]at z; cases z)]
      exact x12.sub c o z
     ·rcases x12.new c o z with q | q
      ·exact .inl q
      ·exact .inr (q.back (.of (Zp.upd' hl)))
     ·rw[Zy (λe=>by subst e; rw[hl2]at z; cases z; cases hu)]; exact z
    refine kk _ F2 _ xe ⟨[l],.ok Zx rfl (.one r2),by simp,λc hc=>?_⟩;obtain rfl:c=l:=by simpa using hc
    exact⟨hF2,hl⟩
   ·cases h
  ·cases h
 ·cases h
end
end HP
namespace HP
open PySem PySem.Spec PyProof.Rows L2
variable{q:HM.B}{r:HM.Env}{F H:Hp}{i:Nat}{p1:Pos}{K:Zyk}{x:Str}
variable[FX]
theorem At.chgOne{F0 H0:Hp}{σ:L2.St}{l:Addr}(e:At K F0 H0 F H r σ)(h:r[i]?=Z (Z q))(hv:σ[i]?=Z (Z (.ref l)))(hone:∀v fp,Z9 K F H q v fp->∃a,v=.ref a/\fp=[a]) :
  ∀o q',Z9 K F (upd H l o) q' (.ref l) [l]->At K F0 H0 F (upd H l o) (r.set i (Z q')) σ:=by
 intro o q' hq;obtain⟨fp,e⟩:=e;obtain⟨v,h1,h2⟩:=e.at_ i _ h;obtain⟨a,e1,e2⟩:=hone v _ h2;subst e1;rw[hv]at h1;cases h1;refine e.change (fp':=[l]) hv hq (by simp) (λc hc=>.inl (by rw[e2]; exact hc)) λc o' z hn=>?_;rw[Zy (λz=>hn (by rw[e2,z]; simp))];exact z
section
variable{X:Cx}{a b c e:Expr}{fa fb fc:HM.EF}{pos p:Pos}{f:HM.BF}
theorem Zg4{n:Nat}(h:n<HM.big):n<sizeLine:=by
 have e5:(1000000:Nat)<=sizeLine:=by decide
 unfold HM.big at h;omega
theorem Zie(hu:X.A.units+1<cLine)(i:Nat){p2:Pos}(hk:XE X b fb)(ha:XE X a fa)(hN:X.N[i]?=Z x:=by rfl)(hv:Vis X.env.scope x:=by first | exact Zzq rfl | exact ZyX (Zzq rfl) | exact ZyX (ZyX rfl))(hd:(x==("__debug__":Str))=ZDD:=by decide)(hcd:(x==("__classdict__":Str))=ZDD:=by decide)
  (hs:ZAT a (Z (.Subscript (.Name x p1) b p2)) pos.line X.env=pure ZDD:=by rfl):XS X (.Assign [.Subscript (.Name x p1) b p2] a pos) (HM.ZiJ i fb fa):=by
 intro r o h;unfold HM.ZiJ at h;split at h
 ·rename_i d hd'
  split at h
  ·rename_i y hy
   split at h
   ·rename_i kvs hb
    split at h
    ·rename_i k hk'
     split at h
     ·rename_i hz
      cases h;refine PS.imp (ZpG hu (Zco hN hv hd hcd) (hk r y hy) (ha r d hd') hs) λE σ H ⟨F0,H0,F,at_,kk⟩=>?_;refine⟨F0,H0,F,at_,λv F1 H1 x1 r1=>?_⟩;have at1:=at_.grow x1;obtain⟨u,fp,e1,e2⟩:=at1.any hb;refine⟨u,e1,F0,H0,F1,at1,λw F2 H2 x2 r2=>?_⟩;have at2:=at1.grow x2;cases e2 with
      | @ok l _ vvs e2 e3 e4=>have T:ZaH X.K F2 kvs vvs:=⟨e3,e4.mono x2.ff⟩;have T':=T.put k (r1.mono x2.ff);rw[ZhC hk' r2];have hH:H2 l=Z (.dK vvs):=x2.hh _ _ e2;refine⟨l,_,rfl,ZiZ.k hH (by rw[<-T.len]; exact Zg4 hz),kk _ F2 _ (at2.chgOne hb e1 (λv fp q=>by cases q; exact⟨_,rfl,rfl⟩) _ _ (.ok Zx T'.1 T'.2))⟩
     ·cases h
    ·cases h
   ·rename_i kvs hb
    split at h
    ·rename_i k hk'
     split at h
     ·rename_i hz
      cases h;refine PS.imp (ZpG hu (Zco hN hv hd hcd) (hk r y hy) (ha r d hd') hs) λE σ H ⟨F0,H0,F,at_,kk⟩=>?_;refine⟨F0,H0,F,at_,λv F1 H1 x1 r1=>?_⟩;have at1:=at_.grow x1;obtain⟨u,fp,e1,e2⟩:=at1.any hb;refine⟨u,e1,F0,H0,F1,at1,λw F2 H2 x2 r2=>?_⟩;have at2:=at1.grow x2;cases e2 with
      | @ot l _ vvs e2 e3 e4=>have T:ZaH X.K F2 kvs vvs:=⟨e3,e4.mono x2.ff⟩;have T':=T.put k (r1.mono x2.ff);obtain⟨bb,rfl,hbb⟩:=ZdL hk' r2;have hH:H2 l=Z (.dT vvs):=x2.hh _ _ e2;refine⟨l,_,rfl,ZiZ.t hH (x2.sub _ _ hbb) (by rw[<-T.len]; exact Zg4 hz),kk _ F2 _ (at2.chgOne hb e1 (λv fp q=>by cases q; exact⟨_,rfl,rfl⟩) _ _ (.ot Zx T'.1 T'.2))⟩
     ·cases h
    ·cases h
   ·cases h
  ·cases h
 ·cases h
theorem Zkb{K:Zyk}{F H:Hp}(k:List Key):∀(kvs:List (List Key × List PyData)) (vvs:List (List Key × V)) (ls:List Addr),kvs.map (·.1)=vvs.map (·.1)->vvs.map (·.2)=ls.map V.ref ->
  (∀(i:Nat) (ds:List PyData) (l:Addr),(kvs.map (·.2))[i]?=Z ds->ls[i]?=Z l->∃vs,H l=Z (.lst vs)/\Zq K F ds vs) ->
  (∀ds,HM.Zn kvs k=Z ds->∃l' vs,Zay vvs k=Z (.ref l')/\l'∈ls/\H l'=Z (.lst vs)/\Zq K F ds vs)/\(HM.Zn kvs k=Z_->Zay vvs k=Z_)
 | [],[],_,_,_,_=>⟨(λds h=>by cases h),λ_=>rfl⟩
 | [],_::_,_,hk,_,_=>by simp at hk
 | _::_,[],_,hk,_,_=>by simp at hk
 | _::_,_::_,[],_,hv,_=>by simp at hv
 | (k1,ds1)::kvs,(k2,v2)::vvs,l1::ls,hk,hv,r=>by
  rw[Zyv,Zyv]at hk hv;injection hk with e1 e2
  injection hv with e3 e4
  have e1:k1=k2:=e1;have e3:v2=.ref l1:=e3;subst e1 e3;obtain⟨i1,i2⟩:=Zkb k kvs vvs ls e2 e4 λi ds l h1 h2=>r (i+1) ds l (by simpa using h1) (by simpa using h2)
  by_cases hkk:k1=k
  ·have e5:HM.Zn ((k1,ds1)::kvs) k=Z ds1:=by simp[HM.Zn,Zzo,hkk]
   rw[e5,ZdM (p:=(k1,V.ref l1)) hkk];obtain⟨vs,q1,q2⟩:=r 0 ds1 l1 rfl rfl;exact⟨(λds h=>by cases h; exact⟨l1,vs,rfl,by simp,q1,q2⟩),(λh=>by cases h)⟩
  ·have e5:HM.Zn ((k1,ds1)::kvs) k=HM.Zn kvs k:=by simp[HM.Zn,Zzo,hkk]
   rw[e5,ZdF (p:=(k1,V.ref l1)) hkk];exact⟨λds h=>let ⟨l',vs,a1,a2,a3⟩:=i1 ds h; ⟨l',vs,a1,Zyq _ a2,a3⟩,i2⟩
theorem ZsS{kvs:List (List Key × List PyData)}{v:V}{fp:List Addr}(q:Z9 K F H (.otl kvs) v fp) :
  ∃l vvs ls,v=.ref l/\fp=l::ls/\H l=Z (.dT vvs)/\kvs.map (·.1)=vvs.map (·.1)/\vvs.map (·.2)=ls.map V.ref /\
   ∀k,(∀ds,HM.Zn kvs k=Z ds->∃l' vs,Zay vvs k=Z (.ref l')/\l'∈ls/\H l'=Z (.lst vs)/\Zq K F ds vs)/\(HM.Zn kvs k=Z_->Zay vvs k=Z_):=by
 cases q with
 | @otl l _ vvs ls h hk hv r=>exact⟨l,vvs,ls,rfl,rfl,h,hk,hv,λk=>Zkb k kvs vvs ls hk hv r⟩
theorem Ztw(h:HM.ZqJ i fa r=Z q):∃x bb,fa r=Z x/\r[i]?=Z (Z bb) /\
  ((∃kvs k d,bb=.ok kvs/\HM.ZiE x=Z k/\HM.Zn kvs k=Z d/\q=.pl d)\/(∃kvs k d,bb=.ot kvs/\HM.ZbR x=Z k/\HM.Zn kvs k=Z d/\q=.pl d)\/∃kvs k ds,bb=.otl kvs/\HM.ZbR x=Z k/\HM.Zn kvs k=Z ds/\q=.ol ds):=by
 unfold HM.ZqJ at h;split at h
 ·rename_i x hx
  split at h
  ·rename_i kvs hb
   split at h
   ·rename_i k hk
    obtain⟨d,h1,h2⟩:=Zyl.mp h;exact⟨x,_,hx,hb,.inl ⟨kvs,k,d,rfl,hk,h1,h2.symm⟩⟩
   ·cases h
  ·rename_i kvs hb
   split at h
   ·rename_i k hk
    obtain⟨d,h1,h2⟩:=Zyl.mp h;exact⟨x,_,hx,hb,.inr (.inl ⟨kvs,k,d,rfl,hk,h1,h2.symm⟩)⟩
   ·cases h
  ·rename_i kvs hb
   split at h
   ·rename_i k hk
    obtain⟨d,h1,h2⟩:=Zyl.mp h;exact⟨x,_,hx,hb,.inr (.inr ⟨kvs,k,d,rfl,hk,h1,h2.symm⟩)⟩
   ·cases h
  ·cases h
 ·cases h
theorem Zvd(hu:X.A.units+1<cLine)(i:Nat)(hk:XE X b fb)(hN:X.N[i]?=Z x:=by rfl)(hv:Vis X.env.scope x:=by first | exact Zzq rfl | exact ZyX (Zzq rfl) | exact ZyX (ZyX rfl))(hd:(x==("__debug__":Str))=ZDD:=by decide)(hcd:(x==("__classdict__":Str))=ZDD:=by decide)
  (hs:Zqy b:=by intro _ _; rfl):XB X (.Subscript (.Name x p1) b pos) (HM.ZqJ i fb):=by
 intro r q h;obtain⟨y,bb,h1,h2,h3⟩:=Ztw h;refine PE.imp (ZpH hu (Zco hN hv hd hcd) (hk r y h1) hs) λσ H Q ⟨F0,H0,F,at_,kk⟩=>?_;obtain⟨u,fp,e1,e2⟩:=at_.any h2;refine⟨u,e1,F0,H0,F,at_,λw F2 H2 x2 r2=>?_⟩;have e2':=e2.mono x2.ff λ_ _ _ z=>x2.hh _ _ z;rcases h3 with⟨kvs,k,d,rfl,hk',hl,rfl⟩ | ⟨kvs,k,d,rfl,hk',hl,rfl⟩ | ⟨kvs,k,ds,rfl,hk',hl,rfl⟩
 ·cases e2' with
  | @ok l _ vvs g1 g2 g3=>obtain⟨v,q1,q2⟩:=(ZaH.look (k:=k) (K:=X.K) (F:=F2) ⟨g2,g3⟩).1 d hl;rw[ZhC hk' r2];exact⟨l,v,rfl,by rw[<-q1]; exact ZdH.k g1,kk v F2 H2 x2 ⟨[],.pl q2⟩⟩
 ·cases e2' with
  | @ot l _ vvs g1 g2 g3=>obtain⟨v,q1,q2⟩:=(ZaH.look (k:=k) (K:=X.K) (F:=F2) ⟨g2,g3⟩).1 d hl;obtain⟨bb',rfl,hbb⟩:=ZdL hk' r2;exact⟨l,v,rfl,by rw[<-q1]; exact ZdH.t g1 (x2.sub _ _ hbb),kk v F2 H2 x2 ⟨[],.pl q2⟩⟩
 ·obtain⟨l,vvs,ls,rfl,_,g1,_,_,hlk⟩:=ZsS e2'
  obtain⟨l',vs,q1,_,q2,q3⟩:=(hlk k).1 ds hl;obtain⟨bb',rfl,hbb⟩:=ZdL hk' r2;exact⟨l,_,rfl,by rw[<-q1]; exact ZdH.t g1 (x2.sub _ _ hbb),kk _ F2 H2 x2 ⟨[l'],.ol q2 q3⟩⟩
end
end HP
namespace HP
open PySem PySem.Spec PyProof.Rows L2
variable{p:Addr}{env:Env}{r:HM.Env}{F F0 H H0:Hp}{σ:L2.St}{K:Zyk}{scope:Scope}
variable[FX]
abbrev No:Value->Shared->Prop:=λ_ _=>False
abbrev Zp4(ifs:List Expr)(env:Env):Sem Bool :=
 forIn ifs ZDC λc r=>if r=ZDC then do let ok <-isTrue c env (eval c env); pure (ZBV ok)else pure (ZBV r)
theorem ZrB{prog:Program}{w:World}{A:Around}{R:Result->Shared->Prop}{s:Shared}{elt target iter:Expr}{ifs:List Expr}{pos:Pos}{it acc:Value}(J:Nat->Shared->Prop)
  (turn:∀n s,J n s->wpAny (model prog w) A (pyNext it) (λr s1=>match r with
   | none=>R (.ok .next) s1
   | some v=>wpAny (model prog w) A (ZBR target it v) (λ_ s2=>wpAny (model prog w) A (assign target env v) (λ_ s3=>wpAny (model prog w) A (Zp4 ifs env) (λok s4=>if ok=ZDC then wpAny (model prog w) A (eval elt env) (λx s5=>wpAny (model prog w) A (call (.builtin "list.append") [acc,x]) (λ_ s6=>∃m,m<n/\J m s6) No s5) No s4 else ∃m,m<n/\J m s4) No s3) No s2) No s1) No s)
  (n:Nat) (h:J n s):codeAny (model prog w) A (.compLoop (.ListComp elt [⟨target,iter,ifs,0⟩] scope pos) 0 it acc env) R s:=by
 refine codeAny_loop rfl J (λn s hI=>?_) n h;show wpAny _ A ((compTurn (.ListComp elt [⟨target,iter,ifs,0⟩] scope pos) 0 it acc env).onRaise (λx=>do noteFrame x env; theTreesLotGoes x)) _ _ s;refine wpAny_noted ?_;rw[compTurn_list];refine Zyi (wpAny_standAt (Zyi (Zzw (turn n s hI) (λr s1 h1=>?_) λ_ _ z=>z.elim)));cases r with
 | none=>exact Zym h1
 | some v =>
  refine Zyi (Zzw h1 (λ_ s2 h2=>Zyi (Zzw h2 (λ_ s3 h3=>Zyi (Zzw h3 (λok s4 h4=>?_) λ_ _ z=>z.elim)) λ_ _ z=>z.elim)) λ_ _ z=>z.elim);cases ok with
  | false=>exact Zym ⟨rfl,h4⟩
  | true=>refine Zyi (Zyi (Zzw h4 (λx s5 h5=>?_) λ_ _ z=>z.elim));exact Zyi (Zzw h5 (λ_ s6 h6=>Zym (Zym ⟨rfl,h6⟩)) λ_ _ z=>z.elim)
def Zaa(X:Cx)(N:List Str)(scope:Scope)(cl:List (Str × Addr))(C:Addr)(s₀:Shared)(H₀:Hp)(ex:List Addr):Cx where
 prog:=X.prog
 w:=X.w
 K:=X.K
 mg:=X.mg
 base:=X.base
 A:=X.A
 N:=N
 s₀:=s₀
 H₀:=H₀
 env:=compEnvC scope cl C X.env
 outer:=X.stack
 stack:=X.stack
 ex:=ex
 fn:=λ_=>ZDD
 calm:=ZDC
 pn:=[]
 xe:=λ_ _=>False
theorem ZhS{env:Env}:∀(names:List (Str × NameKind)) (cs:List (Str × Addr)),(∀y∈names,y.2=.free->∃c,env.cells.lookup y.1=Z c)->(∀x c,cs.lookup x=Z c->env.cells.lookup x=Z c) ->
  ∃cl,(forIn names cs λ(x:Str × NameKind) r=>(match x with | (name,kind)=>if kind==.free then do let c <-cellOf env name; pure (ZBV ((name,c)::r))else pure (ZBV r):Sem (ForInStep (List (Str × Addr)))))=pure cl /\
   (∀x c,cl.lookup x=Z c->env.cells.lookup x=Z c)/\(∀x,(cs.lookup x).isSome=ZDC->(cl.lookup x).isSome=ZDC)/\∀y∈names,y.2=.free->(cl.lookup y.1).isSome=ZDC
 | [],cs,_,h2=>⟨cs,rfl,h2,λ_ h=>h,λy hy=>by simp at hy⟩
 | (n,k)::r,cs,h1,h2=>by
  rw[List.forIn_cons]
  by_cases hk:(k==ZAu)=ZDC
  ·obtain⟨c,hc⟩:=h1 (n,k) (Zyo ..) (by simpa using hk)
   have ec:cellOf env n=pure c:=by unfold cellOf; rw[hc]
   obtain⟨cl,e1,e2,e3,e4⟩:=ZhS r ((n,c)::cs) (λy hy=>h1 y (Zyq _ hy)) (λx d hx=>by
    rw[Zz7]at hx;split at hx
    ·rename_i hb
     have:x=n:=by simpa using hb
     cases hx; rw[this]; exact hc
    ·exact h2 x d hx)
   refine⟨cl,?_,e2,λx hx=>e3 x ?_,λy hy hf=>?_⟩
   ·simp only[hk,if_true,ec,pure_bind]
    exact e1
   ·rw[Zz7]
    split
    ·rfl
    ·exact hx
   ·rcases ZyH.mp hy with e | hy
    ·subst e
     exact e3 n (by rw[Zz7]; simp)
    ·exact e4 y hy hf
  ·obtain⟨cl,e1,e2,e3,e4⟩:=ZhS r cs (λy hy=>h1 y (Zyq _ hy)) h2
   refine⟨cl,?_,e2,e3,λy hy hf=>?_⟩
   ·simp only[hk,if_false,pure_bind,Zzr]
    exact e1
   ·rcases ZyH.mp hy with e | hy
    ·subst e
     exact absurd (by simpa using hf) hk
    ·exact e4 y hy hf
theorem Zfd(h:∀y∈scope.names,y.2=.free->∃c,env.cells.lookup y.1=Z c) :
  ∃cl,closureFor scope env=pure cl/\(∀x c,cl.lookup x=Z c->env.cells.lookup x=Z c)/\∀y∈scope.names,y.2=.free->(cl.lookup y.1).isSome=ZDC:=by
 obtain⟨cl,e1,e2,_,e4⟩:=ZhS (env:=env) scope.names [] h (λx c hx=>by simp at hx);refine⟨cl,?_,e2,e4⟩;unfold closureFor;exact(congrArg (λm:Sem (List (Str × Addr))=>m >>= λcs=>pure cs) e1).trans (pure_bind cl λcs=>pure cs)
theorem Ext.chg{F' H':Hp}(x:Ext F H F' H')(o:HO)(h1:H p=Z_)(h2:F' p=Z_)(h3:∀u,H' p=Z u->ZlB u=ZDC):Ext F H F' (upd H' p o) :=
 ⟨x.ff,λb q z=>by
  have hb:b≠p:=Zak z h1;have y:=x.hh b q z;unfold ZcW at y ⊢;rw[Zy hb];exact y,λb q z=>by rw[Zy (Zak z h2)]; exact x.sub b q z,x.new,λt=>(x.tab t).keep λa u z hu=>by
   have ha:a≠p:=λe=>by subst e; exact Zsg (h3 u z) hu
   rw[Zy ha]; exact z,x.nts⟩
theorem At.push{d:PyData}{v:V}(e:At K F0 H0 F H r σ)(q:Rep K F d v):At K F0 H0 F H (Z (.pl d)::r) (Z v::σ):=by
 obtain⟨fp,e⟩:=e;refine⟨λi=>match i with | 0=>[] | i+1=>fp i,e.ext,by rw[ZyD,ZyD,e.len],λi b h=>?_,λi h=>?_,λi a h=>?_,λi=>?_,λi j a hij h=>?_,e.tb,e.nt⟩
 ·cases i with
  | zero=>rw[ZAM]at h;cases h;exact⟨v,rfl,.pl q⟩
  | succ i=>rw[Zy3]at h;obtain⟨u,h1,h2⟩:=e.at_ i b h;exact⟨u,by rw[Zy3]; exact h1,h2⟩
 ·cases i with
  | zero=>rfl
  | succ i=>exact e.emp i λb z=>h b (by rw[Zy3]; exact z)
 ·cases i with
  | zero=>simp at h
  | succ i=>exact e.own i a h
 ·cases i with
  | zero=>exact ZAa
  | succ i=>exact e.nd i
 ·cases i with
  | zero=>simp at h
  | succ i =>
   cases j with
   | zero=>simp
   | succ j=>exact e.dis i j a (by omega) h
theorem At.chgNew(o:HO){Hs Fs:Hp}(e:At K F0 H0 F H r σ)(es:At K F0 H0 Fs Hs r σ)(hs:Zab Hs H)(h1:Hs p=Z_)(h2:F p=Z_)(h3:∀u,H p=Z u->ZlB u=ZDC):At K F0 H0 F (upd H p o) r σ:=by
 obtain⟨fp,e⟩:=e;obtain⟨fq,es⟩:=es;have hp:∀i,¬p∈fp i:=λi hm=>by
  obtain⟨b,hb⟩:=e.bound hm;obtain⟨v,q1,q2⟩:=e.at_ i b hb;obtain⟨v',q3,q4⟩:=es.at_ i b hb;rw[q1]at q3;cases q3;generalize fp i=f1 at q2 hm;generalize fq i=f2 at q4;cases q2 with
  | pl _=>simp at hm
  | hd _ _ _ _=>simp at hm
  | hf _=>simp at hm
  | ol k _=>cases q4 with | ol k' _=>simp at hm; subst hm; rw[h1]at k'; cases k'
  | ok k _ _=>cases q4 with | ok k' _ _=>simp at hm; subst hm; rw[h1]at k'; cases k'
  | ot k _ _=>cases q4 with | ot k' _ _=>simp at hm; subst hm; rw[h1]at k'; cases k'
  | otl k _ v1 _ =>
   cases q4 with
   | otl k' hk' v2 r2' =>
    have eo:=hs.back k' k λ_ z=>by cases z
    cases eo;have v2':=v2;rw[v1]at v2;rcases ZyH.mp hm with z2 | z2
    ·subst z2; rw[h1]at k'; cases k'
    ·have:V.ref p∈ZCa V.ref _:=Zyy.mpr ⟨p,z2,rfl⟩
     rw[v2]at this;obtain⟨a',m1,m2⟩:=Zyy.mp this;injection m2 with m2
     subst m2;obtain⟨o,ho⟩:=Z9.there (Z9.otl k' hk' v2' r2') (Zyq _ m1);rw[h1]at ho; cases ho
 have hH0:H0 p=Z_:=es.ext.hh.free h1;refine⟨fp,e.ext.chg o hH0 h2 h3,e.len,λi b h=>?_,e.emp,e.own,e.nd,e.dis,e.tb,e.nt⟩;obtain⟨v,q1,q2⟩:=e.at_ i b h;refine⟨v,q1,q2.mono (Zp.refl F) λa ha o' z=>?_⟩;have hne:a≠p:=λe=>hp i (by rw[<-e]; exact ha);exact .of (by rw[Zy hne]; exact z)
end HP
namespace HP
open PySem PySem.Spec PyProof.Rows L2
variable{Y:Cx}{H H1:Hp}{σ:L2.St}{pins:List (Addr × Obj)}{fp:List Addr}{s s2:Shared}
variable[FX]
structure ZeZ(X:Cx)(N:List Str)(scope:Scope)(fr:List Str):Prop where
 kind:scope.kind=.function
 cell:∀y∈scope.names,y.2≠.cell
 names:∀y∈scope.names,y.2=.local->scope.names.lookup y.1=Z .local
 loc:∀x∈fr,scope.names.lookup x=Z .local
 first:∀(i:Nat) (x:Str),fr[i]?=Z x->N[i]?=Z x
 nd:N.Nodup
 len:N.length=X.N.length+fr.length
 cap:∀y∈scope.names,y.2=.free->X.env.kindOf y.1=Z .cell\/X.env.kindOf y.1=Z .free
 same:∀(i:Nat) (y:Str),N[i+fr.length]?=Z y->scope.names.lookup y=Z .free->X.N[i]?=Z y
 vis:∀(i:Nat) (y:Str),N[i+fr.length]?=Z y->Vis scope y->scope.names.lookup y=Z .free
def goG(dec:PyData->Option (List PyData))(c:HM.TF)(e:HM.EF)(r:HM.Env):List PyData->Option (List PyData)
 | []=>Z []
 | x::xs=>match dec x with
  | some ys=>match c (ys.map (λd=>Z (HM.B.pl d))++r)with
   | some ZDC=>match e (ys.map (λd=>Z (HM.B.pl d))++r)with
    | some y=>(goG dec c e r xs).map (y::·)
    | none=>Z_
   | some ZDD=>goG dec c e r xs
   | none=>Z_
  | none=>Z_
def Zhd(dec:PyData->Option (List PyData))(i:HM.IF)(c:HM.TF)(e:HM.EF):HM.BF:=λr=>match i r with
 | some xs=>if xs.length<HM.big then(goG dec c e r xs).map λys=>HM.B.ol ys else Z_
 | none=>Z_
def ZkO(Y:Cx)(m:Nat)(tg:Expr)(dec:PyData->Option (List PyData)):Prop:=∀(pins:List (Addr × Obj)) (s:Shared) (σ:L2.St) (sv:List (Option V)) (H F:Hp) (d:PyData) (ys:List PyData) (xv:V) (u:Value),sv.length=m->Inv Y pins (sv++σ) H s->RelV xv u->Zp F H->Rep Y.K F d xv->dec d=Z ys ->
 wpAny (model Y.prog Y.w) Y.A (assign tg Y.env u) (λ_ s'=>∃vs:List V,vs.length=m/\Inv Y pins (vs.map Z++σ) H s'/\Zq Y.K F ys vs) Y.xe s
theorem At.pushes{K:Zyk}{F0 H0 F H:Hp}{r:HM.Env}{σ:L2.St}:∀{ds:List PyData} {vs:List V},At K F0 H0 F H r σ->Zq K F ds vs->At K F0 H0 F H (ds.map (λd=>Z (HM.B.pl d))++r) (vs.map Z++σ)
 | [],vs,e,q=>by rw[q.nil_inv];exact e
 | d::ds,vs,e,q=>by obtain⟨v,us,rfl,r1,r2⟩:=q.cons_inv;exact(At.pushes e r2).push r1
section
variable{X:Cx}{N:List Str}{scope:Scope}{fr:List Str}{cl:List (Str × Addr)}{C:Addr}
theorem Zbl{env:Env}{y:Str}{k:NameKind}:∀{names:List (Str × NameKind)},(names.map λ(n,k)=>if(k==ZAu&&env.scope.kind==.function&&env.kindOf n==Z .cell)then(n,NameKind.cell)else(n,k)).lookup y=Z k ->
  names.lookup y=Z k\/(k=.cell/\names.lookup y=Z .free)
 | [],h=>by simp at h
 | (n,k')::r,h=>by
  have ih:=@Zbl env y k r;rw[Zyv]at h;dsimp only at h
  by_cases hc:(k'==ZAu&&env.scope.kind==.function&&env.kindOf n==Z .cell)=ZDC
  ·rw[if_pos hc,Zz7]at h
   rw[Zz7];split at h
   ·cases h
    refine .inr ⟨rfl,?_⟩;have:(k'==ZAu)=ZDC:=by rw[ZyE,ZyE]at hc;exact hc.1.1
    rw[show k'=ZAu by simpa using this]
   ·exact ih h
  ·rw[if_neg hc,Zz7]at h
   rw[Zz7];split at h
   ·cases h
    exact .inl rfl
   ·exact ih h
theorem lookup_mem{y:Str}{k:NameKind}:∀{names:List (Str × NameKind)},names.lookup y=Z k->(y,k)∈names
 | [],h=>by simp at h
 | (n,k')::r,h=>by
  rw[Zz7]at h;split at h
  ·cases h
   rename_i hb;rw[show y=n by simpa using hb];exact Zyo ..
  ·exact Zyq _ (lookup_mem h)
theorem ZuU(T:ZeZ X N scope fr)(hcl:∀y c,cl.lookup y=Z c->X.env.cells.lookup y=Z c)(hfr:∀y∈scope.names,y.2=.free->(cl.lookup y.1).isSome=ZDC)
  (I:Inv X pins σ H s) (hc:X.calm=ZDC) (hf:∀b∈fp,Zgf X pins H b) (hfl:∀b∈fp,b<s.heap.objs.size) (hC:s.heap.objs.size<=C):(Zaa X N scope cl C s H fp).Ok:=by
 refine⟨I.ok.mod,T.kind,I.ok.glob,I.ok.blt,hC,λy z c h1 h2=>I.ok.inj y z c (hcl y c h1) (hcl z c h2),λy h=>?_,λy c h=>?_,λ_=>I.ok.hd hc,I.ok.frames,.inl rfl,λb hb=>⟨?_,λy c h=>?_⟩,λb o h=>I.bs b o h,
  Zy2 I.ok.bsz I.sz,λb o h hb=>?_,λb hb hs=>?_,I.stack,I.stkFree⟩
 ·have h':(relabel scope X.env).names.lookup y=Z .cell\/(relabel scope X.env).names.lookup y=Z .free:=h
  have hm:(y,ZAu)∈scope.names:=by
   rcases h' with h' | h'
   ·rcases Zbl h' with q | ⟨_,q⟩
    ·exact absurd rfl (T.cell _ (lookup_mem q))
    ·exact lookup_mem q
   ·rcases Zbl h' with q | ⟨e,_⟩
    ·exact lookup_mem q
    ·cases e
  exact Zzg.mp (hfr _ hm rfl)
 ·exact absurd h (by show ¬ZDD=ZDC; simp)
 ·exact ZyG (ZyO (hfl b hb) hC)
 ·obtain⟨_,_,_,_,q,_⟩:=hf b hb
  exact q y c (hcl y c h)
 ·obtain⟨_,_,_,q,_⟩:=hf b hb
  rcases q with q | q
  ·exact I.ok.noex b o h q
  ·exact absurd (ZyO (ZyB h) (Zy2 I.ok.bsz q)) (Zz5 _)
 ·obtain⟨_,q1,q2,_⟩:=hf b hb
  rcases ZyH.mp (I.stkSub b hs)with z | z
  ·exact q1 z
  ·exact q2 z
theorem ZnK{D:Addr}{h1:Heap}{tk:Nat}(T:ZeZ X N scope fr)(hcl:∀y c,cl.lookup y=Z c->X.env.cells.lookup y=Z c)(hfr:∀y∈scope.names,y.2=.free->(cl.lookup y.1).isSome=ZDC)
  (I:Inv X pins σ H s) (hc:X.calm=ZDC) (hf:∀b∈fp,Zgf X pins H b) (hfl:∀b∈fp,b<s.heap.objs.size) (hD:s.heap.objs.size=D) (hC:D<C) (ns:h1.Ns C (λ_=>Z_)) (hl:h1.get? D=Z { cls:=.type "list",data:=.seq #[] 0 })
  (k:∀b o,s.heap.get? b=Z o->h1.get? b=Z o):Inv (Zaa X N scope cl C s H fp) [] (ZyT fr.length Z_++σ) (upd H D (.lst [])) { s with heap:=h1,toks:=tk }:=by
 have hn:H D=Z_:=I.hok.fresh (ZA3 hD);have hDC:s.heap.objs.size<=C:=Zy2 (ZA3 hD) (Zz3 hC);have hCn:H C=Z_:=I.hok.fresh hDC;refine⟨ZuU T hcl hfr I hc hf hfl hDC,rfl,I.bare,Un.laid k (ZA3 hD) hn,⟨_,ns,λi y v e1 e2 e3=>?_⟩,λy c h=>?_,?_,λy c h=>?_,λp hp=>absurd (show p∈([]:List (Addr × Obj)) from hp) (by simp),I.hok.laid k (ZA3 hD) ⟨Zzj _,[],0,.nil,hl⟩,?_⟩
 ·have hge:fr.length<=i:=by
   apply ZAm;intro hlt;rw[ZyY (by rw[Zy9]; exact hlt),ZAL,if_pos hlt]at e2;cases e2
  rw[Zy0 (by rw[Zy9]; exact hge),Zy9]at e2;obtain⟨j,rfl⟩:∃j,i=j+fr.length:=⟨i-fr.length,by omega⟩;rw[Nat.add_sub_cancel]at e2
  ·have e3':Vis scope y:=by
    have e3:Vis (relabel scope X.env) y:=e3;rcases e3 with q | q | q
    ·rcases Zbl q with q | ⟨z,_⟩
     ·exact .inl q
     ·cases z
    ·rcases Zbl q with q | ⟨_,q⟩
     ·exact .inr (.inl q)
     ·exact .inr (.inr q)
    ·rcases Zbl q with q | ⟨z,_⟩
     ·exact .inr (.inr q)
     ·cases z
   have hfree:=T.vis j y e1 e3';have hm:=lookup_mem hfree;have hN:=T.same j y e1 hfree;have hcap:=T.cap _ hm rfl;obtain⟨m,_,hl⟩:=I.loc;obtain⟨u,ru,lu⟩:=hl j y v hN e2 (by
    rcases hcap with q | q
    ·exact .inr (.inl q)
    ·exact .inr (.inr q))
   refine⟨u,ru,?_⟩;obtain⟨c,hcc⟩:=Zzg.mp (hfr _ hm rfl);rcases lu with⟨q,_⟩ | ⟨_,c',e,z⟩
   ·rcases hcap with q' | q'<;>(rw[q']at q; cases q)
   ·refine .inr ⟨?_,c,hcc,?_⟩
    ·rcases e3 with q | q | q
     ·have q:(relabel scope X.env).names.lookup y=Z .local:=q
      rcases Zbl q with q | ⟨z,_⟩
      ·rw[hfree]at q; cases q
      ·cases z
     ·exact .inl q
     ·exact .inr q
    ·rw[hcl y c hcc]at e
     cases e;obtain⟨o,ho,hd⟩:=z;exact⟨o,k _ _ ho,hd⟩
 ·obtain⟨v,o,ho,hd⟩:=I.cell y c (hcl y c h)
  exact⟨v,o,k _ _ ho,hd⟩
 ·show upd H D (.lst []) C=Z_
  rw[Zy (ZA0 hC)];exact hCn
 ·have hq:=I.freeC y c (hcl y c h)
  obtain⟨v,o,ho,_⟩:=I.cell y c (hcl y c h);have:c≠D:=ZyG (by rw[<-hD]; exact ZyB ho);rw[Zy this];exact hq
 ·show(ZyT fr.length Z_++σ).length=N.length
  rw[ZyA,Zy9,I.len,T.len,Nat.add_comm]
def XTs(Y:Cx)(ifs:List Expr)(f:HM.TF):Prop:=∀r c,f r=Z c->∀(pins:List (Addr × Obj)) (s:Shared) (σ:L2.St) (H:Hp) (Q:Bool->Hp->Prop),Inv Y pins σ H s->(Now Y.K r σ H λF0 H0 F=>∀F' H',Ext F H F' H'->Q c H') ->
 wpAny (model Y.prog Y.w) Y.A (Zp4 ifs Y.env) (TP Y pins σ Q) Y.xe s
theorem Zbq:XTs Y [] HM.Z4:=by intro r c h pins s σ H Q I ⟨F0,H0,F,at_,k⟩;cases h;exact wpAny_tests_nil ⟨H,I,k F H at_.refl⟩
theorem ZcN{e:Expr}{f:HM.TF}(h:XT Y e f):XTs Y [e] f:=λr c hc pins s σ H Q I q=>wpAny_tests_one (h r c hc pins s σ H Q I q)
def ItE(K:Zyk)(J:It)(ds:List PyData)(F:Hp):Prop:=∀F' H,Zp F F'->Zp F' H ->
 (∀(i:Nat) (d:PyData),ds[i]?=Z d->J.go i H/\∀x H',J.yld i H x H'->∃F2,Ext (Zcr F' H) H F2 H'/\Rep K F2 d x)/\J.stop ds.length H
theorem ItD.e{K:Zyk}{J:It}{ds:List PyData}{F:Hp}(h:ItD K J ds F):ItE K J ds F:=λF' H s1 s2=>by obtain⟨a,b⟩:=h F' H s1 s2;refine⟨λi d hd=>⟨(a i d hd).1,λx H' hy=>?_⟩,b⟩;obtain⟨e,r⟩:=(a i d hd).2 x H' hy;subst e;exact⟨_,.refl (Ext.refl s2).tups.sub,r⟩
def XIE(X:Cx)(tg e:Expr)(f:HM.IF):Prop:=∀r ds,f r=Z ds->PI X tg e λσ H R=>Now X.K r σ H λF0 H0 F=>∀J F' H',Ext F H F' H'->ItE X.K J ds F'->R J H'
theorem XI.e{X:Cx}{tg e:Expr}{f:HM.IF}(h:XI X tg e f):XIE X tg e f:=λr ds hr pins s σ H R I ⟨F0,H0,F,at_,k⟩=>h r ds hr pins s σ H R I ⟨F0,H0,F,at_,λJ F' H' x q=>k J F' H' x q.e⟩
theorem Zou{it D:Addr}{tn:Nat->Heap->Prop}{J:It}{elt iter:Expr}{ifs:List Expr}{tg:Expr}{pos:Pos}{dec:PyData->Option (List PyData)}{fc:HM.TF}{fe:HM.EF}{s4:Shared}{r:HM.Env}{ds out:List PyData}{Fs Hs F0 H0 F1:Hp}
  {R:Result->Shared->Prop} (T:ZeZ X N scope fr) (I2:Inv X pins σ H1 s2) (W:Turn X.prog X.w X.K tg J fp it tn) (hf:∀b∈fp,Zgf X pins H1 b)
  (I4:Inv (Zaa X N scope cl C s2 H1 fp) [] (ZyT fr.length Z_++σ) (upd H1 D (.lst [])) s4) (tn0:tn 0 s4.heap) (hD:s2.heap.objs.size<=D) (hfl:∀b∈fp,b<s2.heap.objs.size) (hbl:X.calm=ZDC)
  (hc:XTs (Zaa X N scope cl C s2 H1 fp) ifs fc) (he:XE (Zaa X N scope cl C s2 H1 fp) elt fe) (at_:At X.K F0 H0 Fs Hs r σ) (x1:Ext Fs Hs F1 H1) (itd:ItE X.K J ds F1) (hbind:ZkO (Zaa X N scope cl C s2 H1 fp) fr.length tg dec) (hbig:ds.length<HM.big) (go:goG dec fc fe r ds=Z out)
  (hR:∀s',(∃F H vs,Inv (Zaa X N scope cl C s2 H1 fp) [] (ZyT fr.length Z_++σ) H s'/\Ext Fs Hs F H/\H D=Z (.lst vs)/\F D=Z_/\Zq X.K F out vs)->R (.ok .next) s') :
  codeAny (model X.prog X.w) X.A (.compLoop (.ListComp elt [⟨tg,iter,ifs,0⟩] scope pos) 0 (.ref it) (.ref D) (compEnvC scope cl C X.env)) R s4:=by
 have hH1D:H1 D=Z_:=I2.hok.fresh hD;have hHsD:Hs D=Z_:=x1.hh.free hH1D;have hF1D:F1 D=Z_:=x1.sub.free hH1D;have hfpD:∀b∈fp,b≠D:=λb hb=>ZyG (ZyO (hfl b hb) hD);have okY:=I4.ok;have stat:∀{H:Hp},(∀b∈fp,H b=Z_)->∀b∈fp,Zgf (Zaa X N scope cl C s2 H1 fp) [] H b:=λhn b hb=>⟨hn b hb,(okY.exf b hb).1,okY.exfs b hb,.inl hb,(okY.exf b hb).2,λp hp=>absurd (show p∈([]:List (Addr × Obj)) from hp) (by simp)⟩;refine ZrB (λn s'=>∃(j:Nat) (sv:List (Option V)) (F H:Hp) (ys:List PyData) (vs:List V) (rest:List PyData),sv.length=fr.length/\Inv (Zaa X N scope cl C s2 H1 fp) [] (sv++σ) H s'/\tn j s'.heap/\(∀b∈fp,H b=Z_)/\Ext Fs Hs F H/\Zp F1 F/\At X.K F0 H0 F H r σ /\
  H D=Z (.lst vs)/\F D=Z_/\Zq X.K F ys vs/\j+n=ds.length/\ys.length<=j/\goG dec fc fe r (ds.drop j)=Z rest/\out=ys++rest) ?_ ds.length
  ⟨0,ZyT fr.length Z_,F1,_,[],[],out,Zy9,I4,tn0,λb hb=>by rw[Zy (hfpD b hb)]; exact(hf b hb).1,x1.lay' hH1D,Zp.refl _,(at_.grow x1).grow ((at_.grow x1).refl.lay' hH1D),Zx,hF1D,.nil,by omega,Zyr _,go,rfl⟩
 rintro n s5 ⟨j,sv,F,H,ys,vs,rest,hsv,I5,tn5,hfp5,x5,sF,at5,hHD,hFD,rys,hjn,hyl,hgo,hout⟩
 obtain⟨it1,it2⟩:=itd F H sF at5.sub;cases n with
 | zero =>
  have ej:j=ds.length:=by omega
  subst ej;rw[List.drop_length]at hgo;cases hgo;rw[Zy6]at hout;subst hout;refine thn (W.done (Zaa X N scope cl C s2 H1 fp) rfl rfl rfl rfl _ [] s5 _ H No I5 (stat hfp5) tn5 it2) λrv s6 ⟨e,I6⟩=>?_;subst e;refine hR s6 ⟨F,H,vs,I6.weak (by rw[ZyA,ZyA,Zy9,hsv]) λi v hv=>?_,x5,hHD,hFD,rys⟩
  by_cases hi:i<fr.length
  ·rw[ZyY (by rw[Zy9]; exact hi),ZAL,if_pos hi]at hv
   cases hv
  ·rw[Zy0 (by rw[Zy9]; omega),Zy9]at hv
   rw[Zy0 (by omega),hsv];exact hv
 | succ n =>
  have hlt:j<ds.length:=by omega
  obtain⟨jg,jy⟩:=it1 j ds[j] (ZyF hlt);obtain⟨F2,x5,sF,at5,hFD,rys,jy⟩:∃F2,Ext Fs Hs F2 H/\Zp F1 F2/\At X.K F0 H0 F2 H r σ/\F2 D=Z_/\Zq X.K F2 ys vs/\∀x H',J.yld j H x H'->∃F3,Ext F2 H F3 H'/\Rep X.K F3 ds[j] x :=
   ⟨Zcr F H,x5.tups,sF.trans (Zdi at5.sub),at5.grow at5.refl.tups,by unfold Zcr; rw[hHD]; exact hFD,rys.mono (Zdi at5.sub),jy⟩
  clear it1 it2
  rw[ZCG hlt]at hgo;refine thn (W.item (Zaa X N scope cl C s2 H1 fp) rfl rfl rfl rfl j [] s5 _ H No I5 (stat hfp5) tn5 jg) λrv s6 ⟨u,e,h6⟩=>?_;subst e;refine thn h6 λ_ s7 ⟨xv,H7,I7,r7,y7,tn7,fr7⟩=>?_;obtain⟨F7,x7,rx⟩:=jy xv H7 y7;obtain⟨F2,x5,sF,at5,hHD,hFD,rys,rx⟩:∃F2,Ext Fs Hs F2 H7/\Zp F1 F2/\At X.K F0 H0 F2 H7 r σ/\H7 D=Z (.lst vs)/\F2 D=Z_/\Zq X.K F2 ys vs/\Rep X.K F2 ds[j] xv:=by
   refine⟨F7,x5.trans x7,sF.trans x7.ff,at5.grow x7,x7.hh _ _ hHD,?_,rys.mono x7.ff,rx⟩;cases q:F7 D with
   | none=>rfl
   | some o =>
    rcases x7.new D o q with z | z
    ·rw[hFD]at z; cases z
    ·exact(z.no hHD λ_ q=>by cases q).elim
  have I7':=I7.pinned (stat fr7) (W.obj _ _ tn7);unfold goG at hgo;split at hgo
  case h_2=>cases hgo
  rename_i zs hzs;have dok:=hbind _ s7 σ sv H7 F2 ds[j] zs xv u hsv I7' r7 at5.sub rx hzs;refine thn dok λ_ s8 ⟨ws,hws,I8,rws⟩=>?_;have atp:=at5.pushes rws;have again:∀{s9:Shared} {F9 H9:Hp} {zs9:List PyData} {ws9:List V} {rest':List PyData},Inv (Zaa X N scope cl C s2 H1 fp) ([]++ZiL fp s7.heap) (ws.map Z++σ) H9 s9->Ext Fs Hs F9 H9->Zp F2 F9->At X.K F0 H0 F9 H9 r σ->H9 D=Z (.lst ws9)->F9 D=Z_->Zq X.K F9 zs9 ws9->zs9.length<=j+1->goG dec fc fe r (ds.drop (j+1))=Z rest'->out=zs9++rest' ->
    ∃m,m<n+1/\∃(j:Nat) (sv:List (Option V)) (F2 H:Hp) (ys:List PyData) (vs:List V) (rest:List PyData),sv.length=fr.length/\Inv (Zaa X N scope cl C s2 H1 fp) [] (sv++σ) H s9/\tn j s9.heap/\(∀b∈fp,H b=Z_)/\Ext Fs Hs F2 H/\Zp F1 F2/\At X.K F0 H0 F2 H r σ /\
     H D=Z (.lst vs)/\F2 D=Z_/\Zq X.K F2 ys vs/\j+m=ds.length/\ys.length<=j/\goG dec fc fe r (ds.drop j)=Z rest/\out=ys++rest:=by
   intro s9 F9 H9 zs9 ws9 rest' I9 x9 s9F a9 h9 f9 r9 l9 g9 o9;refine⟨n,ZAn n,j+1,ws.map Z,F9,H9,zs9,ws9,rest',by rw[Zyj]; exact hws,I9.unpinned,W.keep _ _ _ tn7 λb hb o e=>(I9.pin (b,o) (ZyP _ (ZyP _ (Zfs hb e)))).1,λb hb=>?_,x9,sF.trans s9F,a9,h9,f9,r9,by omega,l9,g9,o9⟩;obtain⟨o,e,d⟩:=W.obj _ _ tn7 b hb;exact(I9.pin (b,o) (ZyP _ (ZyP _ (Zfs hb e)))).2.1
  have noD:∀{F' H':Hp},Ext F2 H7 F' H'->F' D=Z_:=λ{F' H'} y=>by
   cases q:F' D with
   | none=>rfl
   | some o =>
    rcases y.new D o q with z | z
    ·rw[hFD]at z; cases z
    ·exact(z.no hHD λ_ q=>by cases q).elim
  split at hgo
  ·rename_i hcv
   split at hgo
   ·rename_i y hy
    obtain⟨rest',g1,g2⟩:=Zyl.mp hgo;subst g2;refine thn (hc _ _ hcv _ s8 _ H7 (λc' H'=>c'=ZDC/\∃F',Ext F2 H7 F' H') I8 ⟨F0,H0,F2,atp,λF' H' y=>⟨rfl,F',y⟩⟩) λok s9 ⟨H9,I9,eok,F9,x9⟩=>?_;subst eok;rw[if_pos rfl];refine thn (he _ _ hy _ s9 _ H9 (λv' H'=>∃F',Ext F9 H9 F' H'/\Rep X.K F' y v') I9 ⟨F0,H0,F9,atp.grow x9,λv' F' H' x q=>⟨F',x,q⟩⟩) λu' s10 ⟨v',H10,I10,r10,F10,x10,q10⟩=>?_;have x910:=x9.trans x10;have hHD':H10 D=Z (.lst vs):=x910.hh _ _ hHD;have hFD':=noD x910;refine thn (Ziw (X:=Zaa X N scope cl C s2 H1 fp) _ s10 _ H10 (.ref D) [v'] (.ref D) [u'] (λ_ H'=>H'=upd H10 D (.lst (vs++[v']))) I10 rfl (.cons r10 .nil) ⟨D,vs,v',rfl,rfl,hHD',?_,rfl⟩) λ_ s11 ⟨_,H11,I11,_,e11⟩=>?_
    ·have:=rys.1
     exact Zg4 (by omega)
    subst e11;refine again (zs9:=ys++[y]) I11 ((x5.trans x910).chg _ hHsD hFD' λu z=>by rw[hHD']at z; cases z; rfl) x910.ff ((at5.grow x910).chgNew _ at_ (x5.trans x910).hh hHsD hFD' λu z=>by rw[hHD']at z; cases z; rfl) Zx hFD' ((rys.mono x910.ff).append (.one q10)) (by rw[ZyA]; show ys.length+1<=j+1; omega) g1 (by rw[hout,ZAh]; rfl)
   ·cases hgo
  ·rename_i hcv
   refine thn (hc _ _ hcv _ s8 _ H7 (λc' H'=>c'=ZDD/\∃F',Ext F2 H7 F' H') I8 ⟨F0,H0,F2,atp,λF' H' y=>⟨rfl,F',y⟩⟩) λok s9 ⟨H9,I9,eok,F9,x9⟩=>?_;subst eok;rw[if_neg (by simp)];exact again (zs9:=ys) I9 (x5.trans x9) x9.ff (at5.grow x9) (x9.hh _ _ hHD) (noD x9) (rys.mono x9.ff) (by omega) hgo hout
  ·cases hgo
theorem Znu{s':Shared}{sv:List (Option V)}{h':Heap}(I2:Inv X pins σ H1 s2)(hf:∀b∈fp,Zgf X pins H1 b)(hC:s2.heap.objs.size<=C)
  (I:Inv (Zaa X N scope cl C s2 H1 fp) [] (sv++σ) H s') (hs:ZAc C s'.heap h'):Inv X pins σ H { s' with heap:=h' }:=by
 have u:Un (frs X.stack) fp H1 H s2.heap s'.heap:=I.base;have hCn:H C=Z_:=I.free;have ne:∀b o,s2.heap.get? b=Z o->b≠C:=λb o e=>ZyG (ZyO (ZyB e) hC);refine I2.call' (s':={ s' with heap:=h' }) (ch:=fp) I.os ⟨λb o e n hb hx=>(hs.2 b (ne b o e)).trans (u.keep b o e n hb hx),λb o e n hb hx=>?_,u.free,λb o e hx=>?_,u.tups,u.frzs,u.tbls⟩ (λb o e=>?_) I.bare λb hb=>?_
 ·obtain⟨sl,q⟩:=u.slot b o e n hb hx
  exact⟨sl,(hs.2 b (ne b o e)).trans q⟩
 ·obtain⟨o',q⟩:=u.there b o e hx
  exact⟨o',(hs.2 b (ne b o e)).trans q⟩
 ·refine(I.hok b o e).stay (λc w' hc q=>(hs.2 c ?_).trans q) (λ_ q=>q) λ_ _ q=>q
  rintro rfl
  rcases hc with rfl | hc
  ·rw[hCn]at e; cases e
  ·rw[hCn]at hc; cases hc
 ·obtain⟨q0,q1,q2,q3,q4,q5⟩:=hf b hb
  exact⟨q3,q1,q4,q5⟩
variable{elt iter:Expr}{ifs:List Expr}{tg:Expr}{pos:Pos}{fi:HM.IF}{dec:PyData->Option (List PyData)}{fc:HM.TF}{fe:HM.EF}
theorem Zov(T:ZeZ X N scope fr)(I:Inv X pins σ H s):∀y∈scope.names,y.2=.free->∃c,X.env.cells.lookup y.1=Z c:=λy hy e=>I.ok.has y.1 (T.cap y hy e)
theorem ZsC(hxe:X.xe=λ_ _=>False)(hcalm:X.calm=ZDC)(T:ZeZ X N scope fr)(hbind:∀cl C s H ex,ZkO (Zaa X N scope cl C s H ex) fr.length tg dec)(hi:XIE X tg iter fi)(hc:∀cl C s H ex,XTs (Zaa X N scope cl C s H ex) ifs fc)(he:∀cl C s H ex,XE (Zaa X N scope cl C s H ex) elt fe)
  (hs:∀x,ZAw iter X.env x=pure x:=by intro _; rfl):XF X (.ListComp elt [⟨tg,iter,ifs,0⟩] scope pos) (Zhd dec fi fc fe):=by
 intro r b h;unfold Zhd at h;split at h
 ·rename_i ds hds
  split at h
  ·rename_i hbig
   obtain⟨out,hgo,e⟩:=Zyl.mp h;subst e;intro pins s σ H Q I ⟨F0,H0,F,at_,k⟩;obtain⟨cl,hclos,hcl,hfr⟩:=Zfd (Zov T I);rw[eval_ListComp];refine wpAny_comprehension_free (use:=Z_) rfl hs hclos T.kind T.names (thn (hi r ds hds pins s σ H (λJ H'=>∃F',Ext F H F' H'/\ItE X.K J ds F') I ⟨F0,H0,F,at_,λJ F' H' x q=>⟨F',x,q⟩⟩) λv s1 h1=>thn h1 λitv s2 h2=>?_);obtain⟨it,fp,tn,J,H1,rfl,I2,W,st2,f2,F1,x1,itd⟩:=h2;have hfl:∀b∈fp,b<s2.heap.objs.size:=λb hb=>let ⟨o,ho,_⟩:=W.obj 0 _ st2 b hb; ZyB ho
   refine Zy4 (ZBW T.cell (by intro y hy; simp at hy) (λh1 hns hsb=>?_) T.kind);dsimp only at hns hsb ⊢;generalize hP:s2.heap.push { cls:=.type "list",dict:=Z_,data:=.seq ([]:List Value).toArray }=h0 at hns hsb ⊢;have hsz:h0.objs.size=s2.heap.objs.size+1:=by rw[<-hP,ZAb]
   have hDC:s2.heap.objs.size<h0.objs.size:=by rw[hsz]; exact ZAn _
   have old:∀b o,s2.heap.get? b=Z o->h1.get? b=Z o:=λb o e=>hsb.extBut b o (ZyG (ZAf (ZyB e) hDC)) (Zyn _ (by rw[<-hP]; exact Zyn _ e));have hl:h1.get? s2.heap.objs.size=Z { cls:=.type "list",data:=.seq #[] 0 }:=hsb.extBut _ _ (ZyG hDC) (Zyn _ (by rw[<-hP]; exact ZyC _ rfl));have I4:Inv (Zaa X N scope cl h0.objs.size s2 H1 fp) [] (ZyT fr.length Z_++σ) (upd H1 s2.heap.objs.size (.lst [])) { s2 with heap:=h1,toks:=s2.toks+([]:List (Str × Value)).length }:=ZnK T hcl hfr I2 hcalm f2 hfl rfl hDC hns hl old;have tn1:tn 0 h1:=W.keep _ _ _ st2 λb _ o e=>old b o e;have hHsD:H s2.heap.objs.size=Z_:=x1.hh.free (I2.hok.fresh (Zyr _));have loop:codeAny (model X.prog X.w) X.A (.compLoop (.ListComp elt [⟨tg,iter,ifs,0⟩] scope pos) 0 (.ref it) (.ref s2.heap.objs.size) (compEnvC scope cl h0.objs.size X.env)) (compPost (model X.prog X.w) X.A X.xe Z_ (EP X pins σ Q) (.ref s2.heap.objs.size) h0.objs.size)
     { s2 with heap:=h1,toks:=s2.toks+([]:List (Str × Value)).length }:=by
    refine Zou T I2 W f2 I4 tn1 (Zyr _) hfl hcalm (hc _ _ _ _ _) (he _ _ _ _ _) at_ x1 itd (hbind _ _ _ _ _) hbig hgo λs' ⟨F',H',vs,I',x',hD',hFD',rs⟩=>?_;obtain⟨m,hn,_⟩:=id I'.loc;refine⟨m,hn,λh2 hs2=>⟨.ref s2.heap.objs.size,H',Znu I2 f2 (Zz3 hDC) I' hs2,rfl,k _ F' H' x' ⟨[s2.heap.objs.size],.ol hD' rs,by simp,λa ha=>?_⟩⟩⟩;obtain rfl:a=s2.heap.objs.size:=by simpa using ha
    exact⟨hFD',hHsD⟩
   exact codeAny_compStart_list loop (W.self _ 0 _ _ _ tn1 loop)
  ·cases h
 ·cases h
theorem ZoR(i:Nat){y:Str}{py spos:Pos}(hN:X.N.Nodup)(hxe:X.xe=λ_ _=>False)(hcalm:X.calm=ZDC)(T:ZeZ X N scope fr)(hbind:∀cl C s H ex,ZkO (Zaa X N scope cl C s H ex) fr.length tg dec)(hi:XIE X tg iter fi)(hc:∀cl C s H ex,XTs (Zaa X N scope cl C s H ex) ifs fc)(he:∀cl C s H ex,XE (Zaa X N scope cl C s H ex) elt fe)
  (hiy:X.N[i]?=Z y:=by rfl) (hy:X.env.scope.names.lookup y=Z .local:=by rfl) (hsw:ZAT (.ListComp elt [⟨tg,iter,ifs,0⟩] scope pos) (Z (.Name y py)) spos.line X.env=pure ZDC:=by rfl)
  (hs:∀x,ZAw iter X.env x=pure x:=by intro _; rfl):XS X (.Assign [.Name y py] (.ListComp elt [⟨tg,iter,ifs,0⟩] scope pos) spos) (HM.ZT i (Zhd dec fi fc fe)):=by
 intro r o h;obtain⟨b,hb,e⟩:=Zyl.mp h;subst e;unfold Zhd at hb;split at hb
 ·rename_i ds hds
  split at hb
  ·rename_i hbig
   obtain⟨out,hgo,e⟩:=Zyl.mp hb;subst e;intro pins s σ H E I ⟨F0,H0,F,at_,k⟩;obtain⟨cl,hclos,hcl,hfr⟩:=Zfd (Zov T I);rw[exec_Assign_Name_used _ _ _ _ hsw];refine Zyi (wpAny_standAt (Zyi ?_));show wpAny _ X.A (do let _ <-comprehension (.ListComp elt [⟨tg,iter,ifs,0⟩] scope pos) scope X.env _ (newList []) ZDD (eval iter X.env) (Z (assign (.Name y py) X.env))) _ _ s;refine Zyi (Zzw (wpAny_comprehension_free (use:=Z (assign (.Name y py) X.env)) (Q:=λ_ s'=>SP X pins E .next s') rfl hs hclos T.kind T.names (thn (hi r ds hds pins s σ H (λJ H'=>∃F',Ext F H F' H'/\ItE X.K J ds F') I ⟨F0,H0,F,at_,λJ F' H' x q=>⟨F',x,q⟩⟩) λv s1 h1=>thn h1 λitv s2 h2=>?_)) (λ_ s' hq=>Zym (Zym hq)) λ_ _ e=>e)
   obtain⟨it,fp,tn,J,H1,rfl,I2,W,st2,f2,F1,x1,itd⟩:=h2;have hfl:∀b∈fp,b<s2.heap.objs.size:=λb hb=>let ⟨o,ho,_⟩:=W.obj 0 _ st2 b hb; ZyB ho
   refine Zy4 (ZBW T.cell (by intro y hy; simp at hy) (λh1 hns hsb=>?_) T.kind);dsimp only at hns hsb ⊢;generalize hP:s2.heap.push { cls:=.type "list",dict:=Z_,data:=.seq ([]:List Value).toArray }=h0 at hns hsb ⊢;have hsz:h0.objs.size=s2.heap.objs.size+1:=by rw[<-hP,ZAb]
   have hDC:s2.heap.objs.size<h0.objs.size:=by rw[hsz]; exact ZAn _
   have old:∀b o,s2.heap.get? b=Z o->h1.get? b=Z o:=λb o e=>hsb.extBut b o (ZyG (ZAf (ZyB e) hDC)) (Zyn _ (by rw[<-hP]; exact Zyn _ e));have hl:h1.get? s2.heap.objs.size=Z { cls:=.type "list",data:=.seq #[] 0 }:=hsb.extBut _ _ (ZyG hDC) (Zyn _ (by rw[<-hP]; exact ZyC _ rfl));have I4:Inv (Zaa X N scope cl h0.objs.size s2 H1 fp) [] (ZyT fr.length Z_++σ) (upd H1 s2.heap.objs.size (.lst [])) { s2 with heap:=h1,toks:=s2.toks+([]:List (Str × Value)).length }:=ZnK T hcl hfr I2 hcalm f2 hfl rfl hDC hns hl old;have tn1:tn 0 h1:=W.keep _ _ _ st2 λb _ o e=>old b o e;have hHsD:H s2.heap.objs.size=Z_:=x1.hh.free (I2.hok.fresh (Zyr _));have loop:codeAny (model X.prog X.w) X.A (.compLoop (.ListComp elt [⟨tg,iter,ifs,0⟩] scope pos) 0 (.ref it) (.ref s2.heap.objs.size) (compEnvC scope cl h0.objs.size X.env)) (compPost (model X.prog X.w) X.A X.xe (Z (assign (.Name y py) X.env)) (λ_ s'=>SP X pins E .next s') (.ref s2.heap.objs.size) h0.objs.size)
     { s2 with heap:=h1,toks:=s2.toks+([]:List (Str × Value)).length }:=by
    refine Zou T I2 W f2 I4 tn1 (Zyr _) hfl hcalm (hc _ _ _ _ _) (he _ _ _ _ _) at_ x1 itd (hbind _ _ _ _ _) hbig hgo λs' ⟨F',H',vs,I',x',hD',hFD',rs⟩=>?_;obtain⟨m,hn,_⟩:=id I'.loc;have IX:Inv X pins σ H' s':=Znu (h':=s'.heap) I2 f2 (Zz3 hDC) I' (ZDB _ _);have hCn:H' h0.objs.size=Z_:=I'.free;have neL:h0.objs.size≠X.env.locals:=ZA0 (ZAf I2.lt hDC);have neC:∀z c,X.env.cells.lookup z=Z c->c≠h0.objs.size:=λz c hz=>by obtain⟨v,o,ho,_⟩:=I2.cell z c hz;exact ZyG (ZAf (ZyB ho) hDC)
    have neP:∀p∈X.pn++pins,p.1≠h0.objs.size:=λp hp=>ZyG (ZAf (ZyB (I2.pin p hp).1) hDC);show wpAny _ X.A (assign (.Name y py) X.env (.ref s2.heap.objs.size)) _ _ _;refine wpAny_assign_Name (ZlV IX hN hiy (.inl hy) (v:=.ref s2.heap.objs.size) rfl (λs3 I3 hsa=>?_) (.inr hy));obtain⟨a,sa,ea⟩:=hsa;have neA:h0.objs.size≠a:=by
     rcases ea with e | e
     ·rw[e]; exact neL
     ·exact Zzt (neC _ _ e)
    refine⟨m,hn.sameBut sa neA,λh2 hs2=>?_⟩;refine⟨_,H',I3.turned (t':=s3.toks) (it:=h0.objs.size) (λb o hb e=>(hs2.2 b hb).trans e) hCn neL (.inr (Zy2 I2.sz (Zz3 hDC))) neC neP,k _ F' H' ((at_.grow x').storeNew at_ x'.hh (fp':=[s2.heap.objs.size]) (.ol hD' rs) (by simp) λa ha=>?_)⟩;obtain rfl:a=s2.heap.objs.size:=by simpa using ha
    exact⟨hFD',hHsD⟩
   exact codeAny_compStart_list loop (W.self _ 0 _ _ _ tn1 loop)
  ·cases hb
 ·cases hb
end
end HP
namespace HP
open PySem PySem.Spec PyProof.Rows L2
variable[FX]
def ZtI(d:PyData):Option (List PyData):=Z [d]
theorem ZvG(c:HM.TF)(e:HM.EF)(r:HM.Env):∀xs,HM.Zag c e r xs=goG ZtI c e r xs
 | []=>rfl
 | x::xs=>by unfold HM.Zag goG;rw[ZvG c e r xs];rfl
theorem ZpE(i:HM.IF)(c:HM.TF)(e:HM.EF):HM.Zz i c e=Zhd ZtI i c e:=by
 funext r
 unfold HM.Zz Zhd;cases i r with
 | none=>rfl
 | some xs=>dsimp only; rw[ZvG]
theorem ZtG{K:Zyk}{F:Hp}{d1 d2:PyData}{v:V}(h:Rep K F (.tuple [d1,d2]) v):∃a v1 v2,v=.ref a/\F a=Z (.tup [v1,v2])/\Rep K F d1 v1/\Rep K F d2 v2:=by
 cases h with
 | @tup a ds vs h1 h2 h3 =>
  cases vs with
  | nil=>simp at h2
  | cons v1 vs=>cases vs with
   | nil=>simp at h2
   | cons v2 vs=>cases vs with
    | nil=>exact⟨a,v1,v2,rfl,h1,h3 0 _ _ rfl rfl,h3 1 _ _ rfl rfl⟩
    | cons _ _=>simp at h2
section
variable{X:Cx}{N:List Str}{scope:Scope}{x x2:Str}{px px2 pt:Pos}{kt:Nat}
theorem Zrm(T:ZeZ X N scope [x])(cl:List (Str × Addr))(C:Addr)(s₀:Shared)(H₀:Hp)(ex:List Addr):ZkO (Zaa X N scope cl C s₀ H₀ ex) 1 (.Name x px) ZtI:=by
 intro pins s σ sv H F d ys xv u hsv I r sub q hd;cases hd;have hx:=T.loc x (Zyt.mpr rfl);refine thn (ZpW (X:=Zaa X N scope cl C s₀ H₀ ex) (i:=0) T.nd (T.first 0 x rfl) (.inl (lookup_relabel_local hx)) (.inr (lookup_relabel_local hx)) _ s _ H xv u (λσ' H'=>σ'=(sv++σ).set 0 (Z xv)/\H'=H) I r ⟨rfl,rfl⟩) λ_ s' ⟨σ',H',I',e1,e2⟩=>?_
 subst e1 e2;refine⟨[xv],rfl,?_,.one q⟩;cases sv with
 | nil=>simp at hsv
 | cons a sv=>cases sv with
  | nil=>exact I'
  | cons _ _=>simp at hsv
def Zsl(kinds:Str->Option NameKind)(XN N:List Str)(names:List (Str × NameKind))(fr:List Str):Bool :=
 names.all (λy=>y.2 != .cell)&&names.all (λy=>y.2 != .local||names.lookup y.1==Z .local)&&fr.all (λx=>names.lookup x==Z .local)&&(Zyp fr.length).all (λi=>N[i]?==fr[i]?)&&decide N.Nodup&&N.length==XN.length+fr.length &&
 names.all (λy=>y.2 != .free||kinds y.1==Z .cell||kinds y.1==Z .free) &&
 (Zyp (N.length-fr.length)).all (λi=>match N[i+fr.length]? with
  | some y=>(names.lookup y != Z .free||XN[i]?==Z y)&&(names.lookup y==Z .free||(names.lookup y != Z .local&&names.lookup y != Z .cell))
  | none=>ZDC)
theorem ZF{X:Cx}{N XN:List Str}{scope sc:Scope}{fr:List Str}(hs:X.env.scope=sc:=by rfl)(hN:X.N=XN:=by rfl)(hk:scope.kind=.function:=by rfl)(h:Zsl (λy=>sc.names.lookup y) XN N scope.names fr=ZDC:=by decide +kernel):ZeZ X N scope fr:=by
 subst hN;unfold Zsl at h;simp only[ZyE,Zys,ZzQ,bne_iff_ne,beq_iff_eq,decide_eq_true_eq]at h;obtain⟨⟨⟨⟨⟨⟨⟨h1,h2⟩,h3⟩,h4⟩,h5⟩,h6⟩,h7⟩,h8⟩:=h;have at_:∀(i:Nat) (y:Str),N[i+fr.length]?=Z y->(scope.names.lookup y≠Z .free\/X.N[i]?=Z y)/\(scope.names.lookup y=Z .free\/(scope.names.lookup y≠Z .local/\scope.names.lookup y≠Z .cell)):=λi y e=>by have hi:i+fr.length<N.length:=(Zyw.mp e).1;have:=h8 i (ZyJ.mpr (by omega));rw[e]at this;simpa only[ZyE,ZzQ,bne_iff_ne,beq_iff_eq]using this
 refine⟨hk,h1,λy hy e=>(h2 y hy).resolve_left (λz=>z e),h3,λi x e=>?_,h5,h6,λy hy e=>?_,λi y e q=>(at_ i y e).1.resolve_left (λz=>z q),λi y e v=>?_⟩
 ·rw[h4 i (ZyJ.mpr (Zyw.mp e).1)]
  exact e
 ·have:=h7 y hy
  rw[show X.env.kindOf y.1=sc.names.lookup y.1 by rw[<-hs]; rfl];rcases this with(z | z) | z
  ·exact absurd e z
  ·exact .inl z
  ·exact .inr z
 ·rcases(at_ i y e).2 with z | ⟨z1,z2⟩
  ·exact z
  ·rcases v with v | v | v
   ·exact absurd v z1
   ·exact absurd v z2
   ·exact v
variable{elt iter:Expr}{ifs:List Expr}{pos:Pos}{fi:HM.IF}{fc:HM.TF}{fe:HM.EF}
theorem Zao(hxe:X.xe=λ_ _=>False)(hcalm:X.calm=ZDC)(T:ZeZ X N scope [x])(hi:XI X (.Name x px) iter fi)(hc:∀cl C s H ex,XTs (Zaa X N scope cl C s H ex) ifs fc)(he:∀cl C s H ex,XE (Zaa X N scope cl C s H ex) elt fe)
  (hs:∀x,ZAw iter X.env x=pure x:=by intro _; rfl):XF X (.ListComp elt [⟨.Name x px,iter,ifs,0⟩] scope pos) (HM.Zz fi fc fe):=by
 rw[ZpE];exact ZsC hxe hcalm T (Zrm T) hi.e hc he hs
theorem Zda(i:Nat){y:Str}{py spos:Pos}(hN:X.N.Nodup)(hxe:X.xe=λ_ _=>False)(hcalm:X.calm=ZDC)(T:ZeZ X N scope [x])(hi:XI X (.Name x px) iter fi)(hc:∀cl C s H ex,XTs (Zaa X N scope cl C s H ex) ifs fc)(he:∀cl C s H ex,XE (Zaa X N scope cl C s H ex) elt fe)
  (hiy:X.N[i]?=Z y:=by rfl) (hy:X.env.scope.names.lookup y=Z .local:=by rfl) (hsw:ZAT (.ListComp elt [⟨.Name x px,iter,ifs,0⟩] scope pos) (Z (.Name y py)) spos.line X.env=pure ZDC:=by rfl)
  (hs:∀x,ZAw iter X.env x=pure x:=by intro _; rfl):XS X (.Assign [.Name y py] (.ListComp elt [⟨.Name x px,iter,ifs,0⟩] scope pos) spos) (HM.ZT i (HM.Zz fi fc fe)):=by
 rw[ZpE];exact ZoR i hN hxe hcalm T (Zrm T) hi.e hc he hiy hy hsw hs
end
end HP
namespace HP
open PySem PySem.Spec PyProof.Rows L2
variable{p:Addr}{r:HM.Env}{F F0 H H0:Hp}{σ:L2.St}{kvs:List (List Key × List PyData)}{ds:List PyData}{i:Nat}{K:Zyk}{Q:Value->Shared->Prop}
variable[FX]
section
variable{prog:Program}{w:World}{K:Type}[DecidableEq K]{knd:HeapKind prog w K}{A:Around}{E:Value->Shared->Prop}{s:Shared}
theorem Zlr{d a:Addr}{xs:List (K × Addr × Value)}{k:K}{v:Value}(hu:knd.room A)(hkey:knd.is s.heap k a)(hm:s.heap.DictOfH knd d xs)(hsz:xs.length<=sizeLine)
  (h1:∀p,atKey xs k=Z p->Q p.2 { s with toks:=s.toks+knd.draws k })
  (h2:atKey xs k=Z_->∀h',h'.DictOfH knd d (storedH xs k a v)->ZAc d s.heap h'->Q v { s with heap:=h',toks:=s.toks+knd.draws k }) :
  wpAny (model prog w) A (dictSetDefault d (.ref a) v) Q E s:=by
 obtain⟨o,es,ep,ho,hc,hd,he,his,hn⟩:=hm;unfold dictSetDefault
 try with_reducible refine Zzp ?_
 refine Zyi (knd.pyHash hu hkey ?_);refine Zyi (wpAny_dictFind_heap (s:={ s with toks:=s.toks+knd.draws k }) hu hkey ho hd he his hn ?_ ?_)
 ·intro hno
  have hnot:k ∉ xs.map (·.1):=not_mem_keys_of_get hno;have hnk:=atKey_none_of_get hno;refine Zyi (ZBX (Zyi (wpAny_updateDictKeys (hz:=by have e:=size_of_entries he; omega) (s:={ s with toks:=s.toks+knd.draws k }) ho hd (Zym (h2 hnk _ ⟨_,_,ep+1,Zzy _ ho (Obj.isFreed_of_dict (Obj.data_mapDictKeys hd _)),
   hc.mapDictKeys _,Obj.data_mapDictKeys hd _,?_,?_,?_⟩ (Zzx ..))))))
  ·rw[storedH_new hnk]
   simp[he,entryOfKey]
  ·rw[storedH_new hnk]
   intro x hx;rcases ZyK.mp hx with hx | hx
   ·exact knd.keeps (his x hx) ho hd (Zzx ..)
   ·simp only[Zyt]at hx
    subst hx;exact knd.keeps hkey ho hd (Zzx ..)
  ·rw[storedH_new hnk]
   rw[ZyR,ZAY];refine⟨hn,by simp,?_⟩;intro x hx y hy;simp only[Zyv,ZA1,Zyt]at hy;subst hy;exact λe=>hnot (e▸hx)
 ·intro j p hj
  refine Zyi (ZBt (s:={ s with toks:=s.toks+knd.draws k }) ho hd ?_);rw[entry_at he j,hj];exact Zyi (ZBX (Zym (h1 p (atKey_of_get hn hj))))
theorem Zjs(d a:Addr)(hd:(d==ZzP)=ZDD)(dflt:Value) :
  MeetsIn prog w (Builtin.«dict.setdefault» ⟨[.ref d,.ref a,dflt],[]⟩) (λA R s=>knd.room A.in1/\∃k xs,knd.is s.heap k a/\s.heap.DictOfH knd d xs/\xs.length<=sizeLine /\
   (∀p,atKey xs k=Z p->R (.ok (.ret p.2)) { s with toks:=s.toks+knd.draws k }) /\
   (atKey xs k=Z_->∀h',h'.DictOfH knd d (storedH xs k a dflt)->ZAc d s.heap h'->R (.ok (.ret dflt)) { s with heap:=h',toks:=s.toks+knd.draws k })) :=
 .of_wp λA R s ⟨hu,k,xs,hkey,hm,hz,h1,h2⟩=>by unfold Builtin.«dict.setdefault»;refine Zyi ?_;unfold Builtin.Dict.keyAndDefault;refine Zyi (wpAny_notOrdered_dict hm.typeIs ?_);show wpAny _ _ (pure (d,Zzc a,Z dflt)) _ _ s;refine Zym ?_;show wpAny _ _ (if(d==ZzP)=ZDC then _ else(dictSetDefault d (.ref a) dflt >>= _)) _ _ s;rw[if_neg (by rw[hd]; exact Zy5)];exact Zyi (Zlr hu hkey hm hz (λp hp=>Zym ⟨p.2,rfl,h1 p hp⟩) λhn h' hm' hs'=>Zym ⟨dflt,rfl,h2 hn h' hm' hs'⟩)
end
section
variable{X:Cx}{pins:List (Addr × Obj)}{σ:L2.St}{H:Hp}{s:Shared}{a b:Addr}{z:V}{r:Value}{A:Around}{E:Value->Shared->Prop}{kvs:List (List Key × V)}{k:List Key}
theorem ZvT(hu:A.units+1<cLine)(I:Inv X pins σ H s)(e:H a=Z (.dT kvs))(eb:H b=Z (.tup (k.map kV)))(hl:kvs.length<sizeLine)(rz:RelV z r)
  (h1:∀v,Zay kvs k=Z v->∀w' s',Inv X pins σ H s'->RelV v w'->Q w' s') (h2:Zay kvs k=Z_->∀s',Inv X pins σ (upd H a (.dT (kvs++[(k,z)]))) s'->Q r s') :
  wpAny (model X.prog X.w) A (call (.builtin "dict.setdefault") [.ref a,.ref b,r]) Q E s:=by
 obtain⟨zz,hd,xs,rel,dd⟩:=ZtY I.hok e;have hz:xs.length<=sizeLine:=by rw[<-ZAQ rel]; exact zz
 have hv:=rel.val k;refine call_meetsIn ZCb dd.typeIs PySem.F.entry_dict_setdefault (PySem.F.args_dict_setdefault_3 _ _ _) (Zjs (knd:=ZBN (Zav X.prog X.w)) a b hd r) ⟨ZAU hu,k,xs,Zhj I.hok eb,dd,hz,λp hp=>?_,λhn h' dd' hs=>?_⟩
 ·rw[hp]at hv
  cases hvv:Zay kvs k with
  | none=>rw[hvv]at hv; exact hv.elim
  | some v=>rw[hvv]at hv; exact h1 v hvv _ _ (I.tok _) hv
 ·rw[hn]at hv
  have hvv:Zay kvs k=Z_:=by
   cases hvv:Zay kvs k with
   | none=>rfl
   | some v=>rw[hvv]at hv; exact hv.elim
  refine h2 hvv _ ?_;have hp:=rel.put k eb rz;have epk:putK kvs k z=kvs++[(k,z)]:=by unfold putK;rw[if_neg];rw[ZjV,hvv];simp
  rw[epk]at hp;obtain⟨q,es,ep,hq,g2,g3,g4,_,g5⟩:=dd';refine Zje I (by rw[e]; exact ZBl) hs ⟨q,hq⟩ ⟨by rw[ZyA]; exact hl,hd,_,hp.keeps λc ys ec=>?_,q,es,ep,hq,g2,g3,g4,g5⟩;rw[Zy (ZtX ec e (λz=>nomatch z))];exact ec
end
def ZxM(td ty tx:TE):TE:=λσ H Q=>td σ H λx H1=>∃a,x=.ref a/\IsD H1 a/\ty σ H1 λy H2=>tx σ H2 λz H3=>∃kvs k b,H3 a=Z (.dT kvs)/\y=.ref b/\H3 b=Z (.tup (k.map kV))/\kvs.length<sizeLine /\
 (∀v,Zay kvs k=Z v->Q v H3)/\(Zay kvs k=Z_->Q z (upd H3 a (.dT (kvs++[(k,z)]))))
section
variable{X:Cx}{o e f:Expr}{apos cpos:Pos}{td ty tx:TE}
theorem ZvX(hu:X.A.units+1<cLine)(ho:PE X o td)(he:PE X e ty)(hf:PE X f tx)(m:M2 X o "setdefault" apos e f cpos):PE X (.Call (.Attribute o "setdefault" apos) [e,f] [] cpos) (ZxM td ty tx):=by intro pins s σ H Q I h;refine wpAny_Call_method m.base m.few m.line PySem.F.plainAttrs_dict ZCb PySem.F.type_dict_setdefault (thn (ho pins s σ H _ I h) λu s1 ⟨x,H1,I1,rx,a,ex,d,q1⟩=>?_);subst ex;obtain rfl:u=Zzc a:=rx;obtain⟨t1,t2,_⟩:=Zvp I1 d;refine⟨t1,t2,?_⟩;rw[m.trees];refine ZBz rfl (ZDl (ZCl (thn (he pins s1 σ H1 _ I1 q1) λiv s2 ⟨y,H2,I2,ry,q2⟩=>ZCl (thn (hf pins s2 σ H2 _ I2 q2) λfv s3 ⟨z,H3,I3,rz,kvs,k,b,ea,ey,eb,hl,q3,q4⟩=>Calls.spliced_nil ?_))));subst ey;obtain rfl:iv=Zzc b:=ry;exact ZvT hu I3 ea eb hl rz (λv hv w' s4 I4 rw'=>⟨v,H3,I4,rw',q3 v hv⟩) λhn s4 I4=>⟨z,_,I4,rz,q4 hn⟩
end
def OT(K:Zyk)(F H:Hp)(kvs:List (List Key × List PyData))(vvs:List (List Key × V))(ls:List Addr):Prop:=kvs.map (·.1)=vvs.map (·.1)/\vvs.map (·.2)=ls.map V.ref /\
 ∀(i:Nat) (ds:List PyData) (l:Addr),(kvs.map (·.2))[i]?=Z ds->ls[i]?=Z l->∃vs,H l=Z (.lst vs)/\Zq K F ds vs
section
variable{K:Zyk}{F F' H H':Hp}{kvs:List (List Key × List PyData)}{vvs:List (List Key × V)}{ls:List Addr}
theorem OT.len(q:OT K F H kvs vvs ls):kvs.length=ls.length/\kvs.length=vvs.length:=by have e1:=congrArg Zy8 q.1;have e2:=congrArg Zy8 q.2.1;rw[Zyj,Zyj]at e1 e2;omega
theorem OT.mono(q:OT K F H kvs vvs ls)(s:Zp F F')(k:∀a∈ls,∀o,H a=Z o->H' a=Z o):OT K F' H' kvs vvs ls :=
 ⟨q.1,q.2.1,λi ds l h1 h2=>let ⟨vs,q1,q2⟩:=q.2.2 i ds l h1 h2; ⟨vs,k l (ZyQ h2) _ q1,q2.mono s⟩⟩
theorem OT.snoc(q:OT K F H kvs vvs ls)(k:List Key)(hp:H p=Z (.lst [])):OT K F H (kvs++[(k,[])]) (vvs++[(k,.ref p)]) (ls++[p]):=by
 refine⟨by rw[ZyR,ZyR,q.1]; rfl,by rw[ZyR,ZyR,q.2.1]; rfl,λi ds l h1 h2=>?_⟩;have hl:=q.len;rw[ZyR]at h1
 by_cases hi:i<kvs.length
 ·rw[ZyY (by rw[Zyj]; exact hi)]at h1
  rw[ZyY (by omega)]at h2;exact q.2.2 i ds l h1 h2
 ·rw[Zy0 (by rw[Zyj]; omega),Zyj]at h1
  rw[Zy0 (by omega),<-hl.1]at h2;cases hj:i-kvs.length with
  | zero=>rw[hj]at h1 h2;cases h1; cases h2;exact⟨[],hp,.nil⟩
  | succ j=>rw[hj]at h1; cases h1
theorem OT.look(q:OT K F H kvs vvs ls)(k:List Key):(∀ds,HM.Zn kvs k=Z ds->∃l' vs,Zay vvs k=Z (.ref l')/\l'∈ls/\H l'=Z (.lst vs)/\Zq K F ds vs)/\(HM.Zn kvs k=Z_->Zay vvs k=Z_):=Zkb k kvs vvs ls q.1 q.2.1 q.2.2
theorem OT.app(k:List Key){d:PyData}{v:V}:∀{kvs:List (List Key × List PyData)} {vvs:List (List Key × V)} {ls:List Addr},OT K F H kvs vvs ls->ls.Nodup->Rep K F d v->∀{l':Addr} {vs:List V},Zay vvs k=Z (.ref l')->H l'=Z (.lst vs) ->
  OT K F (upd H l' (.lst (vs++[v]))) (HM.Zdk kvs k d) vvs ls
 | [],[],_,q,_,_,l',vs,hv,_=>by cases hv
 | [],_::_,_,q,_,_,_,_,_,_=>by have:=q.len; simp at this
 | _::_,[],_,q,_,_,_,_,_,_=>by have:=q.len; simp at this
 | _::_,_::_,[],q,_,_,_,_,_,_=>by have:=q.len; simp at this
 | (k1,ds1)::kvs,(k2,v2)::vvs,l1::ls,q,nd,rd,l',vs,hv,hl=>by
  obtain⟨q1,q2,q3⟩:=q;rw[Zyv,Zyv]at q1 q2;injection q1 with e1 e2
  injection q2 with e3 e4
  have e1:k1=k2:=e1;have e3:v2=.ref l1:=e3;subst e1 e3;have rest:OT K F H kvs vvs ls:=⟨e2,e4,λi ds l h1 h2=>q3 (i+1) ds l (by simpa using h1) (by simpa using h2)⟩;obtain⟨n1,n2⟩:=Zzn.mp nd;obtain⟨us,f1,f2⟩:=q3 0 ds1 l1 rfl rfl;unfold HM.Zdk
  by_cases hk:k1=k
  ·rw[if_pos hk]
   rw[ZdM (p:=(k1,V.ref l1)) hk]at hv;cases hv;rw[hl]at f1;cases f1;refine⟨by rw[Zyv,Zyv,e2],by rw[Zyv,Zyv,e4],λi ds l h1 h2=>?_⟩;cases i with
   | zero=>cases h1; cases h2;exact⟨_,Zx,f2.append (.one rd)⟩
   | succ i=>rw[Zyv,Zy3]at h1;rw[Zy3]at h2;obtain⟨us,g1,g2⟩:=rest.2.2 i ds l h1 h2;exact⟨us,by rw[Zy (λz=>n1 (by rw[<-z]; exact ZyQ h2))]; exact g1,g2⟩
  ·rw[if_neg hk]
   rw[ZdF (p:=(k1,V.ref l1)) hk]at hv;have ih:=OT.app k rest n2 rd hv hl;have hne:l1≠l':=by
    rintro rfl
    have:∀(vvs:List (List Key × V)) (ls:List Addr),vvs.map (·.2)=ls.map V.ref->∀l',Zay vvs k=Z (.ref l')->l'∈ls:=by
     intro vvs
     induction vvs with
     | nil=>intro ls _ l' h; cases h
     | cons p vvs ih =>
      intro ls he l' h;cases ls with
      | nil=>simp at he
      | cons l ls =>
       rw[Zyv,Zyv]at he;injection he with he1 he2
       by_cases hp:p.1=k
       ·rw[ZdM hp]at h
        rw[he1]at h;cases h;exact Zyo
       ·rw[ZdF hp]at h
        exact Zyq _ (ih ls he2 l' h)
    exact n1 (this vvs ls e4 _ hv)
   refine⟨by rw[Zyv,Zyv,ih.1],by rw[Zyv,Zyv,e4],λi ds l h1 h2=>?_⟩;cases i with
   | zero=>cases h1; cases h2;exact⟨us,by rw[Zy hne]; exact f1,f2⟩
   | succ i=>rw[Zyv,Zy3]at h1;rw[Zy3]at h2;exact ih.2.2 i ds l h1 h2
end
theorem Za7.otl{K:Zyk}{F0 H0 F H:Hp}{r:HM.Env}{σ:L2.St}{fp:Nat->List Addr}{i:Nat}{kvs:List (List Key × List PyData)}(e:Za7 K F0 H0 F H r σ fp)(h:r[i]?=Z (Z (.otl kvs))) :
  ∃a vvs ls,σ[i]?=Z (Z (.ref a))/\H a=Z (.dT vvs)/\OT K F H kvs vvs ls/\fp i=a::ls:=by
 obtain⟨v,h1,h2⟩:=e.at_ i _ h;generalize hf:fp i=q at h2;cases h2 with
 | otl k1 k2 k3 k4=>exact⟨_,_,_,h1,k1,⟨k2,k3,k4⟩,rfl⟩
theorem Za7.otlNew{Fb Hb:Hp}{fp:Nat->List Addr}(k:List Key)(eb:Za7 K F0 H0 Fb Hb r σ fp)(x:Ext Fb Hb F H)(h:r[i]?=Z (Z (.otl kvs)))(hp:H p=Z (.lst []))(hF:F p=Z_)(hb:Hb p=Z_) :
  ∃a vvs,σ[i]?=Z (Z (.ref a))/\H a=Z (.dT vvs)/\vvs.length=kvs.length/\(HM.Zn kvs k=Z_->Zay vvs k=Z_)/\At K F0 H0 F (upd H a (.dT (vvs++[(k,.ref p)]))) (r.set i (Z (.otl (kvs++[(k,[])])))) σ:=by
 have e:=eb.grow x;obtain⟨a,vvs,ls,h1,h2,h3,h4⟩:=e.otl h;have hpn:∀j,p ∉ fp j:=λj hj=>by obtain⟨o,ho⟩:=eb.there hj;rw[hb]at ho; cases ho
 have hpa:p≠a:=λz=>hpn i (by rw[h4,z]; exact Zyo);have hal:a ∉ ls:=(Zzn.mp (h4▸e.nd i)).1;have nl:ls.Nodup:=(Zzn.mp (h4▸e.nd i)).2;have hpl:p ∉ ls:=λz=>hpn i (by rw[h4]; exact Zyq _ z);refine⟨a,vvs,h1,h2,h3.len.2.symm,(h3.look k).2,?_⟩;have q:=h3.snoc k hp;have q':OT K F (upd H a (.dT (vvs++[(k,.ref p)]))) (kvs++[(k,[])]) (vvs++[(k,.ref p)]) (ls++[p]):=q.mono (Zp.refl F) λc hc o z=>by
  rw[Zy]
  ·exact z
  ·rintro rfl
   rcases ZyK.mp hc with hc | hc
   ·exact hal hc
   ·exact hpa (Zyt.mp hc).symm
 have nd':(a::(ls++[p])).Nodup:=by
  refine Zzn.mpr ⟨?_,?_⟩
  ·intro z
   rcases ZyK.mp z with z | z
   ·exact hal z
   ·exact hpa (Zyt.mp z).symm
  ·rw[ZAY]
   refine⟨nl,by simp,λx hx y hy=>?_⟩;obtain rfl:y=p:=by simpa using hy
   rintro rfl
   exact hpl hx
 refine e.changeW h1 (fp':=a::(ls++[p])) (.otl Zx q'.1 q'.2.1 q'.2.2) nd' (λc hc=>?_) λc o z hn=>?_
 ·rcases ZyH.mp hc with z | z
  ·subst z; exact .inl (by rw[h4]; exact Zyo)
  ·rcases ZyK.mp z with z | z
   ·exact .inl (by rw[h4]; exact Zyq _ z)
   ·obtain rfl:c=p:=Zyt.mp z
    exact .inr ⟨hF,eb.ext.hh.free hb,hpn⟩
 ·rw[Zy (λy=>hn (by rw[h4,y]; exact Zyo))]
  exact z
theorem At.otlApp(k:List Key)(e:At K F0 H0 F H r σ)(h:r[i]?=Z (Z (.otl kvs)))(hd:HM.Zn kvs k=Z ds) :
  ∃a vvs l vs,σ[i]?=Z (Z (.ref a))/\H a=Z (.dT vvs)/\Zay vvs k=Z (.ref l)/\H l=Z (.lst vs)/\Zq K F ds vs/\∀d v,Rep K F d v->At K F0 H0 F (upd H l (.lst (vs++[v]))) (r.set i (Z (.otl (HM.Zdk kvs k d)))) σ:=by
 obtain⟨fp,e⟩:=e;obtain⟨a,vvs,ls,h1,h2,h3,h4⟩:=e.otl h;obtain⟨l,vs,g1,g2,g3,g4⟩:=(h3.look k).1 ds hd;have hal:a ∉ ls:=(Zzn.mp (h4▸e.nd i)).1;have nl:ls.Nodup:=(Zzn.mp (h4▸e.nd i)).2;have hne:a≠l:=λz=>hal (by rw[z]; exact g2);refine⟨a,vvs,l,vs,h1,h2,g1,g3,g4,λd v rd=>?_⟩;have q:=h3.app k nl rd g1 g3;refine e.change h1 (fp':=a::ls) (.otl (by rw[Zy hne]; exact h2) q.1 q.2.1 q.2.2) (h4▸e.nd i) (λc hc=>.inl (by rw[h4]; exact hc)) λc o z hn=>?_;rw[Zy (λy=>hn (by rw[h4,y]; exact Zyq _ g2))];exact z
section
variable{X:Cx}{a b c e:Expr}{fa fb fc:HM.EF}{pos p:Pos}{f:HM.BF}
theorem ZrM{k:List Key}(h:HM.Zn kvs k=Z ds):HM.Zcm kvs k=kvs:=by unfold HM.Zcm; rw[h]
theorem Zsy{k:List Key}(h:HM.Zn kvs k=Z_):HM.Zcm kvs k=kvs++[(k,[])]:=by unfold HM.Zcm; rw[h]
theorem ZsD(hu:X.A.units+1<cLine)(i:Nat){x:Str}{p0 p1 p2 p3 p4 p5:Pos}(hk:XE X b fb)(ha:XE X a fa)(m:M2 X (.Name x p0) "setdefault" p1 b (.List [] p2) p3)(hN:X.N[i]?=Z x:=by rfl)(hv:Vis X.env.scope x:=by first | exact Zzq rfl | exact ZyX (Zzq rfl) | exact ZyX (ZyX rfl))(hd:(x==("__debug__":Str))=ZDD:=by decide)(hcd:(x==("__classdict__":Str))=ZDD:=by decide)
  (hbase:ZAS (.Call (.Attribute (.Name x p0) "setdefault" p1) [b,.List [] p2] [] p3) "append" X.env (eval (.Call (.Attribute (.Name x p0) "setdefault" p1) [b,.List [] p2] [] p3) X.env)=eval (.Call (.Attribute (.Name x p0) "setdefault" p1) [b,.List [] p2] [] p3) X.env:=by rfl)
  (hfew:((backTo p5 (Zyz [a] X.env)).all (λx=>!x.1)&&(backToKw p5 (ZCi [] X.env)).all (λx=>x.1.isSome)&&decide (([a]:List Expr).length+([]:List Keyword).length+(if([]:List Keyword).isEmpty then 0 else 1)<30))=ZDC:=by rfl)
  (hline:(p4.endLine==p5.line)=ZDC:=by rfl) (hs:Zyz [a] X.env=[(ZDD,eval a X.env)]:=by rfl):XS X (.Expr (.Call (.Attribute (.Call (.Attribute (.Name x p0) "setdefault" p1) [b,.List [] p2] [] p3) "append" p4) [a] [] p5) pos) (HM.ZoM i fb fa):=by
 intro r o h;unfold HM.ZoM at h;split at h
 ·rename_i y hy
  split at h
  ·rename_i kvs hb
   split at h
   ·rename_i k hk'
    split at h
    ·rename_i hzz
     split at h
     ·rename_i d hd'
      split at h
      ·rename_i ds hds
       split at h
       ·rename_i hz
        cases h;have hi:i<r.length:=(Zyw.mp hb).1;have hb':(r.set i (Z (.otl (HM.Zcm kvs k))))[i]?=Z (Z (.otl (HM.Zcm kvs k))):=Zzd hi;refine PS.imp (Zjc (ZqB ZAN ZCP ZCQ Ziw (ZvX hu (Zco hN hv hd hcd) (hk r y hy) (Zce (X:=X) Zf (by simp) r (.ol []) rfl) m) (Zaf (ha _ d hd') Zbt hs) hbase hfew hline hs rfl)) λE σ H ⟨F0,H0,F,at_,kk⟩=>?_;have fin:∀{F3 H3:Hp} {l:Addr},At X.K F0 H0 F3 H3 (r.set i (Z (.otl (HM.Zcm kvs k)))) σ->(∃vs,SqL X.K H3 l vs)->(∀a' vvs',σ[i]?=Z (Z (.ref a'))->H3 a'=Z (.dT vvs')->Zay vvs' k=Z (.ref l)) ->
          tyV X.K "list" (.ref l) H3/\Now X.K (r.set i (Z (.otl (HM.Zcm kvs k)))) σ H3 λF0 H0 F=>∀v F' H',Ext F H3 F' H'->Rep X.K F' d v->ZpA (.ref l) [v] H' λ_ H'=>E.nx σ H':=by
         intro F3 H3 l at3 hl hat;refine⟨.inl ⟨rfl,hl⟩,F0,H0,F3,at3,λv F4 H4 x4 r4=>?_⟩;obtain⟨aa',vvs',l',vs',g1,g2,g3,g4,g5,g6⟩:=(at3.grow x4).otlApp k hb' hds;obtain⟨aa2,vvs2,l2,vs2,f1,f2,f3,_⟩:=at3.otlApp k hb' hds;rw[f1]at g1;cases g1;rw[x4.hh _ _ f2]at g2;cases g2;rw[hat _ _ f1 f2]at g3;cases g3;have g7:=g6 d v r4;rw[ZBU]at g7;refine⟨_,vs',v,rfl,rfl,g4,?_,kk _ F4 _ g7⟩;rw[<-g5.1];exact Zg4 hz
        obtain⟨fq,eb⟩:=at_;obtain⟨aa,vvs,ls,e1,e2,e3,e4⟩:=eb.otl hb;refine⟨.ref aa,e1,aa,rfl,.inr ⟨vvs,.inl e2⟩,F0,H0,F,⟨fq,eb⟩,λw F1 H1 x1 r1=>⟨F0,H0,F1,At.grow ⟨fq,eb⟩ x1,λv F2 H2 x2 ⟨fp,r2,nd,hn⟩=>?_⟩⟩;obtain⟨bb,rfl,hbb⟩:=ZdL hk' r1;have x12:=x1.trans x2;have hz0:vvs.length<sizeLine:=by rw[<-e3.len.2]; exact Zg4 hzz
        refine⟨vvs,k,bb,x12.hh _ _ e2,rfl,x2.hh _ _ (x1.sub _ _ hbb),hz0,λu hu'=>?_,λhno=>?_⟩
        ·have hls:∃ds0,HM.Zn kvs k=Z ds0:=by
          cases hq:HM.Zn kvs k with
          | some ds0=>exact⟨ds0,rfl⟩
          | none=>rw[(e3.look k).2 hq]at hu'; cases hu'
         obtain⟨ds0,hls⟩:=hls;have ead:=ZrM hls;obtain⟨l0,vs0,q1,q2,q3,q4⟩:=(e3.look k).1 ds0 hls;rw[q1]at hu';cases hu';refine fin (F3:=F2) ?_ ⟨vs0,SqL.of (x12.hh _ _ q3)⟩ λa' vvs' z1 z2=>?_
         ·rw[ead]
          have:r.set i (Z (.otl kvs))=r:=by obtain⟨h1,h2⟩:=Zyw.mp hb;rw[<-h2];exact ZA2 h1
          rw[this];exact At.grow ⟨fq,eb⟩ x12
         ·rw[e1]at z1
          cases z1;rw[x12.hh _ _ e2]at z2;cases z2;exact q1
        ·have hls:HM.Zn kvs k=Z_:=by
          cases hq:HM.Zn kvs k with
          | none=>rfl
          | some ds0=>obtain⟨l0,vs0,q1,_⟩:=(e3.look k).1 ds0 hq;rw[hno]at q1; cases q1
         have ead:=Zsy hls;cases r2 with
         | @ol l _ vs hl1 rs =>
          obtain rfl:vs=[]:=rs.nil_inv;have hHl:H l=Z_:=x1.hh.free (hn l (by simp)).2;obtain⟨aa2,vvs2,g1,g2,g3,g4,g5⟩:=eb.otlNew k x12 hb hl1 (hn l (by simp)).1 hHl;rw[e1]at g1;cases g1;rw[x12.hh _ _ e2]at g2;cases g2;have hne:l≠aa:=λz=>by rw[z,e2]at hHl; cases hHl
          refine fin (F3:=F2) (by rw[ead]; exact g5) ⟨[],SqL.of (by rw[Zy hne]; exact hl1)⟩ λa' vvs' z1 z2=>?_;rw[e1]at z1;cases z1;rw[Zx]at z2;cases z2;unfold Zay at hno ⊢;rw[Option.map_eq_none_iff]at hno;rw[ZCx,hno];simp
       ·cases h
      ·cases h
     ·cases h
    ·cases h
   ·cases h
  ·cases h
 ·cases h
end
end HP
namespace HP
open PySem PyProof.Rows
variable{xs:Array Nat}{b:Bool}{i j:Nat}
def Zer(xs:Array Nat):Prop:=xs.toList.Pairwise (· < ·)
theorem Zer.lt(h:Zer xs){k:Nat}(hk:k<xs.size)(hik:i<k):xs.getD i 0<xs.getD k 0:=by have:=ZBg.mp h i k (by simpa using ZAf hik hk) (by simpa using hk) hik;simpa [Zz6,hk,ZAf hik hk]using this
theorem Zj9{xs:Array Nat}(h:Zer xs)(j:Nat):∀(fuel lo hi:Nat),lo<=hi->hi<=xs.size->hi-lo<=fuel->(∀i,i<lo->xs.getD i 0<j)->(∀i,hi<=i->i<xs.size->j<=xs.getD i 0) ->
  ZBu xs j fuel lo hi<=xs.size/\(∀i,i<ZBu xs j fuel lo hi->xs.getD i 0<j)/\∀i,ZBu xs j fuel lo hi<=i->i<xs.size->j<=xs.getD i 0
 | 0,lo,hi,h1,h2,h3,a,b=>by
  obtain rfl:lo=hi:=by omega
  exact⟨h2,a,b⟩
 | fuel+1,lo,hi,h1,h2,h3,a,b=>by
  unfold ZBu;split
  ·rename_i hlt
   have hm:(lo+hi) / 2<xs.size:=by omega
   have e:xs.getD ((lo+hi) / 2) j=xs.getD ((lo+hi) / 2) 0:=by simp[Zz6,hm]
   dsimp only;rw[e]
   by_cases q:xs.getD ((lo+hi) / 2) 0<j
   ·rw[if_pos q]
    refine Zj9 h j fuel ((lo+hi) / 2+1) hi (by omega) h2 (by omega) (λi hi'=>?_) b
    by_cases c:i=(lo+hi) / 2
    ·rw[c]; exact q
    ·exact ZAf (h.lt hm (by omega)) q
   ·rw[if_neg q]
    refine Zj9 h j fuel lo ((lo+hi) / 2) (by omega) (by omega) (by omega) a (λi hi' hs=>?_)
    by_cases c:i=(lo+hi) / 2
    ·rw[c]; omega
    ·have:=h.lt hs (show(lo+hi) / 2<i by omega); omega
  ·obtain rfl:lo=hi:=by omega
   exact⟨h2,a,b⟩
theorem Zfm(h:Zer xs)(j:Nat):Zyx xs j<=xs.size/\(∀i,i<Zyx xs j->xs.getD i 0<j)/\∀i,Zyx xs j<=i->i<xs.size->j<=xs.getD i 0 :=
 Zj9 h j xs.size 0 xs.size (Zzj _) (Zyr _) (by omega) (λi hi=>by omega) λi h1 h2=>by omega
theorem Zqs(h:Zer xs)(hi:i<xs.size):Zyx xs (xs.getD i 0+1)=i+1:=by
 obtain⟨a,b,c⟩:=Zfm h (xs.getD i 0+1);apply Nat.le_antisymm
 ·apply ZAm
  intro q;have h1:=b (i+1) q;have h2:=h.lt (show i+1<xs.size by omega) (ZAn i);omega
 ·apply ZAm
  intro q;have h1:=c (Zyx xs (xs.getD i 0+1)) (Zyr _) (by omega)
  by_cases e:Zyx xs (xs.getD i 0+1)=i
  ·rw[e]at h1; omega
  ·have:=h.lt hi (show Zyx xs (xs.getD i 0+1)<i by omega); omega
theorem ZqL(h:Zer xs):Zyx xs 0=0:=by obtain⟨a,b,c⟩:=Zfm h 0;apply Nat.eq_zero_of_not_pos;intro q;have:=b 0 q;omega
theorem ZjC(h:Zer xs)(hn:xs[Zyx xs j]?≠Z j):Zer (ZyN xs (Zyx xs j) j):=by
 obtain⟨a,b,c⟩:=Zfm h j;unfold Zer;rw[ZBj];have gt:∀i,Zyx xs j<=i->i<xs.size->j<xs.getD i 0:=by
  intro i h1 h2
  by_cases e:Zyx xs j=i
  ·subst e
   have h3:=c _ h1 h2;have:xs.getD (Zyx xs j) 0≠j:=λq=>hn (by
    have z:xs[Zyx xs j]?=Z (xs.getD (Zyx xs j) 0):=by simp[Zz6,h2]
    rw[z,q])
   omega
  ·have h3:=h.lt h2 (show Zyx xs j<i by omega)
   have h4:=c _ (Zyr _) (show Zyx xs j<xs.size by omega);omega
 rw[ZA5];refine⟨h.sublist (List.take_sublist ..),Zzb.mpr ⟨λx hx=>?_,h.sublist (List.drop_sublist ..)⟩,λx hx y hy=>?_⟩
 ·obtain⟨i,hi,rfl⟩:=ZB3 hx
  rw[ZAD,ZyL]at hi;rw[List.getElem_drop];have:=gt (Zyx xs j+i) (by omega) (by omega);simpa [Zz6,show Zyx xs j+i<xs.size by omega]using this
 ·obtain⟨i,hi,rfl⟩:=ZB3 hx
  rw[ZzH,ZyL]at hi;rw[List.getElem_take];have h1:=b i (by omega);have h1':xs.toList[i]'(by simp; omega)<j:=by simpa [Zz6,show i<xs.size by omega]using h1
  rcases ZyH.mp hy with e | e
  ·rw[e]; exact h1'
  ·obtain⟨k,hk,rfl⟩:=ZB3 e
   rw[ZAD,ZyL]at hk;rw[List.getElem_drop];have h2:=gt (Zyx xs j+k) (by omega) (by omega);have h2':j<xs.toList[Zyx xs j+k]'(by simp; omega):=by simpa [Zz6,show Zyx xs j+k<xs.size by omega]using h2
   exact ZAf h1' h2'
theorem has_none(j:Nat):SetTable.has #[] j=ZDD:=by simp[SetTable.has]
structure Tab(b:Bool)(t:SetTable):Prop where
 dum:t.dummies=#[]
 rise:Zer t.place
 led:t.led=b
 plain:t.plain=ZDC
 low:∀j∈t.place.toList,j<8
 mask:t.mask=if t.place.size<=4 then 7 else 31
theorem Tab.fresh(b:Bool):Tab b (SetTable.fresh 0 0 b):=⟨rfl,.nil,rfl,rfl,λj hj=>by simp[SetTable.fresh]at hj,rfl⟩
theorem Tab.few{t:SetTable}(h:Tab b t):t.place.size<=8:=by
 have key:∀(l:List Nat) (lo:Nat),l.Pairwise (· < ·)->(∀j∈l,lo<=j/\j<8)->l.length<=8-lo:=by
  intro l
  induction l with
  | nil=>intro lo _ _; simp
  | cons x l ih=>intro lo hp hb;have h1:=hb x (Zyo ..);have h2:=ih (x+1) (Zzb.mp hp).2 λy hy=>⟨(Zzb.mp hp).1 y hy,(hb y (Zyq _ hy)).2⟩;rw[ZyD]; omega
 have:=key t.place.toList 0 h.rise λj hj=>⟨Zzj _,h.low j hj⟩;simpa using this
theorem ZhP{t:SetTable}(h:Tab b t)(hj:j ∉ t.place.toList):t.slot j=.empty/\t.place[Zyx t.place j]?≠Z j:=by have q:t.place[Zyx t.place j]?≠Z j:=λe=>hj (by rw[<-Zza]at e;exact ZyQ e);unfold SetTable.slot;dsimp only;rw[if_neg (by simpa using q),h.dum,has_none,if_neg (by simp)];exact⟨rfl,q⟩
theorem Zwf{t:SetTable}(h:Tab b t)(j:Nat):t.put j=({ t with place:=ZyN t.place (Zyx t.place j) j },Zyx t.place j):=by
 unfold SetTable.put;dsimp only;rw[h.dum,has_none];cases t;have:=h.dum
 simp_all
theorem size_insert{α:Type}(xs:Array α)(p:Nat)(x:α):(ZyN xs p x).size=xs.size+1:=by rw[<-ZyL,(Zz4 xs p x).length_eq];simp
theorem ZvV{t:SetTable}(h:Tab b t){es:Array (Int × Value)}(he:es.size=t.place.size)(h8:j<8)(hj:j ∉ t.place.toList)(v:Value) :
  layNew t es (j:Int) v=(ZyN es (Zyx t.place j) ((j:Int),v),{ t with place:=ZyN t.place (Zyx t.place j) j },ZDD,ZDD):=by
 obtain⟨e1,e2⟩:=ZhP h hj;have hfew:=h.few;have hm:t.mask=7\/t.mask=31:=by rw[h.mask]; split<;>simp
 have hbits:ZDn (j:Int) % (t.mask+1)=j:=by
  have hb:ZDn (j:Int)=j:=by unfold ZDn; omega
  rw[hb];rcases hm with e | e<;>rw[e]<;>omega
 have hfree:t.freeSlot (j:Int)=Z (j,ZDD):=by
  unfold SetTable.freeSlot SetTable.probe;have hf:10*ZDa t.mask=(10*ZDa t.mask-1)+1:=by unfold ZDa; omega
  rw[hf];unfold SetTable.probe.go;have hp:(t.probeStart (j:Int)).j=j:=hbits;rw[hp,e1];rfl
 have hle:t.place.size<=7:=by
  apply ZAm;intro q;have h8':t.place.size=8:=by omega
  have:=ZzR (l₁:=j::t.place.toList) (l₂:=Zyp 8) (Zzn.mpr ⟨hj,h.rise.imp λq=>ZyG q⟩) (λx hx=>by
   rcases ZyH.mp hx with e | e
   ·rw[e]; exact ZyJ.mpr h8
   ·exact ZyJ.mpr (h.low x e))
  simp at this;omega
 have hfit:(ZBD { t with place:=ZyN t.place (Zyx t.place j) j } (ZyN es (Zyx t.place j) ((j:Int),v)).size)=ZDC:=by unfold ZBD ZBE;simp only[size_insert,he,h.dum];simp;rw[h.mask];split<;>omega
 unfold layNew;rw[hfree];dsimp only;rw[Zwf h];dsimp only;unfold SetTable.orStandIn;rw[hfit];rfl
theorem Tab.ins{t:SetTable}(h:Tab b t)(h8:j<8)(hj:j ∉ t.place.toList)(hs:t.place.size≠4):Tab b { t with place:=ZyN t.place (Zyx t.place j) j }:=by
 obtain⟨_,e2⟩:=ZhP h hj;refine⟨h.dum,ZjC h.rise e2,h.led,h.plain,λx hx=>?_,?_⟩
 ·have:=(Zz4 t.place (Zyx t.place j) j).mem_iff.mp hx
  rw[ZAy]at this;rcases ZyK.mp this with q | q
  ·exact h.low x q
  ·rw[Zyt.mp q]; exact h8
 ·dsimp only
  rw[size_insert,h.mask];split<;>split<;>omega
def Zlz:List (List Nat):=(Zyp 8).flatMap λa=>(Zyp 8).flatMap λb=>(Zyp 8).flatMap λc=>(Zyp 8).flatMap λd=>(Zyp 8).filterMap λe=>if a<b/\b<c/\c<d/\d<e then Z [a,b,c,d,e]else Z_
theorem Zpl{l:List Nat}(h:l.Pairwise (· < ·))(h8:∀j∈l,j<8)(h5:l.length=5):l∈Zlz:=by
 match l,h5 with
 | [a,b,c,d,e],_=>simp at h h8;unfold Zlz;simp only[ZAF,ZyJ,ZzG];refine⟨a,by omega,b,by omega,c,by omega,d,by omega,e,by omega,?_⟩;rw[if_pos (by omega)]
theorem Zvq:∀l∈Zlz,(SetTable.layClean 31 (l.map λ(n:Nat)=>(n:Int)).toArray).map (λowner=>(Zyp 32).filterMap λj=>(owner.getD j Z_).map (j,·))=Z (l.zip (Zyp 5)):=by decide +kernel
end HP
namespace HP
open PySem PyProof.Rows
variable{es:Array (Int × Value)}{h:Heap}{ns:List Int}
def Zeo(e:Int × Value):Int:=match e.2 with
 | .int n _=>n
 | _=>0
section
variable(prog:Program)(w:World)
def ZnP(es:List (Int × Value)):Prop:=∀e∈es,∃n t,e=((intKind prog w).hash n,Zz0 n t)
def Zb8(h:Heap)(a:Addr)(L:List Int):Prop:=∃o es ep t,h.get? a=Z o/\o.ExactSet/\o.data=.set es ep t/\ZnP prog w es.toList/\(es.toList.map Zeo).Perm L/\es.toList.map Zeo=t.place.toList.map (λ(j:Nat)=>(j:Int))/\Tab (!w.params.followText "set-order") t
end
section
variable{prog:Program}{w:World}{A:Around}{E:Value->Shared->Prop}{s:Shared}{a:Addr}{L:List Int}
theorem ZnP.elems{es:List (Int × Value)}(h:ZnP prog w es):ElemsOf (intKind prog w) es:=λe he=>by obtain⟨n,t,rfl⟩:=h e he;exact⟨⟨n,ZBY _ _ _ _,rfl⟩,rfl⟩
theorem Zb8.at'{h':Heap}(x:Zb8 prog w h a L)(k:∀o,h.get? a=Z o->h'.get? a=Z o):Zb8 prog w h' a L:=let ⟨o,es,ep,t,e,r⟩:=x; ⟨o,es,ep,t,k o e,r⟩
def stp(L:List Int)(n:Int):List Int:=if L.contains n then L else L++[n]
theorem Zrx{k n:Int}{t:Tok}:(intKind prog w).is k (.int n t)=ZDC↔n=k:=by
 constructor
 ·intro h
  exact(intKind prog w).inj _ _ _ (ZBY _ _ _ _) h
 ·rintro rfl; exact ZBY _ _ _ _
theorem ZhV:∀(j:Nat),j<8->(intKind prog w).hash (j:Int)=(j:Int)
 | 0,_=>rfl
 | 1,_=>rfl
 | 2,_=>rfl
 | 3,_=>rfl
 | 4,_=>rfl
 | 5,_=>rfl
 | 6,_=>rfl
 | 7,_=>rfl
 | n+8,h=>by omega
theorem Tab.fits{b:Bool}{t:SetTable}(h:Tab b t):t.fits t.place.size=ZDC:=by have hf:=h.few;unfold ZBD ZBE;rw[h.dum,h.mask];simp;split<;>omega
theorem size_of{t:SetTable}(h:es.toList.map Zeo=t.place.toList.map (λ(j:Nat)=>(j:Int))):es.size=t.place.size:=by have:=congrArg Zy8 h;simpa using this
theorem ZkL{o:Obj}{es':Array (Int × Value)}{ep:Nat}{t t':SetTable}(ho:h.get? a=Z o)(hex:o.ExactSet)(hd:o.data=.set es ep t)(hel:ZnP prog w es'.toList)(hp:(es'.toList.map Zeo).Perm L)
  (hs:es'.toList.map Zeo=t'.place.toList.map (λ(j:Nat)=>(j:Int))) (ht:Tab (!w.params.followText "set-order") t') :
  (h.update a (ZBn es' t')).get? a=Z { o with data:=.set es' (ep+1) t' }/\Zb8 prog w (h.update a (ZBn es' t')) a L:=by
 have hg:(h.update a (ZBn es' t')).get? a=Z { o with data:=.set es' (ep+1) t' }:=by
  have:=Zzy (ZBn es' t') ho (by rw[putSet_of es' t' hd]; rfl)
  rwa [putSet_of es' t' hd]at this
 exact⟨hg,_,es',ep+1,t',hg,hex,rfl,hel,hp,hs,ht⟩
theorem Zs4{b:Bool}{t:SetTable}(hr:Zer t.place)(h8:∀j∈t.place.toList,j<8)(h5:t.place.size=5)(he:es.map (·.1)=(t.place.toList.map (λ(j:Nat)=>(j:Int))).toArray)(hl:t.led=b)(hp:t.plain=ZDC) :
  ∃t',relayAll t es 20=(es,t',ZDD)/\t'.place=t.place/\Tab b t':=by
 have hc:=Zvq _ (Zpl hr h8 (by simpa using h5));obtain⟨owner,o1,o2⟩:=Zyl.mp hc;have hsz:es.size=5:=by have:=congrArg Array.size he;simp at this;omega
 have hlen:t.place.toList.length=5:=by simpa using h5
 have z1:(t.place.toList.zip (Zyp 5)).map (·.1)=t.place.toList:=List.map_fst_zip (by rw[hlen]; simp);have z2:(t.place.toList.zip (Zyp 5)).map (·.2)=Zyp 5:=List.map_snd_zip (by rw[hlen]; simp);have hrl:t.relaid (es.map (·.1)) 20=Z ({ mask:=31,place:=t.place,dummies:=#[],finger:=t.finger,led:=t.led,moves:=t.movedTo 31,plain:=t.plain },(Zyp 5).toArray):=by
  unfold SetTable.relaid SetTable.laid;have e31:SetTable.sizeAbove 20-1=31:=by decide
  rw[e31,he,o1];show Z _=Z _;rw[o2,z1,z2]
 refine⟨{ mask:=31,place:=t.place,dummies:=#[],finger:=t.finger,led:=t.led,moves:=t.movedTo 31,plain:=t.plain },?_,rfl,⟨rfl,hr,hl,hp,h8,?_⟩⟩
 ·unfold relayAll
  rw[hrl];dsimp only;have ef:(Zyp 5).toArray.filterMap (λx=>es[x]?)=es:=by apply Array.toList_inj.mp;rw[Array.toList_filterMap];have:=filterMap_getElem?_range es;rw[hsz]at this;simpa using this
  rw[ef];have ec:coversAll (Zyp 5).toArray es.size=ZDC:=by rw[hsz]; decide
  have et:ZBD { mask:=31,place:=t.place,dummies:=#[],finger:=t.finger,led:=t.led,moves:=t.movedTo 31,plain:=t.plain } es.size=ZDC:=by unfold ZBD ZBE;simp[h5,hsz]
  rw[ec,et];rfl
 ·dsimp only
  rw[h5];rfl
theorem ZtJ{j:Nat}{tk:Tok}{Q:Bool->Shared->Prop}(h8:j<8)(hX:Zb8 prog w s.heap a L)
  (h:∀b h',ZAc a s.heap h'->Zb8 prog w h' a (stp L j)->Q b { s with heap:=h' }) :
  wpAny (model prog w) A (setAddHashed a (.int j tk) ((intKind prog w).hash j)) Q E s:=by
 obtain⟨o,es,ep,t,ho,hex,hd,hen,hpm,hpl,ht⟩:=hX;have hel:=hen.elems;have hsc:(Zz0 (j:Int) tk).scannable=ZDC:=rfl;have hkey:(intKind prog w).is (j:Int) (.int j tk)=ZDC:=ZBY _ _ _ _;have hsz:=size_of hpl;have hfew:=ht.few;have hf:t.fits es.size=ZDC:=by rw[hsz]; exact ht.fits
 have hsb:scanBound=4096:=rfl;have hb:es.size<scanBound:=by omega
 unfold setAddHashed setAddHashedIn;refine Zzp (Zyi (ZBv ho hd hf ?_));dsimp only;rw[byScan_of hsc hb hel];simp only[↓reduceIte];unfold setAddByScan;refine Zyi (Zyi (ZBX (Zyi (wpAny_setScan_of hkey ho hd hf hel ?_))));cases hr:List.findIdx? (λe=>(intKind prog w).is (j:Int) e.2) es.toList with
 | some i =>
  dsimp only;obtain⟨hi,hpi,_⟩:=List.findIdx?_eq_some_iff_getElem.mp hr;have hmem:(j:Int)∈L:=by refine hpm.mem_iff.mp (Zyy.mpr ⟨es.toList[i],Zz8 hi,?_⟩);obtain⟨m,u,e⟩:=hen _ (Zz8 hi);rw[e]at hpi ⊢;exact Zrx.mp hpi
  refine Zym (Zym ?_);have e:s={ s with heap:=s.heap }:=by cases s; rfl
  have q:=h ZDD s.heap (ZDB a s.heap) ⟨o,es,ep,t,ho,hex,hd,hen,by unfold stp; rw[if_pos (by simpa using hmem)]; exact hpm,hpl,ht⟩;rw[e];exact q
 | none =>
  dsimp only;have hne:∀e∈es.toList,Zeo e≠(j:Int):=λe he hv=>by obtain⟨m,u,e1⟩:=hen e he;have no:=List.findIdx?_eq_none_iff.mp hr e he;rw[e1]at no hv;have yes:(intKind prog w).is (j:Int) (.int m u)=ZDC:=Zrx.mpr hv;exact absurd (yes.symm.trans no) (by simp)
  have hnm:(j:Int) ∉ L:=λhm=>by obtain⟨e,he,hv⟩:=Zyy.mp (hpm.mem_iff.mpr hm);exact hne e he hv
  have hj:j ∉ t.place.toList:=λhm=>by
   have:(j:Int)∈es.toList.map Zeo:=by rw[hpl]; exact Zyy.mpr ⟨j,hm,rfl⟩
   obtain⟨e,he,hv⟩:=Zyy.mp this;exact hne e he hv
  obtain⟨mk,pl,dm,fg,ld,mv,pn⟩:=t;obtain rfl:pn=ZDC:=ht.plain;obtain rfl:dm=#[]:=ht.dum;rw[ZhV j h8,ZvV ht hsz h8 hj];dsimp only;obtain⟨_,hnj⟩:=ZhP ht hj;obtain⟨hle,_,_⟩:=Zfm ht.rise j;have hen1:ZnP prog w (ZyN es (Zyx pl j) ((j:Int),Zz0 j tk)).toList:=λe he=>by
   have:=(Zz4 _ _ _).mem_iff.mp he;rw[ZAy]at this;rcases ZyK.mp this with q | q
   ·exact hen e q
   ·exact⟨j,tk,by rw[ZhV j h8]; exact Zyt.mp q⟩
  have hpm1:((ZyN es (Zyx pl j) ((j:Int),Zz0 j tk)).toList.map Zeo).Perm (stp L j):=by unfold stp;rw[if_neg (by simpa using hnm)];refine((Zz4 _ _ _).map Zeo).trans ?_;rw[ZAy,ZyR];exact hpm.append_right _
  have hpl1:(ZyN es (Zyx pl j) ((j:Int),Zz0 j tk)).toList.map Zeo=(ZyN pl (Zyx pl j) j).toList.map (λ(j:Nat)=>(j:Int)):=by rw[ZBj,ZBj,ZyR,ZyR,Zyv,Zyv,List.map_take,List.map_take,List.map_drop,List.map_drop,hpl];rfl
  have hs1:(ZyN es (Zyx pl j) ((j:Int),Zz0 j tk)).size=es.size+1:=size_insert _ _ _;generalize hE:ZyN es (Zyx pl j) ((j:Int),Zz0 j tk)=es1 at hen1 hpm1 hpl1 hs1 ⊢;have hz1:es1.size<=sizeLine:=by rw[Zze]; omega
  refine Zyi (Zym ?_);simp only[↓reduceIte];refine Zyi ?_;rw[hashByValue_scannable 8 hsc];refine Zym ?_;rw[show plainKind (Zz0 (j:Int) tk)=ZDC from rfl];simp only[↓reduceIte];show wpAny (model prog w) A (do
    storeSet a es1 (⟨mk,ZyN pl (Zyx pl j) j,#[],fg,ld,mv,ZDC⟩:SetTable)
    if(!ZDD&&ZA6 (⟨mk,ZyN pl (Zyx pl j) j,#[],fg,ld,mv,ZDC⟩:SetTable))=ZDC then _ else _) _ E s
  refine Zyi (wpAny_storeSet_of ho hd ?_ hz1);have hsb1:=Zzx s.heap a (ZBn es1 (⟨mk,ZyN pl (Zyx pl j) j,#[],fg,ld,mv,ZDC⟩:SetTable))
  by_cases h4:pl.size=4
  ·have hm:mk=7:=by have q:=ht.mask; dsimp only at q; rw[h4]at q; exact q
   have htf:ZA6 (⟨mk,ZyN pl (Zyx pl j) j,#[],fg,ld,mv,ZDC⟩:SetTable)=ZDC:=by unfold ZA6 ZBE;simp[size_insert,h4,ht.dum,hm]
   have hg:(s.heap.update a (ZBn es1 (⟨mk,ZyN pl (Zyx pl j) j,#[],fg,ld,mv,ZDC⟩:SetTable))).get? a=Z { o with data:=.set es1 (ep+1) (⟨mk,ZyN pl (Zyx pl j) j,#[],fg,ld,mv,ZDC⟩:SetTable) }:=by
    have:=Zzy (ZBn es1 (⟨mk,ZyN pl (Zyx pl j) j,#[],fg,ld,mv,ZDC⟩:SetTable)) ho (by rw[putSet_of _ _ hd]; rfl)
    rwa [putSet_of _ _ hd]at this
   have hh:es1.map (·.1)=((ZyN pl (Zyx pl j) j).toList.map (λ(j:Nat)=>(j:Int))).toArray:=by
    apply Array.toList_inj.mp;rw[Array.toList_map,<-hpl1];refine ZzO λe he=>?_;obtain⟨m,u,e1⟩:=hen1 e he;have hm:m∈es1.toList.map Zeo:=Zyy.mpr ⟨e,he,by rw[e1]; rfl⟩;rw[hpl1]at hm;obtain⟨k,hk,rfl⟩:=Zyy.mp hm;have hk8:k<8:=by
     have:=(Zz4 _ _ _).mem_iff.mp hk;rw[ZAy]at this;rcases ZyK.mp this with q | q
     ·exact ht.low k q
     ·rw[Zyt.mp q]; exact h8
    rw[e1];exact ZhV (prog:=prog) (w:=w) k hk8
   obtain⟨t',r1,r2,r3⟩:=Zs4 (b:=!w.params.followText "set-order") (t:=(⟨mk,ZyN pl (Zyx pl j) j,#[],fg,ld,mv,ZDC⟩:SetTable)) (es:=es1) (ZjC ht.rise hnj)
    (λk hk=>by
     have:=(Zz4 _ _ _).mem_iff.mp hk;rw[ZAy]at this;rcases ZyK.mp this with q | q
     ·exact ht.low k q
     ·rw[Zyt.mp q]; exact h8) (by dsimp only; rw[size_insert,h4]) hh ht.led ht.plain
   have hgr:SetTable.grown es1.size=20:=by rw[hs1,hsz,h4]; rfl
   rw[htf];simp only[Bool.not_false,Bool.and_self,↓reduceIte];rw[hgr,r1];dsimp only;refine Zyi (Zym (Zyi (wpAny_storeSet_of hg rfl ?_ hz1)));obtain⟨_,hS2⟩:=ZkL (prog:=prog) (t':=t') hg hex rfl hen1 hpm1 (by rw[r2]; exact hpl1) r3;exact Zym (Zym (h ZDC _ (hsb1.trans (Zzx _ a _)) hS2))
  ·have htf:ZA6 (⟨mk,ZyN pl (Zyx pl j) j,#[],fg,ld,mv,ZDC⟩:SetTable)=ZDD:=by
    unfold ZA6 ZBE;have q:=ht.mask;dsimp only at q;simp only[size_insert];rw[q];simp;have:=hfew;dsimp only at this;split<;>omega
   rw[htf];simp only[Bool.and_false,Zzr,↓reduceIte];obtain⟨_,hS1⟩:=ZkL (prog:=prog) (t':=(⟨mk,ZyN pl (Zyx pl j) j,#[],fg,ld,mv,ZDC⟩:SetTable)) ho hex hd hen1 hpm1 hpl1 (ht.ins h8 hj h4);exact Zym (Zym (h ZDC _ hsb1 hS1))
end
section
variable{prog:Program}{w:World}{A:Around}{E:Value->Shared->Prop}{s:Shared}
abbrev ZaL(w:World):Obj:={ cls:=.type "set",dict:=Z_,data:=.set #[] 0 (.fresh 0 0 (!w.params.followText "set-order")) }
theorem Zh9(v:Value){Q₁:Value->Shared->Prop}(h:Q₁ (.ref s.heap.objs.size) { s with heap:=s.heap.push (ZaL w) }) :
  codeAny (model prog w) A (.call (.builtin "set.__new__") ⟨[.type "set",v],[]⟩) (wants Q₁ E) s:=by
 refine ZCV ?_;show wpAny _ A.in1 (do checkBuiltinCall "set.__new__" ⟨[.type "set",v],[]⟩; again (.builtin "set.__new__" ⟨[.type "set",v],[]⟩)) _ _ s;refine Zyi (ZC3 (PySem.F.newCall_set_1 v) (Zym ⟨ZAv ZDb _,ZzA PySem.F.entry_set_new ?_⟩));rw[Zzu ZDb _];unfold Builtin.«set.__new__» Builtin.Frozenset.newClass;have hsub:=sub_set_self;obtain⟨hp,g,d,tk,os⟩:=s;dsimp only
 wp_walk
 refine ZA7 (Zym ?_);dsimp only;simp only[newObj];exact Zyi (wpAny_alloc (Zym (Zym h)))
theorem Zob(h:Heap):Zb8 prog w (h.push (ZaL w)) h.objs.size [] :=
 ⟨_,#[],0,_,ZyC _ rfl,⟨rfl,rfl,rfl⟩,rfl,λe he=>by simp at he,.nil,rfl,Tab.fresh _⟩
theorem ZhG:∀(l acc:List Int) (x:Int),HM.dedup acc (l++[x])=stp (HM.dedup acc l) x
 | [],acc,x=>by show HM.dedup acc [x]=stp acc x;unfold HM.dedup stp;split<;>rfl
 | y::l,acc,x=>by
  show HM.dedup acc (y::(l++[x]))=_;unfold HM.dedup;split
  ·exact ZhG l acc x
  ·exact ZhG l _ x
variable{R:Result->Shared->Prop}{I:Addr}{fp wr:List Addr}{G:Array GenState->Array GenState->Prop}{P:Nat->Value->Prop}{St:Nat->Shared->Prop}
theorem ZlL(W:WalksS prog w A.in1 I fp wr G ns.length P St)(S:Addr)(hSf:S ∉ fp)(hval:∀i v,P i v->∃t,v=.int (ns.getD i 0) t)(hb:∀n∈ns,0<=n/\n<8) :
  ∀(k i:Nat) (s:Shared),ns.length-i=k->i<=ns.length->St i s->Zb8 prog w s.heap S (HM.dedup [] (ns.take i)) ->
   (∀s',Moved (S::wr) G s s'->Zb8 prog w s'.heap S (HM.dedup [] ns)->R (.ok (.ret .none)) s') ->
   codeAny (model prog w) A (.builtin "set.update.loop" ⟨[.ref S,.ref I],[]⟩) R s:=by
 have hSw:S ∉ wr:=λh=>hSf (W.sub _ h);have hsub:∀b∈wr,b∈S::wr:=λb hb=>Zyq _ hb;intro k
 induction k with
 | zero =>
  intro i s hk hi hst hS hR;obtain rfl:i=ns.length:=by omega
  rw[List.take_length]at hS;refine ZzA F.entry_set_update_loop ?_;rw[Zzu F.plain_set_update_loop _];show wpAny _ A.in1 (pyNext (.ref I) >>= _) _ _ s;refine Zyi (W.done s _ _ hst λs' hm=>?_);show wpAny _ A.in1 (ret ZyU) _ _ s';exact Zym (hR s' (hm.mono hsub) (hS.at' λo e=>hm.heap S o hSw e))
 | succ k ih =>
  intro i s hk hi hst hS hR;have hlt:i<ns.length:=by omega
  refine ZzA F.entry_set_update_loop ?_;rw[Zzu F.plain_set_update_loop _];show wpAny _ A.in1 (pyNext (.ref I) >>= _) _ _ s;refine Zyi (W.item i s _ _ hlt hst λv s' hP hst' hm=>?_);obtain⟨t,rfl⟩:=hval i v hP;have hS':=hS.at' (h':=s'.heap) λo e=>hm.heap S o hSw e;show wpAny _ A.in1 (holding [Zz0 (ns.getD i 0) t] (setAdd S (.int (ns.getD i 0) t)) >>= _) _ _ s';refine Zyi (Zzp ?_);unfold setAdd;refine Zzp (Zyi ((intKind prog w).pyHash (k:=ns.getD i 0) (ZBY _ _ _ _) ?_));have hbi:=hb (ns.getD i 0) (by rw[Zzs,ZyF hlt]; exact Zz8 hlt);obtain⟨j,ej⟩:∃j:Nat,ns.getD i 0=(j:Int):=⟨(ns.getD i 0).toNat,by omega⟩;have e:stp (HM.dedup [] (ns.take i)) (ns.getD i 0)=HM.dedup [] (ns.take (i+1)):=by rw[<-ZhG,List.take_succ,Zzs];simp[hlt]
  rw[ej]at e hbi ⊢;refine ZtJ (s:={ s' with toks:=s'.toks+1 }) (by omega) hS' λb h' hsb hS2=>?_;rw[e]at hS2;refine Zym ⟨ZAv F.plain_set_update_loop _,ih (i+1) _ (by omega) hlt (W.frame _ s' _ _ hst' (Nat.le_succ _) λb hb o e=>?_) hS2 λs'' hm'' hS''=>?_⟩
  ·rw[hsb.2 b (λh:b=S=>hSf (by rw[<-h]; exact hb))]; exact e
  ·refine hR s'' (Moved.trans W.gtrans ((hm.mono hsub).then_heap (Nat.le_succ _) λb o hb e=>?_) hm'') hS''
   rw[hsb.2 b (λh:b=S=>hb (by rw[h]; exact Zyo))]; exact e
set_option maxHeartbeats 3200000 in
theorem ZrW{l:Addr}{items:Array Value}{Q:Value->Shared->Prop}(hh:A.handled=Z_)(hl:s.heap.IsList l items)(hi:IntsAre items.toList ns)(hb:∀n∈ns,0<=n/\n<8)
  (h:∀(h':Heap) (tk:Nat),Zb8 prog w h' s.heap.objs.size (HM.dedup [] ns)->(∀b o,b<s.heap.objs.size->s.heap.get? b=Z o->h'.get? b=Z o)->Q (.ref s.heap.objs.size) { s with heap:=h',toks:=tk }) :
  wpAny (model prog w) A (call (.type "set") [.ref l]) Q E s:=by
 have hsz:items.size=ns.length:=by rw[<-hi.length,ZyL]
 obtain⟨c,tl,hmro⟩:=ZyZ.mro;have hmade:=ZyZ.made;have hsub:=ZyZ.sub;refine ZBS (ZCV ?_);show wpAny _ _ (callAny (.type "set") _) _ _ _;refine Zym ⟨Code.quiet_builtin _ (by decide +kernel),ZzA ZCT ?_⟩;rw[Around.under_plain (weight_type_call_type "set" [.ref l] []) rfl];have h1:=ZyZ.notType;have h2:=ZyZ.canCreate;have hct:=ZC4 (.ref l)
 repeat (any_goals (first | assumption | wp_step))
 refine ZzU (Zh9 (.ref l) (E:=E) (Q₁:=λobj s₁=>obj=.ref s.heap.objs.size/\s₁={ s with heap:=s.heap.push (ZaL w) }) ⟨rfl,rfl⟩) λr s₁ hr=>?_;cases r with
 | error e=>exact hr
 | ok fl =>
  cases fl with
  | ret obj =>
   obtain⟨rfl,rfl⟩:=hr;have hX:=Zob (prog:=prog) (w:=w) s.heap;have hS:(s.heap.push (ZaL w)).get? s.heap.objs.size=Z (ZaL w):=ZyC _ rfl;have hT:ZDo { s with heap:=s.heap.push (ZaL w) } (.ref s.heap.objs.size) "set":=⟨_,hS,rfl⟩;have hli:=ZyZ.init.lookup;have hbi:=ZyZ.init.bind (.ref s.heap.objs.size)
   repeat (any_goals (first | assumption | wp_step))
   refine ZzU (codeAny_call_builtin (R:=wants (λr s₂=>r=.none/\∃h' tk,s₂={ s with heap:=h',toks:=tk }/\Zb8 prog w h' s.heap.objs.size (HM.dedup [] ns) /\
     (∀b o,b<s.heap.objs.size->s.heap.get? b=Z o->h'.get? b=Z o)) E) ZyZ.init.plain ZC5 (check_set_init_1 hT ?_)) λr₂ s₂ hr₂=>?_
   ·obtain⟨⟨ocls,odict,odata,oslots⟩,hol,hcl,nl,hdl⟩:=hl
    simp only at hcl hdl;subst hcl; subst hdl;have hol':(s.heap.push (ZaL w)).get? l=Z { cls:=.type "list",dict:=odict,data:=.seq items nl,slots:=oslots }:=Zyn _ hol;have hsls:=PySem.F.sub_list_set;have hslf:=PySem.F.sub_list_frozenset;have hne:(ZAo "list" == ZAo "dict")=ZDD:=by decide
    have hl1:(s.heap.push (ZaL w)).IsList l items:=⟨_,hol',rfl,nl,rfl⟩;unfold Builtin.«set.__init__» noKeywords ZCc;generalize hPI:pyIter=PI
    wp_walk
    subst hPI;refine ZCw hl1 (Zyi (ZCd ?_));have hlS:l<s.heap.objs.size:=ZyB hol;have hh3:A.in1.in1.in1.handled=Z_:=by simp[hh]
    have hneI:l≠(s.heap.push (ZaL w)).objs.size:=by rw[ZAb]; exact ZyG (ZAi hlS)
    have hSf:s.heap.objs.size ∉ [(s.heap.push (ZaL w)).objs.size,l]:=by rw[ZAb]; simp only[ZyH,Zyt,ZBK,or_false,not_or];exact⟨ZyG (ZAn _),ZA0 hlS⟩
    have Wl:=(Walks.list (prog:=prog) (w:=w) hh3 _ l hneI items).toS;rw[hsz]at Wl;refine ZlL Wl s.heap.objs.size hSf (λi v hv=>IntsAre.int_at hi i v (by rw[Zza]; exact hv)) hb (ns.length-0) 0 _ (by omega) (Zzj _)
     ⟨⟨_,ZyC _ rfl,rfl,rfl⟩,hl1.push _⟩ (hX.at' λo e=>Zyn _ e) λs' hm hS'=>?_
    obtain⟨h',g',d',tk',os'⟩:=s';have eg:g'=s.gens:=hm.gens;have ed:d'=s.drawn:=hm.drawn;have eo:os'=s.os:=hm.os;subst eg; subst ed; subst eo
    show wpAny _ _ _ _ _ _;refine Zym ?_;show wpAny _ _ (ret ZyU) _ _ _;refine Zym ⟨rfl,h',tk',rfl,hS',λb o hb e=>?_⟩;refine hm.heap b o ?_ (Zyn _ (Zyn _ e));simp only[ZyH,Zyt,ZBK,or_false,not_or];exact⟨ZyG hb,by rw[ZAb]; exact ZyG (ZAi hb)⟩
   ·cases r₂ with
    | error e=>exact hr₂
    | ok fl₂ =>
     cases fl₂ with
     | ret r =>
      obtain⟨rfl,h',tk,rfl,hS',hk'⟩:=hr₂
      repeat (any_goals (first | assumption | wp_step))
      exact h _ _ hS' hk'
     | _=>exact hr₂.elim
  | _=>exact hr.elim
end
end HP
namespace HP
open PySem PyProof.Rows
theorem Zcn:Slot "set_iterator" "__next__" "set_iterator.__next__" :=
 .of (owner:="set_iterator") (n:="__next__") (by rw[typeLookup_type,builtinLookup_eq_fast]; kernel_rfl) (by decide +kernel) (by decide +kernel) (by decide +kernel)
  (by first | exact .inl (by decide +kernel) | exact .inr (by decide +kernel)) (by rw[isSubtype_type]; kernel_rfl)
theorem Zia:entryFor table "set_iterator.__next__" = Z Builtin.«set_iterator.__next__»:=entryFor_of_tree (by kernel_rfl)
theorem ZiG:Slot "set_iterator" "__iter__" "set_iterator.__iter__" :=
 .of (owner:="set_iterator") (n:="__iter__") (by rw[typeLookup_type,builtinLookup_eq_fast]; kernel_rfl) (by decide +kernel) (by decide +kernel) (by decide +kernel)
  (by first | exact .inl (by decide +kernel) | exact .inr (by decide +kernel)) (by rw[isSubtype_type]; kernel_rfl)
theorem ZmF:entryFor table "set_iterator.__iter__" = Z Builtin.«dict_keyiterator.__iter__» :=
 entryFor_alias (id':="dict_keyiterator.__iter__") (by kernel_rfl) rfl (by decide +kernel) (by kernel_rfl)
theorem ZkR:entryFor table "set.__iter__" = Z Builtin.«frozenset.__iter__» :=
 entryFor_alias (id':="frozenset.__iter__") (by kernel_rfl) rfl (by decide +kernel) (by kernel_rfl)
theorem ZnS:Manifest.owners.lookup (String.ofList ['r','o','t','a','r','e','t','i','_','t','e','s'].reverse)=Z Manifest.sig_set_iterator:=by kernel_rfl
theorem Zi3(a:Value):argsOk "set_iterator.__next__" ⟨[a],[]⟩:=by unfold argsOk; rw[signature?_of (id:="set_iterator.__next__") (n:=['_','_','t','x','e','n','_','_']) (o:=['r','o','t','a','r','e','t','i','_','t','e','s']) (by kernel_rfl) ZnS]; kernel_rfl
theorem Zoz(a:Value):argsOk "set_iterator.__iter__" ⟨[a],[]⟩:=by unfold argsOk; rw[signature?_of (id:="set_iterator.__iter__") (n:=['_','_','r','e','t','i','_','_']) (o:=['r','o','t','a','r','e','t','i','_','t','e','s']) (by kernel_rfl) ZnS]; kernel_rfl
theorem Zkr{α:Type}:∀(l:List α) (i:Nat) (h:i<l.length),(l[i]::l.eraseIdx i).Perm l
 | x::l,0,_=>.refl _
 | x::l,i+1,h=>by
  have h':i<l.length:=by simpa using h
  show(l[i]::x::l.eraseIdx i).Perm (x::l);exact(List.Perm.swap x l[i] _).trans ((Zkr l i h').cons x)
theorem ZlS{α:Type}(next:Nat->Nat):∀(n k:Nat) (left:List α) (out:Array α),left.length=n->(ZCW.go next n k left out).toList.Perm (out.toList++left)
 | 0,k,left,out,h=>by rw[ZzT h,Zy6];exact .refl _
 | n+1,k,left,out,h=>by
  have hl:next k % left.length<left.length:=Nat.mod_lt _ (by omega)
  unfold ZCW.go;rw[ZyF hl];dsimp only;refine(ZlS next n (k+1) _ _ (by rw[List.length_eraseIdx_of_lt hl]; omega)).trans ?_
  rw[ZAy,ZAh];refine List.Perm.append_left _ ?_;exact Zkr left _ hl
theorem Zla{α:Type}(next:Nat->Nat)(xs:Array α):(ZCW next xs).toList.Perm xs.toList:=by
 have:=ZlS next xs.size 0 xs.toList #[] (by simp)
 simpa [ZCW]using this
end HP
namespace HP
open PySem PyProof.Rows
variable{a it:Addr}{h h':Heap}{ep i n slot:Nat}{Q:Value->Shared->Prop}
structure Zep(w:World)(h:Heap)(a:Addr)(es:Array (Int × Value))(ep:Nat)(t:SetTable):Prop where
 obj:∃o,h.get? a=Z o/\o.ExactSet/\o.data=.set es ep t
 fit:t.fits es.size=ZDC
 siz:es.size=t.place.size
 tab:Tab (!w.params.followText "set-order") t
theorem Zep.at'{w:World}{es:Array (Int × Value)}{t:SetTable}(x:Zep w h a es ep t)(k:∀o,h.get? a=Z o->h'.get? a=Z o):Zep w h' a es ep t :=
 ⟨let ⟨o,e,r⟩:=x.obj; ⟨o,k o e,r⟩,x.fit,x.siz,x.tab⟩
def ZdE(w:World)(a:Addr)(es:Array (Int × Value))(ep:Nat):Array (Int × Value):=if w.params.followText "set-order" then ZCW (w.params.setOrder a ep) es else es
theorem ZiC(w:World)(a:Addr)(es:Array (Int × Value))(ep:Nat):(ZdE w a es ep).toList.Perm es.toList:=by
 unfold ZdE; split
 ·exact Zla _ _
 ·exact .refl _
theorem ZiD(w:World)(a:Addr)(es:Array (Int × Value))(ep:Nat):(ZdE w a es ep).size=es.size:=by have:=(ZiC w a es ep).length_eq;simpa using this
def ZgU(h:Heap)(it a:Addr)(slot i n ep:Nat):Prop:=∃o,h.get? it=Z o/\o.cls=.type "set_iterator"/\o.data=.fields #[.int slot 0,.int i 0,.ref a,.int n 0,.int ep 0]
theorem ZgU.typeIs{s:Shared}(x:ZgU s.heap it a slot i n ep):s.TypeIs (.ref it) "set_iterator":=let ⟨o,ho,hc,_⟩:=x; ⟨o,ho,hc⟩
theorem ZgU.at'(x:ZgU h it a slot i n ep)(k:∀o,h.get? it=Z o->h'.get? it=Z o):ZgU h' it a slot i n ep:=let ⟨o,e,r⟩:=x; ⟨o,k o e,r⟩
section
variable{prog:Program}{w:World}{A:Around}{E:Value->Shared->Prop}{s:Shared}{it a:Addr}{es:Array (Int × Value)}{ep:Nat}{t:SetTable}
theorem ZsI(x:Zep w s.heap a es ep t)
  (hQ:Q (.ref s.heap.objs.size) { s with heap:=s.heap.push { cls:=.type "set_iterator",data:=.fields #[.int 0 0,.int 0 0,.ref a,.int es.size 0,.int ep 0] } }) :
  wpAny (model prog w) A (pyIter (.ref a)) Q E s:=by
 obtain⟨o,ho,hex,hd⟩:=x.obj;have hT:s.TypeIs (.ref a) "set":=⟨o,ho,hex.1⟩;refine ZCy hT ZDc (Zzv ZDc hT ZkR ?_ (PySem.F.args_set_iter_1 _));unfold Builtin.«frozenset.__iter__» Builtin.Frozenset.slot0 slotArgs Builtin.Frozenset.addrOf Builtin.Frozenset.sizeOf;refine Zyi (Zyi (Zym (Zym ?_)));dsimp only;refine Zyi (Zyi (ZB4 ho hd x.fit (Zym ?_)));have hdr:∀{R:Bool->Shared->Prop} {A':Around} {E':Value->Shared->Prop},R ZDD s->wpAny (model prog w) A' (setDrawn a) R E' s:=λ{R A' E'} hR=>by unfold setDrawn setsByText;refine Zyi (ZBv ho hd x.fit (Zyi (Zyi (ZA7 (Zym (Zym ?_))))));obtain⟨mk,pl,dm,fg,ld,mv,pn⟩:=t;obtain rfl:pn=ZDC:=x.tab.plain;show R (!_&&(!ZDC&&_)) s;simpa using hR
 refine Zyi (hdr ?_);rw[if_neg (by simp)];refine Zyi (Zym (Zyi (wpAny_setEpoch_of ho hd x.fit ?_)));show wpAny (model prog w) A.in1 (newFields "set_iterator" [rawInt 0,rawInt 0,Zzc a,rawInt (es.size:Int),rawInt (ep:Int)] >>= _) _ E s;refine Zyi (Zy4 (Zym ⟨_,rfl,"set_iterator",_,⟨_,ZyC _ rfl,rfl⟩,Zcn.lookup,?_⟩));simpa [rawInt]using hQ
theorem ZjG{R:Option (Value × Nat)->Shared->Prop}(x:Zep w s.heap a es ep t)(hs:w.params.followText "set-order" = ZDD->Zyx t.place slot=i)
  (hR:R ((ZdE w a es ep)[i]?.map λe=>(e.2,if w.params.followText "set-order" then slot else t.place.getD i 0+1)) s):wpAny (model prog w) A (setNext a slot i ep) R E s:=by
 obtain⟨o,ho,hex,hd⟩:=x.obj;unfold setNext setsByText;refine Zyi (ZBv ho hd x.fit ?_);dsimp only;refine Zyi (Zyi (ZA7 (Zym ?_)));dsimp only;cases hb:w.params.followText "set-order" with
 | true=>have hb':(model prog w).w.params.followText "set-order" = ZDC:=hb;rw[hb',if_pos rfl];unfold ZdE at hR;rw[hb,if_pos rfl]at hR;simp only[if_pos]at hR;refine ZAs (λq=>absurd q (by simp)) λ_=>?_;unfold setWalk setsByText;refine Zyi (Zyi (ZBv ho hd x.fit ?_));dsimp only;refine Zyi (Zyi (ZA7 (Zym ?_)));dsimp only;rw[hb',if_pos rfl];exact Zyi (ZA7 (Zym (Zym hR)))
 | false =>
  have hb':(model prog w).w.params.followText "set-order" = ZDD:=hb;rw[hb',if_neg (by simp)];unfold ZdE at hR;rw[hb]at hR;simp only[Zzr,if_false]at hR;have hi:=hs hb;have hled:t.led=ZDC:=by rw[x.tab.led,hb]; rfl
  have hsz:=x.siz;obtain⟨mk,pl,dm,fg,ld,mv,pn⟩:=t;obtain rfl:pn=ZDC:=x.tab.plain;obtain rfl:ld=ZDC:=hled;refine ZAs (λq=>absurd (show(!ZDC&&_)=ZDC from q) (by simp)) λ_=>?_;refine Zyi ?_;refine ZAs (λq=>absurd (show(!ZDC&&_)=ZDC from q) (by simp)) λ_=>?_;refine Zym ?_;dsimp only at hi hsz ⊢;rw[hi];refine Zym ?_
  by_cases hlt:i<es.size
  ·have h1:es[i]?=Z es[i]:=ZAA hlt
   have h2:pl[i]?=Z (pl.getD i 0):=by simp[Zz6,show i<pl.size by omega]
   rw[h1]at hR ⊢;rw[h2];exact hR
  ·have h1:es[i]?=Z_:=ZBA (by omega)
   rw[h1]at hR ⊢;exact hR
theorem Zs7{e:Int × Value}{Q:Option Value->Shared->Prop}(hit:ZgU s.heap it a slot i es.size ep)(x:Zep w s.heap a es ep t)(hs:w.params.followText "set-order" = ZDD->Zyx t.place slot=i)(he:(ZdE w a es ep)[i]?=Z e)
  (hQ:∀h',ZgU h' it a (if w.params.followText "set-order" then slot else t.place.getD i 0+1) (i+1) es.size ep->ZAc it s.heap h'->Q (Z e.2) { s with heap:=h' }) :
  wpAny (model prog w) A (pyNext (.ref it)) Q E s:=by
 obtain⟨o,ho,hc,hd⟩:=id hit;obtain⟨os,hos,hex,hds⟩:=x.obj;unfold pyNext;refine Zyi (ZBF (wpAny_callSpecial?_slot (name:=ZAd "__next__") hit.typeIs Zcn
  (Zzv Zcn hit.typeIs Zia ?_ (Zi3 _))))
 unfold Builtin.«set_iterator.__next__» slotArgs;refine Zyi (Zym ?_);dsimp only;refine Zyi (ZCe ho hd ?_);dsimp only;refine Zyi (ZB4 hos hds x.fit ?_);refine ZAs (λq=>absurd q (by simp)) λ_=>?_;simp only[ZAZ];refine Zyi (ZjG x hs ?_);rw[he];dsimp only[Option.map_some];refine Zyi (ZBo ho hd (by simp) ?_);have g1:(s.heap.update it (ZDp (·.setIfInBounds 0 (rawInt ((if w.params.followText "set-order" = ZDC then slot else t.place.getD i 0+1:Nat):Int))))).get? it=Z _:=Zzy _ ho (ZBO (ZzW hd _));refine Zyi (ZBo g1 (ZzW hd _) (by simp) ?_);refine Zym ⟨_,rfl,Zym (hQ _ ⟨_,Zzy _ g1 (ZBO (ZzW (ZzW hd _) _)),?_,?_⟩ ((Zzx ..).trans (Zzx ..)))⟩
 ·rw[ZCz,ZCz]; exact hc
 ·rw[ZzW (ZzW hd _)]; simp[rawInt]
theorem Zti{Q:Option Value->Shared->Prop}(hh:A.handled=Z_)(hit:ZgU s.heap it a slot i es.size ep)(x:Zep w s.heap a es ep t)(hs:w.params.followText "set-order" = ZDD->Zyx t.place slot=i)(he:es.size<=i)
  (hQ:∀h',Heap.ExtBut it s.heap h'->Q Z_ { s with heap:=h' }):wpAny (model prog w) A (pyNext (.ref it)) Q E s:=by
 obtain⟨o,ho,hc,hd⟩:=id hit;obtain⟨os,hos,hex,hds⟩:=x.obj;have hn:(ZdE w a es ep)[i]?=Z_:=ZBA (by rw[ZiD]; exact he);unfold pyNext;refine Zyi (ZBF (wpAny_callSpecial?_slot (name:=ZAd "__next__") hit.typeIs Zcn
  (Zzv Zcn hit.typeIs Zia ?_ (Zi3 _))))
 unfold Builtin.«set_iterator.__next__» slotArgs;refine Zyi (Zym ?_);dsimp only;refine Zyi (ZCe ho hd ?_);dsimp only;refine Zyi (ZB4 hos hds x.fit ?_);refine ZAs (λq=>absurd q (by simp)) λ_=>?_;simp only[ZAZ];refine Zyi (ZjG x hs ?_);rw[hn];dsimp only[Option.map_none];refine Zyi (ZBo ho hd (by simp) ?_);refine Zyi ?_;simp only[newExc,newTuple];refine Zyi (Zy4 ?_ (by size_fits));refine Zyi (m:=ZCf _ _) (ZC3 (a:=ZyU) (by first | rfl | (simp only[ZCf]; rfl)) ?_)
 refine Zy4 ?_ (by size_fits);simp only[raiseNew];refine Zyi (wpAny_handled ?_);rw[show A.in1.handled=Z_ from hh];refine Zyi (Zym (wpAny_throw ?_));refine Zyi (ZBL (T:="StopIteration") (b:=ZDC) ⟨_,ZyC _ rfl,rfl⟩ isSubtype_stop ?_);exact Zym (hQ _ (((Zzx ..).extBut.push _).push _))
theorem ZtA(hit:ZgU s.heap it a slot i n ep)(h:Q (.ref it) s):wpAny (model prog w) A (pyIter (.ref it)) Q E s:=by refine ZCy hit.typeIs ZiG (Zzv ZiG hit.typeIs ZmF ?_ (Zoz _));show wpAny _ _ (ret (.ref it)) _ _ s;exact Zym ⟨_,rfl,"set_iterator",_,hit.typeIs,Zcn.lookup,h⟩
theorem ZrR(hh:A.handled=Z_)(I a:Addr)(hne:a≠I)(es:Array (Int × Value))(ep:Nat)(t:SetTable) :
  Walks prog w A I [I,a] [I] es.size (λi v=>∃e,(ZdE w a es ep)[i]?=Z e/\v=e.2) (λi h=>∃slot,ZgU h I a slot i es.size ep/\Zep w h a es ep t/\(w.params.followText "set-order" = ZDD->Zyx t.place slot=i)) where
 sub:=λb hb=>by simp at hb; simp[hb]
 frame:=λ_ _ _ ⟨slot,h1,h2,h3⟩ hk=>⟨slot,h1.at' λo e=>hk I (by simp) o e,h2.at' λo e=>hk a (by simp) o e,h3⟩
 item:=λi s Q E hi ⟨slot,h1,h2,h3⟩ hQ=>by
  have hlt:i<(ZdE w a es ep).size:=by rw[ZiD]; exact hi
  have hx:(ZdE w a es ep)[i]?=Z (ZdE w a es ep)[i]:=ZAA hlt;refine Zs7 h1 h2 h3 hx λh' hit' hs'=>?_;refine hQ _ h' s.toks ⟨_,hx,rfl⟩ ⟨_,hit',h2.at' λo e=>hs'.extBut a o hne e,λhb=>?_⟩ λb o hb e=>hs'.extBut b o (λh=>hb (by simp[h])) e;rw[hb];exact Zqs h2.tab.rise (by rw[<-h2.siz]; exact hi)
 done:=λs Q E ⟨slot,h1,h2,h3⟩ hQ=>Zti hh h1 h2 h3 (Zyr _) λh' he'=>hQ h' s.toks λb o hb e=>he' b o (λh=>hb (by simp[h])) e
 self:=λ_ _ _ _ ⟨slot,h1,_⟩ hQ=>ZtA h1 hQ
end
end HP
namespace HP
open PySem PySem.W PyProof.Rows
variable{p:Array Nat}{h h':Heap}{ep i j m n:Nat}{Q:Nat × Array Nat->Prop}
section
variable{α β:Type}
def Zcs(o:Nat->Nat->Bool)(n:Nat):KasT α->(α->Prop)->Prop
 | .ret a,Q=>Q a
 | .ask i j k,Q=>i<n/\j<n/\Zcs o n (k (o i j)) Q
theorem Zcs.bnd{o:Nat->Nat->Bool}{n:Nat}{f:α->KasT β}{Q:β->Prop}:∀(t:KasT α),Zcs o n t (λa=>Zcs o n (f a) Q)->Zcs o n (t.bind f) Q
 | .ret a,h=>h
 | .ask i j k,h=>⟨h.1,h.2.1,Zcs.bnd (k (o i j)) h.2.2⟩
end
structure Pm(n:Nat)(p:Array Nat):Prop where
 pos:0<n
 perm:p.Perm (List.toArray (Zyp n))
theorem Pm.size{n:Nat}{p:Array Nat}(h:Pm n p):p.size=n:=by have:=h.perm.size_eq;simpa using this
theorem Pm.lt(h:Pm n p)(i:Nat):p.getD i 0<n:=by
 by_cases hi:i<p.size
 ·have e:p.getD i 0=p[i]:=by simp[Zz6,hi]
  rw[e];have:=(ZBa.mp h.perm).mem_iff (a:=p[i]);have h2:=this.mp (by simp);simpa using h2
 ·have e:p.getD i 0=0:=by simp[Zz6,hi]
  rw[e]; exact h.pos
theorem Pm.rev(h:Pm n p)(i j:Nat):Pm n (kas_rev p i j):=⟨h.pos,(mirror_perm _ _ _ _).trans h.perm⟩
theorem Pm.bub(h:Pm n p)(i j:Nat):Pm n (bubble p i j):=⟨h.pos,(bubble_perm _ _ _).trans h.perm⟩
theorem getD_eq?(p:Array Nat)(i:Nat):p.getD i 0=(p[i]?).getD 0:=by simp[Array.getD_eq_getD_getElem?]
section
variable(O:KeyOrd)(key:Nat->O.α)
def Ka(p:Array Nat)(i:Nat):O.α:=key (p.getD i 0)
def Up(p:Array Nat)(k:Nat):Prop:=∀i j,i<=j->j<k->O.kle (Ka O key p i) (Ka O key p j)
def Dn(p:Array Nat)(k:Nat):Prop:=∀i j,i<=j->j<k->O.kle (Ka O key p j) (Ka O key p i)
def Ev(p:Array Nat)(m q:Nat):Prop:=∀i,m-(q+1)<=i->i<m->Ka O key p i=Ka O key p (m-1)
abbrev orc:Nat->Nat->Bool:=λi j=>O.blt (key i) (key j)
variable{O key}{p:Array Nat}{n:Nat}
theorem Zos(hj:j<=p.size)(k:Nat):Ka O key (kas_rev p i j) k=if i<=k/\k<j then Ka O key p (i+j-1-k)else Ka O key p k:=by unfold Ka kas_rev;rw[getD_eq?,getElem?_mirror_all hj];split<;>rw[<-getD_eq?]
theorem ZiB(hj:j<=p.size)(h:∀k,i<=k->k<j->Ka O key p k=Ka O key p (j-1))(k:Nat):Ka O key (kas_rev p i j) k=Ka O key p k:=by
 rw[Zos hj];split
 ·rename_i hk
  rw[h _ (by omega) (by omega),h k hk.1 hk.2]
 ·rfl
theorem ZrZ{s d:Nat}(hs:s<p.size)(hd:d<=s)(k:Nat):Ka O key (bubble p s d) k=if k=s-d then Ka O key p s else if s-d<k/\k<=s then Ka O key p (k-1)else Ka O key p k:=by
 unfold Ka;rw[getD_eq?,getElem?_bubble hs d hd]
 by_cases h1:k=s-d
 ·rw[if_pos h1,if_pos h1,<-getD_eq?]
 ·rw[if_neg h1,if_neg h1]
  by_cases h2:s-d<k/\k<=s
  ·rw[if_pos h2,if_pos h2,<-getD_eq?]
  ·rw[if_neg h2,if_neg h2,<-getD_eq?]
theorem Up.one:Up O key p 1:=λi j h1 h2=>by
 obtain rfl:i=j:=by omega
 exact ZAW _
theorem Up.more{k:Nat}(h:Up O key p k)(hl:O.kle (Ka O key p (k-1)) (Ka O key p k)):Up O key p (k+1):=λi j h1 h2=>by
 by_cases hj:j<k
 ·exact h i j h1 hj
 obtain rfl:j=k:=by omega
 by_cases hi:i=j
 ·subst hi; exact ZAW _
 ·exact ZBM (h i (j-1) (by omega) (by omega)) hl
theorem Dn.more{k:Nat}(h:Dn O key p k)(hl:O.kle (Ka O key p k) (Ka O key p (k-1))):Dn O key p (k+1):=λi j h1 h2=>by
 by_cases hj:j<k
 ·exact h i j h1 hj
 obtain rfl:j=k:=by omega
 by_cases hi:i=j
 ·subst hi; exact ZAW _
 ·exact ZBM hl (h i (j-1) (by omega) (by omega))
theorem Dn.same{p':Array Nat}{k:Nat}(h:Dn O key p k)(e:∀i,Ka O key p' i=Ka O key p i):Dn O key p' k:=λi j h1 h2=>by rw[e,e]; exact h i j h1 h2
theorem Zkd(hp:Pm n p){Q:Nat->Prop}:∀(f m:Nat),Up O key p m->(∀m',m<=m'->m'<=m+f->Up O key p m'->(m'=m+f\/O.klt (Ka O key p m') (Ka O key p (m'-1)))->Q m')->Zcs (orc O key) n (kas_asc p f m) Q
 | 0,m,hu,hq=>hq m (Zyr _) (by omega) hu (.inl rfl)
 | f+1,m,hu,hq=>by
  refine⟨hp.lt _,hp.lt _,?_⟩;dsimp only;split
  ·rename_i h
   exact hq m (Zyr _) (by omega) hu (.inr h)
  ·rename_i h
   refine Zkd hp f (m+1) (hu.more (ZAt h)) λm' h1 h2 h3 h4=>hq m' (by omega) (by omega) h3 (h4.imp (λe=>by omega) id)
theorem Zgn{Q:Array Nat × Nat × Nat->Prop}:∀(f:Nat) (p:Array Nat) (m q:Nat),Pm n p->Dn O key p m->q+1<=m->Ev O key p m q->m+f<=n ->
  (∀p' m' q',Pm n p'->m<=m'->m'<=m+f->Dn O key p' m'->q'+1<=m'->Ev O key p' m' q'->Q (p',m',q'))->Zcs (orc O key) n (kas_desc f p m q) Q
 | 0,p,m,q,hp,hd,h1,he,hn,hq=>hq p m q hp (Zyr _) (by omega) hd h1 he
 | f+1,p,m,q,hp,hd,h1,he,hn,hq=>by
  have hz:m<=p.size:=by rw[hp.size]; omega
  have e0:∀p',Ev O key p' (m+1) 0:=λp' i h1 h2=>by congr 1; omega
  refine⟨hp.lt _,hp.lt _,?_⟩;dsimp only;split
  ·rename_i h
   have hd':=hd.more (ZBw h);split
   ·exact Zgn f _ (m+1) 0 (hp.rev _ _) (hd'.same (ZiB hz he)) (by omega) (e0 _) (by omega) λp' m' q' a b c d e g=>hq p' m' q' a (by omega) (by omega) d e g
   ·exact Zgn f _ (m+1) 0 hp hd' (by omega) (e0 _) (by omega) λp' m' q' a b c d e g=>hq p' m' q' a (by omega) (by omega) d e g
  ·rename_i h
   refine⟨hp.lt _,hp.lt _,?_⟩;dsimp only;split
   ·exact hq p m q hp (Zyr _) (by omega) hd h1 he
   ·rename_i h'
    have l1:=ZAt h;have l2:=ZAt h';have ee:Ka O key p m=Ka O key p (m-1):=ZDr l2 l1;refine Zgn f p (m+1) (q+1) hp (hd.more l2) (by omega) (λi a b=>?_) (by omega) λp' m' q' a b c d e g=>hq p' m' q' a (by omega) (by omega) d e g;rw[show m+1-1=m by omega]
    by_cases hi:i=m
    ·rw[hi]
    ·rw[ee]; exact he i (by omega) (by omega)
theorem ZlK(hp:Pm n p)(hd:Dn O key p m)(h1:1<=m)(hm:m<=n)(hq:∀m' p',1<=m'->m'<=n->Pm n p'->Up O key p' m'->Q (m',p')):Zcs (orc O key) n (kas_tail3 m n p) Q:=by
 have hz:m<=p.size:=by rw[hp.size]; omega
 refine Zcs.bnd _ (Zkd (hp.rev 0 m) (n-m) m (λi j a b=>?_) λm' a b c _=>hq m' _ (by omega) (by omega) (hp.rev 0 m) c);rw[Zos hz,Zos hz,if_pos (by omega),if_pos (by omega)];exact hd _ _ (by omega) (by omega)
theorem Zl2(hp:Pm n p)(hd:Dn O key p (m+1))(hm:m+1<=n)(hq:∀m' p',1<=m'->m'<=n->Pm n p'->Up O key p' m'->Q (m',p')):Zcs (orc O key) n (kas_descPart m n p) Q:=by
 refine Zcs.bnd _ (Zgn (n-(m+1)) p (m+1) 0 hp hd (by omega) (λi a b=>by congr 1; omega) (by omega) λp' m' q' h1 h2 h3 h4 h5 h6=>?_);have hz:m'<=p'.size:=by rw[h1.size]; omega
 dsimp only;split
 ·exact ZlK (h1.rev _ _) (h4.same (ZiB hz h6)) (by omega) (by omega) hq
 ·exact ZlK h1 h4 (by omega) (by omega) hq
theorem ZqR(hp:Pm n p)(hq:∀m' p',1<=m'->m'<=n->Pm n p'->Up O key p' m'->Q (m',p')):Zcs (orc O key) n (kas_count n p) Q:=by
 have h0:=hp.pos;refine Zcs.bnd _ (Zkd hp (n-1) 1 Up.one λm h1 h2 h3 h4=>?_);have hz:m<=p.size:=by rw[hp.size]; omega
 split
 ·exact hq m p (by omega) (by omega) hp h3
 ·rename_i hne
  have hne':m≠n:=by simpa using hne
  have hlt:O.klt (Ka O key p m) (Ka O key p (m-1)):=h4.resolve_left (by omega);split
  ·rename_i hm
   refine⟨hp.lt _,hp.lt _,?_⟩;dsimp only;split
   ·exact hq m p (by omega) (by omega) hp h3
   ·rename_i hr
    have hr':O.kle (Ka O key p (m-1)) (Ka O key p 0):=ZAt hr;have all:∀k,0<=k->k<m->Ka O key p k=Ka O key p (m-1):=λk _ hk=>ZDr (h3 k (m-1) (by omega) (by omega)) (ZBM hr' (h3 0 k (by omega) hk));refine Zl2 (hp.rev _ _) (Dn.same ?_ (ZiB hz all)) (by omega) hq;refine Dn.more (λi j a b=>?_) (ZBw hlt);rw[all i (by omega) (by omega),all j (by omega) b]; exact ZAW _
  ·obtain rfl:m=1:=by omega
   refine Zl2 hp (Dn.more (λi j a b=>?_) (ZBw hlt)) (by omega) hq;obtain rfl:i=j:=by omega
   exact ZAW _
theorem ZhF{Q:Nat->Prop}{k:Nat}(hp:Pm n p)(hu:Up O key p k):∀(f l r:Nat),l<=r->r<=k->r-l<=f->(∀i,i<l->O.kle (Ka O key p i) (Ka O key p k))->(∀i,r<=i->i<k->O.klt (Ka O key p k) (Ka O key p i)) ->
  (∀l,l<=k->(∀i,i<l->O.kle (Ka O key p i) (Ka O key p k))->(∀i,l<=i->i<k->O.klt (Ka O key p k) (Ka O key p i))->Q l)->Zcs (orc O key) n (kas_place p k f l r) Q
 | 0,l,r,h1,h2,h3,lo,hi,hq=>by
  obtain rfl:l=r:=by omega
  exact hq l h2 lo hi
 | f+1,l,r,h1,h2,h3,lo,hi,hq=>by
  unfold kas_place;split
  ·obtain rfl:l=r:=by omega
   exact hq l h2 lo hi
  ·refine⟨hp.lt _,hp.lt _,?_⟩
   dsimp only;split
   ·rename_i h
    exact ZhF hp hu f l ((l+r) / 2) (by omega) (by omega) (by omega) lo (λi a b=>KeyOrd.klt_of_klt_of_kle h (hu _ _ a b)) hq
   ·rename_i h
    refine ZhF hp hu f ((l+r) / 2+1) r (by omega) (by omega) (by omega) (λi a=>ZBM (hu i ((l+r) / 2) (by omega) (by omega)) (ZAt h)) hi hq
theorem Znw{Q:Array Nat->Prop}:∀(f:Nat) (p:Array Nat) (k:Nat),Pm n p->Up O key p k->k+f=n->(∀p',Pm n p'->Up O key p' n->Q p')->Zcs (orc O key) n (kas_bin f p k) Q
 | 0,p,k,hp,hu,hn,hq=>by
  obtain rfl:k=n:=by omega
  exact hq p hp hu
 | f+1,p,k,hp,hu,hn,hq=>by
  refine Zcs.bnd _ (ZhF hp hu k 0 k (by omega) (Zyr _) (by omega) (λi a=>by omega) (λi a b=>by omega) λl hl lo hi=>?_);refine Znw f _ (k+1) (hp.bub _ _) (λi j a b=>?_) (by omega) hq;have hk:k<p.size:=by rw[hp.size]; omega
  rw[ZrZ hk (by omega),ZrZ hk (by omega),show k-(k-l)=l by omega]
  repeat' split
  all_goals first
   | (exfalso; omega)
   | exact ZAW _
   | exact lo _ (by omega)
   | exact ZBw (hi _ (by omega) (by omega))
   | exact hu _ _ (by omega) (by omega)
theorem ZlP(hn:0<n){Q:Array Nat->Prop}(hq:∀p,Pm n p->Up O key p n->Q p):Zcs (orc O key) n (kas_sort n) Q:=by
 refine Zcs.bnd _ (ZqR ⟨hn,.refl _⟩ λm p h1 h2 h3 h4=>?_);dsimp only;rw[show max m 1=m by omega];split
 ·exact Znw _ p m h3 h4 (by omega) hq
 ·exact hq p h3 (by rwa [show n=m by omega])
end
theorem lex_irrefl:∀a:List Int,HM.lexLt a a=ZDD
 | []=>rfl
 | x::a=>by show(if x=x then HM.lexLt a a else decide (x<x))=ZDD;rw[if_pos rfl]; exact lex_irrefl a
theorem ZdC(x y:Int)(a b:List Int):HM.lexLt (x::a) (y::b)=if x=y then HM.lexLt a b else decide (x<y):=rfl
theorem lex_trans:∀a b c:List Int,HM.lexLt a b=ZDC->HM.lexLt b c=ZDC->HM.lexLt a c=ZDC
 | [],[],_,h,_=>by cases h
 | [],_::_,[],_,h=>by cases h
 | [],_::_,_::_,_,_=>rfl
 | _::_,[],_,h,_=>by cases h
 | _::_,_::_,[],_,h=>by cases h
 | x::a,y::b,z::c,h1,h2=>by
  rw[ZdC]at *;split at h1
  ·rename_i e
   subst e;split at h2
   ·rename_i e; subst e; rw[if_pos rfl]; exact lex_trans a b c h1 h2
   ·rename_i e; rw[if_neg e]; exact h2
  ·split at h2
   ·rename_i e1 e2; subst e2; rw[if_neg e1]; exact h1
   ·rename_i e1 e2
    have h1:=of_decide_eq_true h1;have h2:=of_decide_eq_true h2;rw[if_neg (by omega)]; exact decide_eq_true (by omega)
theorem Zjn:∀a b c:List Int,HM.lexLt a c=ZDC->HM.lexLt a b=ZDC\/HM.lexLt b c=ZDC
 | [],[],_,h=>.inr h
 | [],_::_,_,_=>.inl rfl
 | _::_,_,[],h=>by cases h
 | _::_,[],_::_,_=>.inr rfl
 | x::a,y::b,z::c,h=>by
  rw[ZdC]at *;rw[ZdC];split at h
  ·rename_i e
   subst e
   by_cases e:x=y
   ·subst e; rw[if_pos rfl,if_pos rfl]; exact Zjn a b c h
   ·rw[if_neg e,if_neg (Zzt e)]
    by_cases q:x<y
    ·exact .inl (decide_eq_true q)
    ·exact .inr (decide_eq_true (by omega))
  ·rename_i e
   have h:=of_decide_eq_true h
   by_cases e1:x=y
   ·subst e1; rw[if_neg e]; exact .inr (decide_eq_true h)
   ·rw[if_neg e1]
    by_cases q:x<y
    ·exact .inl (decide_eq_true q)
    ·rw[if_neg (by omega)]; exact .inr (decide_eq_true (by omega))
theorem Zgs:∀a b:List Int,HM.lexLt a b=ZDD->HM.lexLt b a=ZDD->a=b
 | [],[],_,_=>rfl
 | [],_::_,h,_=>by cases h
 | _::_,[],_,h=>by cases h
 | x::a,y::b,h1,h2=>by
  rw[ZdC]at h1 h2
  by_cases e:x=y
  ·subst e
   rw[if_pos rfl]at h1 h2;rw[Zgs a b h1 h2]
  ·rw[if_neg e]at h1
   rw[if_neg (Zzt e)]at h2;have h1:=of_decide_eq_false h1;have h2:=of_decide_eq_false h2;omega
@[reducible] def Zhe:KeyOrd where
 α:=List Int
 blt:=HM.lexLt
 irrefl:=lex_irrefl
 trans:=lex_trans
 negTrans:=Zjn
 total:=Zgs
theorem Zfo{α:Type}{R:α->α->Prop}(anti:∀a b,R a b->R b a->a=b):∀{l m:List α},l.Perm m->l.Pairwise R->m.Pairwise R->l=m
 | [],m,hp,_,_=>(List.nil_perm.mp hp).symm
 | x::l,[],hp,_,_=>absurd hp.symm (by intro q; exact List.cons_ne_nil _ _ (List.nil_perm.mp q))
 | x::l,y::m,hp,hl,hm=>by
  obtain⟨l1,l2⟩:=Zzb.mp hl;obtain⟨m1,m2⟩:=Zzb.mp hm;have e:x=y:=by
   rcases ZyH.mp (hp.mem_iff.mp (Zyo ..))with e | e
   ·exact e
   ·rcases ZyH.mp (hp.mem_iff.mpr (Zyo ..))with e' | e'
    ·exact e'.symm
    ·exact anti x y (l1 y e') (m1 x e)
  subst e;rw[Zfo anti ((List.perm_cons x).mp hp) l2 m2]
def TI(h:Heap)(b:Addr)(t:List Int):Prop:=∃o its n,h.get? b=Z o/\o.cls=.type "tuple"/\o.data=.seq its n/\IntsAre its.toList t
theorem TI.keep{b:Addr}{t:List Int}(x:TI h b t)(k:∀o,h.get? b=Z o->h'.get? b=Z o):TI h' b t:=let ⟨o,its,n,e,r⟩:=x; ⟨o,its,n,k o e,r⟩
section
variable{prog:Program}{w:World}{A:Around}{E:Value->Shared->Prop}{s:Shared}
theorem Zse{fin:Bool}{Q:Bool->Shared->Prop}:∀{vs ws:List Value} {a b:List Int} (i:Nat),IntsAre vs a->IntsAre ws b->fin=decide (vs.length<ws.length)->Q (HM.lexLt a b) s->KatLex prog w A ZDC fin Q (vs.zip ws) i s
 | _,_,_,_,i,.nil,.nil,e,q=>by subst e; exact kat_nil q
 | _,_,_,_,i,.nil,.cons _ _ _,e,q=>by subst e; exact kat_nil q
 | _,_,_,_,i,.cons _ _ _,.nil,e,q=>by subst e; exact kat_nil q
 | _,_,_,_,i,.cons x t hv,.cons y u hw,e,q=>by
  rw[List.zip_cons_cons];refine kat_cons (ZBJ ?_);rw[ZdC]at q
  by_cases h:x=y
  ·rw[if_pos h]at q
   rw[show(x==y)=ZDC by simpa using h];refine kat_yes (Zse (i+1) hv hw ?_ q);rw[e,ZyD,ZyD];exact decide_eq_decide.mpr (by omega)
  ·rw[if_neg h]at q
   rw[show(x==y)=ZDD by simpa using h];refine kat_no ?_
   by_cases hi:i=0
   ·rw[show(ZDC&&i==0)=ZDC by simpa using hi]
    exact oneLt_int q
   ·rw[show(ZDC&&i==0)=ZDD by simpa using hi]
    exact kat_one _ _ (ZDs q)
theorem ZvK{x y:Addr}{a b:List Int}{Q:Bool->Shared->Prop}(hx:TI s.heap x a)(hy:TI s.heap y b)(h:Q (HM.lexLt a b) s):wpAny (model prog w) A (keyLt' (tuples' ZDC) (.ref x) (.ref y)) Q E s:=by obtain⟨ox,ix,n,e1,_,d1,r1⟩:=hx;obtain⟨oy,iy,k,e2,_,d2,r2⟩:=hy;refine kat_lt e1 d1 e2 d2 (Zse 0 r1 r2 ?_ h);rw[ZyL,ZyL]
theorem Zlf{α:Type}{cmp:Nat->Nat->(Bool->Shared->Prop)->Shared->Prop}{o:Nat->Nat->Bool}{n:Nat}(hc:∀i j C,i<n->j<n->C (o i j) s->cmp i j C s){G:α->Shared->Prop}:∀(t:KasT α),Zcs o n t (λa=>G a s)->t.kasWp cmp G s
 | .ret a,h=>h
 | .ask i j k,h=>hc i j _ h.1 h.2.1 (Zlf hc (k (o i j)) h.2.2)
theorem ZsH{a:Addr}{vs:List Value}{ts:List (List Int)}{P:PySem.Fin->Shared->Prop}(ho:s.heap.get? a=Z (seqObj "list" vs.toArray n))(hl:ts.length=vs.length)
  (hT:∀(i:Nat) t,ts[i]?=Z t->∃b,vs[i]?=Z (.ref b)/\TI s.heap b t) (hne:vs.length<2\/∀t∈ts,t≠[]) (h64:vs.length<64)
  (h:∀p:List Nat,p.Perm (Zyp vs.length)->(p.map λi=>ts.getD i []).Pairwise (λx y=>HM.lexLt y x=ZDD)->P (.done (.ret .none)) { s with heap:=sortedHeap s.heap a vs (p.map λi=>vs.getD i ZyU).toArray }) :
  wpAny (model prog w) A (Builtin.«list.sort» ⟨[.ref a],[]⟩) P E s:=by
 rw[list_sort_plain];have ha:a<s.heap.objs.size:=ZyB ho;refine Zyi (listItems_at ho rfl (Zyi (ZBb ho rfl ?_ (by rw[Zyu,Zze]; omega) (Zzj _))));obtain⟨e1,ho1⟩:∃e1,(s.heap.update a (ZAe λ_=>#[])).get? a=Z (seqObj "list" #[] e1):=⟨_,get?_update_seq ho (λ_=>#[])⟩;refine Zyi (ZC6 ho1 rfl ?_);refine Zyi (wpAny_newTuple ?_ (by show vs.length<=_; rw[Zze]; omega));refine Zyi (ZBG ?_ (Zzj _));refine Zzp ?_;generalize hG:((s.heap.update a (ZAe λ_=>#[])).push (seqObj "tuple" vs.toArray 0)).push (seqObj "list" #[] 0)=g;have ho6:g.get? a=Z (seqObj "list" #[] e1):=by rw[<-hG,ZBx _ _ _ (by rw[size_push',ZA8]; exact ZyG (ZAi ha)),ZBx _ _ _ (by rw[ZA8]; exact ZyG ha)];exact ho1
 have hold:∀b o,b≠a->s.heap.get? b=Z o->g.get? b=Z o:=λb o hb e=>by have hlt:=ZyB e;rw[<-hG,ZBx _ _ _ (by rw[size_push',ZA8]; exact ZyG (ZAi hlt)),ZBx _ _ _ (by rw[ZA8]; exact ZyG hlt),ZB5 _ _ _ _ hb];exact e
 have hT6:∀(i:Nat) t,ts[i]?=Z t->∃b,vs[i]?=Z (.ref b)/\TI g b t:=λi t e=>by
  obtain⟨b,e1,x⟩:=hT i t e;refine⟨b,e1,x.keep λo q=>hold b o ?_ q⟩
  rintro rfl
  obtain⟨o',_,_,q1,q2,_⟩:=x;rw[ho]at q1;cases q1;injection q2 with q2
  exact absurd q2 (by decide)
 show wpAny (model prog w) A _ P E { s with heap:=g };dsimp only;have fin:∀(st':SortSt) (p:List Nat),p.Perm (Zyp vs.length)->(p.map λi=>ts.getD i []).Pairwise (λx y=>HM.lexLt y x=ZDD)->(arrOf st').map (·.2)=(p.map λi=>vs.getD i ZyU).toArray->failedOf st'=Z_ ->
   wpAny (model prog w) A (do
    let touched:=(<-seqEpoch a) != e1
    Builtin.List.listUpdate (.ref a) λ_=>(arrOf st').map (·.2)
    if let Z e:=failedOf st' then rule "list.sort.comparison-raised"; throw e
    if touched then rule "list.sort.modified"; raiseError "ValueError" "list modified during sort"
    ret .none) P E { s with heap:=g }:=by
  intro st' p hp hs har hf;refine Zyi (ZC6 ho6 rfl ?_);rw[har];refine Zyi (ZBb ho6 rfl ?_ (Zzj _) (by show(p.map λi=>vs.getD i ZyU).toArray.size<=_; rw[Zyu,Zyj,hp.length_eq,ZzZ,Zze]; omega));rw[hf];simp only[bne_self_eq_false,Zzr,if_false];refine Zym ?_;have:=h p hp hs;unfold sortedHeap at this;rw[hG]at this;exact this
 by_cases h2:vs.toArray.size<2
 ·rw[if_pos h2,if_pos h2]
  refine Zyi (Zym ?_);rw[StateT.run_pure];refine Zyi (Zym ?_);refine fin (SortSt.mk' general' (vs.toArray.zip vs.toArray) #[] 7 Z_) (Zyp vs.length) (.refl _) ?_ ?_ rfl
  ·rw[Zyu]at h2
   have:vs.length=0\/vs.length=1:=by omega
   rcases this with e | e<;>rw[e]<;>simp
  ·rw[Zyu]at h2
   show Array.map (·.2) (vs.toArray.zip vs.toArray)=_
   match vs,h2 with
   | [],_=>simp
   | [v],_=>simp
 ·rw[if_neg h2,if_neg h2]
  rw[Zyu]at h2;have hne':∀t∈ts,t≠[]:=hne.resolve_left h2;have tups:∀(vs:List Value) (ts:List (List Int)),ts.length=vs.length->(∀(i:Nat) t,ts[i]?=Z t->∃b,vs[i]?=Z (.ref b)/\TI g b t)->(∀t∈ts,t≠[])->∃fs,KatTups g vs fs/\fs.length=vs.length/\∀v∈fs,∃x t,v=Zz0 x t:=by
   intro vs
   induction vs with
   | nil=>intro ts hl _ _; exact⟨[],KatTups.nil,rfl,by simp⟩
   | cons v vs ih =>
    intro ts hl hT hn;cases ts with
    | nil=>simp at hl
    | cons t ts =>
     obtain⟨fs,f1,f2,f3⟩:=ih ts (by simpa using hl) (λi t e=>hT (i+1) t (by simpa using e)) λx hx=>hn x (Zyq _ hx);obtain⟨b,eb,o,its,m,g1,g2,g3,g4⟩:=hT 0 t rfl;simp at eb;subst eb;cases t with
     | nil=>exact absurd rfl (hn [] (Zyo ..))
     | cons x t =>
      cases hi:its.toList with
      | nil=>rw[hi]at g4; cases g4
      | cons y ys =>
       rw[hi]at g4;cases g4 with
       | cons _ u _ =>
        refine⟨.int x u::fs,KatTups.cons g1 g2 g3 ?_ f1,by simp[f2],λv hv=>?_⟩
        ·rw[<-Zza,hi]; rfl
        ·rcases ZyH.mp hv with e | e
         ·exact⟨x,u,e⟩
         ·exact f3 v e
  obtain⟨fs,f1,f2,f3⟩:=tups vs ts hl hT6 hne';refine Zyi (kat_kind (s:={ s with heap:=g }) (T:=.type "int") f1 (by omega) (λv hv=>?_) (by rfl) ?_)
  ·obtain⟨x,t,rfl⟩:=f3 v hv
   exact Looks.of_pure rfl
  rw[show(ZAo "int" != ZAo "tuple")=ZDC by decide];refine Zyi (Zzw (kat_run (ks:=vs) (Q:=λst' s'=>s'={ s with heap:=g }/\∃p:Array Nat,Pm vs.length p/\Up Zhe (λi=>ts.getD i []) p vs.length/\arrOf st'=p.map (kas_item (vs.toArray.zip vs.toArray))/\failedOf st'=Z_)
   (G:=λp s'=>s'={ s with heap:=g }/\Pm vs.length p/\Up Zhe (λi=>ts.getD i []) p vs.length) rfl (by omega) h64 (λp' st' s' a1 a2 a3 a4=>⟨a4.1,p',a4.2.1,a4.2.2,a2,a3⟩) ?_) ?_ λ_ _ e=>e)
  ·refine Zlf (o:=orc Zhe λi=>ts.getD i []) (n:=vs.length) (λi j C hi hj hC=>?_) _ (ZlP (by omega) λp h1 h2=>⟨rfl,h1,h2⟩)
   have gi:ts[i]?=Z (ts.getD i []):=by simp[show i<ts.length by omega]
   have gj:ts[j]?=Z (ts.getD j []):=by simp[show j<ts.length by omega]
   obtain⟨b1,v1,x1⟩:=hT6 i _ gi;obtain⟨b2,v2,x2⟩:=hT6 j _ gj;show wpAny (model prog w) A (keyLt' _ (vs.getD i ZyU) (vs.getD j ZyU)) C _ _;rw[show vs.getD i ZyU=.ref b1 by simp[Zzs,v1],show vs.getD j ZyU=.ref b2 by simp[Zzs,v2]];exact ZvK x1 x2 hC
  ·rintro ⟨⟨⟩,st'⟩ s' ⟨rfl,p,hp,hu,har,hf⟩
   refine fin st' p.toList ?_ ?_ (kat_snds rfl har) hf
   ·have:=ZBa.mp hp.perm
    simpa using this
   ·rw[ZCA,ZBg]
    intro i j hi hj hij;have hsz:=hp.size;have q:=hu i j (Zz3 hij) (by rw[ZyL]at hj; omega);unfold Ka at q;rw[show p.getD i 0=p.toList[i] by simp[Zz6,show i<p.size by simpa using hi],show p.getD j 0=p.toList[j] by simp[Zz6,show j<p.size by simpa using hj]]at q;exact q
end
def ZeF(h:Heap)(d:Addr)(es:Array DictEntry)(ep:Nat):Prop:=∃o,h.get? d=Z o/\o.ExactDict/\o.data=.dict es ep
theorem ZeF.at'{d:Addr}{es:Array DictEntry}(x:ZeF h d es ep)(e:∀o,h.get? d=Z o->h'.get? d=Z o):ZeF h' d es ep:=let ⟨o,ho,r⟩:=x; ⟨o,e _ ho,r⟩
theorem ZeF.typeIs{s:Shared}{d:Addr}{es:Array DictEntry}(x:ZeF s.heap d es ep):s.TypeIs (.ref d) "dict":=let ⟨o,ho,hc,_⟩:=x; ⟨o,ho,hc.1⟩
theorem ZeF.lt{d:Addr}{es:Array DictEntry}(x:ZeF h d es ep):d<h.objs.size:=let ⟨o,ho,_⟩:=x; ZyB ho
section
variable{prog:Program}{w:World}{A:Around}{E:Value->Shared->Prop}{s:Shared}{it d:Addr}{es:Array DictEntry}{ep i:Nat}
theorem Zod{Q:Value->Shared->Prop}(hd:(d==ZzP)=ZDD)(hm:ZeF s.heap d es ep)
  (hQ:Q (.ref s.heap.objs.size) { s with heap:=s.heap.push { cls:=.type "dict_keyiterator",data:=.fields #[.ref d,.int 0 0,.int es.size 0,.int ep 0] } }) :
  wpAny (model prog w) A (pyIter (.ref d)) Q E s:=by
 obtain⟨o,ho,hc,hdat⟩:=id hm;have hT:=hm.typeIs;refine ZCy hT F.slot_dict_iter (Zzv F.slot_dict_iter hT F.entry_dict_iter ?_ (F.args_dict_iter_1 _));unfold Builtin.«dict.__iter__»;refine Zyi ?_;unfold Builtin.Dict.dictSlotNone;refine Zyi (wpAny_notOrdered_dict hT ?_);show wpAny _ _ (pure (Zzc d)) _ _ s;refine Zym ?_;show wpAny _ _ (ZDd d >>= _) _ _ s;unfold ZDd;rw[if_neg (by rw[hd]; exact Zy5)];refine Zyi (Zym (Zyi (ZBt ho hdat (Zyi (ZCX ho hdat ?_)))));refine Zyi (Zy4 (Zym ⟨_,rfl,"dict_keyiterator",_,⟨_,ZyC _ rfl,rfl⟩,F.slot_dict_keyiterator_next.lookup,?_⟩));simpa [rawInt]using hQ
theorem Zom{e:DictEntry}{Q:Option Value->Shared->Prop}(hit:s.heap.IsKeyIter it d i es.size ep)(hm:ZeF s.heap d es ep)(hx:es[i]?=Z e)
  (hQ:∀h',h'.IsKeyIter it d (i+1) es.size ep->ZAc it s.heap h'->Q (Z e.key) { s with heap:=h' }) :
  wpAny (model prog w) A (pyNext (.ref it)) Q E s:=by
 obtain⟨o,ho,hc,hd⟩:=id hit;obtain⟨od,hod,hcd,hdd⟩:=id hm;unfold pyNext;refine Zyi (ZBF (wpAny_callSpecial?_slot (name:=ZAd "__next__") hit.typeIs F.slot_dict_keyiterator_next
  (Zzv F.slot_dict_keyiterator_next hit.typeIs F.entry_dict_keyiterator_next ?_ (F.args_dict_keyiterator_next_1 _))))
 refine Zyi (Zym (Zyi (Zyi ?_)))
 first | refine Zyi (ZAj hit.typeIs (Zym ?_)) | refine Zyi (ZAG hit.typeIs (Zym ?_))
 refine Zyi (ZCe ho hd ?_);have hown:ZCg "dict_keyiterator" = ZDD:=by decide
 simp only[hown,Zzr,if_false];show wpAny _ _ (if(Zzc d==ZyU)=ZDC then _ else _) _ _ s;rw[if_neg (show ¬((Zzc d==ZyU)=ZDC) from Zy5)];refine Zyi (Zym (Zyi (ZBt hod hdd ?_)));rw[if_neg (by simp)];refine Zyi (Zym (Zyi (ZCX hod hdd ?_)));rw[if_neg (by simp)];refine Zym ?_;obtain⟨hlt,he⟩:=Array.getElem?_eq_some_iff.mp hx;simp only[show ¬((i:Int)<0) from by omega,if_false,ZAZ,ZAA hlt];refine Zyi ?_
 first | refine Zyi (ZAj hit.typeIs (Zym ?_)) | refine Zyi (ZAG hit.typeIs (Zym ?_))
 refine Zyi (wpAny_isOneOf_keyiter hit.typeIs ?_);show wpAny _ _ (setField (.ref it) 1 (rawInt ((i:Int)+1)) >>= _) _ _ s;refine Zyi (ZBo ho hd (by simp) ?_);have hit':(s.heap.update it (ZDp (·.setIfInBounds 1 (rawInt ((i:Int)+1))))).IsKeyIter it d (i+1) es.size ep :=
  ⟨_,Zzy _ ho (ZBO (ZzW hd _)),(ZCz ..).trans hc,by rw[ZzW hd]; simp[rawInt]⟩
 refine Zyi (Zzp ?_);refine Zyi (wpAny_isOneOf_keyiter (s:={ s with heap:=s.heap.update it (ZDp (·.setIfInBounds 1 (rawInt ((i:Int)+1)))) }) hit'.typeIs ?_);show wpAny _ _ (pure es[i].key) _ _ _;refine Zym (Zym ⟨_,rfl,Zym ?_⟩);rw[he];exact hQ _ hit' (Zzx ..)
theorem Zpx{Q:Option Value->Shared->Prop}(hh:A.handled=Z_)(hit:s.heap.IsKeyIter it d i es.size ep)(hm:ZeF s.heap d es ep)(hx:es.size<=i)
  (hQ:∀h',Heap.ExtBut it s.heap h'->Q Z_ { s with heap:=h' }):wpAny (model prog w) A (pyNext (.ref it)) Q E s:=by
 obtain⟨o,ho,hc,hd⟩:=id hit;obtain⟨od,hod,hcd,hdd⟩:=id hm;unfold pyNext;refine Zyi (ZBF (wpAny_callSpecial?_slot (name:=ZAd "__next__") hit.typeIs F.slot_dict_keyiterator_next
  (Zzv F.slot_dict_keyiterator_next hit.typeIs F.entry_dict_keyiterator_next ?_ (F.args_dict_keyiterator_next_1 _))))
 refine Zyi (Zym (Zyi (Zyi ?_)))
 first | refine Zyi (ZAj hit.typeIs (Zym ?_)) | refine Zyi (ZAG hit.typeIs (Zym ?_))
 refine Zyi (ZCe ho hd ?_);have hown:ZCg "dict_keyiterator" = ZDD:=by decide
 simp only[hown,Zzr,if_false];show wpAny _ _ (if(Zzc d==ZyU)=ZDC then _ else _) _ _ s;rw[if_neg (show ¬((Zzc d==ZyU)=ZDC) from Zy5)];refine Zyi (Zym (Zyi (ZBt hod hdd ?_)));rw[if_neg (by simp)];refine Zyi (Zym (Zyi (ZCX hod hdd ?_)));rw[if_neg (by simp)];refine Zym ?_;simp only[show ¬((i:Int)<0) from by omega,if_false,ZAZ,ZBA hx];refine Zyi ?_
 first | refine Zyi (ZAj hit.typeIs (Zym ?_)) | refine Zyi (ZAG hit.typeIs (Zym ?_))
 show wpAny _ _ (setField (.ref it) 0 .none >>= _) _ _ s;refine Zyi (ZBo ho hd (by simp) ?_);show wpAny _ _ (newExc (.type "StopIteration") [] >>= _) _ _ _;refine Zyi ?_;simp only[newExc,newTuple];refine Zyi (Zy4 ?_ (by size_fits));refine Zyi (m:=ZCf _ _) (ZC3 (a:=ZyU) (by first | rfl | (simp only[ZCf]; rfl)) ?_)
 refine Zy4 ?_ (by size_fits);simp only[raiseNew];refine Zyi (wpAny_handled ?_);rw[show A.in1.handled=Z_ from hh];refine Zyi (Zym (wpAny_throw ?_));refine Zyi (ZBL (T:="StopIteration") (b:=ZDC) ⟨_,ZyC _ rfl,rfl⟩ isSubtype_stop ?_);exact Zym (hQ _ (((Zzx ..).extBut.push _).push _))
theorem Zsp(hh:A.handled=Z_)(I d:Addr)(hne:d≠I)(es:Array DictEntry)(ep:Nat) :
  Walks prog w A I [I,d] [I] es.size (λi v=>∃e,es[i]?=Z e/\v=e.key) (λi h=>h.IsKeyIter I d i es.size ep/\ZeF h d es ep) where
 sub:=λb hb=>by simp at hb; simp[hb]
 frame:=λ_ _ _ st hk=>⟨st.1.at λo e=>hk I (by simp) o e,st.2.at' λo e=>hk d (by simp) o e⟩
 item:=λi s Q E hi st hQ=>by have hx:es[i]?=Z es[i]:=ZAA hi;refine Zom st.1 st.2 hx λh' hit' hs'=>?_;exact hQ _ h' s.toks ⟨_,hx,rfl⟩ ⟨hit',st.2.at' λo e=>hs'.extBut d o hne e⟩ λb o hb e=>hs'.extBut b o (λh=>hb (by simp[h])) e
 done:=λs Q E st hQ=>Zpx hh st.1 st.2 (Zyr _) λh' he'=>hQ h' s.toks λb o hb e=>he' b o (λh=>hb (by simp[h])) e
 self:=λ_ _ _ _ st hQ=>wpAny_pyIter_keyiter st.1 hQ
end
end HP
namespace HP
open PySem PySem.Spec PySem.W PySem.Calls PyProof.Rows L2
variable{a r:Addr}{es:Array (Int × Value)}{h:Heap}{ep:Nat}
variable[FX]
section
variable{prog:Program}{w:World}{A:Around}{E:Value->Shared->Prop}{s:Shared}
theorem Zto{Q:Bool->Shared->Prop}(hT:s.TypeIs (.ref r) "set")(h:Q ZDD s):wpAny (model prog w) A (ZCn (.ref r)) Q E s:=by
 unfold ZCn;refine Zyi (wpAny_specialOf hT PySem.F.slot_set_len.lookup ?_);generalize hid:("set.__len__":String)=id0
 wp_delta
 rw[show splitId id0=Z ("set","__len__") from by subst hid; decide +kernel];subst hid;refine Zyi (ZBL (T:="set") (b:=ZDC) hT (by rw[isSubtype_type]; kernel_rfl) ?_);refine ZAs (λq=>absurd q (by decide)) λ_=>?_;refine ZAs (λ_=>?_) (λq=>absurd (by decide +kernel) q);exact Zyi (wpAny_typeOf hT (Zym h))
theorem Zua{d:Addr}{es:Array DictEntry}(lo:(d==ZzP)=ZDD):KdlSrc prog w "dict" d d es.size (λi v=>∃e,es[i]?=Z e/\v=e.key) (λh=>ZeF h d es ep) where
 type:=λ_ hm=>hm.typeIs
 there:=λ_ hm=>⟨hm.lt,hm.lt⟩
 keep:=λ_ _ hm hk=>hm.at' λo e=>hk d (.inl rfl) o e
 notList:=by decide
 notTuple:=by decide
 hint:=λ_ _ _ _ hm hq=>kdl_hint_dict hm.typeIs hq
 iter:=λ_ _ hh hm=>⟨_,_,(λ_ _ hq=>Zod lo hm hq),Zsp hh _ d (ZyG hm.lt) es ep,⟨⟨_,ZyC _ rfl,rfl,rfl⟩,hm.at' λo e=>Zyn _ e⟩⟩
theorem Zep.typeIs{t:SetTable}(x:Zep w s.heap a es ep t):s.TypeIs (.ref a) "set":=let ⟨o,ho,hc,_⟩:=x.obj; ⟨o,ho,hc.1⟩
theorem Zep.lt{t:SetTable}(x:Zep w h a es ep t):a<h.objs.size:=let ⟨o,ho,_⟩:=x.obj; ZyB ho
theorem Zuy{t:SetTable}:KdlSrc prog w "set" a a es.size (λi v=>∃e,(ZdE w a es ep)[i]?=Z e/\v=e.2) (λh=>Zep w h a es ep t) where
 type:=λ_ hm=>hm.typeIs
 there:=λ_ hm=>⟨hm.lt,hm.lt⟩
 keep:=λ_ _ hm hk=>hm.at' λo e=>hk a (.inl rfl) o e
 notList:=by decide
 notTuple:=by decide
 hint:=λ_ _ _ _ hm hq=>Zto hm.typeIs hq
 iter:=λ_ _ hh hm=>⟨_,_,(λ_ _ hq=>ZsI hm hq),ZrR hh _ a (ZyG hm.lt) es ep t,⟨0,⟨_,ZyC _ rfl,rfl,rfl⟩,hm.at' λo e=>Zyn _ e,λ_=>ZqL hm.tab.rise⟩⟩
theorem ZgQ{T:String}{d:Addr}{n:Nat}{P:Nat->Value->Prop}{OK:Heap->Prop}{R:List Value->Shared->Prop}(K:KdlSrc prog w T r d n P OK)(hh:A.handled=Z_)(hok:OK s.heap)(hn:n<=sizeLine)
  (h:∀(h':Heap) (tk:Nat) (acc:Array Value),(∀b o,s.heap.get? b=Z o->h'.get? b=Z o)->s.heap.objs.size<h'.objs.size->ItemsOf P acc n->R acc.toList { s with heap:=h',toks:=tk }) :
  wpAny (model prog w) A (collect (.ref r)) R E s:=by
 have hlt:=K.there _ hok;unfold collect;refine Zyi (ZCd (ZzA entry_proto_collect' ?_));rw[Zzu ZCo _];show wpAny _ A.in1 (newList [] >>= λl=>again (.builtin "list.__iadd__" ⟨[l,.ref r],[]⟩)) _ _ s;refine Zyi (Zy4 (Zym ⟨ZAv ZAO _,ZzA entry_list_iadd' ?_⟩));rw[Zzu ZAO _];have hS₁:(s.heap.push { cls:=.type "list",data:=.seq ([]:List Value).toArray }).get? s.heap.objs.size=Z { cls:=.type "list",data:=.seq #[] }:=ZyC _ rfl;show wpAny _ A.in1 (ZCp (.ref s.heap.objs.size) (.ref r) (.ref s.heap.objs.size)) _ _ _;refine Zzw (kdl_extend (A:=A) (s:={ s with heap:=s.heap.push { cls:=.type "list",data:=.seq ([]:List Value).toArray } })
  (R:=λ(q:Result) (s':Shared)=>∃(h':Heap) (tk:Nat) (acc':Array Value) (c':Nat),q=.ok (.ret (.ref s.heap.objs.size))/\s'={ s with heap:=h',toks:=tk } /\
   (∀b o,s.heap.get? b=Z o->h'.get? b=Z o)/\h'.get? s.heap.objs.size=Z { cls:=.type "list",dict:=Z_,data:=.seq acc' c',slots:=#[] }/\ItemsOf P acc' n)
  K hh (K.keep _ _ hok λb _ o e=>Zyn _ e) s.heap.objs.size (ZA0 hlt.1) (ZA0 hlt.2) (.ref s.heap.objs.size) 0 hS₁
  (λh' tk acc' c' hk hS' hacc=>⟨h',tk,acc',c',rfl,rfl,λb o e=>hk b o (ZyG (ZyB e)) (Zyn _ e),hS',hacc⟩) hn) (λfin s' x=>?_) λe s' x=>?_
 ·have go:∀(h':Heap) (tk:Nat) (acc':Array Value) (c':Nat),(∀b o,s.heap.get? b=Z o->h'.get? b=Z o)->h'.get? s.heap.objs.size=Z { cls:=.type "list",dict:=Z_,data:=.seq acc' c',slots:=#[] }->ItemsOf P acc' n ->
    wpAny (model prog w) A (load s.heap.objs.size >>= λo=>match o.data with | .seq xs _=>pure xs.toList | _=>unsupported "internal:collect") R E { s with heap:=h',toks:=tk }:=λh' tk acc' c' hk hS' hacc =>
   Zyi (wpAny_load hS' (Zym (h h' tk acc' hk (ZyB hS') hacc)))
  cases fin with
  | done f=>obtain⟨h',tk,acc',c',e,rfl,hk,hS',hacc⟩:=x;cases e;exact go h' tk acc' c' hk hS' hacc
  | again c₁=>refine⟨x.1,ZzU x.2 λq s₂ y=>?_⟩;obtain⟨h',tk,acc',c',rfl,rfl,hk,hS',hacc⟩:=y;exact go h' tk acc' c' hk hS' hacc
 ·obtain⟨_,_,_,_,e',_⟩:=x
  cases e'
end
inductive ZiP(K:Zyk)(F H:Hp)(p:Addr):List PyData->Prop where
 | lst {ds:List PyData} {vs:List V} (h:SqL K H p vs) (r:Zq K F ds vs):ZiP K F H p ds
 | tup {ds:List PyData} {vs:List V} (h:SqT K H p vs) (r:Zq K F ds vs):ZiP K F H p ds
 | dk {kvs:List (Key × V)} (h:H p=Z (.dK kvs)):ZiP K F H p (kvs.map λq=>HM.Zat q.1)
 | dt {kvs:List (List Key × V)} (h:H p=Z (.dT kvs)):ZiP K F H p (kvs.map λq=>.tuple (q.1.map HM.Zat))
theorem ZuX{K:Zyk}{F:Hp}(k:Key):Rep K F (HM.Zat k) (kV k):=by
 cases k with
 | inl i=>exact .int i
 | inr x=>exact .str x
theorem Zgp{K:Zyk}{F:Hp}:∀(ks:List Key),Zq K F (ks.map HM.Zat) (ks.map kV)
 | []=>.nil
 | k::ks=>.cons (ZuX k) (Zgp ks)
theorem ZuO{P:Program}{w:World}{k:Key}{u:Value}(h:(Zav P w).is k u=ZDC):RelV (kV k) u:=by
 rw[Zqu]at h;rcases ZaT h with⟨i,t,rfl,rfl⟩ | ⟨x,t,rfl,rfl⟩
 ·exact⟨t,rfl⟩
 ·exact⟨t,rfl⟩
section
variable{X:Cx}{pins:List (Addr × Obj)}{σ:L2.St}{H F:Hp}{s:Shared}{p:Addr}{ds:List PyData}
theorem Zfx:∀{vs:List V} {us:List Value},vs.length=us.length->(∀(i:Nat) v u,vs[i]?=Z v->us[i]?=Z u->RelV v u)->Vals vs us
 | [],[],_,_=>.nil
 | [],_::_,h,_=>by simp at h
 | _::_,[],h,_=>by simp at h
 | v::vs,u::us,h,k=>.cons (k 0 v u rfl rfl) (Zfx (by simpa using h) λi a b e1 e2=>k (i+1) a b (by simpa using e1) (by simpa using e2))
theorem ZiP.gath(I:Inv X pins σ H s)(sub:Zp F H)(h:ZiP X.K F H p ds):∃vs,Zq X.K (Zcr F H) ds vs/\∀(A:Around) (E:Value->Shared->Prop) (R:List Value->Shared->Prop),A.handled=Z_ ->
  (∀us h' tk,Vals vs us->(∀b o,s.heap.get? b=Z o->h'.get? b=Z o)->R us { s with heap:=h',toks:=tk })->wpAny (model X.prog X.w) A (collect (.ref p)) R E s:=by
 cases h with
 | @lst _ vs h r=>obtain⟨its,rv,pl,hz⟩:=I.list h;obtain⟨o,ho,hcl,n,hd⟩:=pl.isList;refine⟨vs,r.mono (Zdi sub),λA E R _ k=>ZCB p (.inl rfl) ho hcl hd (λh' kp=>?_) (by rw[Zyu,<-rv.length]; exact hz)⟩;exact k its h' s.toks rv kp
 | @tup _ vs h r=>obtain⟨its,rv,pl,hz⟩:=I.tuple h;obtain⟨o,ho,hcl,n,hd⟩:=pl;refine⟨vs,r.mono (Zdi sub),λA E R _ k=>ZCB p (.inr rfl) ho hcl hd (λh' kp=>?_) (by rw[Zyu,<-rv.length]; exact hz)⟩;exact k its h' s.toks rv kp
 | @dk kvs h =>
  obtain⟨z,lo,vs,rel,dd⟩:=Zqq I.hok h;obtain⟨ep,hat⟩:=dd.dictAt;have hl:kvs.length=vs.length:=ZAQ rel;refine⟨kvs.map λq=>kV q.1,?_,λA E R hh k=>ZgQ (kdl_dict (knd:=Zav X.prog X.w) (kvs:=vs) (ep:=ep) lo) hh hat (by omega) λh' tk acc kp hsz hacc=>k _ h' tk ?_ kp⟩
  ·have:=Zgp (K:=X.K) (F:=Zcr F H) (kvs.map (·.1))
   rw[ZyM,ZyM]at this;exact this
  ·refine Zfx (by have q:acc.toList.length=acc.size:=ZyL; rw[Zyj,q,hacc.1,hl]) λi v u e1 e2=>?_
   obtain⟨kk,x,q1,q2⟩:=hacc.2 i u (by rw[<-Zza]; exact e2);rw[ZyI]at e1;obtain⟨q,e3,e4⟩:=Zyl.mp e1;subst e4;have key:∀{l:List (Key × V)} {m:List (Key × Value)},KV l m->∀(i:Nat) a b,l[i]?=Z a->m[i]?=Z b->a.1=b.1:=by
    intro l m r
    induction r with
    | nil=>intro i a b e; simp at e
    | cons hq _ ih =>
     intro i a b e1 e2;cases i with
     | zero=>simp at e1 e2; subst e1; subst e2; exact hq.1
     | succ i=>exact ih i a b (by simpa using e1) (by simpa using e2)
   have ek:=key rel i q (kk,x) e3 q1;rw[ek];exact ZuO q2
 | @dt kvs h =>
  obtain⟨z,lo,xs,rel,o,es,ep,h1,h2,h3,h4,h5⟩:=(show ZW X.prog X.w H s.heap p (.dT kvs) from I.hok p _ h);have hl:kvs.length=xs.length:=ZAQ rel;have hes:es.size=xs.length:=by rw[<-ZyL,h4,Zyj]
  have hm:ZeF s.heap p es ep:=⟨o,h1,h2,h3⟩;refine⟨xs.map λq=>V.ref q.2.1,?_,λA E R hh k=>ZgQ (Zua (es:=es) (ep:=ep) lo) hh hm (by omega) λh' tk acc kp hsz hacc=>k _ h' tk ?_ kp⟩
  ·clear h4 hes hl z h h5
   induction rel with
   | nil=>exact .nil
   | @cons p0 _ _ _ hq _ ih=>obtain⟨q1,q2,_⟩:=hq;rw[Zyv,Zyv];refine .cons ?_ ih;have rk:=Zgp (K:=X.K) (F:=Zcr F H) p0.1;exact .tup (Zn0 q2) rk.1 rk.2
  ·refine Zfx (by have q:acc.toList.length=acc.size:=ZyL; rw[Zyj,q,hacc.1,hes]) λi v u e1 e2=>?_
   obtain⟨e,q1,q2⟩:=hacc.2 i u (by rw[<-Zza]; exact e2);subst q2;rw[ZyI]at e1;obtain⟨q,e3,e4⟩:=Zyl.mp e1;subst e4;rw[<-Zza,h4,ZyI,e3]at q1;cases q1;rfl
theorem ZbF{K:Zyk}{F:Hp}:∀{ds:List PyData} {vs:List V} {ns:List Int},HM.Zas ds=Z ns->Zq K F ds vs->vs=ns.map V.int
 | [],vs,ns,h,r=>by cases h;exact r.nil_inv
 | d::ds,vs,ns,h,r=>by
  obtain⟨v,us,rfl,r1,r2⟩:=r.cons_inv;cases d with
  | int b=>obtain⟨bs',h1,h2⟩:=Zyl.mp h;subst h2;rw[r1.int_inv,ZbF h1 r2];rfl
  | none=>cases h
  | bool _=>cases h
  | str _=>cases h
  | list _=>cases h
  | tuple _=>cases h
  | dict _=>cases h
theorem Zle:∀(t:List Int),HM.Zas (HM.ofInts t)=Z t
 | []=>rfl
 | x::t=>by show(HM.Zas (HM.ofInts t)).map (x::·)=_;rw[Zle t];rfl
theorem ZoD:∀{ds:List PyData} {ns:List Int},HM.Zas ds=Z ns->ds=HM.ofInts ns
 | [],ns,h=>by cases h; rfl
 | d::ds,ns,h=>by
  cases d with
  | int b=>obtain⟨bs',h1,h2⟩:=Zyl.mp h;subst h2;rw[ZoD h1];rfl
  | none=>cases h
  | bool _=>cases h
  | str _=>cases h
  | list _=>cases h
  | tuple _=>cases h
  | dict _=>cases h
theorem ZdV{K:Zyk}{F:Hp}:∀(ns:List Int),Zq K F (HM.ofInts ns) (ns.map V.int)
 | []=>.nil
 | n::ns=>.cons (.int n) (ZdV ns)
theorem Zcw:∀{ns:List Int} {us:List Value},Vals (ns.map V.int) us->IntsAre us ns
 | [],_,r=>by rw[ZA1]at r; cases r; exact .nil
 | n::ns,_,r=>by
  rw[Zyv]at r;cases r with
  | cons h t=>obtain⟨u,rfl⟩:=h; exact .cons n u (Zcw t)
theorem ZhA:∀{us:List Value} {ns:List Int},IntsAre us ns->Vals (ns.map V.int) us
 | _,_,.nil=>.nil
 | _,_,.cons n t h=>.cons ⟨t,rfl⟩ (ZhA h)
theorem Zj6:∀{ds:List PyData} {ts:List (List Int)},HM.Zgv ds=Z ts->ds=HM.ZaG ts
 | [],ts,h=>by cases h; rfl
 | d::ds,ts,h=>by
  cases d with
  | tuple es =>
   unfold HM.Zgv at h;split at h
   ·rename_i ns hn
    obtain⟨r',h1,h2⟩:=Zyl.mp h;subst h2;rw[ZoD hn,Zj6 h1];rfl
   ·cases h
  | none=>cases h
  | bool _=>cases h
  | int _=>cases h
  | str _=>cases h
  | list _=>cases h
  | dict _=>cases h
theorem ZoE{ns ms:List Int}(h:ms.Perm ns)(hs:ms.Pairwise (·<=·)):ms=HM.sortI ns:=by refine Zfo (R:=(·<=·)) (λa b h1 h2=>by omega) (h.trans (ZAk ns _).symm) hs ?_;have:=ZAP (le:=λa b:Int=>decide (a<=b)) (λa b c h1 h2=>by simp at *; omega) (λa b=>by simp; omega) ns;exact this.imp λh=>by simpa using h
theorem Ztf{ts us:List (List Int)}(h:us.Perm ts)(hs:us.Pairwise (λx y=>HM.lexLt y x=ZDD)):us=HM.ZeY ts:=by
 refine Zfo (R:=λx y=>HM.lexLt y x=ZDD) (λa b h1 h2=>Zgs a b h2 h1) (h.trans (ZAk ts _).symm) hs ?_;have:=ZAP (le:=λa b:List Int=>!HM.lexLt b a) (λa b c h1 h2=>by
  simp only[ZCC]at *;cases q:HM.lexLt c a with
  | false=>rfl
  | true =>
   rcases Zjn c b a q with z | z
   ·rw[h2]at z; cases z
   ·rw[h1]at z; cases z) (λa b=>by
  cases q:HM.lexLt b a with
  | false=>simp
  | true =>
   cases q2:HM.lexLt a b with
   | false=>simp
   | true=>have:=lex_trans _ _ _ q q2; rw[lex_irrefl]at this; cases this) ts
 exact this.imp λh=>by simpa using h
theorem ZjF{vs:List Value}{out:Array Value}{b:Addr}{o:Obj}(hb:b≠a)(e:h.get? b=Z o):(sortedHeap h a vs out).get? b=Z o:=by rw[sortedHeap_old hb (ZyB e)]; exact e
theorem Zn1(hc:X.calm=ZDC):ZaE X (.builtin "sorted") (λxs H Q=>∃p F ds ds',xs=[.ref p]/\Zp F H/\ZiP X.K F H p ds/\HM.ZeW ds=Z ds'/\∀l ws,H l=Z_->Zq X.K (Zcr F H) ds' ws->Q (.ref l) (upd H l (.lst ws))):=by
 intro pins s σ H xs us Q I r h;obtain⟨p,F,ds,ds',rfl,sub,hsrc,hsort,q⟩:=h;obtain⟨u,rfl,rx⟩:=vals1 r;cases rx;obtain⟨vs,rv,go⟩:=hsrc.gath I sub;unfold HM.ZeW at hsort;split at hsort
 ·rename_i h64
  have hvl:=rv.1;refine ZCH kind_sorted plain_sorted entry_sorted (args_sorted1 _) ?_;unfold Builtin.«sorted»;refine Zyi (m:=checkCount "sorted" 1 1 _) (Zym ?_);refine Zyi (go _ _ _ (I.ok.hd hc) λus h' tk ru kp=>?_);have hul:=ru.length;refine Zyi (ZBG ?_ (by rw[Zze]; omega));have hoL:(h'.push (seqObj "list" us.toArray 0)).get? h'.objs.size=Z (seqObj "list" us.toArray 0):=ZyC _ rfl;have fin:∀(out:Array Value) (ws:List V),Vals ws out.toList->Zq X.K (Zcr F H) ds' ws->ws.length<64->EP X pins σ Q (.ref h'.objs.size) { s with heap:=sortedHeap (h'.push (seqObj "list" us.toArray 0)) h'.objs.size us out,toks:=tk }:=λout ws rw' rd hw=>by obtain⟨e,he⟩:=sortedHeap_at (out:=out) hoL;have I1:Inv X pins σ H { s with heap:=h',toks:=tk }:=I.kept kp;refine⟨.ref h'.objs.size,_,I1.laid (a:=h'.objs.size) (o:=.lst ws) (t':=tk) (λb o e1=>?_) (Zyr _) ⟨by rw[Zze]; omega,out.toList,e,rw',by simpa using he⟩,rfl,q _ ws (I1.hok.fresh (Zyr _)) rd⟩;exact ZjF (ZyG (ZyB e1)) (Zyn _ e1)
  show wpAny _ _ _ _ _ { s with heap:=h'.push (seqObj "list" us.toArray 0),toks:=tk };split at hsort
  ·rename_i ns hns
   cases hsort;have evs:=ZbF hns rv;rw[evs]at ru;have hI:=Zcw ru;refine Zyi (Zzp (Zzv ZCh ⟨_,hoL,rfl⟩ ZBZ (list_sort_tree hoL hI (by omega) λout ns' a1 a2 a3=>⟨_,rfl,?_⟩) (args_list_sort _)));refine Zym ⟨_,rfl,?_⟩;have e:=ZoE a2 a3;have hl:ns'.length<64:=by rw[a2.length_eq,<-hI.length,<-hul]; omega
   refine fin out (ns'.map V.int) (ZhA a1) ?_ (by rw[Zyj]; exact hl);rw[<-e];exact ZdV ns'
  ·split at hsort
   ·rename_i ts hts
    split at hsort
    ·rename_i hne
     cases hsort;have eds:=Zj6 hts;have hT:∀(i:Nat) t,ts[i]?=Z t->∃b,us[i]?=Z (.ref b)/\TI (h'.push (seqObj "list" us.toArray 0)) b t:=λi t e=>by
      have ed:ds[i]?=Z (.tuple (HM.ofInts t)):=by rw[eds]; unfold HM.ZaG; rw[ZyI,e]; rfl
      obtain⟨v,hv,rp⟩:=rv.get ed;generalize hq:HM.ofInts t=q at rp;cases rp with
      | @tupk b x h1 =>
       exfalso;cases t with
       | nil=>cases hq
       | cons a t =>
        injection hq with e1 _
        cases e1
      | @tup b _ xs hb hl hr=>subst hq;obtain⟨u,hu,ru'⟩:=ru.get hv;cases ru';have ev:=ZbF (F:=Zcr F H) (Zle t) ⟨hl,hr⟩;subst ev;have hH:H b=Z (.tup (t.map V.int)):=(Ext.refl sub).tups.sub _ _ hb;obtain⟨z,its,rt,o,h1,h2,n,h3⟩:=(show ZW X.prog X.w H s.heap b (.tup (t.map V.int)) from I.hok b _ hH);exact⟨b,hu,o,its.toArray,n,Zyn _ (kp b o h1),h2,h3,by simpa using Zcw rt⟩
     have hlt:ts.length=us.length:=by have:=congrArg Zy8 eds;unfold HM.ZaG at this;rw[Zyj]at this;omega
     refine Zyi (Zzp (Zzv ZCh ⟨_,hoL,rfl⟩ ZBZ (ZsH hoL hlt hT ?_ (by omega) λpm hp hs=>⟨_,rfl,?_⟩) (args_list_sort _)))
     ·rw[ZzQ]at hne
      rcases hne with z | z
      ·left
       have:=of_decide_eq_true z;omega
      ·right
       intro t ht e;have:=Zys.mp z t ht;rw[e]at this;cases this
     ·refine Zym ⟨_,rfl,?_⟩
      have hpl:pm.length=us.length:=by rw[hp.length_eq,ZzZ]
      have hmem:∀i∈pm,i<us.length:=λi hi=>ZyJ.mp (hp.mem_iff.mp hi);have e:(pm.map λi=>ts.getD i [])=HM.ZeY ts:=by
       refine Ztf ?_ hs;refine(hp.map _).trans ?_;have:(Zyp us.length).map (λi=>ts.getD i [])=ts:=by refine List.ext_getElem (by simp[hlt]) λi h1 h2=>?_;simp at h1;simp[Zzs,show i<ts.length by omega]
       rw[this]
      refine fin _ (pm.map λi=>vs.getD i V.non) ?_ ?_ (by rw[Zyj]; omega)
      ·refine Zfx (by simp) λk v u e1 e2=>?_
       rw[ZyI]at e1;rw[List.toList_toArray,ZyI]at e2;obtain⟨i,hi,rfl⟩:=Zyl.mp e1;rw[hi]at e2;cases e2;have hlt':=hmem i (ZyQ hi);have hv:vs[i]?=Z (vs.getD i V.non):=by simp[Zzs,show i<vs.length by omega]
       obtain⟨u,hu,ru'⟩:=ru.get hv;have:us.getD i ZyU=u:=by simp[Zzs,hu]
       show RelV _ (us.getD i ZyU);rw[this];exact ru'
      ·rw[<-e]
       refine⟨by unfold HM.ZaG; simp,λk d v e1 e2=>?_⟩;unfold HM.ZaG at e1;rw[ZyI,ZyI]at e1;rw[ZyI]at e2;obtain⟨i,hi,rfl⟩:=Zyl.mp e2;rw[hi]at e1;have hlt':=hmem i (ZyQ hi);have hd:ds[i]?=Z d:=by
        rw[eds]; unfold HM.ZaG;rw[ZyI];have:ts[i]?=Z (ts.getD i []):=by simp[Zzs,show i<ts.length by omega]
        rw[this];exact e1
       have hv:vs[i]?=Z (vs.getD i V.non):=by simp[Zzs,show i<vs.length by omega]
       exact rv.2 i d _ hd hv
    ·cases hsort
   ·cases hsort
 ·cases hsort
end
end HP
namespace HP
open PySem PySem.Spec PySem.W PySem.Calls PyProof.Rows L2
variable{F:Hp}{p' pos':Pos}{K:Zyk}
variable[FX]
section
variable{prog:Program}{w:World}{A:Around}{E:Value->Shared->Prop}{s:Shared}
theorem Zmy{r:Addr}{a b c:Int}{t u v:Tok}{n:Nat}{R:List Value->Shared->Prop}(hh:A.handled=Z_)(hr:IsRange s.heap r a b c t u v)(hsmall:ZDt a b c=ZDC)(hn:ZAK a b c=n)(hlen:n<=2 ^ 24)
  (h:∀(h':Heap) (tk:Nat) (acc:Array Value),(∀b o,s.heap.get? b=Z o->h'.get? b=Z o)->ItemsOf (λi v=>∃t,v=.int (a+i*c) t) acc n->R acc.toList { s with heap:=h',toks:=tk }) :
  wpAny (model prog w) A (collect (.ref r)) R E s:=by
 unfold collect;refine Zyi (ZCd (ZzA entry_proto_collect' ?_));rw[Zzu ZCo _];show wpAny _ A.in1 (newList [] >>= λl=>again (.builtin "list.__iadd__" ⟨[l,.ref r],[]⟩)) _ _ s;refine Zyi (Zy4 (Zym ⟨ZAv ZAO _,ZzA entry_list_iadd' ?_⟩));rw[Zzu ZAO _];have hS₁:(s.heap.push { cls:=.type "list",data:=.seq ([]:List Value).toArray }).get? s.heap.objs.size=Z { cls:=.type "list",data:=.seq #[] }:=ZyC _ rfl;show wpAny _ A.in1 (ZCp (.ref s.heap.objs.size) (.ref r) (.ref s.heap.objs.size)) _ _ _;have hr1:IsRange (s.heap.push { cls:=.type "list",data:=.seq ([]:List Value).toArray }) r a b c t u v:=Zyn _ hr;refine Zzw (wpAny_extend_range (A:=A) (s:={ s with heap:=s.heap.push { cls:=.type "list",data:=.seq ([]:List Value).toArray } })
  (R:=λ(q:Result) (s':Shared)=>∃(h':Heap) (tk:Nat) (acc':Array Value) (c':Nat),q=.ok (.ret (.ref s.heap.objs.size))/\s'={ s with heap:=h',toks:=tk } /\
   (∀b o,s.heap.get? b=Z o->h'.get? b=Z o)/\h'.get? s.heap.objs.size=Z { cls:=.type "list",dict:=Z_,data:=.seq acc' c',slots:=#[] }/\ItemsOf (λi v=>∃t,v=.int (a+i*c) t) acc' n)
  hh hr1 hsmall hn hlen s.heap.objs.size (.ref s.heap.objs.size) 0 hS₁
  (λh' tk acc' c' hk hS' hacc=>⟨h',tk,acc',c',rfl,rfl,λb o e=>hk b o (ZyG (ZyB e)) (Zyn _ e),hS',hacc⟩)) (λfin s' x=>?_) λe s' x=>?_
 ·have go:∀(h':Heap) (tk:Nat) (acc':Array Value) (c':Nat),(∀b o,s.heap.get? b=Z o->h'.get? b=Z o)->h'.get? s.heap.objs.size=Z { cls:=.type "list",dict:=Z_,data:=.seq acc' c',slots:=#[] }->ItemsOf (λi v=>∃t,v=.int (a+i*c) t) acc' n ->
    wpAny (model prog w) A (load s.heap.objs.size >>= λo=>match o.data with | .seq xs _=>pure xs.toList | _=>unsupported "internal:collect") R E { s with heap:=h',toks:=tk }:=λh' tk acc' c' hk hS' hacc =>
   Zyi (wpAny_load hS' (Zym (h h' tk acc' hk hacc)))
  cases fin with
  | done f=>obtain⟨h',tk,acc',c',e,rfl,hk,hS',hacc⟩:=x;cases e;exact go h' tk acc' c' hk hS' hacc
  | again c₁=>refine⟨x.1,ZzU x.2 λq s₂ y=>?_⟩;obtain⟨h',tk,acc',c',rfl,rfl,hk,hS',hacc⟩:=y;exact go h' tk acc' c' hk hS' hacc
 ·obtain⟨_,_,_,_,e',_⟩:=x
  cases e'
end
theorem Zjr(r:Addr)(a b c:Int)(t u v:Tok)(n:Nat)(hsmall:ZDt a b c=ZDC)(hn:ZAK a b c=n)(hlen:n<=2 ^ 24) :
  Meets (Builtin.«tuple.__new__» ⟨[.type "tuple",.ref r],[]⟩)
   (λA R s=>A.handled=Z_/\IsRange s.heap r a b c t u v/\∀(h':Heap) (tk:Nat) (acc:Array Value),(∀b o',s.heap.get? b=Z o'->h'.get? b=Z o')->ItemsOf (λi v=>∃t,v=.int (a+i*c) t) acc n ->
    R (.ok (.ret (.ref h'.objs.size))) { s with heap:=h'.push { cls:=.type "tuple",data:=.seq acc },toks:=tk }) :=
 .of_wp λprog w A R s h=>by
  obtain⟨hp,g,d,tk,os⟩:=s; obtain⟨hh,ht,h⟩:=h;have hsub:=PySem.sub_tuple_self;have hinit:=PySem.init_tuple_lookup;have hmh:=PySem.madeHere_tuple;have hT:ZDo ⟨hp,g,d,tk,os⟩ (.ref r) "range":=⟨_,ht,rfl⟩;have hh1:A.in1.handled=Z_:=hh
  wp_walk using wpAny_typeOf hT,Zmy hh1 ht hsmall hn hlen
  intro h' tk' acc hk hacc;show wpAny _ _ (ZzV acc.toList.toArray >>= λv=>ret v) _ _ _;unfold ZzV;have e:acc.toList.toArray=acc:=by simp
  rw[e];refine Zyi (Zy4 ?_ (by show acc.size<=sizeLine; rw[hacc.1,Zze]; omega));exact Zym ⟨_,rfl,h h' tk' acc hk hacc⟩
section
variable{X:Cx}{a b c e:Expr}{fa fb fc:HM.EF}{pos p:Pos}{f:HM.BF}
theorem ZnW:ZaE X (.type "range") (λxs H Q=>∃j,xs=[.int j]/\∀l,H l=Z_->Q (.ref l) (upd H l (.rng 0 j))):=by intro pins s σ H xs us Q I r h;obtain⟨j,rfl,q⟩:=h;obtain⟨u,rfl,rx⟩:=vals1 r;obtain⟨t,rfl⟩:=rx;refine call_range_1 ⟨.ref s.heap.objs.size,_,I.laid (a:=s.heap.objs.size) (o:=.rng 0 j) (λb o e=>Zyn _ e) (Zyr _) ?_,rfl,q _ (I.hok.fresh (Zyr _))⟩;exact⟨_,_,_,ZyC _ rfl⟩
theorem Zpu(hc:X.calm=ZDC):ZaE X (.type "tuple") (λxs H Q=>∃p lo hi,xs=[.ref p]/\H p=Z (.rng lo hi)/\-1000000<lo/\lo<1000000/\-1000000<hi/\hi<1000000 /\
  ∀l,H l=Z_->Q (.ref l) (upd H l (.tup ((Zyp (hi-lo).toNat).map λ(k:Nat)=>V.int (lo+k))))):=by
 intro pins s σ H xs us Q I r h;obtain⟨p,lo,hi,rfl,hp,h1,h2,h3,h4,q⟩:=h;obtain⟨u,rfl,rx⟩:=vals1 r;cases rx;obtain⟨t,u,v,ho⟩:=(show ZW X.prog X.w H s.heap p (.rng lo hi) from I.hok p _ hp);have hn:ZAK lo hi 1=((hi-lo).toNat:Nat):=by rw[rangeSize_one]; split<;>omega
 refine callType_new PySem.F.called_tuple (by decide) (PySem.F.typeCall_tuple_1 _) (PySem.F.newCall_tuple_1 _) (λobj=>PySem.F.args_object_init_2 obj _) PySem.F.entry_tuple_new
  (Zjr p lo hi 1 t u v (hi-lo).toNat (small_one (by omega) (by omega) (by omega) (by omega)) hn (by omega)) ⟨I.ok.hd hc,ho,λh' tk' acc kp hacc=>⟨⟨_,ZyC _ rfl,rfl⟩,?_⟩⟩
 have I1:Inv X pins σ H { s with heap:=h',toks:=tk' }:=I.kept kp;have rv:Vals ((Zyp (hi-lo).toNat).map λ(k:Nat)=>V.int (lo+k)) acc.toList:=by
  refine Zfx (by have z:acc.toList.length=acc.size:=ZyL; rw[Zyj,ZzZ,z,hacc.1]) λi v u e1 e2=>?_;rw[ZyI]at e1;obtain⟨k,hk,rfl⟩:=Zyl.mp e1;obtain⟨t,rfl⟩:=hacc.2 i u (by rw[<-Zza]; exact e2);have:k=i:=by have:=Zyw.mp hk;obtain⟨_,e⟩:=this;simpa using e.symm
  subst this;exact⟨t,by simp⟩
 have I2:=I1.laid (a:=h'.objs.size) (o:=.tup ((Zyp (hi-lo).toNat).map λ(k:Nat)=>V.int (lo+k))) (h':=h'.push { cls:=.type "tuple",data:=.seq acc }) (t':=tk') (λb o e=>Zyn _ e) (Zyr _)
  ⟨by rw[Zyj,ZzZ,Zze]; omega,acc.toList,rv,by simpa using ZDy _ _⟩
 exact⟨.ref h'.objs.size,_,I2,rfl,q _ (I1.hok.fresh (Zyr _))⟩
theorem Zpq(lo:Int)(n:Nat):Zq K F (HM.ZcK lo n) ((Zyp n).map λ(k:Nat)=>V.int (lo+k)):=by unfold HM.ZcK;refine⟨by simp,λi d v e1 e2=>?_⟩;rw[ZyI]at e1 e2;obtain⟨k,hk,rfl⟩:=Zyl.mp e1;rw[hk]at e2;cases e2;exact .int _
theorem Zgx(hmt:X.mg "tuple" = Z_)(hm:X.mg "range" = Z_)(hc:X.calm=ZDC)(ha:XE X a fa)(hgt:Gl X "tuple":=by rfl)(hg:Gl X "range":=by rfl)(hs:Zyz [a] X.env=[(ZDD,eval a X.env)]:=by rfl)
  (hs2:Zyz [ZCq (.Name "range" p') [a] [] pos'] X.env=[(ZDD,eval (ZCq (.Name "range" p') [a] [] pos') X.env)]:=by rfl) :
  XE X (.Call (.Name "tuple" p) [.Call (.Name "range" p') [a] [] pos'] [] pos) (HM.ZeE (HM.ZbV fa)):=by
 intro r d hd;unfold HM.ZeE at hd;split at hd
 ·rename_i ds hds
  split at hd
  ·cases hd
   unfold HM.ZbV at hds;split at hds
   ·rename_i j hj
    split at hds
    ·rename_i hok
     cases hds;obtain⟨k1,k2⟩:=Zpz hok;refine PE.imp (Zcv (Zpu hc) hgt hmt ZjS (Zaf (Zcv ZnW hg hm boot_range (Zaf (ha r _ hj) Zbt hs) (he:=hs)) Zbt hs2) (he:=hs2)) λσ H Q ⟨F0,H0,F,at_,k⟩=>?_;refine⟨F0,H0,F,at_,λv F1 H1 x1 r1=>⟨j,by rw[r1.int_inv],λl hl=>?_⟩⟩;refine⟨l,0,j,rfl,Zx,by omega,by omega,by omega,by omega,λl2 hl2=>?_⟩;have x2:=x1.lay' (o:=.rng 0 j) hl;have x3:=x2.lay (o:=.tup ((Zyp (j-0).toNat).map λ(k:Nat)=>V.int (0+k))) hl2;have rp:=Zpq (K:=X.K) (F:=upd F1 l2 (.tup ((Zyp (j-0).toNat).map λ(k:Nat)=>V.int (0+k)))) 0 j.toNat;have ej:(j-0).toNat=j.toNat:=by omega
     refine k _ _ _ x3 (.tup Zx ?_ ?_)
     ·rw[ej]; exact rp.1
     ·rw[ej]at rp ⊢; exact rp.2
    ·cases hds
   ·cases hds
  ·cases hd
 ·cases hd
theorem ZrE{H:Hp}{q:HM.B}{v:V}{fp:List Addr}{ds:List PyData}(sub:Zp F H)(r:Z9 K F H q v fp)(h:HM.ZtQ q=Z ds):∃a,v=.ref a/\ZiP K F H a ds:=by
 cases r with
 | pl r =>
  cases r with
  | tup h1 h2 h3=>cases h; exact⟨_,rfl,.tup (.of (sub _ _ h1)) ⟨h2,h3⟩⟩
  | @tupk a x h1=>cases h; exact⟨_,rfl,.tup (.inr h1) (.one (.str x))⟩
  | lst h1 h2 h3=>cases h; exact⟨_,rfl,.lst (sub.seq h1) ⟨h2,h3⟩⟩
  | dct _ _ _ _=>cases h
  | fn _=>cases h
  | non=>cases h
  | bl _=>cases h
  | int _=>cases h
  | str _=>cases h
 | ol h1 r=>cases h; exact⟨_,rfl,.lst (.of h1) r⟩
 | hd _ _ _ _=>cases h
 | hf _=>cases h
 | @ok a kvs vvs h1 h2 h3 =>
  cases h;refine⟨_,rfl,?_⟩;have e:(kvs.map λp=>HM.Zat p.1)=vvs.map λp=>HM.Zat p.1:=by
   have:=congrArg (ZCa HM.Zat) h2
   rwa [ZyM,ZyM]at this
  rw[e];exact .dk h1
 | @ot a kvs vvs h1 h2 h3 =>
  cases h;refine⟨_,rfl,?_⟩;have e:(kvs.map λp=>Zzh (p.1.map HM.Zat))=vvs.map λp=>Zzh (p.1.map HM.Zat):=by
   have:=congrArg (ZCa λk:List Key=>Zzh (k.map HM.Zat)) h2
   rwa [ZyM,ZyM]at this
  rw[e];exact .dt h1
 | @otl a kvs vvs ls h1 h2 h3 h4 =>
  cases h;refine⟨_,rfl,?_⟩;have e:(kvs.map λp=>Zzh (p.1.map HM.Zat))=vvs.map λp=>Zzh (p.1.map HM.Zat):=by
   have:=congrArg (ZCa λk:List Key=>Zzh (k.map HM.Zat)) h2
   rwa [ZyM,ZyM]at this
  rw[e];exact .dt h1
theorem Zif(hm:X.mg "sorted" = Z_)(hc:X.calm=ZDC)(ha:XB X a f)(hg:Gl X "sorted":=by rfl)(hs:Zyz [a] X.env=[(ZDD,eval a X.env)]:=by rfl):XF X (.Call (.Name "sorted" p) [a] [] pos) (HM.Zg5 f):=by
 intro r d h;unfold HM.Zg5 at h;split at h
 ·rename_i x hx
  split at h
  ·rename_i ds hds
   obtain⟨ds',h1,h2⟩:=Zyl.mp h;subst h2;refine PE.imp (Zcb (Zn1 hc) hg hm Zgw (Zdr ha hx hs) (he:=hs)) λσ H Q ⟨F0,H0,F,at_,k⟩=>?_;refine⟨F0,H0,F,at_,λv fp F1 H1 x1 r1=>?_⟩;obtain⟨l,e1,src⟩:=ZrE x1.sub r1 hds;subst e1;exact⟨l,F1,ds,ds',rfl,x1.sub,src,h1,λl' ws hl' rs=>ZcC (P:=λv _ H'=>Q v H') x1.tups rs hl' k⟩
  ·cases h
 ·cases h
theorem Zr2(hc:X.calm=ZDC):ZaE X (.type "set") (λxs H Q=>∃p ns,xs=[.ref p]/\SqL X.K H p (ns.map V.int)/\(∀n∈ns,0<=n/\n<8)/\∀l,H l=Z_->Q (.ref l) (upd H l (.ext λh=>Zb8 X.prog X.w h l (HM.dedup [] ns)))):=by intro pins s σ H xs us Q I r h;obtain⟨p,ns,rfl,hq,hb,q⟩:=h;obtain⟨u,rfl,rx⟩:=vals1 r;cases rx;obtain⟨its,rv,pl,hz⟩:=I.list hq;refine ZrW (I.ok.hd hc) pl.isList (by simpa using Zcw rv) hb λh' tk hS kp=>?_;have hS':=hS;obtain⟨o,es,ep,t,ho,_⟩:=hS';refine⟨.ref s.heap.objs.size,_,I.laid (a:=s.heap.objs.size) (o:=.ext λh=>Zb8 X.prog X.w h s.heap.objs.size (HM.dedup [] ns)) (λb o e=>kp b o (ZyB e) e) (Zyr _) ?_,rfl,q _ (I.hok.fresh (Zyr _))⟩;exact⟨hS,⟨o,ho⟩,λh1 h2 x kk=>x.at' kk⟩
theorem Zix(hc:X.calm=ZDC):ZaE X (.builtin "sorted") (λxs H Q=>∃p L,xs=[.ref p]/\H p=Z (.ext λh=>Zb8 X.prog X.w h p L)/\∀l,H l=Z_->Q (.ref l) (upd H l (.lst ((HM.sortI L).map V.int)))):=by
 intro pins s σ H xs us Q I r h;obtain⟨p,L,rfl,hp,q⟩:=h;obtain⟨u,rfl,rx⟩:=vals1 r;cases rx;obtain⟨hX,_,_⟩:=(show ZW X.prog X.w H s.heap p (.ext λh=>Zb8 X.prog X.w h p L) from I.hok p _ hp);obtain⟨o,es,ep,t,ho,hex,hd,hen,hpm,hpl,ht⟩:=hX;have hsz:=size_of hpl;have hfew:=ht.few;have raw:Zep X.w s.heap p es ep t:=⟨⟨o,ho,hex,hd⟩,by rw[hsz]; exact ht.fits,hsz,ht⟩;refine ZCH kind_sorted plain_sorted entry_sorted (args_sorted1 _) ?_;unfold Builtin.«sorted»;refine Zyi (m:=checkCount "sorted" 1 1 _) (Zym ?_);refine Zyi (ZgQ (Zuy (es:=es) (ep:=ep) (t:=t)) (I.ok.hd hc) raw (by rw[Zze]; omega) λh' tk acc kp _ hacc=>?_);have hal:acc.toList.length=es.size:=by rw[ZyL]; exact hacc.1
 have hI:IntsAre acc.toList ((ZdE X.w p es ep).toList.map Zeo):=by
  have key:∀(us:List Value) (xs:List (Int × Value)),us.length=xs.length->(∀(i:Nat) u,us[i]?=Z u->∃e,xs[i]?=Z e/\u=e.2)->(∀e∈xs,∃n t,e=((intKind X.prog X.w).hash n,Zz0 n t))->IntsAre us (xs.map Zeo):=by
   intro us
   induction us with
   | nil=>intro xs hl _ _; cases xs with | nil=>exact .nil | cons _ _=>simp at hl
   | cons u us ih =>
    intro xs hl hk he;cases xs with
    | nil=>simp at hl
    | cons x xs=>obtain⟨e,e1,e2⟩:=hk 0 u rfl;simp at e1;subst e1;obtain⟨n,t,e3⟩:=he x (Zyo ..);rw[e2,e3];exact .cons n t (ih xs (by simpa using hl) (λi u e=>hk (i+1) u (by simpa using e)) λe h=>he e (Zyq _ h))
  refine key acc.toList (ZdE X.w p es ep).toList (by rw[hal,ZyL,ZiD]) (λi u e=>?_) λe h=>hen e ((ZiC X.w p es ep).mem_iff.mp h);obtain⟨e',e1,e2⟩:=hacc.2 i u (by rw[<-Zza]; exact e);exact⟨e',by rw[Zza]; exact e1,e2⟩
 refine Zyi (ZBG ?_ (by rw[hal,Zze]; omega));have hoL:(h'.push (seqObj "list" acc.toList.toArray 0)).get? h'.objs.size=Z (seqObj "list" acc.toList.toArray 0):=ZyC _ rfl;show wpAny _ _ _ _ _ { s with heap:=h'.push (seqObj "list" acc.toList.toArray 0),toks:=tk };refine Zyi (Zzp (Zzv ZCh ⟨_,hoL,rfl⟩ ZBZ (list_sort_tree hoL hI (by omega) λout ns' a1 a2 a3=>⟨_,rfl,?_⟩) (args_list_sort _)));refine Zym ⟨_,rfl,?_⟩;have e:ns'=HM.sortI L:=ZoE (a2.trans (((ZiC X.w p es ep).map Zeo).trans hpm)) a3;have hl:ns'.length<64:=by rw[a2.length_eq,<-hI.length,hal]; omega
 obtain⟨ee,he⟩:=sortedHeap_at (out:=out) hoL;have I1:Inv X pins σ H { s with heap:=h',toks:=tk }:=I.kept kp;refine⟨.ref h'.objs.size,_,I1.laid (a:=h'.objs.size) (o:=.lst (ns'.map V.int)) (t':=tk) (λb o e1=>?_) (Zyr _) ⟨by rw[Zyj,Zze]; omega,out.toList,ee,ZhA a1,by simpa using he⟩,rfl,?_⟩
 ·exact ZjF (ZyG (ZyB e1)) (Zyn _ e1)
 ·rw[e]; exact q _ (I1.hok.fresh (Zyr _))
theorem ZmT(hm:X.mg "sorted" = Z_)(hm2:X.mg "set" = Z_)(hc:X.calm=ZDC)(ha:XB X a f)(hg:Gl X "sorted":=by rfl)(hg2:Gl X "set":=by rfl)(hs:Zyz [a] X.env=[(ZDD,eval a X.env)]:=by rfl)
  (hs2:Zyz [ZCq (.Name "set" p') [a] [] pos'] X.env=[(ZDD,eval (ZCq (.Name "set" p') [a] [] pos') X.env)]:=by rfl) :
  XF X (.Call (.Name "sorted" p) [.Call (.Name "set" p') [a] [] pos'] [] pos) (HM.ZhB f):=by
 intro r d h;unfold HM.ZhB at h;split at h
 ·rename_i x hx
  split at h
  ·rename_i ds hds
   split at h
   ·rename_i ns hns
    split at h
    ·rename_i hlow
     cases h;refine PE.imp (Zcb (Zix hc) hg hm Zgw (Zaf (Zcv (Zr2 hc) hg2 hm2 Zrq (Zdr ha hx hs) (he:=hs)) Zbt hs2) (he:=hs2)) λσ H Q ⟨F0,H0,F,at_,k⟩=>?_;refine⟨F0,H0,F,at_,λv fp F1 H1 x1 r1=>?_⟩;obtain⟨l,vs,e1,hq,rs⟩:=ZcE x1.sub r1 hds;subst e1;rw[ZbF hns rs]at hq;refine⟨l,ns,rfl,hq,λn hn=>?_,λl2 hl2=>⟨l2,_,rfl,Zx,λl3 hl3=>?_⟩⟩
     ·have:=Zys.mp hlow n hn
      rw[ZyE,decide_eq_true_eq,decide_eq_true_eq]at this;exact this
     ·have x2:=x1.lay' (o:=.ext λh=>Zb8 X.prog X.w h l2 (HM.dedup [] ns)) hl2
      exact ZcC (P:=λv _ H'=>Q v H') x2 (ZdV _) hl3 k
    ·cases h
   ·cases h
  ·cases h
 ·cases h
end
end HP
namespace HP
open PySem PySem.Spec PyProof.Rows L2
variable{neg:Bool}{q:HM.B}{r:HM.Env}{i:Int}{ns:List Int}{ds:List PyData}
variable[FX]
section
variable{X:Cx}{a b:Expr}{fa:HM.EF}{f:HM.BF}{pos:Pos}
theorem ZjU(i:Int):∀ns:List Int,inV (.int i) (ns.map V.int)=ns.contains i
 | []=>rfl
 | n::ns=>by have ih:=ZjU i ns;unfold inV at ih ⊢;rw[Zyv,ZAR,ih,List.contains_cons];show(n==i||_)=(i==n||_);rw[show(n==i)=(i==n) from ZCY.mpr ⟨λh=>beq_iff_eq.mpr (beq_iff_eq.mp h).symm,λh=>beq_iff_eq.mpr (beq_iff_eq.mp h).symm⟩]
theorem Zi0:∀ns:List Int,(ns.map V.int).all Zbv=ZDC
 | []=>rfl
 | n::ns=>by rw[Zyv,ZzD,Zi0 ns]; rfl
theorem ZsK{d:PyData}(h:HM.ZjW fa f r=Z d):∃i q ds ns,fa r=Z (.int i)/\f r=Z q/\HM.ZdI q=Z ds/\HM.Zas ds=Z ns/\d=.bool (ns.contains i):=by
 unfold HM.ZjW at h;split at h
 ·split at h
  ·split at h
   ·obtain⟨c,h1,h2⟩:=Zyl.mp h
    obtain⟨ns,h3,h4⟩:=Zyl.mp h1;exact⟨_,_,_,ns,by assumption,by assumption,by assumption,h3,by rw[<-h2,<-h4]⟩
   ·cases h
  ·cases h
 ·cases h
theorem Zpo{d:PyData}(h:HM.ZeN fa f r=Z d):∃i q ds ns,fa r=Z (.int i)/\f r=Z q/\HM.ZdI q=Z ds/\HM.Zas ds=Z ns/\d=.bool (!ns.contains i):=by
 unfold HM.ZeN at h;split at h
 ·split at h
  ·split at h
   ·obtain⟨c,h1,h2⟩:=Zyl.mp h
    obtain⟨ns,h3,h4⟩:=Zyl.mp h1;exact⟨_,_,_,ns,by assumption,by assumption,by assumption,h3,by rw[<-h2,<-h4]⟩
   ·cases h
  ·cases h
 ·cases h
theorem Ztn(ha:XE X a fa)(hb:XB X b f)(h1:fa r=Z (.int i))(h2:f r=Z q)(h3:HM.ZdI q=Z ds)(h4:HM.Zas ds=Z ns){op:CmpOp}(ho:OpR X (ZzC op) (rIn X.K neg))(hm:ZzX op b=ZDD) :
  PE X (.Compare a [op] [b] pos) (tAt X.K r λ_ F' _ v=>v=.bl (if neg then !ns.contains i else ns.contains i)):=by
 refine PE.imp (ZpD ho (ha r _ h1) (hb r q h2) hm) λσ H Q ⟨F0,H0,F,at_,k⟩=>?_;refine⟨F0,H0,F,at_,λv F1 H1 x1 r1=>⟨F0,H0,F1,at_.grow x1,λw F2 H2 x2 ⟨fp,r2⟩=>?_⟩⟩;obtain⟨p,vs,e1,hq,rs⟩:=Zhx x2.sub r2 h3;cases r1;rw[ZbF h4 rs]at hq;refine⟨p,_,e1,hq,rfl,Zi0 ns,k _ F2 H2 (x1.trans x2) ?_⟩;rw[ZjU]
theorem Zte(ha:XE X a fa)(hb:XB X b f)(h1:fa r=Z (.int i))(h2:f r=Z q)(h3:HM.ZdI q=Z ds)(h4:HM.Zas ds=Z ns){op:CmpOp}(ho:OpR X (ZzC op) (rIn X.K neg))(hm:ZzX op b=ZDD) :
  PT X (.Compare a [op] [b] pos) λσ H Q=>Now X.K r σ H λF0 H0 F=>∀F' H',Ext F H F' H'->Q (if neg then !ns.contains i else ns.contains i) H':=by
 refine PT.imp (ZpX ho (ha r _ h1) (hb r q h2) hm) λσ H Q ⟨F0,H0,F,at_,k⟩=>?_;refine⟨F0,H0,F,at_,λv F1 H1 x1 r1=>⟨F0,H0,F1,at_.grow x1,λw F2 H2 x2 ⟨fp,r2⟩=>?_⟩⟩;obtain⟨p,vs,e1,hq,rs⟩:=Zhx x2.sub r2 h3;cases r1;rw[ZbF h4 rs]at hq;refine⟨p,_,e1,hq,rfl,Zi0 ns,_,rfl,?_⟩;rw[ZjU];exact k F2 H2 (x1.trans x2)
theorem Zrd(ha:XE X a fa)(hb:XB X b f)(hm:ZzX .In b=ZDD:=by rfl):XE X (.Compare a [.In] [b] pos) (HM.ZjW fa f):=by intro r d h;obtain⟨i,q,ds,ns,h1,h2,h3,h4,rfl⟩:=ZsK h;refine PE.imp (Ztn ha hb h1 h2 h3 h4 Zsd hm) λσ H Q ⟨F0,H0,F,at_,k⟩=>⟨F0,H0,F,at_,λv F' H' x e=>k v F' H' x ?_⟩;subst e;exact .bl _
theorem Zre(ha:XE X a fa)(hb:XB X b f)(hm:ZzX .NotIn b=ZDD:=by rfl):XT X (.Compare a [.NotIn] [b] pos) (HM.tV (HM.ZeN fa f)):=by intro r d h;obtain⟨i,q,ds,ns,h1,h2,h3,h4,e⟩:=Zpo (ZiT h);cases e;exact Zte ha hb h1 h2 h3 h4 Znt hm
end
end HP
namespace HP
open PySem PySem.Spec PyProof.Rows L2
variable[FX]
section
variable{X:Cx}{c e:Expr}{fa:HM.EF}{t:HM.TF}{g:HM.SF}{pos:Pos}{body:List Stmt}
theorem ZmU(n:Nat)(hxe:X.xe=λ_ _=>False)(hc:XT X c t)(hb:XSs X body g):XS X (.While c body [] pos) (HM.ZnC n t g):=by
 intro r o ho;have ho:HM.Zbw t g n r=Z o:=ho;have pb:PSs X body (λE σ H=>∃r o,g r=Z o/\tSt X.K r o E σ H):=λpins s σ H E I ⟨r,o,h1,h2⟩=>hb r o h1 pins s σ H E I h2;have pc:PT X c (λσ H Q=>∃r b,t r=Z b/\Now X.K r σ H λF0 H0 F=>∀F' H',Ext F H F' H'->Q b H'):=λpins s σ H Q I ⟨r,b,h1,h2⟩=>hc r b h1 pins s σ H Q I h2;refine PS.imp (ZtK (ZlY hxe) pc pb) λE σ H ⟨F0,H0,F,at_,k⟩=>?_;refine⟨λm σ H=>∃F r,At X.K F0 H0 F H r σ/\HM.Zbw t g m r=Z o,⟨n,F,r,at_,ho⟩,?_⟩
 rintro m σ H ⟨F2,r2,at2,go⟩
 cases m with
 | zero=>cases go
 | succ m =>
  unfold HM.Zbw at go;split at go
  ·rename_i ht
   refine⟨r2,ZDC,ht,F0,H0,F2,at2,λF' H' x=>?_⟩;dsimp only;rw[if_pos rfl];have at3:=at2.grow x;have a4:=at3.rebase;refine⟨λσ' H'=>∃F r,At X.K F0 H0 F H' r σ'/\HM.Zbw t g m r=Z o,λσ' H' q=>⟨m,ZAn m,q⟩,?_⟩;split at go
   ·rename_i r' hr
    exact⟨_,_,hr,F',H0,F',a4,λσ' F' H' a'=>⟨F',r',a'.unbase at3.ext at3.nt0,go⟩⟩
   ·rename_i r' hr
    exact⟨_,_,hr,F',H0,F',a4,λσ' F' H' a'=>⟨F',r',a'.unbase at3.ext at3.nt0,go⟩⟩
   ·rename_i r' hr
    cases go;exact⟨_,_,hr,F',H0,F',a4,λσ' F' H' a'=>k σ' F' H' (a'.unbase at3.ext at3.nt0)⟩
   ·rename_i d hr
    cases go;exact⟨_,_,hr,F',H0,F',a4,λv F' H' x q=>k v F' H' (at3.ext.unbase x) q⟩
   ·cases go
  ·rename_i ht
   cases go;refine⟨r2,ZDD,ht,F0,H0,F2,at2,λF' H' x=>?_⟩;dsimp only;rw[if_neg (by simp)];exact k σ F' H' (at2.grow x)
  ·cases go
end
end HP
namespace HP
open PySem PySem.Spec PyProof.Rows L2
variable[FX]
section
variable{X:Cx}{a b:Expr}{fa:HM.EF}{f:HM.BF}{pos:Pos}
open Classical in
end
end HP
namespace HP
open PySem PySem.Spec PyProof.Rows L2
variable{q:HM.B}{r:HM.Env}{F H:Hp}{fp:List Addr}{K:Zyk}
variable[FX]
section
variable{X:Cx}{a b c e:Expr}{fa fb fc:HM.EF}{f:HM.BF}{pos p:Pos}{es:List Expr}
theorem rdT{F':Hp}{a:Addr}{vvs:List (List Key × V)}(r:Rd F a (.dT vvs))(s:Zab F F'):Rd F' a (.dT vvs):=r.imp (λh=>s _ _ h) λ⟨o,h⟩=>⟨o,s _ _ h⟩
theorem Zqw{a b:Addr}{kvs:List (List Key × V)}{k:List Key}(e:Rd H a (.dT kvs))(eb:H b=Z (.tup (k.map kV))):ZdH H a (.ref b) (Zay kvs k):=.inr ⟨kvs,k,b,e,rfl,eb,rfl⟩
theorem Zj7{v:V}{kvs:List (List Key × PyData)}(sub:Zp F H)(r:Z9 K F H q v fp)(h:HM.Zlk q=Z kvs):∃l vvs,v=.ref l/\Rd H l (.dT vvs)/\ZaH K F kvs vvs:=by
 cases r with
 | pl r =>
  cases r with
  | @dct l es kvs' vvs h1 h2 h3 h4=>subst h2;have h:HM.Zfg (HM.Zm kvs')=Z kvs:=h;rw[HM.dec_enc]at h;cases h;refine⟨l,vvs,rfl,Zji h1 sub,h3,?_,h4⟩;have:=congrArg Zy8 h3;rw[Zyj,Zyj]at this;rw[Zyj,Zyj,this]
  | fn _=>cases h
  | tupk _=>cases h
  | tup _ _ _=>cases h
  | lst _ _ _=>cases h
  | non=>cases h
  | bl _=>cases h
  | int _=>cases h
  | str _=>cases h
 | ol _ _=>cases h
 | ok _ _ _=>cases h
 | @ot l kvs vvs h1 h2 h3=>cases h; exact⟨l,vvs,rfl,.inl h1,h2,h3⟩
 | @hd l o es kvs' vvs h1 h2 h3 h4=>subst h2;have h:HM.Zfg (HM.Zm kvs')=Z kvs:=h;rw[HM.dec_enc]at h;cases h;exact⟨l,vvs,rfl,.inr ⟨o,sub _ _ h1⟩,h3,h4⟩
 | hf _=>cases h
 | otl _ _ _ _=>cases h
theorem Ztr{d:PyData}(h:HM.Zoc fa f r=Z d):∃x q kvs y,fa r=Z x/\f r=Z q/\HM.Zlk q=Z kvs/\HM.ZbR x=Z y/\d=.bool (HM.Zn kvs y).isSome:=by
 unfold HM.Zoc at h;split at h
 ·split at h
  ·split at h
   ·obtain⟨y,h1,h2⟩:=Zyl.mp h
    exact⟨_,_,_,y,by assumption,by assumption,by assumption,h1,h2.symm⟩
   ·cases h
  ·cases h
 ·cases h
theorem Zpk{d:PyData}(h:HM.ZdU fa f r=Z d):∃x q kvs y,fa r=Z x/\f r=Z q/\HM.Zlk q=Z kvs/\HM.ZbR x=Z y/\d=.bool (!(HM.Zn kvs y).isSome):=by
 unfold HM.ZdU at h;split at h
 ·split at h
  ·split at h
   ·obtain⟨y,h1,h2⟩:=Zyl.mp h
    exact⟨_,_,_,y,by assumption,by assumption,by assumption,h1,h2.symm⟩
   ·cases h
  ·cases h
 ·cases h
theorem Zve(hu:X.A.units+1<cLine)(ha:XE X a fa)(hb:XB X b f)(hm:ZzX .In b=ZDD:=by rfl):XT X (.Compare a [.In] [b] pos) (HM.tV (HM.Zoc fa f)):=by intro r d h;obtain⟨x,q,kvs,y,h1,h2,h3,h4,e⟩:=Ztr (ZiT h);cases e;refine PT.imp (Zrk (Zwt hu (ha r x h1) (hb r q h2)) hm) λσ H Q ⟨F0,H0,F,at_,k⟩=>?_;refine⟨F0,H0,F,at_,λv F1 H1 x1 r1=>⟨F0,H0,F1,at_.grow x1,λw F2 H2 x2 ⟨fp,r2⟩=>?_⟩⟩;obtain⟨l,vvs,e1,e2,T⟩:=Zj7 x2.sub r2 h3;obtain⟨bb,rfl,hbb⟩:=ZdL h4 (r1.mono x2.ff);exact⟨l,_,e1,Zqw e2 (x2.sub _ _ hbb),_,rfl,by rw[T.some_iff]; exact k F2 H2 (x1.trans x2)⟩
theorem ZlE(hu:X.A.units+1<cLine)(ha:XE X a fa)(hb:XB X b f)(hm:ZzX .NotIn b=ZDD:=by rfl):XT X (.Compare a [.NotIn] [b] pos) (HM.tV (HM.ZdU fa f)):=by intro r d h;obtain⟨x,q,kvs,y,h1,h2,h3,h4,e⟩:=Zpk (ZiT h);cases e;refine PT.imp (Zrk (ZrQ hu (ha r x h1) (hb r q h2)) hm) λσ H Q ⟨F0,H0,F,at_,k⟩=>?_;refine⟨F0,H0,F,at_,λv F1 H1 x1 r1=>⟨F0,H0,F1,at_.grow x1,λw F2 H2 x2 ⟨fp,r2⟩=>?_⟩⟩;obtain⟨l,vvs,e1,e2,T⟩:=Zj7 x2.sub r2 h3;obtain⟨bb,rfl,hbb⟩:=ZdL h4 (r1.mono x2.ff);exact⟨l,_,e1,Zqw e2 (x2.sub _ _ hbb),_,rfl,by rw[T.some_iff]; exact k F2 H2 (x1.trans x2)⟩
theorem ZgZ(hu:X.A.units+1<cLine)(ha:XB X a f)(hk:XE X b fb)(hs:Zqy b:=by intro _ _; rfl):XE X (.Subscript a b pos) (HM.Zbf f fb):=by
 intro r d h;unfold HM.Zbf at h;split at h
 ·rename_i q hq
  split at h
  ·rename_i kvs hd
   split at h
   ·rename_i x hx
    split at h
    ·rename_i y hy
     refine PE.imp (ZpH hu (ha r q hq) (hk r x hx) hs) λσ H Q ⟨F0,H0,F,at_,kk⟩=>?_;refine⟨F0,H0,F,at_,λv F1 H1 x1 ⟨fp,r1⟩=>⟨F0,H0,F1,at_.grow x1,λw F2 H2 x2 r2=>?_⟩⟩;obtain⟨l,vvs,e1,e2,T⟩:=Zj7 x1.sub r1 hd;have e2':=rdT e2 x2.hh;have T':ZaH X.K F2 kvs vvs:=⟨T.1,T.2.mono x2.ff⟩;obtain⟨bb,rfl,hbb⟩:=ZdL hy r2;obtain⟨u,q1,q2⟩:=T'.look.1 d h;exact⟨l,u,e1,by rw[<-q1]; exact Zqw e2' (x2.sub _ _ hbb),kk u F2 H2 (x1.trans x2) q2⟩
    ·cases h
   ·cases h
  ·cases h
 ·cases h
structure XAL(X:Cx)(es:List Expr)(f:HM.AF):Prop where
 len:∀r ds,f r=Z ds->ds.length=es.length
 pa:∀r ds,f r=Z ds->PA X es λσ H Q=>Now X.K r σ H λF0 H0 F=>∀vs F' H',Ext F H F' H'->Zq X.K H' ds vs->Q vs H'
theorem Z9.lent{v:V}{d:PyData}(sub:Zp F H)(r:Z9 K F H q v fp)(h:HM.frz q=Z d):Rep K H d v:=by
 cases r with
 | pl r=>cases h; exact r.mono sub
 | ol h1 r=>cases h; exact .lst (.of h1) r.1 (r.mono sub).2
 | ok _ _ _=>cases h
 | hd h1 he hk r=>cases h; exact(Rep.dct (.inr ⟨_,h1⟩) he hk r.2).mono sub
 | hf h1=>cases h; exact(Rep.fn h1).mono sub
 | ot h1 hk r=>cases h; exact .dct (.inl h1) rfl hk (r.mono sub).2
 | otl _ _ _ _=>cases h
end
end HP
namespace HP
open PySem PySem.Spec PyProof.Rows L2
variable{g:HM.AF}{F:Hp}
variable[FX]
section
variable{X:Cx}{a b c e:Expr}{fa fb fc:HM.EF}{f:HM.BF}{pos p:Pos}{es:List Expr}
theorem Zvf(h:XA X es g):XAL X es g :=
 ⟨h.len,λr ds hd=>PA.imp (h.pa r ds hd) λσ H Q ⟨F0,H0,F,at_,k⟩=>⟨F0,H0,F,at_,λvs F' H' x q=>k vs F' H' x (q.mono x.sub)⟩⟩
theorem ZmV(ha:XE X e fa)(hr:XAL X es g)(hs:Zyz (e::es) X.env=(ZDD,eval e X.env)::Zyz es X.env:=by rfl):XAL X (e::es) (HM.Za fa g):=by
 refine⟨λr ds h=>?_,λr ds h=>?_⟩
 ·unfold HM.Za at h
  split at h
  ·obtain⟨xs,h1,h2⟩:=Zyl.mp h
   subst h2;rw[ZyD,ZyD,hr.len r xs h1]
  ·cases h
 unfold HM.Za at h;split at h
 ·rename_i x hx
  obtain⟨xs,h1,h2⟩:=Zyl.mp h;subst h2;refine PA.imp (Zaf (ha r x hx) (hr.pa r xs h1) hs) λσ H Q ⟨F0,H0,F,at_,k⟩=>?_;exact⟨F0,H0,F,at_,λv F1 H1 x1 r1=>⟨F0,H0,F1,at_.grow x1,λvs F2 H2 x2 r2=>k (v::vs) F2 H2 (x1.trans x2) (.cons ((r1.mono x2.ff).mono x2.sub) r2)⟩⟩
 ·cases h
theorem ZsE(ha:XB X e f)(hr:XAL X es g)(hs:Zyz (e::es) X.env=(ZDD,eval e X.env)::Zyz es X.env:=by rfl):XAL X (e::es) (HM.Za (HM.Zq2 f) g):=by
 refine⟨λr ds h=>?_,λr ds h=>?_⟩
 ·unfold HM.Za at h
  split at h
  ·obtain⟨xs,h1,h2⟩:=Zyl.mp h
   subst h2;rw[ZyD,ZyD,hr.len r xs h1]
  ·cases h
 unfold HM.Za at h;split at h
 ·rename_i x hx
  obtain⟨xs,h1,h2⟩:=Zyl.mp h;subst h2;obtain⟨q,hq,hf⟩:=ZBr.mp hx;refine PA.imp (Zaf (ha r q hq) (hr.pa r xs h1) hs) λσ H Q ⟨F0,H0,F,at_,k⟩=>?_;exact⟨F0,H0,F,at_,λv F1 H1 x1 ⟨fp,r1⟩=>⟨F0,H0,F1,at_.grow x1,λvs F2 H2 x2 r2=>k (v::vs) F2 H2 (x1.trans x2) (.cons ((r1.lent x1.sub hf).monoT x2.hh) r2)⟩⟩
 ·cases h
theorem Rep.flat{K:Zyk}{F':Hp}{d:PyData}{v:V}(r:Rep K F d v)(h:HM.Zks d=ZDC):Rep K F' d v:=by
 cases r with
 | non=>exact .non
 | bl b=>exact .bl b
 | int i=>exact .int i
 | str x=>exact .str x
 | tupk _=>cases h
 | tup _ _ _=>cases h
 | lst _ _ _=>cases h
 | dct _ _ _ _=>cases h
 | fn _=>cases h
theorem Ext.forget{H F'' H'':Hp}(s:Zp F H)(n:NoT F)(x:Ext (ZcD H) H F'' H''):Ext F H F H'' :=
 ⟨Zp.refl F,x.hh,(n.sub s).trans (x.ff.trans x.sub),λ_ _ z=>.inl z,x.tab,id⟩
theorem ZrN(hc:X.calm=ZDC):ZaE X (.builtin "max") (λxs H Q=>∃(p:Addr) (ns:List Int),xs=[.ref p]/\SqL X.K H p (ns.map V.int)/\0<ns.length/\∀M,M∈ns->(∀a,a∈ns->a<=M)->Q (.int M) H):=by
 intro pins s σ H xs us Q I r h;obtain⟨p,ns,rfl,hq,hne,q⟩:=h;obtain⟨u,rfl,rx⟩:=vals1 r;cases rx;obtain⟨its,rv,pl,hz⟩:=I.list hq;have hi:=Zcw rv;obtain⟨xs,e⟩:=hi.allInts.items;have hns:ns=xs.toList.map (·.1):=by rw[<-hi.numsOf,<-nums_intItems,<-e]
 have hsz:0<xs.size:=by have h3:=hne; rw[hns,Zyj,ZyL]at h3; exact h3
 have hl:=pl.isList;rw[e]at hl;refine max_intList (I.ok.hd hc) hl hsz λv h' tk hv hk=>?_;obtain⟨t,rfl⟩:=intItems_at hv;obtain⟨h1,h2⟩:=argBest_gt (numAt xs) (xs.size-1);refine⟨.int _,H,I.kept (t':=tk) hk,⟨t,rfl⟩,q _ ?_ λa ha=>?_⟩
 ·rw[hns,numAt_eq]; exact getD_mem (by rw[Zyj,ZyL]; omega)
 ·rw[hns]at ha
  obtain⟨j,hj,rfl⟩:=mem_getD ha;rw[Zyj,ZyL]at hj;rw[<-numAt_eq]; exact h2 j (by omega)
theorem Zt3(hm:X.mg "max" = Z_)(hc:X.calm=ZDC)(ha:XB X a f)(hg:Gl X "max":=by rfl)(hs:Zyz [a] X.env=[(ZDD,eval a X.env)]:=by rfl):XE X (.Call (.Name "max" p) [a] [] pos) (HM.ZkE f):=by
 intro r d h;unfold HM.ZkE at h;split at h
 ·rename_i x hx
  split at h
  ·rename_i ds hds
   split at h
   ·rename_i ns hns
    obtain⟨m,h1,h2⟩:=Zyl.mp h;subst h2;refine PE.imp (Zcb (ZrN hc) hg hm ZrS (Zdr ha hx hs) (he:=hs)) λσ H Q ⟨F0,H0,F,at_,k⟩=>?_;refine⟨F0,H0,F,at_,λv fp F1 H1 x1 r1=>?_⟩;obtain⟨l,vs,e1,hq,rs⟩:=ZcE x1.sub r1 hds;rw[ZbF hns rs]at hq;obtain⟨m1,m2⟩:=ZDe.mp h1;refine⟨l,ns,by rw[e1],hq,List.length_pos_of_mem m1,λM k1 k2=>?_⟩;have:M=m:=Int.le_antisymm (m2 M k1) (k2 m m1);subst this;exact k _ F1 H1 x1 (.int _)
   ·cases h
  ·cases h
 ·cases h
end
end HP
namespace HP
open PySem PySem.Spec PyProof.Rows L2
variable[FX]
end HP
namespace HP
open PySem PySem.Spec PyProof.Rows L2
variable{p1 p2 p3:Pos}{x:Str}
variable[FX]
section
variable{X:Cx}{a b c e:Expr}{fa fb fc:HM.EF}{f:HM.BF}{pos p:Pos}{es:List Expr}
theorem Zrf(i:Nat)(ha:XB X a f)(hN:X.N[i]?=Z x:=by rfl)(hv:Vis X.env.scope x:=by first | exact Zzq rfl | exact ZyX (Zzq rfl) | exact ZyX (ZyX rfl))(hd:(x==("__debug__":Str))=ZDD:=by decide)(hcd:(x==("__classdict__":Str))=ZDD:=by decide)
  (hbase:ZAS (.Name x p1) "extend" X.env (eval (.Name x p1) X.env)=eval (.Name x p1) X.env:=by rfl)
  (hfew:((backTo p3 (Zyz [a] X.env)).all (λx=>!x.1)&&(backToKw p3 (ZCi [] X.env)).all (λx=>x.1.isSome)&&decide (([a]:List Expr).length+([]:List Keyword).length+(if([]:List Keyword).isEmpty then 0 else 1)<30))=ZDC:=by rfl)
  (hline:(p2.endLine==p3.line)=ZDC:=by rfl) (hs:Zyz [a] X.env=[(ZDD,eval a X.env)]:=by rfl):XS X (.Expr (.Call (.Attribute (.Name x p1) "extend" p2) [a] [] p3) pos) (HM.Zjd i f):=by
 intro r o h;unfold HM.Zjd at h;split at h
 ·rename_i ds hds
  split at h
  ·rename_i es hes
   split at h
   ·rename_i hz
    cases h;refine PS.imp (Zjc (ZqB ZAN PySem.F.slot_list_extend PySem.F.type_list_extend ZrV (Zco hN hv hd hcd) (Zaf (ha r _ hes) Zbt hs) hbase hfew hline hs rfl)) λE σ H ⟨F0,H0,F,at_,k⟩=>?_;obtain⟨l,vs,e1,e2,e3,_⟩:=at_.chgList (es:=ds) hds;refine⟨.ref l,e1,.inl ⟨rfl,_,SqL.of e2⟩,F0,H0,F,at_,λv F1 H1 x1 ⟨fp,r1⟩=>?_⟩;have at1:=at_.grow x1;obtain⟨l',vs',f1,f2,f3,f4⟩:=at1.chgList (es:=ds++es) hds;rw[e1]at f1;cases f1;cases r1 with
    | @ol b _ us hb rs =>
     refine⟨_,b,vs',us,rfl,rfl,f2,hb,?_,k _ F1 _ (f4 _ (f3.append rs))⟩;have e4:=f3.1;have e6:=rs.1;have e5:(1000000:Nat)<=sizeLine:=by decide
     unfold HM.big at hz;omega
   ·cases h
  ·cases h
 ·cases h
theorem Zvg(i j:Nat){y:Str}{p4:Pos}(hN:X.N.Nodup)(hNi:X.N[i]?=Z x:=by rfl)(hNj:X.N[j]?=Z y:=by rfl)(hx:Loc X.env.scope x:=by first | exact Zzq rfl | exact ZyX rfl)(hv:Vis X.env.scope y:=by first | exact Zzq rfl | exact ZyX (Zzq rfl) | exact ZyX (ZyX rfl))(hd:(y==("__debug__":Str))=ZDD:=by decide)(hcd:(y==("__classdict__":Str))=ZDD:=by decide)
  (hbase:ZAS (.Name y p1) "pop" X.env (eval (.Name y p1) X.env)=eval (.Name y p1) X.env:=by rfl) (hline:(p2.endLine==p3.line)=ZDC:=by rfl)
  (hs:ZAT (.Call (.Attribute (.Name y p1) "pop" p2) [] [] p3) (Z (.Name x p4)) pos.line X.env=pure ZDD:=by rfl) (hf:X.fn x=ZDC\/X.env.scope.names.lookup x=Z .local:=by first | exact .inl rfl | exact .inr rfl) :
  XS X (.Assign [.Name x p4] (.Call (.Attribute (.Name y p1) "pop" p2) [] [] p3) pos) (HM.ZsW i j):=by
 intro r o h;unfold HM.ZsW at h;split at h
 ·rename_i ds hds
  split at h
  ·rename_i d hd'
   cases h;refine PS.imp (Zn4 hN hNi hx (Zvv ZAN PySem.F.slot_list_pop PySem.F.type_list_pop ZvP (Zco hNj hv hd hcd) hbase hline) hs hf) λE σ H ⟨F0,H0,F,at_,k⟩=>?_;obtain⟨l,vs,e1,e2,e3,e4⟩:=at_.chgList (es:=ds.dropLast) hds;obtain⟨v,q1,q2⟩:=e3.get hd';refine⟨.ref l,e1,.inl ⟨rfl,_,SqL.of e2⟩,l,vs,v,rfl,rfl,e2,by rw[<-e3.1]; exact q1,k _ F _ ((e4 _ ?_).set q2)⟩;rw[ZDf,ZDf,<-e3.1];exact e3.take _
  ·cases h
 ·cases h
def spF(K:Zyk)(n:Nat)(M:List PyData->Option PyData):Sp:=λvs H Q _=>∃F ds ys,vs.length=n/\Zp F H/\Tb H/\NoT F/\Zq K F ds vs/\M ds=Z (.list ys)/\∀l us F' H',Ext F H F' H'->H' l=Z (.lst us)->Zq K F' ys us->F' l=Z_->H l=Z_->Q (.ref l) H'
structure ZdS(P:Program)(w:World)(K:Zyk)(mg:Str->Option Value)(base:Heap)(k:Nat)(x:Str)(M:List PyData->Option PyData):Prop where
 ex:∃f fd ps,(∀ds d,M ds=Z d->ds.length=ps.length)/\Zc8 P w K mg base CX0 k f fd ps (spF K ps.length M)/\mg x=Z (.ref f)/\ZzJ K (.ref f)=ZDC/\Binds K fd ps []
theorem ZdS.mono{P:Program}{w:World}{K:Zyk}{mg:Str->Option Value}{base:Heap}{j k:Nat}{x:Str}{M:List PyData->Option PyData}(C:ZdS P w K mg base j x M)(h:j<=k):ZdS P w K mg base k x M:=by obtain⟨f,fd,ps,l,F,r⟩:=C.ex;exact⟨f,fd,ps,l,F.mono h,r⟩
theorem ZsF{k:Nat}{g:HM.AF}{M:List PyData->Option PyData}(C:ZdS X.prog X.w X.K X.mg X.base k x M)(hr:ZV k X.A)(ha:XA X (e::es) g)(hg:Gl X x:=by rfl)(hdb:(x==("__debug__":Str))=ZDD:=by decide)
  (he:Zyz (e::es) X.env=(ZDD,eval e X.env)::Zyz es X.env:=by rfl) (hpl:(backTo pos (Zyz es X.env)).any (·.1)=ZDD:=by rfl):XF X (.Call (.Name x p) (e::es) [] pos) (HM.ZiW M g):=by
 intro r d hd;unfold HM.ZiW at hd;split at hd
 ·rename_i ds hds
  split at hd
  ·rename_i ys hM
   cases hd;obtain⟨fa,fd,ps,hl,F,hm,hk,hb⟩:=C.ex;refine PE.imp (Zk8 (E:=E0) F hr hg hm hk hb .nil Zra (ha.pa r ds hds) hdb he hpl) λσ H Q ⟨F0,H0,F1,at_,k⟩=>?_;refine⟨F0,H0,F1,at_,λvs F' H' x q=>?_⟩;show spF X.K ps.length M (vs++[]) H' Q E0;rw[Zy6];refine⟨F',ds,ys,by rw[<-q.1]; exact hl ds _ hM,x.sub,at_.tbx x,at_.ntx x,q,hM,λl us F2 H2 x2 h1 h2 h3 h4=>k _ F2 H2 (x.trans x2) ⟨[l],.ol h1 h2,by simp,λa ha=>?_⟩⟩;obtain rfl:a=l:=by simpa using ha
   exact⟨h3,x.hh.free h4⟩
  ·cases hd
 ·cases hd
theorem ZqN{P:Program}{w:World}{K:Zyk}{mg:Str->Option Value}{base:Heap}{k:Nat}{qual:Str}{st:Stmt}{f:Addr}{fd:FuncData}{N ps:List Str}{e:Expr}{g:HM.BF}(Fn:Fun K x qual st f fd)(S:Zs N ps (Ze st))(hm:mg x=Z (.ref f))(hb:Binds K fd ps [])
  (hst:Zaw st=[.Return (Z e) p1]) (hol:∀r b,g r=Z b->∃ys,b=.ol ys)
  (body:∀(cdv:Value) (A:Around) (outer:List Env) (s:Shared) (H:Hp) (E:XK),ZV k (A.deeper (envOfC qual (Ze st) s.heap.objs.size f cdv))->XF (Zfc CX0 P w K mg base N qual (Ze st) f cdv A outer s H E).nox e g) :
  ZdS P w K mg base (k+1) x (HM.fnOf ps.length N.length (HM.ZA (HM.eOf g))):=by
 have hpl:ps.length<=N.length:=by have:=congrArg Zy8 S.pre; rw[ZzH]at this; omega
 refine⟨f,fd,ps,λds d h=>?_,Fn.ok S (λvs H Q E h=>?_) (λcdv A outer s H vs Q E hr h=>?_),hm,Fn.kp,hb⟩
 ·unfold HM.fnOf at h
  split at h
  ·assumption
  ·cases h
 ·obtain⟨_,_,_,h,_⟩:=h
  exact h
 ·obtain⟨F,ds,ys,hl,sub,tb,nt,q,hM,kk⟩:=h
  unfold HM.fnOf at hM;split at hM
  ·rename_i hds
   have a0:=Zgb (N:=N) sub tb nt q (by omega);have hg:g (HM.Zet N.length ds)=Z (.ol ys):=by
    split at hM
    ·rename_i r hr'
     cases hq:HM.eOf g (HM.Zet N.length ds)with
     | none=>unfold HM.ZA at hr'; rw[hq]at hr'; cases hr'
     | some d=>unfold HM.ZA at hr'; rw[hq]at hr'; cases hr'
    ·rename_i d' hr'
     cases hM;obtain⟨d,h1,h2⟩:=Zyl.mp hr';cases h2;obtain⟨b,h3,h4⟩:=ZBr.mp h1;obtain⟨zs,rfl⟩:=hol _ _ h3;cases h4;exact h3
    ·cases hM
   rw[hst];refine⟨_,ZpI (Zow (body cdv A outer s H E hr _ _ hg)),F,H,F,a0,λv F' H' x ⟨fp,r1,nd,hn⟩=>?_⟩;cases r1 with
   | @ol l _ us h1 h2=>exact kk l us F' H' x h1 h2 (hn l (by simp)).1 (hn l (by simp)).2
  ·cases hM
theorem Zs0(i:HM.IF)(c:HM.TF)(e:HM.EF)(r:HM.Env)(b:HM.B)(h:HM.Zz i c e r=Z b):∃ys,b=.ol ys:=by
 unfold HM.Zz at h;split at h
 ·split at h
  ·obtain⟨ys,_,h2⟩:=Zyl.mp h
   exact⟨ys,h2.symm⟩
  ·cases h
 ·cases h
end
end HP
namespace HP
open PySem PySem.Spec PyProof.Rows L2
variable{tg:Expr}{b':HM.B}{K:Zyk}
variable[FX]
section
variable{K:Zyk}{F H F0 H0 G:Hp}{a b:Addr}{ob u:HO}{vvs:List (List Key × V)}{d:PyData}{v:V}{ds:List PyData}{vs:List V}{r:HM.Env}{σ:L2.St}{i:Nat}{es:List (PyData × PyData)}
theorem ZaS(h:b≠a):sw a ob G b=G b:=by unfold sw; rw[if_neg h]
theorem Zfq:sw a ob G a=(G a).map λ_=>ob:=by unfold sw; rw[if_pos rfl]
theorem Zp6(s:Zp F H):Zp (sw a ob F) (sw a ob H):=λb o z=>by
 by_cases hb:b=a
 ·subst hb
  rw[Zfq]at z ⊢;obtain⟨x,h1,h2⟩:=Zyl.mp z;rw[s _ _ h1,<-h2]; rfl
 ·rw[ZaS hb]at z ⊢; exact s b o z
theorem ZtU(hG:∀u,G a=Z u->u=.dT vvs):sw a (.dT vvs) (sw a ob G)=G:=by
 funext b
 by_cases hb:b=a
 ·subst hb
  rw[Zfq,Zfq];cases h:G b with
  | none=>rfl
  | some u=>rw[hG u h]; rfl
 ·rw[ZaS hb,ZaS hb]
theorem Dk.nt(h:Dk vvs u):(∀xs,u≠.tup xs)/\(∀xs,u≠.lst xs)/\(∀o xs,u≠.frz o (.lst xs))/\(∀ps,u≠.tbl ps)/\(∀x,u≠.own x):=by rcases h with h | ⟨o,h⟩<;>subst h<;>exact⟨λ_ z=>(by cases z),λ_ z=>(by cases z),λ_ _ z=>(by cases z),λ_ z=>(by cases z),λ_ z=>(by cases z)⟩
theorem Rep.sw(hF:∀u,F a=Z u->Dk vvs u)(hob:Dk vvs ob)(r:Rep K F d v):Rep K (HP.sw a ob F) d v:=by
 induction r with
 | non=>exact .non
 | bl b=>exact .bl b
 | int i=>exact .int i
 | str x=>exact .str x
 | fn h=>exact .fn (FX.sw hF hob h)
 | tupk h=>exact .tupk h
 | @tup b ds vs h hl _ ih=>exact .tup (by rw[ZaS (λz=>(hF _ (z▸h)).nt.1 _ rfl)]; exact h) hl ih
 | @lst b ds vs h hl _ ih =>
  refine .lst ?_ hl ih;rcases h with h | h
  ·refine .inl ?_
   have hb:b≠a:=λz=>by
    rcases h with h | ⟨o,h⟩
    ·exact(hF _ (z▸h)).nt.2.1 _ rfl
    ·exact(hF _ (z▸h)).nt.2.2.1 _ _ rfl
   unfold Rd;rw[ZaS hb];exact h
  ·exact .inr h
 | @dct b es kvs vvs' h he hk _ ih =>
  refine .dct ?_ he hk ih
  by_cases hb:b=a
  ·subst hb
   have:vvs'=vvs/\∃u,F b=Z u:=by
    rcases h with h | ⟨o,h⟩
    ·rcases hF _ h with z | ⟨o',z⟩
     ·cases z; exact⟨rfl,_,h⟩
     ·cases z
    ·rcases hF _ h with z | ⟨o',z⟩
     ·cases z
     ·cases z; exact⟨rfl,_,h⟩
   obtain⟨rfl,u,hu⟩:=this;unfold Rd;rw[Zfq,hu];rcases hob with z | ⟨o,z⟩
   ·subst z; exact .inl rfl
   ·subst z; exact .inr ⟨o,rfl⟩
  ·unfold Rd
   rw[ZaS hb];exact h
theorem Zq.sw(hF:∀u,F a=Z u->Dk vvs u)(hob:Dk vvs ob)(r:Zq K F ds vs):Zq K (HP.sw a ob F) ds vs:=⟨r.1,λi d v h1 h2=>(r.2 i d v h1 h2).sw hF hob⟩
theorem Ext.sw(x:Ext F0 H0 F H)(hH:∀u,H a=Z u->Dk vvs u)(hob:Dk vvs ob):Ext (HP.sw a ob F0) (HP.sw a ob H0) (HP.sw a ob F) (HP.sw a ob H) :=
 ⟨Zp6 x.ff,x.hh.sw,Zp6 x.sub,λb o z=>by
  by_cases hb:b=a
  ·subst hb
   rw[Zfq]at z;obtain⟨u,h1,h2⟩:=Zyl.mp z;rcases x.new b u h1 with q | q | ⟨xs,e,q⟩
   ·exact .inl (by rw[Zfq,q,<-h2]; rfl)
   ·exact .inr (.inl (by rw[Zfq,q]; rfl))
   ·exact absurd e ((hH _ (x.sub _ _ h1)).nt.1 xs)
  ·rw[ZaS hb]at z
   rcases x.new b o z with q | q
   ·exact .inl (by rw[ZaS hb]; exact q)
   ·refine .inr ?_
    unfold Fre;rw[ZaS hb];exact q,λt=>(x.tab (t.unsw hob)).sw hH,λt b o z=>by
  unfold HP.sw at z;split at z
  ·obtain⟨u,_,e⟩:=Zyl.mp z
   subst e; exact hob.ntt
  ·rename_i hb
   refine x.nts (λc u y=>?_) b o z
   by_cases hc:c=a
   ·subst hc; exact(hH _ (x.sub _ _ (x.ff _ _ y))).ntt
   ·exact t c u (by rw[ZaS hc]; exact y)⟩
theorem At.sw(e:At K F0 H0 F H r σ)(hFa:F a=Z u)(hu:Dk vvs u)(hob:Dk vvs ob)(nh:∀(i:Nat) (es:List (PyData × PyData)),r[i]?≠Z (Z (HM.B.hd es))):At K (HP.sw a ob F0) (HP.sw a ob H0) (HP.sw a ob F) (HP.sw a ob H) r σ:=by
 obtain⟨fp,e⟩:=e;have hF:∀u,F a=Z u->Dk vvs u:=λu' h=>by rw[hFa]at h; cases h; exact hu
 have hH:∀u,H a=Z u->Dk vvs u:=λu' h=>by rw[e.sub _ _ hFa]at h; cases h; exact hu
 have own:∀i,∀c∈fp i,c≠a:=λi c hc z=>by rw[<-z,(e.own i c hc).1]at hFa; cases hFa
 refine⟨fp,e.ext.sw hH hob,e.len,λi b h=>?_,e.emp,λi b h=>?_,e.nd,e.dis,e.tb.sw (vvs:=vvs) (λu' z=>by have q:=e.ext.hh.back z (e.sub _ _ hFa) hu.nt.2.2.2.1;rw[q]; exact hu),λb o z=>?_⟩
 rotate_left 2
 ·unfold HP.sw at z
  split at z
  ·obtain⟨u,_,e⟩:=Zyl.mp z
   subst e; exact hob.ntt
  ·exact e.nt b o z
 ·obtain⟨v,h1,h2⟩:=e.at_ i b h
  refine⟨v,h1,?_⟩;have own:=own i;generalize fp i=f at h2 own;cases h2 with
  | pl q=>exact .pl (q.sw hF hob)
  | ol k q=>exact .ol (by rw[ZaS (own _ (by simp))]; exact k) (q.sw hF hob)
  | ok k hk q=>exact .ok (by rw[ZaS (own _ (by simp))]; exact k) hk (q.sw hF hob)
  | ot k hk q=>exact .ot (by rw[ZaS (own _ (by simp))]; exact k) hk (q.sw hF hob)
  | otl k hk hv q=>refine .otl (by rw[ZaS (own _ (by simp))]; exact k) hk hv λi ds l h1 h2=>?_;obtain⟨vs,q1,q2⟩:=q i ds l h1 h2;exact⟨vs,by rw[ZaS (own l (Zyq _ (ZyQ h2)))]; exact q1,q2.sw hF hob⟩
  | hd _ _ _ _=>exact absurd h (nh _ _)
  | hf _=>exact absurd h (nh _ _)
 ·rw[ZaS (own i b h),ZaS (own i b h)]
  exact e.own i b h
theorem set_same{x:Option V}(h:σ[i]?=Z x):σ.set i x=σ:=by obtain⟨h1,h2⟩:=Zyw.mp h;rw[<-h2];exact ZA2 h1
theorem At.say(e:At K F0 H0 F H r σ)(h1:σ[i]?=Z (Z v))(q:Z9 K F H b' v []):At K F0 H0 F H (r.set i (Z b')) σ:=by
 have:=e.store (i:=i) q ZAa (λa h=>by simp at h) λ_ _ _ _ _ _ h=>by simp at h
 rwa [set_same h1]at this
theorem At.loosen(e:At K F0 H0 F H r σ)(h:r[i]?=Z (Z (.hd es))):At K F0 H0 F H (r.set i (Z (.pl (.dict es)))) σ:=by
 obtain⟨v,fp,h1,h2⟩:=e.any h;cases h2 with
 | hd k1 k2 k3 k4=>exact e.say h1 (.pl (.dct (.inr ⟨_,k1⟩) k2 k3 k4.2))
 | hf k1=>exact e.say h1 (.pl (.fn k1))
theorem ZtV(h:r.all (λq=>!HM.Zbd q)=ZDC)(i:Nat)(es:List (PyData × PyData)):r[i]?≠Z (Z (.hd es)):=λz=>by have:=Zys.mp h _ (ZyQ z);cases this
theorem Zso(h:(r.set i Z_).all (λq=>!HM.Zbd q)=ZDC)(hb:∀es,b'≠.hd es)(j:Nat)(es:List (PyData × PyData)):(r.set i (Z b'))[j]?≠Z (Z (.hd es)):=λz=>by
 by_cases hj:i=j
 ·subst hj
  by_cases hi:i<r.length
  ·rw[Zzd hi]at z
   injection z with z
   injection z with z
   exact hb _ z
  ·rw[ZC9 (by rw[Zzz]; omega)]at z
   cases z
 ·rw[ZyS hj]at z
  exact ZtV h j es (by rw[ZyS hj]; exact z)
end
section
variable{X:Cx}{pins:List (Addr × Obj)}{σ:L2.St}{H:Hp}{s:Shared}{a:Addr}{u ob:HO}{vvs:List (List Key × V)}
theorem ZmI{h:Heap}{o:HO}{b:Addr}(ha:H a=Z u)(hu:Dk vvs u)(x:ZW X.prog X.w H h b o):ZW X.prog X.w (sw a ob H) h b o :=
 x.stay (λ_ _ _ q=>q) (λc q=>by rw[ZaS (λz=>by rw[z,ha]at q; cases q; exact hu.nt.2.2.2.2 _ rfl)]; exact q) λc xs q=>by rw[ZaS (λz=>by rw[z,ha]at q; cases q; exact hu.nt.1 _ rfl)]; exact q
theorem ZnY(I:Inv X pins σ H s)(ha:H a=Z u)(hu:Dk vvs u)(ok:ZW X.prog X.w (sw a ob H) s.heap a ob)(hn:∀o w,X.H₀ a≠Z (.frz o w)):Inv X pins σ (HP.sw a ob H) s:=by
 have none':∀b,H b=Z_->HP.sw a ob H b=Z_:=λb h=>by rw[ZaS (λz=>by rw[z,ha]at h; cases h)]; exact h
 refine⟨I.ok,I.os,I.bare,⟨I.base.keep,I.base.slot,λb o h1 h2 h3=>none' b (I.base.free b o h1 h2 h3),I.base.there,λb xs h=>?_,λb o w h=>?_,λb ps h=>?_⟩,I.loc,I.cell,none' _ I.free,λx c h=>none' _ (I.freeC x c h),λp hp=>?_,λb o h=>?_,I.len⟩
 ·have q:=I.base.tups b xs h
  rw[ZaS (λz=>by rw[z,ha]at q; cases q; exact hu.nt.1 _ rfl)];exact q
 ·have q:=I.base.frzs b o w h
  rw[ZaS (λz=>hn o w (by rw[<-z]; exact h))];exact q
 ·obtain⟨m,q⟩:=I.base.tbls b ps h
  exact⟨m,by rw[ZaS (λz=>by rw[z,ha]at q; cases q; exact hu.nt.2.2.2.1 _ rfl)]; exact q⟩
 ·have q:=I.pin p hp
  exact⟨q.1,none' _ q.2.1,q.2.2⟩
 ·by_cases hb:b=a
  ·subst hb
   rw[Zfq,ha]at h;cases h;exact ok
  ·rw[ZaS hb]at h
   exact ZmI ha hu (I.hok b o h)
theorem Zi5(i:Nat){st:Stmt}{g:HM.SF}(h:XS X st g):XS X st (HM.ZeV i g):=by
 intro r o ho;unfold HM.ZeV at ho;split at ho
 case h_2=>exact h r o ho
 rename_i es hr;split at ho
 case isFalse=>cases ho
 rename_i hall;have nh:=ZtV hall;intro pins s σ H E I ⟨F0,H0,F,at_,k⟩;obtain⟨v,h1,h2⟩:=at_.plain hr;cases h2 with
 | @dct a _ kvs vvs hd he hk hrr =>
  have rs:∀{F':Hp},Zp F F'->Zq X.K F' (kvs.map (·.2)) (vvs.map (·.2)):=λs=>by refine Zq.mono ⟨?_,hrr⟩ s;have:=congrArg Zy8 hk;rw[Zyj,Zyj]at this ⊢;exact this
  rcases hd with hd | ⟨q,hd⟩
  ·have hHa:=at_.sub _ _ hd
   obtain⟨z,y,xs,rl,q,es1,ep,e1,c1⟩:=(show ZW X.prog X.w H s.heap a (.dT vvs) from I.hok a _ hHa);have hn:∀o w,X.H₀ a≠Z (.frz o w):=λo w z=>by have:=I.base.frzs _ _ _ z;rw[hHa]at this; cases this
   have I1:=ZnY (ob:=.frz q (.dT vvs)) I hHa (.inl rfl) ⟨e1,ZmI hHa (.inl rfl) ⟨z,y,xs,rl,q,es1,ep,e1,c1⟩⟩ hn;have at1:=at_.sw (ob:=.frz q (.dT vvs)) hd (.inl rfl) (.inr ⟨q,rfl⟩) nh;have Ra:HP.sw a (.frz q (.dT vvs)) F a=Z (.frz q (.dT vvs)):=by rw[Zfq,hd]; rfl
   have hFd:∀u,F a=Z u->Dk vvs u:=λu z=>by rw[hd]at z; cases z; exact .inl rfl
   have at2:=(at1.say (i:=i) h1 (.hd Ra he hk (Zq.sw hFd (.inr ⟨q,rfl⟩) (rs (Zp.refl F))))).rebase;have e0:HP.sw a (.dT vvs) (HP.sw a (.frz q (.dT vvs)) F0)=F0:=ZtU λu z=>by have:=at_.ext.ff _ _ z;rw[hd]at this; cases this; rfl
   have e1:HP.sw a (.dT vvs) (HP.sw a (.frz q (.dT vvs)) H0)=H0:=ZtU λu z=>by exact at_.ext.hh.back z hHa λ_ w=>by cases w
   split at ho
   ·rename_i r' hg
    split at ho
    case h_2=>cases ho
    rename_i es' hr';split at ho
    case isFalse=>cases ho
    rename_i hall';cases ho;refine thn (h _ _ hg pins s σ _ { nx:=λσ' H'=>∃F',At X.K (HP.sw a (.frz q (.dT vvs)) F) (HP.sw a (.frz q (.dT vvs)) H0) F' H' r' σ',rt:=λ_ _=>False,bk:=λ_ _=>False,ct:=λ_ _=>False } I1 ⟨_,_,_,at2,λσ' F' H' a'=>⟨F',a'⟩⟩) λfl s' z=>?_;cases fl with
    | next=>obtain⟨σ',H',I',F',a'⟩:=z;have Fa:=a'.ext.ff _ _ Ra;have Ha:=a'.sub _ _ Fa;have a3:=((At.unbase at1.ext (at1.nt0) a').loosen hr').sw (ob:=.dT vvs) Fa (.inr ⟨q,rfl⟩) (.inl rfl) (Zso hall' λ_ z=>by cases z);rw[e0,e1]at a3;exact⟨σ',_,ZnY I' Ha (.inr ⟨q,rfl⟩) (ZmI Ha (.inr ⟨q,rfl⟩) (Zkx I'.hok (.inr ⟨q,Ha⟩))) hn,k σ' _ _ a3⟩
    | brk=>obtain⟨_,_,_,z⟩:=z; exact z.elim
    | cont=>obtain⟨_,_,_,z⟩:=z; exact z.elim
    | ret u=>obtain⟨_,_,_,_,_,z⟩:=z; exact z.elim
   ·rename_i d hg
    cases ho;refine thn (h _ _ hg pins s σ _ { nx:=λ_ _=>False,bk:=λ_ _=>False,ct:=λ_ _=>False,rt:=λv' H'=>∃F',Ext (HP.sw a (.frz q (.dT vvs)) F) (HP.sw a (.frz q (.dT vvs)) H0) F' H'/\Rep X.K F' d v' } I1 ⟨_,_,_,at2,λv' F' H' x q=>⟨F',x,q⟩⟩) λfl s' z=>?_;cases fl with
    | ret u=>obtain⟨v',σ',H',I',rv,F',x',r'⟩:=z;have Fa:=x'.ff _ _ Ra;have Ha:=x'.sub _ _ Fa;have x3:=(Ext.unbase at1.ext x').sw (a:=a) (vvs:=vvs) (ob:=.dT vvs) (λu z=>by rw[Ha]at z; cases z; exact .inr ⟨q,rfl⟩) (.inl rfl);rw[e0,e1]at x3;exact⟨v',σ',_,ZnY I' Ha (.inr ⟨q,rfl⟩) (ZmI Ha (.inr ⟨q,rfl⟩) (Zkx I'.hok (.inr ⟨q,Ha⟩))) hn,rv,k v' _ _ x3 (r'.sw (λu z=>by rw[Fa]at z; cases z; exact .inr ⟨q,rfl⟩) (.inl rfl))⟩
    | next=>obtain⟨_,_,_,z⟩:=z; exact z.elim
    | brk=>obtain⟨_,_,_,z⟩:=z; exact z.elim
    | cont=>obtain⟨_,_,_,z⟩:=z; exact z.elim
   ·cases ho
  ·have at2:=at_.say (i:=i) h1 (.hd hd he hk (rs (Zp.refl F)))
   split at ho
   ·rename_i r' hg
    split at ho
    case h_2=>cases ho
    rename_i es' hr';split at ho
    case isFalse=>cases ho
    cases ho;exact h _ _ hg pins s σ H E I ⟨F0,H0,F,at2,λσ' F' H' a'=>k σ' F' H' (a'.loosen hr')⟩
   ·rename_i d hg
    cases ho;exact h _ _ hg pins s σ H E I ⟨F0,H0,F,at2,k⟩
   ·cases ho
 | fn hv =>
  have at2:=at_.say (i:=i) h1 (.hf hv);split at ho
  ·rename_i r' hg
   split at ho
   case h_2=>cases ho
   rename_i es' hr';split at ho
   case isFalse=>cases ho
   cases ho;exact h _ _ hg pins s σ H E I ⟨F0,H0,F,at2,λσ' F' H' a'=>k σ' F' H' (a'.loosen hr')⟩
  ·rename_i d hg
   cases ho;exact h _ _ hg pins s σ H E I ⟨F0,H0,F,at2,k⟩
  ·cases ho
def Itd(a:Addr)(o:Obj):It :=
 ⟨λi H=>∃vvs q,H a=Z (.frz o (.dT vvs))/\vvs[i]?=Z q,λi H x H'=>H'=H/\∀vvs,H a=Z (.frz o (.dT vvs))->∃q b,vvs[i]?=Z q/\x=.ref b/\H b=Z (.tup (q.1.map kV)),λi H=>∃vvs,H a=Z (.frz o (.dT vvs))/\vvs.length<=i⟩
theorem Zqz{α β:Type}{R:α->β->Prop}{l:List α}{m:List β}(r:Paired R l m):∀{i:Nat} {x:α},l[i]?=Z x->∃y,m[i]?=Z y/\R x y:=by
 induction r with
 | nil=>intro i x e; simp at e
 | @cons p q _ _ hq _ ih =>
  intro i x e;cases i with
  | zero=>rw[ZAM]at e; cases e; exact⟨q,rfl,hq⟩
  | succ i=>rw[Zy3]at e ⊢; exact ih e
theorem Zsa{P:Program}{w:World}(a it:Addr)(o:Obj)(es:Array DictEntry)(ep:Nat)(hd:o.data=.dict es ep):Turn P w K tg (Itd a o) [it] it (λi h=>h.IsKeyIter it a i es.size ep) where
 mem:=by simp
 obj:=λi h st b hb=>by
  have e:b=it:=by simpa using hb
  subst e;obtain⟨o,e,c,d⟩:=st;exact⟨o,e,λv z=>by rw[d]at z; cases z⟩
 keep:=λi h h' st k=>st.at λo e=>k it (by simp) o e
 item:=by
  intro X hP hw hK hc i pins s σ H E I hf st hg;subst hP hw hK;obtain⟨vvs,q,hH,hq⟩:=hg;obtain⟨h1,z,lo,xs,rel,o2,es2,ep2,h2,h3,h4,h5,h6⟩:=(show ZW X.prog X.w H s.heap a (.frz o (.dT vvs)) from I.hok a _ hH);rw[h1]at h2;cases h2;rw[hd]at h4;cases h4;obtain⟨f0,f1,f2,f3,f4,f5⟩:=hf it (by simp);obtain⟨p,hp,hr1,hr2,_⟩:=Zqz rel hq;have he:es[i]?=Z (entryOfKey (ZBN (Zav X.prog X.w)) p):=by rw[<-Zza,h5,ZyI,hp]; rfl
  refine Zom st ⟨o,h1,h3,hd⟩ he λh' st' sb=>?_;have I1:Inv X pins σ H { s with heap:=h' }:=I.turned (t':=s.toks) (λb o hb e=>(sb.2 b hb).trans e) f0 f1 f3 f4 f5;obtain⟨oi,e,c,d⟩:=id st';refine⟨_,rfl,ZmM (s:={ s with heap:=h' }) e c d (by decide) ⟨.ref p.2.1,H,I1,rfl,⟨rfl,λvv hv=>?_⟩,st',λb hb=>(hf b hb).1⟩⟩;rw[hH]at hv;cases hv;exact⟨q,p.2.1,hq,rfl,hr2⟩
 done:=by
  intro X hP hw hK hc i pins s σ H E I hf st hg;subst hP hw hK;obtain⟨vvs,hH,hq⟩:=hg;obtain⟨h1,z,lo,xs,rel,o2,es2,ep2,h2,h3,h4,h5,h6⟩:=(show ZW X.prog X.w H s.heap a (.frz o (.dT vvs)) from I.hok a _ hH);rw[h1]at h2;cases h2;rw[hd]at h4;cases h4;obtain⟨f0,f1,f2,f3,f4,f5⟩:=hf it (by simp);have hl:vvs.length=xs.length:=ZAQ rel;have hes:es.size=xs.length:=by rw[<-ZyL,h5,Zyj]
  exact Zpx (I.ok.hd hc) st ⟨o,h1,h3,hd⟩ (by omega) λh' eb=>⟨rfl,I.turned (t':=s.toks) (λb o hb e=>eb b o hb e) f0 f1 f3 f4 f5⟩
 self:=λ_ _ _ _ _ st h=>wpAny_pyIter_keyiter st h
theorem Zt6{l:Expr}{tl:TE}(hl:PE X l tl):PI X tg l (λσ H R=>tl σ H λx H1=>∃a o vvs,x=.ref a/\H1 a=Z (.frz o (.dT vvs))/\R (Itd a o) H1):=by
 intro pins s σ H R I h;refine thn (hl pins s σ H _ I h) λv s1 ⟨x,H1,I1,r1,a,o,vvs,e,hH,q⟩=>?_;subst e;cases r1;obtain⟨h1,z,lo,xs,rel,o2,es,ep,h2,h3,h4,h5,h6⟩:=(show ZW X.prog X.w H1 s1.heap a (.frz o (.dT vvs)) from I1.hok a _ hH);rw[h1]at h2;cases h2;refine Zod lo ⟨o,h1,h3,h4⟩ ⟨s1.heap.objs.size,[s1.heap.objs.size],_,_,H1,rfl,I1.kept (t':=s1.toks) λb o e=>Zyn _ e,Zsa a _ o es ep h4,⟨_,ZyC _ rfl,rfl,rfl⟩,λb hb=>?_,q⟩;obtain rfl:b=s1.heap.objs.size:=by simpa using hb
 exact I1.fpOk (Zyr _) (I1.hok.fresh (Zyr _))
theorem ZtD{F:Hp}{a:Addr}{o:Obj}{kvs:List (List Key × PyData)}{vvs:List (List Key × V)}(h:F a=Z (.frz o (.dT vvs)))(hk:kvs.map (·.1)=vvs.map (·.1)):ItD K (Itd a o) (kvs.map λp=>.tuple (p.1.map HM.Zat)) F:=by
 intro F' H s1 s2;have hH:=s2 _ _ (s1 _ _ h);have hl:kvs.length=vvs.length:=by
  have:=congrArg Zy8 hk
  rwa [Zyj,Zyj]at this
 refine⟨λi d hd=>?_,vvs,hH,by rw[Zyj,hl]; exact Zyr _⟩;rw[ZyI]at hd;obtain⟨q,hq,hd⟩:=Zyl.mp hd;subst hd;have hi:i<vvs.length:=by rw[<-hl]; exact(Zyw.mp hq).1
 have hw:vvs[i]?=Z vvs[i]:=ZyF hi;have hw1:vvs[i].1=q.1:=by
  have:(kvs.map (·.1))[i]?=(vvs.map (·.1))[i]?:=by rw[hk]
  rw[ZyI,ZyI,hq,hw]at this;exact(Zzm this).symm
 refine⟨⟨vvs,_,hH,hw⟩,λx H' hy=>?_⟩;obtain⟨e,y⟩:=hy;refine⟨e,?_⟩;obtain⟨q',b,e1,e2,e3⟩:=y vvs hH;rw[hw]at e1;cases e1;subst e2;rw[hw1]at e3;have rk:=Zgp (K:=K) (F:=Zcr F' H) q.1;exact .tup (Zn0 e3) rk.1 rk.2
theorem Zi6(i:Nat){x:Str}{pos:Pos}(hN:X.N[i]?=Z x:=by rfl)(hv:Vis X.env.scope x:=by first | exact Zzq rfl | exact ZyX (Zzq rfl) | exact ZyX (ZyX rfl))(hd:(x==("__debug__":Str))=ZDD:=by decide)
  (hcd:(x==("__classdict__":Str))=ZDD:=by decide):XI X tg (.Name x pos) (HM.ZaR i):=by
 intro r ds h;have row:∀{d:PyData},r[i]?=Z (Z (.pl d))->HM.ZdI (.pl d)=Z ds->HM.ZP (HM.bOf (HM.Zc i)) r=Z ds:=λ{d} h1 h2=>by
  have e:HM.Zc i r=Z d:=by unfold HM.Zc; rw[h1]
  unfold HM.ZP HM.bOf;rw[e];exact h2
 unfold HM.ZaR at h;split at h
 ·rename_i q; exact Z6 (Zd i hN hv hd hcd) r ds (row q h)
 ·rename_i q; exact Z6 (Zd i hN hv hd hcd) r ds (row q h)
 ·rename_i es q
  obtain⟨kvs,h1,h2⟩:=Zyl.mp h;subst h2;refine PI.imp (Zt6 (Zco hN hv hd hcd)) λσ H R ⟨F0,H0,F,at_,k⟩=>?_;obtain⟨v,fp,g1,g2⟩:=at_.any q;cases g2 with
  | @hd a o _ kvs' vvs k1 k2 k3 k4=>subst k2;rw[HM.dec_enc]at h1;cases h1;exact⟨.ref a,g1,a,o,vvs,rfl,at_.sub _ _ k1,k _ F H at_.refl (ZtD k1 k3)⟩
  | hf _=>cases h1
 ·cases h
end
end HP
namespace HP
open PySem PySem.Spec PyProof.Rows L2
variable[FX]
section
variable{X:Cx}{a b c e:Expr}{fa fb fc:HM.EF}{f:HM.BF}{pos p:Pos}
theorem Zjm{K:Zyk}{F:Hp}{ds:List PyData}{v:V}(r:Rep K F (.tuple ds) v):∃l vs,v=.ref l/\SqT K F l vs/\Zq K F ds vs:=by
 cases r with
 | tup h1 h2 h3=>exact⟨_,_,rfl,.of h1,h2,h3⟩
 | @tupk a x h1=>exact⟨_,_,rfl,.inr h1,.one (.str x)⟩
theorem Zi7{lo hi:Option Expr}{fl fh:Option HM.EF}{p2:Pos}(ha:XE X a fa)(hl:XO X lo fl)(hh:XO X hi fh):XE X (.Subscript a (.Slice lo hi Z_ p2) pos) (HM.Zdx fa fl fh):=by
 intro r d h;unfold HM.Zdx at h;split at h
 ·rename_i xs hx
  split at h
  ·rename_i l hl'
   split at h
   ·rename_i u hu'
    split at h
    ·cases h
    ·rename_i hno
     cases h;refine PE.imp (ZnJ Zv3 (ha r _ hx) (hl r _ hl') (hh r _ hu')) λσ H Q ⟨F0,H0,F,at_,k⟩=>?_;refine⟨F0,H0,F,at_,λv F1 H1 x1 r1=>⟨F0,H0,F1,at_.grow x1,λF2 H2 x2=>⟨F0,H0,F2,(at_.grow x1).grow x2,λF3 H3 x3=>?_⟩⟩⟩;have x23:=x2.trans x3;obtain⟨l',vs,e1,hq,rs⟩:=Zjm (r1.mono x23.ff);refine⟨l',vs,e1,Zhy hq x3.sub,by rw[<-rs.1]; exact hno,λl2 hl2=>?_⟩;have rc:Zq X.K F3 (HM.cutD xs l u) (ZgO vs l u):=by unfold HM.cutD ZgO;rw[<-rs.1];exact(rs.drop _).take _
     exact k _ (upd F3 l2 (.tup (ZgO vs l u))) _ ((x1.trans x23).lay hl2) (.tup Zx rc.1 (rc.mono (Zp.upd' (x3.sub.free hl2))).2)
   ·cases h
  ·cases h
 ·cases h
end
end HP
namespace HP
open PySem PySem.Spec PyProof.Rows L2
variable[FX]
end HP
namespace HP
open PySem
variable{S:Addr}
abbrev mdA(I S:Addr)(dv:Value):Args:=⟨[.ref I,.none,.ref S],[(ZAd "default",dv)]⟩
theorem Zjk:(toString "min" ++ toString ".loop":String) = "min.loop":=by decide
theorem Zu1(a dv:Value):argsOk "min" ⟨[a],[(ZAd "default",dv)]⟩:=by unfold argsOk; kernel_rfl
section
variable{prog:Program}{w:World}{A:Around}{R:Result->Shared->Prop}{I:Addr}{fp wr:List Addr}{n:Nat}{P:Nat->Value->Prop}{St:Nat->Heap->Prop}
theorem Zum(W:Walks prog w A.in1 I fp wr n P St)(bt:Nat->Nat->Bool)(hc:CmpOf prog w A.in1 .Lt P bt)(hf:S ∉ fp)(dv:Value):∀(k j:Nat) (s:Shared) (b:Value) (ep:Nat),n=j+1+k->St (j+1) s.heap->P (argBest bt j) b ->
  s.heap.get? S=Z { cls:=.type "list",dict:=Z_,data:=.seq #[b,b] ep,slots:=#[] } ->
  (∀v h' tk,P (argBest bt (n-1)) v->(∀x o,x ∉ wr->x≠S->s.heap.get? x=Z o->h'.get? x=Z o)->R (.ok (.ret v)) { s with heap:=h',toks:=tk }) ->
  codeAny (model prog w) A (.builtin "min.loop" (mdA I S dv)) R s:=by
 have hw:S ∉ wr:=λh=>hf (W.sub _ h);intro k
 induction k with
 | zero =>
  intro j s b ep hn st pb gS out;have hn:n=j+1:=by omega
  subst hn;refine ZzA ZBB ?_;rw[Zzu ZzL _];show wpAny _ A.in1 (seqItems? (.ref S) >>= _) _ _ s;refine Zyi (wpAny_seqItems gS rfl ?_);show wpAny _ A.in1 (tryCatch (pyNext (.ref I)) _ >>= _) _ _ s;refine Zyi (ZBp (W.done s _ _ st λh1 tk keep=>?_));have gS1:=keep S _ hw gS;show wpAny _ A.in1 (updateSeq S (λ_=>#[]) >>= _) _ _ _;exact Zyi (ZCZ gS1 rfl (Zyi (ZCj (Zym (out b _ tk pb λx o hx hS e=>(ZzK _ _ (Zzt hS)).trans (keep x o hx e))))))
 | succ k ih =>
  intro j s b ep hn st pb gS out;refine ZzA ZBB ?_;rw[Zzu ZzL _];show wpAny _ A.in1 (seqItems? (.ref S) >>= _) _ _ s;refine Zyi (wpAny_seqItems gS rfl ?_);show wpAny _ A.in1 (tryCatch (pyNext (.ref I)) _ >>= _) _ _ s;refine Zyi (ZBp (W.item (j+1) s _ _ (by omega) st λv h1 tk pv st1 keep=>?_));have gS1:=keep S _ hw gS;show wpAny _ A.in1 (tryCatch (holding [v,v] (richCompare .Lt v b >>= _)) _ >>= _) _ _ _;refine Zyi (ZBp (Zzp (Zyi (hc (j+1) (argBest bt j) v b _ _ _ pv pb (Zyi (Zzp (ZAg (Zyi (ZCj (Zym ?_))))))))));have best:argBest bt (j+1)=if bt (j+1) (argBest bt j)then j+1 else argBest bt j:=rfl
  cases hb:bt (j+1) (argBest bt j)with
  | true =>
   rw[hb,if_pos rfl]at best;simp only[if_true];refine Zyi (ZCZ gS1 rfl (Zyi (ZCj ?_)));rw[Zjk];refine Zym ⟨ZAv ZzL _,ih (j+1) _ v _ (by omega) (W.frame _ _ _ st1 λx hx o e=>?_) (by rw[best]; exact pv) (Zzy _ gS1 rfl) λv' h2 tk2 p' keep2=>?_⟩
   ·exact(ZzK _ _ (λz:S=x=>hf (by rw[z]; exact hx))).trans e
   ·exact out v' h2 tk2 p' λx o hx hS e=>keep2 x o hx hS ((ZzK _ _ (Zzt hS)).trans (keep x o hx e))
  | false=>rw[hb,if_neg (by simp)]at best;simp only[Zzr,if_false];refine Zyi (ZCj ?_);rw[Zjk];exact Zym ⟨ZAv ZzL _,ih (j+1) _ b ep (by omega) st1 (by rw[best]; exact pb) gS1 λv' h2 tk2 p' keep2=>out v' h2 tk2 p' λx o hx hS e=>keep2 x o hx hS (keep x o hx e)⟩
theorem ZtM(W:Walks prog w A.in1 I fp wr n P St)(bt:Nat->Nat->Bool)(hc:CmpOf prog w A.in1 .Lt P bt)(hf:S ∉ fp)(dv:Value){s:Shared}{ep:Nat}(st:St 0 s.heap)
  (gS:s.heap.get? S=Z { cls:=.type "list",dict:=Z_,data:=.seq #[] ep,slots:=#[] })
  (o0:n=0->∀h' tk,(∀x o,x ∉ wr->x≠S->s.heap.get? x=Z o->h'.get? x=Z o)->R (.ok (.ret dv)) { s with heap:=h',toks:=tk })
  (o1:0<n->∀v h' tk,P (argBest bt (n-1)) v->(∀x o,x ∉ wr->x≠S->s.heap.get? x=Z o->h'.get? x=Z o)->R (.ok (.ret v)) { s with heap:=h',toks:=tk }) :
  codeAny (model prog w) A (.builtin "min.loop" (mdA I S dv)) R s:=by
 have hw:S ∉ wr:=λh=>hf (W.sub _ h);refine ZzA ZBB ?_;rw[Zzu ZzL _];show wpAny _ A.in1 (seqItems? (.ref S) >>= _) _ _ s;refine Zyi (wpAny_seqItems gS rfl ?_);show wpAny _ A.in1 (tryCatch (pyNext (.ref I)) _ >>= _) _ _ s
 by_cases h0:n=0
 ·subst h0
  refine Zyi (ZBp (W.done s _ _ st λh1 tk keep=>?_));show wpAny _ A.in1 (rule _ >>= _) _ _ _;exact Zyi (ZBX (Zym (o0 rfl h1 tk λx o hx _ e=>keep x o hx e)))
 ·refine Zyi (ZBp (W.item 0 s _ _ (by omega) st λv h1 tk pv st1 keep=>?_))
  have gS1:=keep S _ hw gS;show wpAny _ A.in1 (updateSeq S (λ_=>#[v,v]) >>= _) _ _ _;refine Zyi (ZCZ gS1 rfl ?_);rw[Zjk];refine Zym ⟨ZAv ZzL _,Zum W bt hc hf dv (n-1) 0 _ v _ (by omega) (W.frame _ _ _ st1 λx hx o e=>?_) pv (Zzy _ gS1 rfl) λv' h2 tk2 p' keep2=>?_⟩
  ·exact(ZzK _ _ (λz:S=x=>hf (by rw[z]; exact hx))).trans e
  ·exact o1 (by omega) v' h2 tk2 p' λx o hx hS e=>keep2 x o hx hS ((ZzK _ _ (Zzt hS)).trans (keep x o hx e))
end
end HP
namespace HP
open PySem PySem.Spec PyProof.Rows L2
variable{cs:List PyData}{K:Zyk}{x:Str}
variable[FX]
theorem Rep.fn_inv{F:Hp}{t:Nat}{v:V}(h:Rep K F (HM.fnD t cs) v):∃a,v=.ref a/\FX.fv t cs F a:=by
 cases h with
 | @dct a es kvs vvs h he hk hr =>
  cases kvs with
  | nil=>cases he
  | cons p r =>
   injection he with h1 _
   injection h1 with h2 _
   cases h2
 | fn h=>exact⟨_,rfl,h⟩
theorem Ztv{d:PyData}{t:Nat}(h:HM.Zk7 d=Z (t,cs)):d=HM.fnD t cs:=by
 unfold HM.Zk7 at h;split at h
 ·cases h; rfl
 ·cases h
structure GFn(mg:Str->Option Value)(x:Str)(t:Nat):Prop where
 ex:∃f,mg x=Z (.ref f)/\∀F,FX.fv t [] F f
section
variable{X:Cx}{pos p:Pos}{e a b:Expr}{es:List Expr}{f:HM.AF}
theorem Zvh{t:Nat}(h:GFn X.mg x t)(hg:Gl X x:=by rfl)(hd:(x==("__debug__":Str))=ZDD:=by decide):XE X (.Name x pos) (HM.eC (HM.fnD t [])):=by obtain⟨f,hm,hv⟩:=h.ex;exact Zfz (Zp3 hg hm (v:=.ref f) rfl hd) λF=>.fn (hv F)
structure ZdR(P:Program)(w:World)(K:Zyk)(mg:Str->Option Value)(base:Heap)(k:Nat)(ap:HM.AP):Prop where
 fn:∀{t:Nat} {cs:List PyData} {F:Hp} {a:Addr},FX.fv t cs F a->∀{A:Around} {outer:List Env} {s:Shared} {H:Hp},Zdm P w K mg base A outer s H->Zp F H->ZDA a s.heap
 run:∀{t:Nat} {cs:List PyData} {F:Hp} {a:Addr},FX.fv t cs F a->∀{A:Around} {outer:List Env} {s:Shared} {H:Hp},Zdm P w K mg base A outer s H->Zp F H ->
  ∀{us:List Value} {vs:List V} {ds:List PyData} {d:PyData} {Q:VK},ZV k A->Tb H->NoT F->Vals vs us->Zq K F ds vs->ap t cs ds=Z d->(∀v F' H',Ext F H F' H'->Rep K F' d v->Q v H') ->
   codeAny (model P w) A (.call (.ref a) ⟨us,[]⟩) (CR CX0 outer P w H s Q E0) s
theorem ZdR.mono{P:Program}{w:World}{K:Zyk}{mg:Str->Option Value}{base:Heap}{j k:Nat}{ap:HM.AP}(C:ZdR P w K mg base j ap)(h:j<=k):ZdR P w K mg base k ap :=
 ⟨C.fn,by intro t cs F a q A outer s H e z us vs ds d Q hr; exact C.run q e z (hr.mono h)⟩
theorem ZmW{k:Nat}{ap:HM.AP}(C:ZdR X.prog X.w X.K X.mg X.base k ap)(hr:ZV k X.A)(i:Nat)(ha:XA X (e::es) f)(hN:X.N[i]?=Z x:=by rfl)
  (hv:Vis X.env.scope x:=by first | exact Zzq rfl | exact ZyX (Zzq rfl) | exact ZyX (ZyX rfl)) (hd:(x==("__debug__":Str))=ZDD:=by decide) (hcd:(x==("__classdict__":Str))=ZDD:=by decide)
  (he:Zyz (e::es) X.env=(ZDD,eval e X.env)::Zyz es X.env:=by rfl) (hpl:(backTo pos (Zyz es X.env)).any (·.1)=ZDD:=by rfl):XE X (.Call (.Name x p) (e::es) [] pos) (HM.Zgi ap i f):=by
 intro r d h;unfold HM.Zgi at h;split at h
 case h_2=>cases h
 rename_i d0 hs;split at h
 case h_2=>cases h
 rename_i t cs hu;split at h
 case h_2=>cases h
 rename_i ds hds;obtain rfl:=Ztv hu;intro pins s σ H Q I ⟨F0,H0,F1,at_,kk⟩;obtain⟨v,h1,h2⟩:=at_.plain hs;obtain⟨q,rfl,fv⟩:=h2.fn_inv;refine Zz9 (thn (Zco hN hv hd hcd pins s σ H (λv' H'=>v'=.ref q/\H'=H) I ⟨_,h1,rfl,rfl⟩) λu s1 ⟨v',H1,I1,r1,e1,e2⟩=>?_);subst e1 e2;obtain rfl:u=Zzc q:=r1;refine PySem.W.callWith_F (C.fn fv I1.env0 at_.sub) (thn (ha.pa r ds hds pos pins s1 σ H1 (λvs H2=>∃F2,Ext F1 H1 F2 H2/\Zq X.K F2 ds vs) I1 ⟨F0,H0,F1,at_,λvs F2 H2 x2 q2=>⟨F2,x2,q2⟩⟩) λus s2 ⟨vs,H2,I2,r2,F2,x2,q2⟩=>?_) he hpl;have fv2:=FX.mono fv x2.ff;refine⟨C.fn fv2 I2.env0 x2.sub,ZBS (ZzU (C.run fv2 I2.env0 x2.sub hr (at_.tbx x2) (at_.ntx x2) r2 q2 h λv F' H' x3 q3=>kk v F' H' (x2.trans x3) q3) λrs s' hq=>?_)⟩;cases rs with
 | error e=>exact Zzf hq
 | ok fl =>
  cases fl with
  | ret u=>exact I2.after hq
  | next=>exact Zzf hq
  | brk=>exact Zzf hq
  | cont=>exact Zzf hq
def spN(K:Zyk)(n:Nat)(M:List PyData->Option (List (List Key × PyData))):Sp:=λvs H Q _=>∃F ds kvs,vs.length=n/\Zp F H/\Tb H/\NoT F/\Zq K F ds vs/\M ds=Z kvs /\
 ∀l vvs F' H',Ext F H F' H'->H' l=Z (.dT vvs)->kvs.map (·.1)=vvs.map (·.1)->Zq K F' (kvs.map (·.2)) (vvs.map (·.2))->F' l=Z_->H l=Z_->Q (.ref l) H'
structure ZdX(P:Program)(w:World)(K:Zyk)(mg:Str->Option Value)(base:Heap)(k:Nat)(x:Str)(M:List PyData->Option (List (List Key × PyData))):Prop where
 ex:∃f fd ps,(∀ds d,M ds=Z d->ds.length=ps.length)/\Zc8 P w K mg base CX0 k f fd ps (spN K ps.length M)/\mg x=Z (.ref f)/\ZzJ K (.ref f)=ZDC/\Binds K fd ps []
theorem ZdX.mono{P:Program}{w:World}{K:Zyk}{mg:Str->Option Value}{base:Heap}{j k:Nat}{x:Str}{M:List PyData->Option (List (List Key × PyData))}(C:ZdX P w K mg base j x M)(h:j<=k):ZdX P w K mg base k x M:=by obtain⟨f,fd,ps,l,F,r⟩:=C.ex;exact⟨f,fd,ps,l,F.mono h,r⟩
theorem Zq.flat{K:Zyk}{F F':Hp}{ds:List PyData}{vs:List V}(r:Zq K F ds vs)(h:∀d∈ds,HM.Zks d=ZDC):Zq K F' ds vs :=
 ⟨r.1,λi d v h1 h2=>(r.2 i d v h1 h2).flat (h d (ZyQ h1))⟩
theorem ZsG{k:Nat}{g:HM.AF}{M:List PyData->Option (List (List Key × PyData))}(C:ZdX X.prog X.w X.K X.mg X.base k x M)(hr:ZV k X.A)(ha:XAL X (e::es) g)(hg:Gl X x:=by rfl)(hdb:(x==("__debug__":Str))=ZDD:=by decide)
  (he:Zyz (e::es) X.env=(ZDD,eval e X.env)::Zyz es X.env:=by rfl) (hpl:(backTo pos (Zyz es X.env)).any (·.1)=ZDD:=by rfl):XF X (.Call (.Name x p) (e::es) [] pos) (HM.ZiK M g):=by
 intro r d hd;unfold HM.ZiK at hd;split at hd
 case h_2=>cases hd
 rename_i ds hds;split at hd
 case h_2=>cases hd
 rename_i kvs hM;split at hd
 case isFalse=>cases hd
 rename_i hfl;cases hd;obtain⟨fa,fd,ps,hl,F,hm,hk,hb⟩:=C.ex;refine PE.imp (Zk8 (E:=E0) F hr hg hm hk hb .nil Zra (ha.pa r ds hds) hdb he hpl) λσ H Q ⟨F0,H0,F1,at_,kk⟩=>?_;refine⟨F0,H0,F1,at_,λvs F' H' x q=>?_⟩;show spN X.K ps.length M (vs++[]) H' Q E0;rw[Zy6];refine⟨ZcD H',ds,kvs,by rw[<-q.1]; exact hl ds _ hM,Zl1,at_.tbx x,.drop,q.drop',hM,λl vvs F2 H2 x2 h1 h2 h3 h4 h5=>?_⟩;refine kk _ F' H2 (x.trans (Ext.forget x.sub (at_.ntx x) x2)) ⟨[l],.ot h1 h2 (h3.flat λd hd=>?_),by simp,λc hc=>?_⟩
 ·obtain⟨q,h6,rfl⟩:=Zyy.mp hd
  exact Zys.mp hfl q h6
 ·obtain rfl:c=l:=by simpa using hc
  exact⟨x.sub.free h5,x.hh.free h5⟩
def tSn(K:Zyk)(r:HM.Env)(kvs:List (List Key × PyData)):TS:=λE σ H=>Now K r σ H λF0 H0 F=>∀l vvs F' H',Ext F0 H0 F' H'->H' l=Z (.dT vvs)->kvs.map (·.1)=vvs.map (·.1)->Zq K F' (kvs.map (·.2)) (vvs.map (·.2))->F' l=Z_->H0 l=Z_->E.rt (.ref l) H'
def XSn(X:Cx)(sts:List Stmt)(m:HM.NF):Prop:=∀r kvs,m r=Z kvs->PSs X sts (tSn X.K r kvs)
theorem Zot{st:Stmt}{rest:List Stmt}{g:HM.SF}{m:HM.NF}(h1:XS X st g)(h2:XSn X rest m):XSn X (st::rest) (HM.ZjQ g m):=by
 intro r kvs h;unfold HM.ZjQ at h;split at h
 ·rename_i r' q
  refine PSs.imp (Zh2 (h1 r _ q) (h2 r' kvs h)) λE σ H ⟨F0,H0,F,at_,k⟩=>?_;exact⟨F0,H0,F,at_,λσ' F' H' at'=>⟨F0,H0,F',at',k⟩⟩
 ·cases h
theorem Zul(j:Nat){p1:Pos}(hN:X.N[j]?=Z x:=by rfl)(hv:Vis X.env.scope x:=by first | exact Zzq rfl | exact ZyX (Zzq rfl) | exact ZyX (ZyX rfl))(hd:(x==("__debug__":Str))=ZDD:=by decide)
  (hcd:(x==("__classdict__":Str))=ZDD:=by decide):XSn X [.Return (Z (.Name x p)) p1] (HM.Zof j):=by
 intro r kvs h;unfold HM.Zof at h;split at h
 ·rename_i kvs' hs
  cases h;refine PSs.imp (Zh2 (Zow (Zco hN hv hd hcd)) Zgq) λE σ H ⟨F0,H0,F,⟨fp,at_⟩,k⟩=>?_;obtain⟨v,h1,h2⟩:=at_.at_ j _ hs;generalize hfp:fp j=fj at h2;cases h2 with
  | @ot l _ vvs hl hk q=>have ho:=at_.own j l (by rw[hfp]; simp);exact⟨_,h1,k l vvs F H at_.ext hl hk q ho.1 ho.2⟩
 ·cases h
theorem ZqC{P:Program}{w:World}{mg:Str->Option Value}{base:Heap}{k:Nat}{qual:Str}{st:Stmt}{f:Addr}{fd:FuncData}{N ps:List Str}{m:HM.NF}(Fn:Fun K x qual st f fd)(S:Zs N ps (Ze st))(hm:mg x=Z (.ref f))(hb:Binds K fd ps [])
  (body:∀(cdv:Value) (A:Around) (outer:List Env) (s:Shared) (H:Hp) (E:XK),ZV k (A.deeper (envOfC qual (Ze st) s.heap.objs.size f cdv))->XSn (Zfc CX0 P w K mg base N qual (Ze st) f cdv A outer s H E).nox (Zaw st) m) :
  ZdX P w K mg base (k+1) x (HM.newOf ps.length N.length m):=by
 have hpl:ps.length<=N.length:=by have:=congrArg Zy8 S.pre; rw[ZzH]at this; omega
 refine⟨f,fd,ps,λds d h=>?_,Fn.ok S (λvs H Q E h=>?_) (λcdv A outer s H vs Q E hr h=>?_),hm,Fn.kp,hb⟩
 ·unfold HM.newOf at h
  split at h
  ·assumption
  ·cases h
 ·obtain⟨_,_,_,h,_⟩:=h
  exact h
 ·obtain⟨F,ds,kvs,hl,sub,tb,nt,q,hM,kk⟩:=h
  unfold HM.newOf at hM;split at hM
  ·rename_i hds
   exact⟨_,body cdv A outer s H E hr _ _ hM,F,H,F,Zgb (N:=N) sub tb nt q (by omega),λl vvs F' H' x h1 h2 h3 h4 h5=>kk l vvs F' H' x h1 h2 h3 h4 h5⟩
  ·cases hM
theorem Zst(hc:X.calm=ZDC){pins:List (Addr × Obj)}{s:Shared}{σ:L2.St}{H:Hp}{l:Addr}{ns:List Int}{Q:VK}(I:Inv X pins σ H s)(hq:SqL X.K H l (ns.map V.int))(q:Q (match ns.min? with | some i=>.int i | none=>.non) H) :
  wpAny (model X.prog X.w) X.A (call (.builtin "min") [.ref l] [(ZAd "default",.none)]) (EP X pins σ Q) X.xe s:=by
 obtain⟨its,rv,pl,hz⟩:=I.list hq;have hi:=Zcw rv;obtain⟨xs,e⟩:=hi.allInts.items;have hns:ns=xs.toList.map (·.1):=by rw[<-hi.numsOf,<-nums_intItems,<-e]
 have hl:=pl.isList;rw[e]at hl;refine PyProof.Rows.kmk_tree PySem.F.kind_min PySem.F.plain_min PySem.F.entry_min (Zu1 _ _) ?_;refine Zyi (ZC3 (show Builtin.Builtins.bindParams "min" ["key","default"] 0 ⟨[],[(ZAd "default",.none)]⟩=pure [Z_,Z .none] from rfl) ?_);refine Zyi (Zym ?_);refine Zyi (iter_intList hl λs2 e2 st hfp hlI=>?_);subst e2;refine Zyi (Zy4 ?_);rw[Zjk];generalize hIT:s.heap.push { cls:=.type "list_iterator",data:=.fields #[.ref l,.int 0 0] }=h1 at st hfp;have z1:h1.objs.size=s.heap.objs.size+1:=by rw[<-hIT]; exact ZAb ..
 have k1:∀b o,s.heap.get? b=Z o->h1.get? b=Z o:=λb o e=>by rw[<-hIT]; exact Zyn _ e
 have W:=Walks.list (prog:=X.prog) (w:=X.w) (A:=X.A.in1) (I.ok.hd hc) s.heap.objs.size l hlI (intItems xs);have hSf:h1.objs.size ∉ [s.heap.objs.size,l]:=λz=>Zz5 _ (hfp _ z);have old:∀{h':Heap} {oS:Obj},(∀x o,x ∉ [s.heap.objs.size]->x≠h1.objs.size->(h1.push oS).get? x=Z o->h'.get? x=Z o)->∀b o,s.heap.get? b=Z o->h'.get? b=Z o:=λhk b o e=>by have hb:=ZyB e;exact hk b o (λz=>by rw[Zyt.mp z]at hb; exact Zz5 _ hb) (ZyG (by rw[z1]; exact ZAi hb)) (Zyn _ (k1 b o e))
 refine Zym ⟨ZAv ZzL _,ZtM W (λi j=>decide (numAt xs i<numAt xs j)) (CmpOf.ints_lt (numAt xs) λ_ _=>intItems_at) hSf .none (W.frame _ _ _ st λb _ o e=>Zyn _ e) (ZyC _ rfl) (λh0 h' tk hk=>?_) λh0 v h' tk hP hk=>?_⟩
 ·have e0:ns=[]:=by
   rw[hns];have:xs.size=0:=by simpa [intItems]using h0
   rw[Array.eq_empty_of_size_eq_zero this]; rfl
  subst e0;exact⟨.non,H,I.kept (t':=tk) (old hk),rfl,q⟩
 ·have h0':0<xs.size:=by simpa [intItems]using h0
  have hP':(intItems xs)[argBest (λi j=>decide (numAt xs i<numAt xs j)) (xs.size-1)]?=Z v:=by simpa [intItems]using hP
  obtain⟨t,rfl⟩:=intItems_at hP';obtain⟨g1,g2⟩:=argBest_lt (numAt xs) (xs.size-1);have hm:ns.min?=Z (numAt xs (argBest (λi j=>decide (numAt xs i<numAt xs j)) (xs.size-1))):=by
   refine ZBP.mpr ⟨?_,λa ha=>?_⟩
   ·rw[hns,numAt_eq]; exact getD_mem (by rw[Zyj,ZyL]; omega)
   ·rw[hns]at ha
    obtain⟨j,hj,rfl⟩:=mem_getD ha;rw[Zyj,ZyL]at hj;rw[<-numAt_eq]; exact g2 j (by omega)
  rw[hm]at q;exact⟨.int _,H,I.kept (t':=tk) (old hk),⟨t,rfl⟩,q⟩
theorem Zpv{f:HM.BF}{kp p2:Pos}{j:Nat}(hm:X.mg "min" = Z_)(hc:X.calm=ZDC)(ha:XB X a f)(hg:Gl X "min":=by rfl)(hs:Zyz [a] X.env=[(ZDD,eval a X.env)]:=by rfl)
  (he:backTo pos (Zyz [a] X.env)=(ZDD,eval a X.env)::backTo pos (Zyz [] X.env):=by rfl) (hpl:(backTo pos (Zyz [a] X.env)).any (·.1)=ZDD:=by rfl) :
  XE X (.Call (.Name "min" p) [a] [⟨Z "default",.Constant .none j p2,kp⟩] pos) (HM.Zfp f):=by
 intro r d h;unfold HM.Zfp at h;split at h
 case h_2=>cases h
 rename_i x hx;split at h
 case h_2=>cases h
 rename_i ds hds;split at h
 case h_2=>cases h
 rename_i ns hns;cases h;intro pins s σ H Q I ⟨F0,H0,F,at_,k⟩;refine Zz9 (Zhh I hg hm Zsq ?_);refine callWith_kw (thn (Zdr ha hx hs pos pins s σ H (λvs H1=>∃v fp F1,vs=[v]/\Ext F H F1 H1/\Z9 X.K F1 H1 x v fp) I ⟨F0,H0,F,at_,λv fp F' H' x1 r1=>⟨v,fp,F',rfl,x1,r1⟩⟩) λus s1 ⟨vs,H1,I1,rv,v,fp,F1,e1,x1,r1⟩=>?_) he hpl;subst e1;obtain⟨u,rfl,ru⟩:=vals1 rv;obtain⟨l,ws,rfl,hq,rs⟩:=ZcE x1.sub r1 hds;obtain rfl:u=Zzc l:=ru;rw[ZbF hns rs]at hq;refine kws_cons (thn (Zsk pins s1 σ H1 (λv' H'=>v'=.non/\H'=H1) I1 ⟨rfl,rfl⟩) λu2 s2 ⟨v',H2,I2,r2,e2,e3⟩=>?_);subst e2 e3;obtain rfl:u2=ZyU:=r2;refine kws_nil ?_;refine Zst hc I2 hq ?_;refine k _ F1 H2 x1 ?_;cases ns.min? with
 | none=>exact .non
 | some i=>exact .int i
end
end HP
namespace HP
open PySem PySem.Spec PyProof.Rows L2
variable{F:Hp}{K:Zyk}
abbrev FX0:FX where
 tl:=[]
 fv:=λ_ _ _ _=>False
 sw:=λ_ _ h=>h
 drop:=λh=>h
 mono:=λh _=>h
structure Clo(K:Zyk)(F:Hp)(p:Addr)(params:Arguments)(body:Expr)(scope:Scope)(names:List Str)(cs:List PyData):Prop where
 ex:∃(qual:Str) (pm ctv:Value) (c:Addr) (oc:Obj) (clos:List (Str × Addr)),
  F p=Z (Zaz p (ZB0 "<lambda>" qual params body scope clos pm c ctv))/\F c=Z (Zaz c oc)/\Zll oc qual /\
  (∀x y a,clos.lookup x=Z a->clos.lookup y=Z a->x=y)/\(∀y∈scope.names,y.2=.free->(clos.lookup y.1).isSome=ZDC) /\
  (∀x a,clos.lookup x=Z a->∃o v,F a=Z (Zaz a o)/\o.data=.cell v) /\
  names.length=cs.length/\∀(i:Nat) (x:Str) (d:PyData),names[i]?=Z x->cs[i]?=Z d->∃a o u v,clos.lookup x=Z a/\F a=Z (Zaz a o)/\o.data=.cell (Z u)/\RelV v u/\@Rep FX0 K F d v
section
variable{K:Zyk}{F F':Hp}{p:Addr}{params:Arguments}{body:Expr}{scope:Scope}{names:List Str}{cs:List PyData}
theorem Clo.mono(h:Clo K F p params body scope names cs)(s:Zp F F'):Clo K F' p params body scope names cs:=by
 obtain⟨qual,pm,ctv,c,oc,clos,h1,h2,h3,h4,h5,h6,h7,h8⟩:=h.ex;refine⟨qual,pm,ctv,c,oc,clos,s _ _ h1,s _ _ h2,h3,h4,h5,λx a e=>?_,h7,λi x d e1 e2=>?_⟩
 ·obtain⟨o,u,q1,q2⟩:=h6 x a e
  exact⟨o,u,s _ _ q1,q2⟩
 ·obtain⟨a,o,u,v,q1,q2,q3,q4,q5⟩:=h8 i x d e1 e2
  exact⟨a,o,u,v,q1,s _ _ q2,q3,q4,@Rep.mono FX0 _ _ _ _ _ q5 s⟩
theorem Clo.drop(h:Clo K F p params body scope names cs):Clo K (ZcD F) p params body scope names cs:=by
 obtain⟨qual,pm,ctv,c,oc,clos,h1,h2,h3,h4,h5,h6,h7,h8⟩:=h.ex;refine⟨qual,pm,ctv,c,oc,clos,Zca h1 rfl,Zca h2 rfl,h3,h4,h5,λx a e=>?_,h7,λi x d e1 e2=>?_⟩
 ·obtain⟨o,u,q1,q2⟩:=h6 x a e
  exact⟨o,u,Zca q1 rfl,q2⟩
 ·obtain⟨a,o,u,v,q1,q2,q3,q4,q5⟩:=h8 i x d e1 e2
  exact⟨a,o,u,v,q1,Zca q2 rfl,q3,q4,@Rep.drop FX0 _ _ _ _ q5⟩
theorem Clo.sw{a:Addr}{ob:HO}{vvs:List (List Key × V)}(hF:∀u,F a=Z u->Dk vvs u)(hob:Dk vvs ob)(h:Clo K F p params body scope names cs):Clo K (HP.sw a ob F) p params body scope names cs:=by
 have key:∀{b:Addr} {o:Obj},F b=Z (Zaz b o)->HP.sw a ob F b=Z (Zaz b o):=λ{b o} e=>by
  have hb:b≠a:=λz=>by subst z;have:=@Dk.te FX0 _ _ (hF _ e);cases this
  unfold HP.sw; rw[if_neg hb]; exact e
 obtain⟨qual,pm,ctv,c,oc,clos,h1,h2,h3,h4,h5,h6,h7,h8⟩:=h.ex;refine⟨qual,pm,ctv,c,oc,clos,key h1,key h2,h3,h4,h5,λx a e=>?_,h7,λi x d e1 e2=>?_⟩
 ·obtain⟨o,u,q1,q2⟩:=h6 x a e
  exact⟨o,u,key q1,q2⟩
 ·obtain⟨a,o,u,v,q1,q2,q3,q4,q5⟩:=h8 i x d e1 e2
  exact⟨a,o,u,v,q1,key q2,q3,q4,@Rep.sw FX0 _ _ _ _ _ _ _ hF hob q5⟩
end
theorem Rep.up[FX]{d:PyData}{v:V}(r:@Rep FX0 K F d v):Rep K F d v:=by
 induction r with
 | non=>exact .non
 | bl b=>exact .bl b
 | int i=>exact .int i
 | str x=>exact .str x
 | tup h hl _ ih=>exact .tup h hl ih
 | tupk h=>exact .tupk h
 | lst h hl _ ih=>exact .lst h hl ih
 | dct h he hk _ ih=>exact .dct h he hk ih
 | fn h=>exact h.elim
theorem Rep.cutF[FX]{F':Hp}(hF:∀b o,F b=Z o->te o=ZDD->F' b=Z o){d:PyData}{v:V}(r:Rep K F d v):∀n,HM.noF n d=ZDC->@Rep FX0 K F' d v:=by
 induction r with
 | non=>intro _ _; exact @Rep.non FX0 _ _
 | bl b=>intro _ _; exact @Rep.bl FX0 _ _ b
 | int i=>intro _ _; exact @Rep.int FX0 _ _ i
 | str x=>intro _ _; exact @Rep.str FX0 _ _ x
 | tupk h=>intro _ _; exact @Rep.tupk FX0 _ _ _ _ h
 | tup h hl _ ih =>
  intro n hn;cases n with
  | zero=>cases hn
  | succ n=>exact @Rep.tup FX0 _ _ _ _ _ (hF _ _ h rfl) hl λi d v h1 h2=>ih i d v h1 h2 n (Zys.mp hn d (ZyQ h1))
 | lst h hl _ ih =>
  intro n hn;cases n with
  | zero=>cases hn
  | succ n =>
   refine @Rep.lst FX0 _ _ _ _ _ ?_ hl λi d v h1 h2=>ih i d v h1 h2 n (Zys.mp hn d (ZyQ h1));rcases h with(h | ⟨o,h⟩) | h
   ·exact .inl (.inl (hF _ _ h rfl))
   ·exact .inl (.inr ⟨o,hF _ _ h rfl⟩)
   ·exact .inr h
 | @dct a es kvs vvs h he hk _ ih =>
  intro n hn;cases n with
  | zero=>cases hn
  | succ n =>
   refine @Rep.dct FX0 _ _ _ _ kvs vvs ?_ he hk λi d v h1 h2=>ih i d v h1 h2 n ?_
   ·rcases h with h | ⟨o,h⟩
    ·exact .inl (hF _ _ h rfl)
    ·exact .inr ⟨o,hF _ _ h rfl⟩
   ·subst he
    rw[ZyI]at h1;obtain⟨q,h3,h4⟩:=Zyl.mp h1;subst h4;have hm:(Zzh (q.1.map HM.Zat),q.2)∈HM.Zm kvs:=Zyy.mpr ⟨q,ZyQ h3,rfl⟩;have:=Zys.mp hn _ hm;rw[ZyE]at this;exact this.2
 | fn h =>
  intro n hn;cases n with
  | zero=>cases hn
  | succ n=>have:=Zys.mp hn _ (Zyo ..);cases this
end HP
namespace HP
open PySem PySem.Spec PyProof.Rows L2
variable{a b:Addr}{G H:Hp}{C:List Addr}{o:Obj}
theorem Rep0.cut{K:Zyk}{F F':Hp}(hF:∀b o,F b=Z o->te o=ZDD->F' b=Z o){d:PyData}{v:V}(r:@Rep FX0 K F d v):@Rep FX0 K F' d v:=by
 induction r with
 | non=>exact @Rep.non FX0 _ _
 | bl b=>exact @Rep.bl FX0 _ _ b
 | int i=>exact @Rep.int FX0 _ _ i
 | str x=>exact @Rep.str FX0 _ _ x
 | tupk h=>exact @Rep.tupk FX0 _ _ _ _ h
 | tup h hl _ ih=>exact @Rep.tup FX0 _ _ _ _ _ (hF _ _ h rfl) hl ih
 | lst h hl _ ih =>
  refine @Rep.lst FX0 _ _ _ _ _ ?_ hl ih;rcases h with(h | ⟨o,h⟩) | h
  ·exact .inl (.inl (hF _ _ h rfl))
  ·exact .inl (.inr ⟨o,hF _ _ h rfl⟩)
  ·exact .inr h
 | @dct a es kvs vvs h he hk _ ih =>
  refine @Rep.dct FX0 _ _ _ _ kvs vvs ?_ he hk ih;rcases h with h | ⟨o,h⟩
  ·exact .inl (hF _ _ h rfl)
  ·exact .inr ⟨o,hF _ _ h rfl⟩
 | fn h=>exact h.elim
def ZaO(C:List Addr)(H:Hp):Hp:=λb=>if b∈C then Z_ else H b
theorem Zg3(h:b∈C):ZaO C H b=Z_:=by unfold ZaO; rw[if_pos h]
theorem Zae(h:b ∉ C):ZaO C H b=H b:=by unfold ZaO; rw[if_neg h]
theorem ZhM{o:HO}(h:ZaO C H b=Z o):b ∉ C/\H b=Z o:=by
 unfold ZaO at h;split at h
 ·cases h
 ·exact⟨by assumption,h⟩
def ZgS(C:List Addr)(G H:Hp):Hp:=λb=>if b∈C then G b else H b
theorem ZeM(h:b∈C):ZgS C G H b=G b:=by unfold ZgS; rw[if_pos h]
theorem Za8(h:b ∉ C):ZgS C G H b=H b:=by unfold ZgS; rw[if_neg h]
section
variable{P:Program}{w:World}{C:List Addr}{G H H':Hp}{h h':Heap}
theorem Za6(x:ZW P w H h a (Zaz a o)):h.get? a=Z o:=x.1
theorem Zhg(e:h.get? a=Z o):ZW P w H h a (Zaz a o):=⟨e,⟨o,e⟩,λh1 h2 q k=>k o q⟩
theorem HOk.cut(x:HOk P w H h)(hC:∀c∈C,∀o,H c=Z o->te o=ZDC):HOk P w (ZaO C H) h:=λa o e=>by
 obtain⟨_,e⟩:=ZhM e;have out:∀{b:Addr} {u:HO},H b=Z u->te u=ZDD->ZaO C H b=Z u:=λ{b u} q t=>by rw[Zae λz=>by rw[hC b z u q]at t; cases t]; exact q
 exact(x a o e).stay (λ_ _ _ q=>q) (λb q=>out q rfl) λb xs q=>out q rfl
theorem HOk.put(x:HOk P w H h)(hn:∀c∈C,H c=Z_)(hC:∀c∈C,∀u,G c=Z u->∃o,u=Zaz c o/\h.get? c=Z o):HOk P w (ZgS C G H) h:=λa o e=>by
 have out:∀{b:Addr} {u:HO},H b=Z u->ZgS C G H b=Z u:=λ{b u} q=>by rw[Za8 λz=>by rw[hn b z]at q; cases q]; exact q
 by_cases ha:a∈C
 ·rw[ZeM ha]at e
  obtain⟨ob,rfl,hb⟩:=hC a ha o e;exact Zhg hb
 ·rw[Za8 ha]at e
  exact(x a o e).stay (λ_ _ _ q=>q) (λb q=>out q) λb xs q=>out q
end
structure ZeO(scope:Scope)(x:Str)(names:List Str):Prop where
 kind:scope.kind=.function
 co:scope.isCoroutine=ZDD
 gen:scope.isGenerator=ZDD
 nocell:∀y∈scope.names,y.2≠.cell
 par:scope.names.lookup x=Z .local
 free:∀n∈names,scope.names.lookup n=Z .free
 nd:(x::names).Nodup
def Zh0(P:Program)(w:World)(K:Zyk)(mg:Str->Option Value)(base:Heap)(N:List Str)(qual:Str)(scope:Scope)(f:Addr)(cd:Value)(clos:List (Str × Addr))(A:Around)(outer:List Env)(s:Shared)(H:Hp):Cx where
 prog:=P
 w:=w
 K:=K
 mg:=mg
 base:=base
 A:=A.deeper (ZAp qual scope s.heap.objs.size f cd clos)
 N:=N
 s₀:=s
 H₀:=H
 env:=ZAp qual scope s.heap.objs.size f cd clos
 outer:=outer
 stack:=ZAp qual scope s.heap.objs.size f cd clos::outer
 ex:=[]
 calm:=ZDC
 fn:=λ_=>ZDD
 pn:=[]
 xe:=λ_ _=>False
section
variable{P:Program}{w:World}{K:Zyk}{mg:Str->Option Value}{base:Heap}{A:Around}{outer:List Env}{s:Shared}{H:Hp}{k:Nat}
theorem Zsr{qual x:Str}{scope:Scope}{names:List Str}{f:Addr}{cd:Value}{clos:List (Str × Addr)}(S:ZeO scope x names)(hd:A.handled=Z_)(e0:Zdm P w K mg base A outer s H)
  (inj:∀y z a,clos.lookup y=Z a->clos.lookup z=Z a->y=z) (has:∀y∈scope.names,y.2=.free->(clos.lookup y.1).isSome=ZDC)
  (hcell:∀y a,clos.lookup y=Z a->H a=Z_/\∃o v,s.heap.get? a=Z o/\o.data=.cell v)
  {v:V} {u:Value} (rv:RelV v u) {vs:List V} (hlen:names.length=vs.length) (hcap:∀(i:Nat) (y:Str) (v':V),names[i]?=Z y->vs[i]?=Z v'->∃a o u',clos.lookup y=Z a/\s.heap.get? a=Z o/\o.data=.cell (Z u')/\RelV v' u')
  {h':Heap} {tk:Nat} (hns:h'.Ns s.heap.objs.size λy=>[(x,u)].reverse.lookup y) (hsb:ZAc s.heap.objs.size (s.heap.push { cls:=.type "frame",data:=.dict #[] }) h') :
  Inv (Zh0 P w K mg base (x::names) qual scope f cd clos A outer s H) [] (Z v::vs.map Z) H { s with heap:=h',toks:=tk }:=by
 have hk:∀b o,s.heap.get? b=Z o->h'.get? b=Z o:=λb o e=>hsb.extBut b o (ZyG (ZyB e)) (Zyn _ e);have noA:∀b:Addr,b ∉ (Zh0 P w K mg base (x::names) qual scope f cd clos A outer s H).ex:=λb z=>absurd (show b∈([]:List Addr) from z) (by simp);refine⟨⟨e0.mod,S.kind,rfl,rfl,Zyr _,inj,λy hy=>?_,λy c z=>absurd (show ZDD=ZDC from z) (by simp),λ_=>hd,ZDk e0.frames,.inr ⟨rfl,rfl⟩,λb z=>absurd z (noA b),e0.bs,e0.bsz,λb _ _=>noA b,λb z=>absurd z (noA b),e0.funs,e0.frf⟩,
  rfl,e0.bare,Un.kept hk,⟨_,hns,λi y v' h1 h2 h3=>?_⟩,λy c e=>?_,e0.hok.fresh (Zyr _),λy c e=>(hcell y c e).1,λp hp=>absurd (show p∈([]:List (Addr × Obj)) from hp) (by simp),e0.hok.kept hk,?_⟩
 ·have hy:scope.names.lookup y=Z .cell\/scope.names.lookup y=Z .free:=hy
  rcases hy with hy | hy
  ·exact absurd rfl (S.nocell _ (ZzN hy))
  ·exact Zzg.mp (has _ (ZzN hy) rfl)
 ·cases i with
  | zero=>have e1:x=y:=Zzm h1;have e2:v=v':=Zzm (Zzm h2);subst e1 e2;exact⟨u,rv,.inl ⟨S.par,by simp⟩⟩
  | succ i=>have h1:names[i]?=Z y:=h1;have h2:(vs.map Z)[i]?=Z (Z v'):=h2;rw[ZyI]at h2;obtain⟨v2,h4,h5⟩:=Zyl.mp h2;cases h5;obtain⟨a,o,u',q1,q2,q3,q4⟩:=hcap i y v' h1 h4;exact⟨u',q4,.inr ⟨.inr (S.free y (ZyQ h1)),a,q1,o,hk _ _ q2,q3⟩⟩
 ·obtain⟨_,o,v',q1,q2⟩:=hcell y c e
  exact⟨v',o,hk _ _ q1,q2⟩
 ·show(Z v::vs.map Z).length=(x::names).length
  rw[ZyD,ZyD,Zyj,hlen]
end
end HP
namespace HP
open PySem PySem.Spec PyProof.Rows L2
variable[FX]
def cellsOf(clos:List (Str × Addr)):List Addr:=clos.filterMap λq=>clos.lookup q.1
theorem ZlQ{clos:List (Str × Addr)}{a:Addr}:a∈cellsOf clos↔∃y,clos.lookup y=Z a:=by unfold cellsOf;rw[ZzG];exact⟨λ⟨q,_,h⟩=>⟨q.1,h⟩,λ⟨y,h⟩=>⟨(y,a),ZzN h,h⟩⟩
theorem Tb.cut{P:Program}{w:World}{C:List Addr}{H:Hp}{h:Heap}(t:Tb H)(x:HOk P w H h)(hC:∀c∈C,∃o v,H c=Z (Zaz c o)/\o.data=.cell v):Tb (ZaO C H):=λT q hT=>by
 obtain⟨ps,h1,h2,h3⟩:=t T q hT;refine⟨ps,?_,h2,λpos c hc=>?_⟩
 ·rw[Zae λz=>by
   obtain⟨o,v,e,_⟩:=hC T z;rw[h1]at e; cases e]
  exact h1
 ·obtain⟨a,o,e1,e2,e3⟩:=h3 pos c hc
  refine⟨a,o,e1,?_,e3⟩;rw[Zae λz=>by obtain⟨o',v,f1,f2⟩:=hC a z;have g1:=Za6 (x a _ e2);have g2:=Za6 (x a _ f1);rw[g1]at g2;cases g2;obtain⟨vs,tt,d1,_⟩:=e3;rw[d1]at f2; cases f2];exact e2
section
variable{P:Program}{w:World}{K:Zyk}{mg:Str->Option Value}{base:Heap}{k:Nat}
theorem Zpw{params:Arguments}{body:Expr}{scope:Scope}{x:Str}{names:List Str}{g:HM.EF}(S:ZeO scope x names)
  (hbind:∀(qual:Str) (clos:List (Str × Addr)) (pm cd ctv u:Value),ZB9 (ZDg "<lambda>" qual params body scope clos pm cd ctv) ⟨[u],[]⟩=pure [(x,u)])
  (hbody:∀(qual:Str) (f:Addr) (cd:Value) (clos:List (Str × Addr)) (A:Around) (outer:List Env) (s:Shared) (H:Hp),ZV k (A.deeper (ZAp qual scope s.heap.objs.size f cd clos))->XE (Zh0 P w K mg base (x::names) qual scope f cd clos A outer s H) body g)
  {A:Around} {outer:List Env} {s:Shared} {F H:Hp} {p:Addr} {cs:List PyData} (C:Clo K F p params body scope names cs) (e0:Zdm P w K mg base A outer s H) (sub:Zp F H) (hr:ZV (k+1) A) (tb:Tb H) (nt:NoT F)
  {us:List Value} {vs:List V} {ds:List PyData} {d:PyData} {Q:VK} (rv:Vals vs us) (rs:Zq K F ds vs) (hap:HM.ZhU 1 names.length g cs ds=Z d) (kk:∀v F' H',Ext F H F' H'->Rep K F' d v->Q v H') :
  codeAny (model P w) A (.call (.ref p) ⟨us,[]⟩) (CR CX0 outer P w H s Q E0) s:=by
 unfold HM.ZhU at hap;split at hap
 case isFalse=>cases hap
 rename_i hc;obtain⟨hl1,hl2,hnf⟩:=hc;obtain⟨d0,rfl⟩:=List.length_eq_one_iff.mp hl1;obtain⟨v0,vs',rfl,r0,rs'⟩:=rs.cons_inv;obtain rfl:=rs'.nil_inv;obtain⟨u0,rfl,ru0⟩:=vals1 rv;have hnf0:HM.noF 20 d0=ZDC:=by rw[ZzD,ZyE]at hnf; exact hnf.1
 obtain⟨qual,pm,ctv,c,oc,clos,h1,h2,h3,h4,h5,h6,h7,h8⟩:=C.ex;generalize hCs:cellsOf clos=Cs;have hCm:∀a,a∈Cs↔∃y,clos.lookup y=Z a:=λa=>by rw[<-hCs]; exact ZlQ
 have hCo:∀a∈Cs,∃o v,F a=Z (Zaz a o)/\o.data=.cell v/\s.heap.get? a=Z o:=λa ha=>by obtain⟨y,e⟩:=(hCm a).mp ha;obtain⟨o,v,q1,q2⟩:=h6 y a e;exact⟨o,v,q1,q2,Za6 (e0.hok a _ (sub _ _ q1))⟩
 have hCt:∀a∈Cs,∀o,H a=Z o->te o=ZDC:=λa ha o e=>by obtain⟨ob,v,q1,_,_⟩:=hCo a ha;rw[sub _ _ q1]at e; cases e; rfl
 have hCn:∀a∈Cs,H a≠Z_:=λa ha z=>by obtain⟨ob,v,q1,_,_⟩:=hCo a ha;rw[sub _ _ q1]at z; cases z
 have none1:∀b,H b=Z_->ZaO Cs H b=Z_:=λb e=>by
  by_cases hb:b∈Cs
  ·exact Zg3 hb
  ·rw[Zae hb]; exact e
 have e1:Zdm P w K mg base A outer s (ZaO Cs H):=⟨e0.frames,e0.mod,λb o e=>⟨(e0.bs b o e).1,none1 b (e0.bs b o e).2⟩,e0.bsz,e0.funs,λb hb=>none1 b (e0.frf b hb),HOk.cut e0.hok hCt,e0.bare⟩;have KX:K.In s.heap:=e0.mod.kin.keeps λb o e=>(e0.bs b o e).1;have lim:s.heap.NoLimit:=e0.mod.nolimit.keeps λb o e=>(e0.bs b o e).1;have hcd:s.heap.CodeRec (.ref c) qual:=by obtain⟨vs,t,d1,d2⟩:=h3;exact⟨c,oc,vs,t,rfl,Za6 (e0.hok c _ (sub _ _ h2)),d1,d2⟩
 refine PySem.W.kla_callFunE hr.depth (Za6 (e0.hok p _ (sub _ _ h1))) rfl S.co S.gen rfl hcd ?_;rw[hbind];refine Zym (ZBW S.nocell (λy hy=>by rw[Zyt.mp hy]; exact S.par) (λh' hns hsb=>⟨lim.fresh _ hsb,?_⟩) S.kind);show codeAny _ _ (.expr body (ZAp qual scope s.heap.objs.size p (.ref c) clos)) _ _;have hvs:∃wv:List V,names.length=wv.length/\(∀(i:Nat) (y:Str) (v':V),names[i]?=Z y->wv[i]?=Z v'->∃a o u',clos.lookup y=Z a/\s.heap.get? a=Z o/\o.data=.cell (Z u')/\RelV v' u')/\Zq K (ZaO Cs F) cs wv:=by
  have step:∀n,n<=cs.length->∃wv:List V,wv.length=n/\∀(i:Nat) (y:Str) (d:PyData) (v':V),names[i]?=Z y->cs[i]?=Z d->wv[i]?=Z v'->(∃a o u',clos.lookup y=Z a/\s.heap.get? a=Z o/\o.data=.cell (Z u')/\RelV v' u')/\Rep K (ZaO Cs F) d v':=by
   intro n
   induction n with
   | zero=>exact λ_=>⟨[],rfl,λi y d v' _ _ h=>by simp at h⟩
   | succ n ih =>
    intro hn;obtain⟨wv,l1,l2⟩:=ih (by omega);have hy:n<names.length:=by omega
    have hd:n<cs.length:=by omega
    obtain⟨a,o,u',v',q1,q2,q3,q4,q5⟩:=h8 n names[n] cs[n] (ZyF hy) (ZyF hd);refine⟨wv++[v'],by rw[ZyA,l1]; rfl,λi y d v2 g1 g2 g3=>?_⟩
    by_cases hi:i<n
    ·rw[ZyY (by omega)]at g3
     exact l2 i y d v2 g1 g2 g3
    ·have hin:i=n:=by
      have:=(Zyw.mp g3).1;rw[ZyA,l1]at this;have:i<n+1:=this;omega
     subst hin;rw[Zy0 (by omega),l1,Nat.sub_self]at g3;rw[ZyF hy]at g1;rw[ZyF hd]at g2;cases g1; cases g2; cases g3;refine⟨⟨a,o,u',q1,Za6 (e0.hok a _ (sub _ _ q2)),q3,q4⟩,?_⟩;refine(Rep0.cut (λb ob z t=>?_) q5).up;rw[Zae λhb=>by obtain⟨ob',v,w1,_,_⟩:=hCo b hb;rw[w1]at z; cases z; cases t];exact z
  obtain⟨wv,l1,l2⟩:=step cs.length (Zyr _);refine⟨wv,by omega,λi y v' g1 g3=>?_,by omega,λi d v' g2 g3=>?_⟩
  ·have hi:=(Zyw.mp g3).1
   exact(l2 i y cs[i] v' g1 (ZyF (by omega)) g3).1
  ·have hi:=(Zyw.mp g3).1
   exact(l2 i names[i] d v' (ZyF (by omega)) g2 g3).2
 obtain⟨wv,wl,wc,wr⟩:=hvs;have cutF:∀b o,F b=Z o->te o=ZDD->ZaO Cs F b=Z o:=λb ob z t=>by rw[Zae λhb=>by obtain⟨ob',v,w1,_,_⟩:=hCo b hb;rw[w1]at z; cases z; cases t];exact z
 have r0':Rep K (ZaO Cs F) d0 v0:=(Rep.cutF cutF r0 20 hnf0).up;have sub1:Zp (ZaO Cs F) (ZaO Cs H):=λb o e=>by obtain⟨hb,e⟩:=ZhM e;rw[Zae hb]; exact sub _ _ e
 have nt1:NoT (ZaO Cs F):=λb o e=>nt b o (ZhM e).2;have tb1:Tb (ZaO Cs H):=tb.cut e0.hok λa ha=>by obtain⟨o,v,q1,q2,_⟩:=hCo a ha;exact⟨o,v,sub _ _ q1,q2⟩
 have I:=Zsr (qual:=qual) (f:=p) (cd:=.ref c) (tk:=s.toks+1) S hr.hd e1 h4 h5 (λy a e=>by obtain⟨o,v,q1,q2,q3⟩:=hCo a ((hCm a).mpr ⟨y,e⟩);exact⟨Zg3 ((hCm a).mpr ⟨y,e⟩),o,v,q3,q2⟩) ru0 wl wc hns hsb;have a0:At K (ZaO Cs F) (ZaO Cs H) (ZaO Cs F) (ZaO Cs H) ((d0::cs).map λd=>Z (HM.B.pl d)) (Z v0::wv.map Z):=by
  have:=Zgb (N:=x::names) sub1 tb1 nt1 (Zq.cons r0' wr) (by rw[ZyD,ZyD]; omega);have e3:HM.Zet (x::names).length (d0::cs)=(d0::cs).map λd=>Z (HM.B.pl d):=by unfold HM.Zet;rw[ZyD,ZyD,show names.length+1-(cs.length+1)=0 by omega];exact Zy6 _
  have e4:L2.start (x::names) (v0::wv)=Z v0::wv.map Z:=by unfold L2.start;rw[ZyD,ZyD,show names.length+1-(wv.length+1)=0 by omega];exact Zy6 _
  rw[e3,e4]at this;exact this
 refine PySem.W.kla_codeExpr (Zzw (hbody qual p (.ref c) clos A outer s (ZaO Cs H) (hr.deeper _) _ _ hap [] _ _ _ (λv' H'=>∃F',Ext (ZaO Cs F) (ZaO Cs H) F' H'/\Rep K F' d v') I ⟨_,_,_,a0,λv' F' H' x' q'=>⟨F',x',q'⟩⟩) (λu' s' hq=>?_) λe s' hq=>Zzf hq);obtain⟨v',H',I',ru',F',x',q'⟩:=hq;have un:Un (frs outer) [] (ZaO Cs H) H' s.heap s'.heap:=I'.base;have nfs:∀a∈Cs,a ∉ frs outer:=λa ha hb=>hCn a ha (e0.frf a hb);have kc:∀a∈Cs,∃o,H a=Z (Zaz a o)/\F a=Z (Zaz a o)/\s'.heap.get? a=Z o/\H' a=Z_:=λa ha=>by obtain⟨o,v,q1,q2,q3⟩:=hCo a ha;exact⟨o,sub _ _ q1,q1,un.keep a o q3 (Zg3 ha) (nfs a ha) (by simp),un.free a o q3 (Zg3 ha) (by simp)⟩
 have out:∀{b:Addr} {o:HO},H b=Z o->te o=ZDD->b ∉ Cs:=λ{b o} e t hb=>by rw[hCt b hb o e]at t; cases t
 have outN:∀{b:Addr},H b=Z_->b ∉ Cs:=λ{b} e hb=>hCn b hb e;have outT:∀{b:Addr} {ps:Array Value},H b=Z (.tbl ps)->b ∉ Cs:=λ{b ps} e hb=>by obtain⟨o,q,_⟩:=kc b hb;rw[e]at q; cases q
 refine⟨v',ZgS Cs H H',I'.os,I'.bare,⟨λb o e n hb hx=>?_,λb o e n hb hx=>?_,λb o e n hx=>?_,un.there,λb xs e=>?_,λb o u e=>?_,λb ps e=>?_⟩,HOk.put I'.hok (λa ha=>by obtain⟨_,_,_,_,q⟩:=kc a ha; exact q) (λa ha u e=>?_),ru',kk v' (ZgS Cs F F') (ZgS Cs H H') ⟨λb o e=>?_,λb o e=>?_,λb o e=>?_,λb o e=>?_,λt=>?_,λn b o e=>?_⟩ (q'.mono λb o e=>?_)⟩
 ·exact un.keep b o e (none1 b n) hb hx
 ·exact un.slot b o e (none1 b n) hb hx
 ·rw[Za8 (outN n)]; exact un.free b o e (none1 b n) hx
 ·have hb:=out e rfl
  rw[Za8 hb]; exact un.tups b xs (by rw[Zae hb]; exact e)
 ·have hb:=out e rfl
  rw[Za8 hb]; exact un.frzs b o u (by rw[Zae hb]; exact e)
 ·have hb:=outT e
  rw[Za8 hb]; exact un.tbls b ps (by rw[Zae hb]; exact e)
 ·obtain⟨o,q1,_,q3,_⟩:=kc a ha
  rw[q1]at e; cases e;exact⟨o,rfl,q3⟩
 ·by_cases hb:b∈Cs
  ·rw[ZeM hb]; exact e
  ·rw[Za8 hb]; exact x'.ff b o (by rw[Zae hb]; exact e)
 ·by_cases hb:b∈Cs
  ·exact .of (by rw[ZeM hb]; exact e)
  ·exact(x'.hh b o (by rw[Zae hb]; exact e)).cong (Za8 hb)
 ·by_cases hb:b∈Cs
  ·rw[ZeM hb]at e ⊢; exact sub _ _ e
  ·rw[Za8 hb]at e ⊢; exact x'.sub _ _ e
 ·by_cases hb:b∈Cs
  ·rw[ZeM hb]at e; exact .inl e
  ·rw[Za8 hb]at e
   rcases x'.new b o e with q | q
   ·exact .inl (ZhM q).2
   ·refine .inr ?_
    unfold Fre at q ⊢;rw[Zae hb]at q;exact q
 ·exact(x'.tab tb1).keep λa o e _=>by rw[Za8 λhb=>by obtain⟨_,_,_,_,q⟩:=kc a hb;rw[e]at q; cases q];exact e
 ·by_cases hb:b∈Cs
  ·rw[ZeM hb]at e; exact n b o e
  ·rw[Za8 hb]at e; exact x'.nts nt1 b o e
 ·rw[Za8 λhb=>by
   obtain⟨_,_,_,_,q⟩:=kc b hb;rw[x'.sub _ _ e]at q; cases q]
  exact e
end
end HP
namespace HP
open PySem PySem.Spec PyProof.Rows L2
variable{b:Addr}{o:HO}{F H:Hp}
variable[FX]
theorem ZqT{a b:Int}{cv:Value}(l:List Value)(h:TriplesOk l):∀(pos:Pos) (c:Value),ZCm pos (l++[rawInt a,rawInt b,cv])=Z c->ZCm pos l=Z c\/c=cv:=by
 fun_induction TriplesOk l with
 | case1 =>
  intro pos c e;simp only[ZBf,ZCm,rawInt]at e;split at e
  ·cases e; exact .inr rfl
  ·cases e
 | case2 x t y u z rest ih =>
  intro pos c e;simp only[ZCR,ZCm]at e ⊢;split at e
  ·rename_i hq
   rw[if_pos hq];exact .inl e
  ·rename_i hq
   rw[if_neg hq];exact ih h pos c e
 | case3=>exact h.elim
def BMod(base:Heap)(mg:Str->Option Value):Prop:=∃bm o,mg "__builtins__" = Z (.ref bm)/\bm≠ZCE/\bm≠Zy7/\base.get? bm=Z o/\o.cls=.type "module"/\o.dict=Z ZCE/\o.data=.plain
structure ZmO(X:Cx)(t:Nat)(params:Arguments)(body:Expr)(scope:Scope)(names:List Str)(is:List Nat):Prop where
 code:∃c P,X.env.code=.ref c/\ZzI X.K c P=ZDC/\(P,X.env.qual ++ "<lambda>")∈FX.tl/\∀q,(P,q)∈FX.tl->q=X.env.qual ++ "<lambda>"
 bm:BMod X.base X.mg
 dflt:defaultsOf params X.env=([],[])
 len:is.length=names.length
 at_:∀(j i:Nat) (x:Str),is[j]?=Z i->names[j]?=Z x->X.N[i]?=Z x/\X.env.scope.names.lookup x=Z .cell
 cells:∀y∈scope.names,y.2=.free->X.env.scope.names.lookup y.1=Z .cell
 free:∀x∈names,(x,ZAu)∈scope.names
 own:∀x,X.fn x=ZDC
 good:∀F p cs,Clo X.K F p params body scope names cs->FX.fv t cs F p
section
variable{X:Cx}{t:Nat}{params:Arguments}{body:Expr}{scope:Scope}{names:List Str}{is:List Nat}{pos lpos p:Pos}
structure Made(X:Cx)(params:Arguments)(body:Expr)(scope:Scope)(H H':Hp)(q:Addr)(clos:List (Str × Addr)):Prop where
 ex:∃(pm ctv:Value) (c:Addr) (oc:Obj),H' q=Z (Zaz q (ZB0 "<lambda>" (X.env.qual ++ "<lambda>") params body scope clos pm c ctv))/\H' c=Z (Zaz c oc)/\Zll oc (X.env.qual ++ "<lambda>")
 hh:Zab H H'
 tb:Tb H'
theorem ZnN(L:ZmO X t params body scope names is){pins:List (Addr × Obj)}{s:Shared}{σ:L2.St}(I:Inv X pins σ H s)(tb:Tb H){clos:List (Str × Addr)}(hcl:closureFor scope X.env=pure clos) :
  wpAny (model X.prog X.w) X.A (eval (.Lambda params body scope lpos) X.env) (λu s'=>∃q H',u=.ref q/\Inv X pins σ H' s'/\Made X params body scope H H' q clos) X.xe s:=by
 obtain⟨c,P,hc,hh,hm,hu⟩:=L.code;obtain⟨ps,hP,ht,hg⟩:=tb P _ hm;have gP:s.heap.get? P=Z (ZA4 ps):=I.hok P _ hP;have Ns:=I.mod.glob.keeps I.bk;have CH:PySem.W.CodeHd s.heap c P:=ZDu I.kIn hh;obtain⟨bm,ob,b1,b2,b3,b4,b5,b6,b7⟩:=L.bm;have gb:=I.bk _ _ b4;have hbP:bm≠P:=λz=>by rw[z,gP]at gb; cases gb; cases b5
 have hgP:Zy7≠P:=λz=>by obtain⟨o,es,ep,e,hd,_⟩:=Ns;rw[z,gP]at e; cases e; cases hd
 have BA:s.heap.BuiltinsAt X.mg P:=⟨bm,ob,b1,b2,b3,hbP,gb,b5,b6,b7⟩;refine PySem.W.kla_eval L.dflt ?_;cases hq:ZCm lpos ps.toList with
 | some cv =>
  obtain⟨a,oc,rfl,h1,h2⟩:=hg lpos cv hq;refine PySem.W.kla_makeFunctionHit hcl I.ok.glob Ns hc CH gP ht hq BA λctv h' tk hk hz=>?_;generalize hob:ZB0 "<lambda>" (X.env.qual ++ "<lambda>") params body scope clos ((X.mg "__name__").getD .none) a ctv=fo;have hn:H h'.objs.size=Z_:=I.hok.fresh hz;have hk2:∀b o,s.heap.get? b=Z o->(h'.push fo).get? b=Z o:=λb o e=>Zyn _ (hk b o e);have gq:(h'.push fo).get? h'.objs.size=Z fo:=by rw[<-hob]; exact ZyC _ rfl
  refine⟨h'.objs.size,upd H h'.objs.size (Zaz h'.objs.size fo),rfl,?_,⟨_,ctv,a,oc,by rw[Zx,<-hob],?_,h2⟩,.of (ZjO hn),tb.same (ZjO hn)⟩
  ·subst hob
   exact I.laid (t':=tk) hk2 hz (Zhg gq)
  ·rw[Zy (Zak h1 hn)]; exact h1
 | none =>
  refine PySem.W.kla_makeFunction hcl I.ok.glob Ns hc CH gP ht hq hgP BA λc' ctv h' tk hx hge hlt hrec htab=>?_;generalize hob:ZB0 "<lambda>" (X.env.qual ++ "<lambda>") params body scope clos ((X.mg "__name__").getD .none) c' ctv=fo;generalize hps:ps++#[rawInt lpos.line,rawInt lpos.col,Zzc c']=ps2 at htab;obtain⟨c2,oc,vs,tq,e2,goc,d1,d2⟩:=hrec;cases e2;have hcn:H c'=Z_:=I.hok.fresh hge;have hqn:H h'.objs.size=Z_:=I.hok.fresh (Zy2 hge (Zz3 hlt));have hcq:c'≠h'.objs.size:=ZyG hlt;have hcP:c'≠P:=λz=>by rw[z,hP]at hcn; cases hcn
  have hqP:h'.objs.size≠P:=λz=>by rw[z,hP]at hqn; cases hqn
  have gq:(h'.push fo).get? h'.objs.size=Z fo:=by rw[<-hob]; exact ZyC _ rfl
  have gc:(h'.push fo).get? c'=Z oc:=Zyn _ goc;have gP2:(h'.push fo).get? P=Z (ZA4 ps2):=Zyn _ htab;have hk2:∀b o,b≠P->s.heap.get? b=Z o->(h'.push fo).get? b=Z o:=λb o hb e=>Zyn _ (hx b o hb e);generalize hH':upd (upd (upd H P (.tbl ps2)) c' (Zaz c' oc)) h'.objs.size (Zaz h'.objs.size fo)=H';have aq:H' h'.objs.size=Z (Zaz h'.objs.size fo):=by rw[<-hH',Zx]
  have ac:H' c'=Z (Zaz c' oc):=by rw[<-hH',Zy hcq,Zx]
  have aP:H' P=Z (.tbl ps2):=by rw[<-hH',Zy (Zzt hqP),Zy (Zzt hcP),Zx]
  have ao:∀b,b≠h'.objs.size->b≠c'->b≠P->H' b=H b:=λb n1 n2 n3=>by rw[<-hH',Zy n1,Zy n2,Zy n3]
  have at1:∀b o,H b=Z o->b≠P->H' b=Z o:=λb o e n=>by rw[ao b (Zak e hqn) (Zak e hcn) n]; exact e
  have nP:∀b o,H b=Z o->(∀ps,o≠.tbl ps)->b≠P:=λb o e n z=>by rw[z,hP]at e; cases e; exact n _ rfl
  have old:∀b o,s.heap.get? b=Z o->b≠h'.objs.size/\b≠c':=λb o e=>by have hb:=ZyB e;exact⟨ZyG (ZyO hb (Zy2 hge (Zz3 hlt))),ZyG (ZyO hb hge)⟩
  have hokN:HOk X.prog X.w H' (h'.push fo):=λb o e=>by
   by_cases n1:b=h'.objs.size
   ·subst n1; rw[aq]at e; cases e; exact Zhg gq
   ·by_cases n2:b=c'
    ·subst n2; rw[ac]at e; cases e; exact Zhg gc
    ·by_cases n3:b=P
     ·subst n3; rw[aP]at e; cases e; exact gP2
     ·rw[ao b n1 n2 n3]at e
      refine(I.hok b o e).stay (λd u hd z=>hk2 d u (λy=>?_) z) (λd z=>at1 d _ z (nP d _ z λ_ y=>by cases y)) λd xs z=>at1 d _ z (nP d _ z λ_ y=>by cases y);rcases hd with y2 | y2
      ·exact n3 (y2▸y)
      ·exact nP d _ y2 (λ_ q=>by cases q) y
  have un:Un X.fs [] H H' s.heap (h'.push fo):=by
   refine⟨λb o e n hb hx=>?_,λb o e n hb hx=>?_,λb o e n hx=>?_,λb o e hx=>?_,λb xs e=>at1 b _ e (nP b _ e λ_ y=>by cases y),λb o u e=>at1 b _ e (nP b _ e λ_ y=>by cases y),λb pp e=>?_⟩
   ·exact hk2 b o (λz=>by rw[z,hP]at n; cases n) e
   ·exact⟨o.slots,hk2 b o (λz=>by rw[z,hP]at n; cases n) e⟩
   ·obtain⟨n1,n2⟩:=old b o e
    rw[ao b n1 n2 (λz=>by rw[z,hP]at n; cases n)]; exact n
   ·by_cases n3:b=P
    ·exact⟨_,by rw[n3]; exact gP2⟩
    ·exact⟨o,hk2 b o n3 e⟩
   ·by_cases n3:b=P
    ·subst n3
     rw[hP]at e; cases e;exact⟨_,by rw[aP,<-hps]⟩
    ·exact⟨#[],by rw[at1 b _ e n3]; simp⟩
  refine⟨h'.objs.size,H',rfl,?_,⟨_,ctv,c',oc,by rw[aq,<-hob],ac,vs,tq,d1,d2⟩,λb o e=>?_,λT q hT=>?_⟩
  ·exact I.un (t':=tk) un hokN
  ·by_cases n3:b=P
   ·subst n3
    rw[hP]at e; cases e;exact⟨_,aP⟩
   ·exact .of (at1 b o e n3)
  ·by_cases n3:T=P
   ·subst n3
    obtain rfl:=hu q hT;refine⟨ps2,aP,?_,λpos' cc hcc=>?_⟩
    ·rw[<-hps,Array.toList_append]
     exact TriplesOk_snoc _ _ _ _ ht
    ·rw[<-hps,Array.toList_append]at hcc
     rcases ZqT _ ht _ _ hcc with e | e
     ·obtain⟨a,o,q1,q2,q3⟩:=hg pos' cc e
      exact⟨a,o,q1,at1 a _ q2 (nP a _ q2 λ_ y=>by cases y),q3⟩
     ·exact⟨c',oc,e,ac,vs,tq,d1,d2⟩
   ·obtain⟨ps',w1,w2,w3⟩:=tb T q hT
    refine⟨ps',at1 T _ w1 n3,w2,λpos' cc hcc=>?_⟩;obtain⟨a,o,q1,q2,q3⟩:=w3 pos' cc hcc;exact⟨a,o,q1,at1 a _ q2 (nP a _ q2 λ_ y=>by cases y),q3⟩
theorem ZnF{r:HM.Env}:∀{is:List Nat} {cs:List PyData},HM.ZkF is r=Z cs->cs.length=is.length/\∀(j i:Nat),is[j]?=Z i->∃d,cs[j]?=Z d/\r[i]?=Z (Z (.pl d))
 | [],cs,h=>by cases h; exact⟨rfl,λj i e=>by simp at e⟩
 | i::is,cs,h=>by
  unfold HM.ZkF at h;split at h
  ·rename_i d hd
   obtain⟨cs',h1,h2⟩:=Zyl.mp h;subst h2;obtain⟨l,k⟩:=ZnF h1;refine⟨by rw[ZyD,ZyD,l],λj i' e=>?_⟩;cases j with
   | zero=>cases e; exact⟨d,rfl,hd⟩
   | succ j=>exact k j i' e
  ·cases h
def ZcT(F H:Hp):Hp:=λb=>match H b with
 | some (.ext φ)=>Z (.ext φ)
 | _=>F b
theorem ZeK{a:Addr}{o:Obj}(h:H a=Z (Zaz a o)):ZcT F H a=Z (Zaz a o):=by unfold ZcT Zaz at *;rw[h]
theorem Zf9(h:ZcT F H b=Z o):(H b=Z o/\te o=ZDC)\/F b=Z o:=by
 unfold ZcT at h;split at h
 ·rename_i φ e
  cases h;exact .inl ⟨e,rfl⟩
 ·exact .inr h
theorem ZpB(s:Zp F H)(h:F b=Z o):ZcT F H b=Z o:=by have h2:=s b o h;unfold ZcT;rw[h2];cases o<;>first | rfl | exact h
theorem Zqa{k:Nat}{x:Str}{M:List PyData->Option PyData}{e:Expr}{fa:HM.EF}(C:Callee X.prog X.w X.K X.mg X.base k x M)(hr:ZV k X.A)(L:ZmO X t params body scope names is)(ha:XE X e fa)(hg:Gl X x:=by rfl)(hdb:(x==("__debug__":Str))=ZDD:=by decide)
  (he:Zyz [e,.Lambda params body scope lpos] X.env=(ZDD,eval e X.env)::Zyz [.Lambda params body scope lpos] X.env:=by rfl) (he2:Zyz [.Lambda params body scope lpos] X.env=[(ZDD,eval (.Lambda params body scope lpos) X.env)]:=by rfl)
  (hpl:(backTo pos (Zyz [.Lambda params body scope lpos] X.env)).any (·.1)=ZDD:=by rfl):XE X (.Call (.Name x p) [e,.Lambda params body scope lpos] [] pos) (HM.ZhX M t is fa):=by
 intro r d hd;unfold HM.ZhX at hd;split at hd
 case h_2=>cases hd
 rename_i d1 hd1;split at hd
 case h_2=>cases hd
 rename_i cs hcs;split at hd
 case isFalse=>cases hd
 rename_i hnc;split at hd
 case h_2=>cases hd
 rename_i d' hM;split at hd
 case isFalse=>cases hd
 rename_i hnd;cases hd;obtain⟨fa',fd,ps,hl,FN,hm,hk,hb⟩:=C.ex;intro pins s σ H Q I ⟨F0,H0,F,at_,kk⟩;obtain⟨clos,hcl,hc1,hc2⟩:=Zfd (scope:=scope) (env:=X.env) λy hy hf=>I.ok.has _ (.inl (L.cells y hy hf));refine Zz9 (Zlq I hg hm ?_ hdb);have lamPE:PE X (.Lambda params body scope lpos) λσ' H' Q'=>Tb H'/\∀q H2,Made X params body scope H' H2 q clos->Q' (.ref q) H2:=λpins' s' σ' H' Q' I' ⟨tb',k'⟩=>thn (ZnN L I' tb' hcl) λu s2 ⟨q,H2,e1,I2,m⟩=>by subst e1; exact⟨.ref q,H2,I2,rfl,k' q H2 m⟩
 refine ZDx (h₀:=X.base) I.ok.mod.kin hk (thn (Zaf (ha r d1 hd1) (Zaf lamPE Zbt he2) he pos pins s σ H (λvs H2=>∃v1 F1 H1 q,vs=[v1,.ref q]/\Ext F H F1 H1/\Rep X.K F1 d1 v1/\Made X params body scope H1 H2 q clos) I
  ⟨F0,H0,F,at_,λv F1 H1 x1 r1=>⟨at_.tbx x1,λq H2 m=>⟨v,F1,H1,q,rfl,x1,r1,m⟩⟩⟩) λus s2 ⟨vs,H2,I2,rv,v1,F1,H1,q,ev,x1,r1,m⟩=>⟨I2.kIn,?_⟩) he hpl
 subst ev;have at1:=at_.grow x1;have tb1:=at_.tbx x1;have nt1:=at_.ntx x1;generalize hCs:cellsOf clos=Cs;have hCm:∀a,a∈Cs↔∃y,clos.lookup y=Z a:=λa=>by rw[<-hCs]; exact ZlQ
 have hCc:∀a∈Cs,∃y o v,X.env.cells.lookup y=Z a/\s2.heap.get? a=Z o/\o.data=.cell v/\H2 a=Z_:=λa ha=>by obtain⟨y,e⟩:=(hCm a).mp ha;have e1:=hc1 y a e;obtain⟨v,o,h1,h2⟩:=I2.cell y a e1;exact⟨y,o,v,e1,h1,h2,I2.freeC y a e1⟩
 generalize hG:(λa:Addr=>(s2.heap.get? a).map (Zaz a))=G;have hGo:∀{a:Addr} {o:Obj},s2.heap.get? a=Z o->G a=Z (Zaz a o):=λ{a o} e=>by rw[<-hG]; show ZzY _ _=_; rw[e]; rfl
 generalize hH3:ZgS Cs G H2=H3;have h3in:∀{a:Addr},a∈Cs->∃o v,H3 a=Z (Zaz a o)/\s2.heap.get? a=Z o/\o.data=.cell v:=λ{a} ha=>by obtain⟨y,o,v,_,g1,g2,_⟩:=hCc a ha;exact⟨o,v,by rw[<-hH3,ZeM ha]; exact hGo g1,g1,g2⟩
 have h3out:∀{a:Addr},a ∉ Cs->H3 a=H2 a:=λ{a} ha=>by rw[<-hH3,Za8 ha]
 have s23:Zp H2 H3:=λb o z=>by rw[h3out λhb=>by obtain⟨_,_,_,_,_,_,g⟩:=hCc b hb;rw[g]at z; cases z];exact z
 have cge:∀a∈Cs,X.s₀.heap.objs.size<=a:=λa ha=>by obtain⟨y,_,_,e1,_⟩:=hCc a ha;exact I.ok.cab y a (L.own y) e1
 have hok3:HOk X.prog X.w H3 s2.heap:=by rw[<-hH3];refine HOk.put I2.hok (λa ha=>by obtain⟨_,_,_,_,_,_,g⟩:=hCc a ha; exact g) λa ha u e=>?_;obtain⟨y,o,v,_,g1,g2,_⟩:=hCc a ha;rw[hGo g1]at e; cases e;exact⟨o,rfl,g1⟩
 have E2:=I2.env0;have cfr:∀b∈frs X.stack,b ∉ Cs:=λb hb hc=>by
  obtain⟨y,o,v,e1,g1,g2,_⟩:=hCc b hc;rcases ZyH.mp (I2.stkSub b hb)with z | z
  ·exact I2.cne y b e1 z
  ·obtain⟨_,o',ho',_⟩:=I.ok.funs.mem z
   exact absurd (ZyO (ZyB ho') (cge b hc)) (Zz5 _)
 have E3:Zdm X.prog X.w X.K X.mg X.base X.A X.stack s2 H3:=⟨E2.frames,E2.mod,λb o z=>⟨(E2.bs b o z).1,by rw[h3out λhb=>absurd (ZyO (ZyB z) (Zy2 I.ok.bsz (cge b hb))) (Zz5 _)];exact(E2.bs b o z).2⟩,E2.bsz,E2.funs,λb hb=>by rw[h3out (cfr b hb)]; exact E2.frf b hb,hok3,E2.bare⟩;have s12:Zp F1 H2:=λb o z=>m.hh.ntb (x1.sub b o z) (nt1 b o z);have s13:Zp F1 H3:=s12.trans s23;have ff:Zp F1 (ZcT F1 H3):=λb o z=>ZpB s13 z;have s33:Zp (ZcT F1 H3) H3:=λb o z=>by
  rcases Zf9 z with⟨w,_⟩ | w
  ·exact w
  ·exact s13 b o w
 have nt3:NoT (ZcT F1 H3):=λb o z=>by
  rcases Zf9 z with⟨w1,w2⟩ | w
  ·unfold ZcT at z
   split at z
   ·cases z; rfl
   ·exact nt1 b o z
  ·exact nt1 b o w
 have tb3:Tb H3:=m.tb.same s23;obtain⟨pm,ctv,c,oc,m1,m2,m3⟩:=m.ex;obtain⟨cl1,cl2⟩:=ZnF hcs;have clo:Clo X.K (ZcT F1 H3) q params body scope names cs:=by
  refine⟨_,pm,ctv,c,oc,clos,ZeK (s23 _ _ m1),ZeK (s23 _ _ m2),m3,λy z a g1 g2=>I.ok.inj y z a (hc1 y a g1) (hc1 z a g2),hc2,λy a g=>?_,by rw[cl1,L.len],λj y dj g1 g2=>?_⟩
  ·obtain⟨o,v,w1,w2,w3⟩:=h3in ((hCm a).mpr ⟨y,g⟩)
   exact⟨o,v,ZeK w1,w3⟩
  ·have hj:j<is.length:=by rw[L.len]; exact(Zyw.mp g1).1
   obtain⟨dj',g3,g4⟩:=cl2 j is[j] (ZyF hj);rw[g2]at g3;cases g3;obtain⟨hN,hkind⟩:=L.at_ j is[j] y (ZyF hj) g1;obtain⟨v,w1,w2⟩:=at1.plain g4;obtain⟨mm,_,hloc⟩:=I2.loc;obtain⟨u,ru,lk⟩:=hloc is[j] y v hN w1 (.inr (.inl hkind));have hfr:=hc2 _ (L.free y (ZyQ g1)) rfl;obtain⟨a,hal⟩:=Zzg.mp hfr;rcases lk with⟨k1,_⟩ | ⟨_,a',k1,o,k2,k3⟩
   ·rw[show X.env.kindOf y=Z .cell from hkind]at k1; cases k1
   ·rw[hc1 y a hal]at k1
    cases k1;obtain⟨o',v',z1,z2,z3⟩:=h3in ((hCm a).mpr ⟨y,hal⟩);rw[k2]at z2;cases z2;refine⟨a,o,u,v,hal,ZeK z1,k3,ru,Rep.cutF (λb ob z _=>ff b ob z) w2 20 ?_⟩;exact Zys.mp hnc dj (ZyQ g2)
 have fv:=L.good _ _ _ clo;have hlen:=hl _ _ hM;refine ZBS (ZzU (FN.run X.A X.stack s2 H3 ⟨us,[]⟩ us [v1,.ref q] (λv H4=>∃F4,Ext (ZcT F1 H3) H3 F4 H4/\Rep X.K F4 d v) E0 hr E3 (by
  have:=hb s2 us I2.kIn (by rw[Zy6,<-rv.length]; exact hlen)
  rwa [Zy6]at this) rv ⟨ZcT F1 H3,_,d,hlen,s33,tb3,nt3,.cons (r1.mono ff) (.one (.fn fv)),hM,λv F4 H4 x4 q4=>⟨F4,x4,q4⟩⟩) λrs s4 hq=>?_)
 cases rs with
 | error e=>exact Zzf hq
 | ok fl =>
  cases fl with
  | next=>exact Zzf hq
  | brk=>exact Zzf hq
  | cont=>exact Zzf hq
  | ret u =>
   obtain⟨v,H4,os,bare,un,hok4,ru,F4,x4,q4⟩:=hq;have c4:∀{a:Addr},a∈Cs->∃o v,H4 a=Z (Zaz a o)/\s2.heap.get? a=Z o/\s4.heap.get? a=Z o/\o.data=.cell v:=λ{a} ha=>by obtain⟨o,v,w1,w2,w3⟩:=h3in ha;have w4:H4 a=Z (Zaz a o):=x4.hh.ntb w1 rfl;exact⟨o,v,w4,w2,Za6 (hok4 a _ w4),w3⟩
   have out4:∀{b:Addr} {o:HO},H2 b=Z o->b ∉ Cs:=λ{b o} z hb=>by obtain⟨_,_,_,_,_,_,g⟩:=hCc b hb;rw[g]at z; cases z
   generalize hF5:(λb:Addr=>match F4 b with | some o=>if te o=ZDC then F1 b else Z o | none=>Z_)=F5;have f5:∀{b:Addr} {o:HO},F5 b=Z o->(F4 b=Z o/\te o=ZDD)\/F1 b=Z o:=λ{b o} z=>by
    rw[<-hF5]at z;dsimp only at z;split at z
    ·rename_i o' w
     split at z
     ·exact .inr z
     ·rename_i n
      cases z;exact .inl ⟨w,by simpa using n⟩
    ·cases z
   have f5a:∀{b:Addr} {o:HO},F4 b=Z o->te o=ZDD->F5 b=Z o:=λ{b o} z n=>by rw[<-hF5]; dsimp only; rw[z]; dsimp only; rw[if_neg (by rw[n]; simp)]
   have f5b:∀{b:Addr} {o:HO},F1 b=Z o->F5 b=Z o:=λ{b o} z=>by
    have w:=x4.ff b o (ff b o z)
    by_cases n:te o=ZDC
    ·rw[<-hF5]; dsimp only; rw[w]; dsimp only; rw[if_pos n]; exact z
    ·exact f5a w (by simpa using n)
   have sub5:Zp F5 (ZaO Cs H4):=λb o z=>by
    rcases f5 z with⟨w,n⟩ | w
    ·rw[Zae λhb=>by
      obtain⟨_,_,g,_⟩:=c4 hb;rw[x4.sub b o w]at g; cases g; cases n]
     exact x4.sub b o w
    ·rw[Zae (out4 (s12 b o w))]
     exact x4.sub b o (x4.ff b o (ff b o w))
   refine I2.after ⟨v,ZaO Cs H4,os,bare,⟨λb o e n hb hx=>?_,λb o e n hb hx=>?_,λb o e n hx=>?_,un.there,λb xs e=>?_,λb o w e=>?_,λb pp e=>?_⟩,HOk.cut hok4 (λa ha o e=>?_),ru,kk v F5 (ZaO Cs H4) (x1.trans ⟨λb o z=>f5b z,λb o z=>?_,sub5,λb o z=>?_,λtb=>?_,λ_ b o z=>?_⟩) ((Rep.cutF (λb o z n=>f5a z n) q4 20 hnd).up)⟩
   ·by_cases hc:b∈Cs
    ·obtain⟨o',_,_,w2,w3,_⟩:=c4 hc
     rw[e]at w2; cases w2; exact w3
    ·exact un.keep b o e (by rw[h3out hc]; exact n) hb hx
   ·exact un.slot b o e (by rw[h3out (cfr b hb)]; exact n) hb hx
   ·by_cases hc:b∈Cs
    ·exact Zg3 hc
    ·rw[Zae hc]; exact un.free b o e (by rw[h3out hc]; exact n) hx
   ·rw[Zae (out4 e)]; exact un.tups b xs (s23 _ _ e)
   ·rw[Zae (out4 e)]; exact un.frzs b o w (s23 _ _ e)
   ·rw[Zae (out4 e)]; exact un.tbls b pp (s23 _ _ e)
   ·obtain⟨o',_,g,_⟩:=c4 ha
    rw[g]at e; cases e; rfl
   ·-- tracked things stay
    have z2:=m.hh b o z;have key:∀{u:HO},H2 b=Z u->ZcW (ZaO Cs H4) b u:=λ{u} w=>(x4.hh b u (s23 b u w)).cong (Zae (out4 w));cases o<;>first | exact key z2 | (obtain⟨pp,w⟩:=z2; exact(show ∃ps',_ from key w))
   ·rcases f5 z with⟨w,n⟩ | w
    ·rcases x4.new b o w with y | y
     ·rcases Zf9 y with⟨_,y2⟩ | y2
      ·rw[n]at y2; cases y2
      ·exact .inl y2
     ·refine .inr ?_
      have hcb:b ∉ Cs:=λhb=>by
       obtain⟨o',_,g,_⟩:=h3in hb;rcases y with y | ⟨xs,_,y⟩
       ·rw[g]at y; cases y
       ·rw[g]at y; cases y
      rcases y with y | ⟨xs,y1,y2⟩
      ·rw[h3out hcb]at y
       exact .inl (m.hh.free y)
      ·rw[h3out hcb]at y2
       cases w1:H1 b with
       | none=>exact .inl w1
       | some u =>
        have:=m.hh.back w1 y2 λ_ q=>by cases q
        subst this;exact .inr ⟨xs,y1,w1⟩
    ·exact .inl w
   ·refine(x4.tab tb3).cut hok4 λa ha=>?_
    obtain⟨o,v',g1,_,_,g4⟩:=c4 ha;exact⟨o,v',g1,g4⟩
   ·rcases f5 z with⟨w,_⟩ | w
    ·exact x4.nts nt3 b o w
    ·exact nt1 b o w
end
end HP
namespace HP
open PySem
open Sem (wp)
open AutoSeq1 (wpAny_loadPart')
end HP
namespace HP
open PySem PySem.Spec PyProof.Rows L2
variable{a c f:Addr}{A:Around}{fd:FuncData}{base:Heap}{H:Hp}{tabs:List (Addr × Addr)}{outer:List Env}{N:List Str}{P:Program}{K:Zyk}{s:Shared}{qual x:Str}{mg:Str->Option Value}{w:World}
structure ZoJ(K:Zyk)(x qual:Str)(st:Stmt)(f:Addr)(fd:FuncData)(c:Addr):Prop where
 ex:∃(oc:Value) (od:Option Addr) (kV doc pm:Value) (an:Option Addr) (ct:Value) (osl:Array (Option Value)),
  fd=ZzE x qual (Zb2 st) (Zaw st) (Ze st) .none kV doc pm an (.ref c) ct/\K.lookup f=Z ⟨oc,od,.func fd,osl⟩/\ZAl K (.ref c) qual=ZDC
 kp:ZzJ K (.ref f)=ZDC
theorem Zur{st:Stmt}{oc:Value}{od an:Option Addr}{osl:Array (Option Value)}{kV doc pm ct:Value}(l:K.lookup f=Z ⟨oc,od,.func (ZzE x qual (Zb2 st) (Zaw st) (Ze st) .none kV doc pm an (.ref c) ct),osl⟩)
  (h:ZAl K (.ref c) qual=ZDC) (k:ZzJ K (.ref f)=ZDC):ZoJ K x qual st f (ZzE x qual (Zb2 st) (Zaw st) (Ze st) .none kV doc pm an (.ref c) ct) c:=⟨⟨oc,od,kV,doc,pm,an,ct,osl,rfl,l,h⟩,k⟩
section
variable[FX]
theorem ZkV{k:Nat}{st:Stmt}{ps:List Str}{g:HM.SF}(Fn:ZoJ K x qual st f fd c)(S:Zs N ps (Ze st))(hm:mg x=Z (.ref f))(hb:Binds K fd ps [])
  (body:∀(A:Around) (outer:List Env) (s:Shared) (H:Hp) (E:XK),ZV k (A.deeper (envOfC qual (Ze st) s.heap.objs.size f (.ref c)))->XSs (Zfc CX0 P w K mg base N qual (Ze st) f (.ref c) A outer s H E).nox (Zaw st) g) :
  Callee P w K mg base (k+1) x (HM.fnOf ps.length N.length g):=by
 have hpl:ps.length<=N.length:=by have:=congrArg Zy8 S.pre; rw[ZzH]at this; omega
 refine⟨f,fd,ps,λds d h=>?_,?_,hm,Fn.kp,hb⟩
 ·unfold HM.fnOf at h
  split at h
  ·assumption
  ·cases h
 ·obtain⟨oc,od,kV,doc,pm,an,ct,osl,rfl,lk,hcd⟩:=Fn.ex
  refine ZtT lk hcd S (λvs H Q E h=>by obtain⟨_,_,_,h,_⟩:=h; exact h) λA outer s H vs Q E hr h=>?_;obtain⟨F,ds,d,hl,sub,tb,nt,q,hM,kk⟩:=h;unfold HM.fnOf at hM;split at hM
  ·rename_i hds
   have a0:=Zgb (N:=N) sub tb nt q (by omega);split at hM
   ·rename_i r hr'
    cases hM;exact⟨_,(body A outer s H E hr _ _ hr').nox,F,H,F,a0,λσ F' H' a'=>kk .non F' H' a'.ext .non⟩
   ·rename_i d' hr'
    cases hM;exact⟨_,(body A outer s H E hr _ _ hr').nox,F,H,F,a0,λv F' H' x q=>kk v F' H' x q⟩
   ·cases hM
  ·cases hM
def ZmN(N:List Str)(sc scope:Scope)(names:List Str)(is:List Nat):Bool :=
 decide (is.length=names.length)&&(is.zip names).all (λq=>decide (N[q.1]?=Z q.2)&&decide (sc.names.lookup q.2=Z .cell))&&scope.names.all (λy=>decide (y.2≠.free)||decide (sc.names.lookup y.1=Z .cell))&&names.all λx=>decide ((x,ZAu)∈scope.names)
theorem Zon{X:Cx}{t:Nat}{params:Arguments}{body:Expr}{scope sc:Scope}{names:List Str}{is:List Nat}{T:Addr}{q:Str}(ck:ZmN N sc scope names is=ZDC)(h1:ZzI X.K c T=ZDC)(h2:(T,q)∈FX.tl)(h3:∀q',(T,q')∈FX.tl->q'=q)(bm:BMod X.base X.mg)
  (good:∀F p cs,Clo X.K F p params body scope names cs->FX.fv t cs F p) (hN:X.N=N:=by rfl) (hs:X.env.scope=sc:=by rfl) (hc:X.env.code=.ref c:=by rfl) (hq:X.env.qual ++ "<lambda>" = q:=by rfl) (hd:defaultsOf params X.env=([],[]):=by rfl) (ho:∀x,X.fn x=ZDC:=by exact λ_=>rfl) :
  ZmO X t params body scope names is:=by
 unfold ZmN at ck;rw[ZyE,ZyE,ZyE]at ck;obtain⟨⟨⟨k1,k2⟩,k3⟩,k4⟩:=ck;refine⟨⟨c,T,hc,h1,by rw[hq]; exact h2,λq' z=>by rw[hq]; exact h3 q' z⟩,bm,hd,of_decide_eq_true k1,λj i x e1 e2=>?_,λy hy hf=>?_,λx hx=>?_,ho,good⟩
 ·have:(i,x)∈is.zip names:=ZyQ (i:=j) (by rw[List.getElem?_zip_eq_some]; exact⟨e1,e2⟩)
  have:=Zys.mp k2 _ this;rw[ZyE]at this;rw[hN,hs];exact⟨of_decide_eq_true this.1,of_decide_eq_true this.2⟩
 ·have:=Zys.mp k3 y hy
  rw[ZzQ]at this;rw[hs];rcases this with z | z
  ·exact absurd hf (of_decide_eq_true z)
  ·exact of_decide_eq_true z
 ·exact of_decide_eq_true (Zys.mp k4 x hx)
theorem Zun{st:Stmt}(Fn:Fun K x qual st f fd)(hm:mg x=Z (.ref f))(ha:mg x=Z (.ref a))(e0:Zdm P w K mg base A outer s H):ZDA a s.heap:=by rw[hm]at ha;cases ha;obtain⟨oc,od,kV,doc,pm,an,cdv,ct,osl,rfl,lk,hcd⟩:=Fn.ex;have KX:K.In s.heap:=e0.mod.kin.keeps λb o e=>(e0.bs b o e).1;exact⟨_,_,_,_,KX _ _ lk⟩
theorem ZtF{k:Nat}{M:List PyData->Option PyData}(C:Callee P w K mg base k x M)(ha:mg x=Z (.ref a)){F:Hp}(e0:Zdm P w K mg base A outer s H)(sub:Zp F H)
  {us:List Value} {vs:List V} {ds:List PyData} {d:PyData} {Q:VK} (hr:ZV k A) (tb:Tb H) (nt:NoT F) (rv:Vals vs us) (rs:Zq K F ds vs) (hM:M ds=Z d) (kk:∀v F' H',Ext F H F' H'->Rep K F' d v->Q v H') :
  codeAny (model P w) A (.call (.ref a) ⟨us,[]⟩) (CR CX0 outer P w H s Q E0) s:=by
 obtain⟨f,fd,ps,hl,FN,hm,hk,hb⟩:=C.ex;rw[hm]at ha;cases ha;have KX:K.In s.heap:=e0.mod.kin.keeps λb o e=>(e0.bs b o e).1;have hlen:vs.length=ps.length:=by rw[<-rs.1]; exact hl _ _ hM
 refine FN.run A outer s H ⟨us,[]⟩ us vs Q E0 hr e0 ?_ rv ⟨F,ds,d,hlen,sub,tb,nt,rs,hM,kk⟩;have:=hb s us KX (by rw[Zy6,<-rv.length]; exact hlen)
 rwa [Zy6]at this
end
def ZmL(tabs:List Addr)(H:Hp):Prop:=(∀b,H b=Z_\/(∃o xs,H b=Z (.frz o (.lst xs)))\/H b=Z (.tbl #[]))/\∀T∈tabs,H T=Z (.tbl #[])
theorem Zry{mb:Str->Option Value}{k:Nat}{fa:Addr}{sp:Sp}{s₁:Shared}{vs:List Value}{ns:List Int}
  (hT:∀q∈tabs,ZzI K q.1 q.2=ZDC/\K.lookup q.2=Z_/\s₁.heap.get? q.2=Z (ZA4 #[]))
  (KX:K.In s₁.heap) (hns:s₁.heap.Ns Zy7 mg) (hb:s₁.heap.Ns ZCE mb) (hbb:∀x:Str,x ≠ "__name__"->mb x=Zzl x) (hlim:s₁.heap.NoLimit) (hg:s₁.gens=#[])
  (ha:s₁.heap.get? a=Z { cls:=.type "list",data:=.seq vs.toArray }) (hi:IntsAre vs ns) (hl:ns.length<=sizeLine) (hr:ZV k callerA)
  (hbm:PyProof.Rows.BMain s₁.heap mg) (F:∀base:Heap,K.In base->base.Ns Zy7 mg->BMod base mg->Zc8 P w K mg base CX0 k fa fd [x] sp) (hbind:∀(s:Shared) (u:Value),BindsTo s fd ⟨[u],[]⟩ [(x,u)])
  (hsp:∀H:Hp,ZmL (tabs.map (·.2)) H->SqL K H a (ns.map V.int)->sp [.ref a] H (λv _=>v=.bl ZDC) λ_ _ _=>False) :
  codeAny (model P w) callerA (.call (.ref fa) ⟨[.ref a],[]⟩) (λr s'=>r=.ok (.ret (.bool ZDC))/\OldK s₁.heap s'.heap/\s'.os=s₁.os/\AllBare s'.gens) s₁:=by
 have rv:=ZlO hi;have lenV:=hi.length;have tne:∀q∈tabs,q.2≠a:=λq hq z=>by have:=(hT q hq).2.2;rw[z,ha]at this; cases this
 have core:∀oS:Option HO,(oS=Z_\/∃o xs,oS=Z (.frz o (.lst xs)))->(∀H:Hp,H a=oS->SqL K H a (ns.map V.int))->(∀H:Hp,∀u,oS=Z u->ZW P w H s₁.heap a u)->(oS≠Z_->K.lookup a=Z_) ->
   codeAny (model P w) callerA (.call (.ref fa) ⟨[.ref a],[]⟩) (λr s'=>r=.ok (.ret (.bool ZDC))/\OldK s₁.heap s'.heap/\s'.os=s₁.os/\AllBare s'.gens) s₁:=by
  intro oS hO hS hok0 hK;generalize hH:(λb:Addr=>if b=a then oS else if b∈tabs.map (·.2)then Z (HO.tbl #[])else Z_)=H;have Ha:H a=oS:=by rw[<-hH]; exact if_pos rfl
  have Ht:∀T∈tabs.map (·.2),H T=Z (.tbl #[]):=λT hT'=>by obtain⟨q,hq,e⟩:=Zyy.mp hT';rw[<-hH];show(if T=a then oS else if T∈tabs.map (·.2)then Z (HO.tbl #[])else Z_)=_;rw[if_neg (by rw[<-e]; exact tne q hq),if_pos hT']
  have Hc:∀b u,H b=Z u->(b=a/\oS=Z u)\/(b∈tabs.map (·.2)/\u=.tbl #[]):=λb u e=>by
   rw[<-hH]at e;dsimp only at e;split at e
   ·rename_i h; exact .inl ⟨h,e⟩
   ·split at e
    ·rename_i h; cases e; exact .inr ⟨h,rfl⟩
    ·cases e
  have tget:∀T∈tabs.map (·.2),s₁.heap.get? T=Z (ZA4 #[])/\K.lookup T=Z_/\∃c,ZzI K c T=ZDC:=λT hT'=>by obtain⟨q,hq,e⟩:=Zyy.mp hT';subst e;exact⟨(hT q hq).2.2,(hT q hq).2.1,q.1,(hT q hq).1⟩
  have hok:HOk P w H s₁.heap:=λb u e=>by
   rcases Hc b u e with⟨rfl,e'⟩ | ⟨h,rfl⟩
   ·exact hok0 H u e'
   ·exact(tget b h).1
  have base_of:∀{b:Addr} {o:Obj},s₁.heap.get? b=Z o->H b=Z_->(ZgL s₁.heap H).get? b=Z o:=λe n=>Ztq e n;have noA:∀{b:Addr} {o:Obj} {es:Array DictEntry} {ep:Nat},s₁.heap.get? b=Z o->o.data=.dict es ep->H b=Z_:=λ{b o es ep} e d=>by
   cases q:H b with
   | none=>rfl
   | some u =>
    rcases Hc b u q with⟨rfl,_⟩ | ⟨h,_⟩
    ·rw[ha]at e; cases e
     have d':Data.seq vs.toArray _=Data.dict es ep:=d;cases d'
    ·rw[(tget b h).1]at e; cases e; cases d
  have nsK:∀{b:Addr} {m:Str->Option Value},s₁.heap.Ns b m->(ZgL s₁.heap H).Ns b m:=λ{b m} ⟨o,es,ep,e,d,r⟩=>⟨o,es,ep,base_of e (noA e d),d,r⟩;have hKb:K.In (ZgL s₁.heap H):=λb o e=>base_of (KX b o e) (by
   cases q:H b with
   | none=>rfl
   | some u =>
    rcases Hc b u q with⟨rfl,e'⟩ | ⟨h,_⟩
    ·rw[hK (by rw[e']; simp)]at e; cases e
    ·rw[(tget b h).2.1]at e; cases e)
  have hM:Mod K mg (ZgL s₁.heap H):=⟨hKb,nsK hns,⟨mb,nsK hb,hbb⟩,let ⟨mc,h1,h2⟩:=hlim; ⟨mc,nsK h1,h2⟩⟩;have e0:Zdm P w K mg (ZgL s₁.heap H) callerA [] s₁ H:=⟨rfl,hM,λb o e=>ZuD e,ZA3 (Zsx _ _),trivial,λb hb=>absurd (show b∈([]:List Addr) from hb) (by simp),hok,.of_eq hg⟩;have hOT:ZmL (tabs.map (·.2)) H:=⟨λb=>by
   cases q:H b with
   | none=>exact .inl rfl
   | some u =>
    rcases Hc b u q with⟨_,e'⟩ | ⟨_,rfl⟩
    ·rcases hO with z | ⟨o,xs,z⟩
     ·rw[z]at e'; cases e'
     ·rw[z]at e'; cases e'; exact .inr (.inl ⟨o,xs,rfl⟩)
    ·exact .inr (.inr rfl),Ht⟩
  have hBM:BMod (ZgL s₁.heap H) mg:=by
   obtain⟨bm,ob,b1,b2,b3,b4,b5,b6⟩:=hbm;refine⟨bm,ob,b1,b2,λz=>?_,base_of b3 ?_,b4,b5,b6⟩
   ·obtain⟨o,es,ep,e,d,_⟩:=hns
    rw[z,e]at b3; cases b3; rw[b6]at d; cases d
   ·cases q:H bm with
    | none=>rfl
    | some u =>
     rcases Hc bm u q with⟨z,_⟩ | ⟨h,_⟩
     ·rw[z,ha]at b3; cases b3; exact absurd (show(ZAo "list":Value)=.type "module" from b4) (by decide)
     ·rw[(tget bm h).1]at b3; cases b3; cases b4
  refine ZzU ((F _ hKb (nsK hns) hBM).run callerA [] s₁ H ⟨[.ref a],[]⟩ [.ref a] [.ref a] _ _ hr e0 (hbind s₁ (.ref a)) (.cons rfl .nil) (hsp H hOT (hS H Ha))) λr s' h=>?_;cases r with
  | error e=>exact Zzf h
  | ok fl =>
   cases fl with
   | next=>exact Zzf h
   | brk=>exact Zzf h
   | cont=>exact Zzf h
   | ret u =>
    obtain⟨v,H',os,bare,un,hok',r',q⟩:=h;have q':v=.bl ZDC:=q;subst q';obtain rfl:u=Value.bool ZDC:=r';refine⟨rfl,⟨λb o e=>?_,λb o e=>un.there b o e (by simp)⟩,os,bare⟩;cases q:H b with
    | none=>exact .inl (un.keep b o e q (by intro z; exact absurd (show b∈([]:List Addr) from z) (by simp)) (by simp))
    | some u =>
     rcases Hc b u q with⟨rfl,e'⟩ | ⟨h,rfl⟩
     ·rcases hO with z | ⟨ob,xs,z⟩
      ·rw[z]at e'; cases e'
      ·rw[z]at e'; cases e'
       have z2:=un.frzs _ ob _ q;obtain⟨e1,_⟩:=hok _ _ q;obtain⟨e2,_⟩:=hok' _ _ z2;rw[e]at e1; cases e1;exact .inl e2
     ·obtain⟨g1,_,c,g3⟩:=tget b h
      rw[g1]at e; cases e;obtain⟨more,z2⟩:=un.tbls b _ q;have z3:s'.heap.get? b=Z { cls:=.none,data:=.fields (#[]++more) }:=hok' b _ z2;refine .inr (.inl ⟨((ZDu KX g3).tab g1).isCodeTable,rfl,#[],more,rfl,z3⟩)
 cases hk:K.lookup a with
 | some o=>have e:=KX a o hk;rw[ha]at e;cases e;exact core Z_ (.inl rfl) (λH _=>.inr ⟨_,vs.toArray,_,hk,rfl,rfl,rfl,by rw[Zyu,lenV]; exact hl,by simpa using rv⟩) (λH u z=>by cases z) λz=>absurd rfl z
 | none=>refine core (Z (.frz { cls:=.type "list",data:=.seq vs.toArray } (.lst (ns.map V.int)))) (.inr ⟨_,_,rfl⟩) (λH e=>.inl (.inr ⟨_,e⟩)) (λH u z=>?_) λ_=>hk;cases z;exact⟨ha,by rw[Zyj]; exact hl,vs,_,rv,ha⟩
theorem ZsL{l:ZC0}{n k:Nat}{q:Program}{loose:List Str}{XP:(Str->Option Value)->Heap->Prop}{YP:World->Heap->Prop}{d:DefRec}{K:Params->Zyk}{sp:World->Sp}
  (hn:l.most=Z n) (hn2:n<=sizeLine) (hdf:d.params.defaults=[]) (hr:ZV k callerA)
  (hY:∀(w:World) (h:Heap),YP w h->(K w.params).In h) (hYT:∀(w:World) (h:Heap),YP w h->∀q∈tabs,h.get? q.2=Z (ZA4 #[]))
  (hT:∀(w:World),∀q∈tabs,ZzI (K w.params) q.1 q.2=ZDC/\(K w.params).lookup q.2=Z_)
  (F:∀(w:World) (mg:Str->Option Value) (fa:Addr) (h:Heap),(K w.params).In h->h.Ns Zy7 mg->mg d.name=Z (.ref fa) ->
   ∃fd:FuncData,(∀(s:Shared) (u:Value),BindsTo s fd ⟨[u],[]⟩ [(x,u)]) /\
    ∀base:Heap,(K w.params).In base->base.Ns Zy7 mg->BMod base mg->Zc8 l.prog w (K w.params) mg base CX0 k fa fd [x] (sp w))
  (hsp:∀(w:World) (H:Hp) (a:Addr) (ns:List Int),ns.length<=n->ZmL (tabs.map (·.2)) H->SqL (K w.params) H a (ns.map V.int)->sp w [.ref a] H (λv _=>v=.bl ZDC) λ_ _ _=>False) :
  PySem.W.WalkO q loose XP YP l.row.toRowW d [] (λf vs=>PySem.call f vs):=by
 refine Att.Zpj hn hdf λw s₀ s₁ mg mb fa o pm cd doc a vs ns G Y ho hd hcd hmg hobj hints hlen hg=>?_;have KX:=hY w _ Y;obtain⟨fd,hb,hF⟩:=F w mg fa _ KX G.T.g hmg;exact Zry (λq hq=>⟨(hT w q hq).1,(hT w q hq).2,hYT w _ Y q hq⟩) KX G.T.g G.T.b G.T.builtins G.T.nolimit hg hobj hints (Zy2 hlen hn2) hr G.T.bmain hF hb λH hO hS=>hsp w H a ns hlen hO hS
end HP
namespace HP
open PySem PySem.Spec PyProof.Rows L2
def Zxa:Stmt->Option (Arguments × Expr × Scope)
 | .Return (Z (.Call _ [_,.Lambda a b s _] _ _)) _=>Z (a,b,s)
 | .Assign _ (.Call _ [_,.Lambda a b s _] _ _) _=>Z (a,b,s)
 | .Return (Z (.Call _ [_] [⟨_,.Lambda a b s _,_⟩] _)) _=>Z (a,b,s)
 | _=>Z_
def Zld(st:Stmt):Arguments × Expr × Scope:=((Zaw st).findSome? Zxa).getD default
abbrev Zq3(st:Stmt):Arguments:=(Zld st).1
abbrev Zln(st:Stmt):Expr:=(Zld st).2.1
abbrev Zff(st:Stmt):Scope:=(Zld st).2.2
theorem ZrJ{P:Program}{w:World}{K:Zyk}{mg:Str->Option Value}{base:Heap}{A:Around}{outer:List Env}{s:Shared}{F H:Hp}{p:Addr}{params:Arguments}{body:Expr}{scope:Scope}{names:List Str}{cs:List PyData}
  (C:Clo K F p params body scope names cs) (e0:Zdm P w K mg base A outer s H) (sub:Zp F H):ZDA p s.heap:=by
 obtain⟨qual,pm,ctv,c,oc,clos,h1,_⟩:=C.ex;exact⟨_,_,_,_,Za6 (e0.hok p _ (sub _ _ h1))⟩
section
variable[FX]
theorem ZvB{K:Zyk}{M:List PyData->Option PyData}{H:Hp}{a:Addr}{ns:List Int}{tabs:List Addr}(hO:ZmL tabs H)(ht:∀T q,(T,q)∈FX.tl->T∈tabs)(hS:SqL K H a (ns.map V.int))(hM:M [.list (HM.ofInts ns)]=Z (.bool ZDC)) :
  spD K 1 M [.ref a] H (λv _=>v=.bl ZDC) λ_ _ _=>False:=by
 refine⟨ZcD H,[.list (HM.ofInts ns)],.bool ZDC,rfl,Zl1,λT q hT=>⟨#[],hO.2 T (ht T q hT),trivial,λpos c hc=>by cases hc⟩,.drop,.one (Rep.drop (.lst hS (ZdV (K:=K) (F:=H) ns).1 (ZdV ns).2)),hM,λv F1 H1 _ r=>r.bool_inv⟩
end
end HP
namespace HP
open PySem PySem.Spec PyProof.Rows L2
variable[FX]
section
variable{X:Cx}{a b:Expr}{fa fb:HM.EF}{pos:Pos}
def ZwZ(K:Zyk):R2:=λv w H Q=>∃p q xs ys,v=.ref p/\w=.ref q/\SqT K H p xs/\SqT K H q ys/\xs.length+ys.length<=sizeLine/\(xs=[]->Q w H)/\(xs≠[]->ys=[]->Q v H)/\(xs≠[]->ys≠[]->∀z,H z=Z_->Q (.ref z) (upd H z (.tup (xs++ys))))
theorem Zuj:OpR X (ZAC .Add) (ZwZ X.K):=by
 intro pins s σ H x y v u Q I rx ry ⟨p,q,xs,ys,e1,e2,hp,hq,hz,q0,q1,q2⟩
 by_cases hx:xs=[]
 ·subst e1 e2
  obtain rfl:v=Zzc p:=rx;obtain rfl:u=Zzc q:=ry;obtain⟨its,r1,p1,_⟩:=I.tuple hp;obtain⟨its2,r2,p2,_⟩:=I.tuple hq;obtain⟨⟨cls,dd,data,sl⟩,ho,hc,n,hd⟩:=id p1;obtain⟨⟨cls2,dd2,data2,sl2⟩,ho2,hc2,n2,hd2⟩:=id p2;simp only at hc hd hc2 hd2;subst hc hd hc2 hd2;have e0:its=[]:=by rw[hx]at r1; cases r1; rfl
  exact ZCM ⟨_,ho,rfl⟩ ⟨_,ho2,rfl⟩ ZCN seq_tuple_add ZBy ZBq (ZBi _ _)
   (tuple_addW0 p q its.toArray its2.toArray n n2 dd dd2 sl sl2 (by simp[e0])) ⟨ho,ho2,⟨.ref q,H,I,rfl,q0 hx⟩⟩
 ·exact ZuV pins s σ H x y v u Q I rx ry ⟨p,q,xs,ys,e1,e2,hp,hq,hx,hz,λz=>by rw[<-e1]; exact q1 hx z,λz=>q2 hx z⟩
theorem ZcX(ha:XE X a fa)(hb:XE X b fb):XE X (.BinOp a .Add b pos) (HM.ZX fa fb):=by
 intro r d h;unfold HM.ZX at h;split at h
 case h_2=>cases h
 rename_i xs hx;split at h
 case h_2=>cases h
 rename_i ys hy;split at h
 case isFalse=>cases h
 rename_i hlt;cases h;refine PE.imp (ZkA Zuj (ha r _ hx) (hb r _ hy)) λσ H Q ⟨F0,H0,F,at_,k⟩=>?_;refine⟨F0,H0,F,at_,λv F1 H1 x1 r1=>⟨F0,H0,F1,at_.grow x1,λw F2 H2 x2 r2=>?_⟩⟩;have r1':=r1.mono x2.ff;obtain⟨l,vs,e1,h1,s1⟩:=Zjm r1';obtain⟨l',us,e2,h2,s2⟩:=Zjm r2;have e3:=s1.1;have e4:=s2.1;have hz:xs.length+ys.length<1000000:=hlt;have e5:(1000000:Nat)<=sizeLine:=by decide
 refine⟨l,l',vs,us,e1,e2,Zhy h1 x2.sub,Zhy h2 x2.sub,by omega,λz=>?_,λ_ z=>?_,λ_ _ p hp=>?_⟩
 ·rw[z]at e3
  exact k _ F2 H2 (x1.trans x2) (by rw[ZzT e3,ZBf]; exact r2)
 ·rw[z]at e4
  exact k _ F2 H2 (x1.trans x2) (by rw[ZzT e4,Zy6]; exact r1')
 ·have rc:=s1.append s2
  exact k _ (upd F2 p (.tup (vs++us))) _ ((x1.trans x2).lay hp) (.tup Zx rc.1 (rc.mono (Zp.upd' (x2.sub.free hp))).2)
end
end HP
namespace HP
open PySem PySem.Spec PyProof.Rows L2
variable[FX]
end HP
namespace HP
open PySem PySem.W PyProof.Rows
end HP
namespace HP
open PySem PySem.Spec PyProof.Rows L2
variable[FX]
end HP
namespace HP
open PySem PySem.Spec PyProof.Rows L2
variable[FX]
end HP
namespace HP
open PySem PySem.Spec PyProof.Rows L2
variable[FX]
end HP
namespace HT
open PySem PySem.Spec PyProof.Rows L2
end HT
namespace HP
open PySem PySem.Spec PyProof.Rows L2
end HP
namespace HP
open PySem PySem.Spec PyProof.Rows L2
variable[FX]
section
variable{X:Cx}{a b:Expr}{ga gb:HM.BF}{pos:Pos}
def Zw2(K:Zyk):R2:=λx y H Q=>∃l b xs zs,x=.ref l/\y=.ref b/\SqL K H l xs/\SqL K H b zs/\xs.length+zs.length<=sizeLine/\∀p,H p=Z_->Q (.ref p) (upd H p (.lst (xs++zs)))
omit [FX]in
theorem ZuK:OpR X (ZAC .Add) (Zw2 X.K):=by intro pins s σ H x y v u Q I rx ry h;obtain⟨l,b,xs,zs,rfl,rfl,hH,hB,hz,q⟩:=h;cases rx;cases ry;obtain⟨its,r,⟨⟨c1,d1,t1,s1⟩,n1,e1,k1,k2,k3⟩,_⟩:=I.list hH;obtain⟨its2,r2,⟨⟨c2,d2,t2,s2⟩,n2,e2,m1,m2,m3⟩,_⟩:=I.list hB;simp only at k1 k2 k3 m1 m2 m3;subst k1 k3 m1 m3;have hl1:=r.length;have hl2:=r2.length;refine ZCM ⟨_,e1,rfl⟩ ⟨_,e2,rfl⟩ noFill_list_add seq_list_add PySem.F.slot_list_add PySem.F.entry_list_add (PySem.F.args_list_add_2 _ _) (list_addW l b its.toArray its2.toArray n1 n2 d1 d2 s1 s2 (by rw[Zyu,Zyu]; omega)) ⟨e1,e2,?_⟩;rw[show its.toArray++its2.toArray=(its++its2).toArray by simp];exact⟨.ref _,_,I.lnew (t':=s.toks) (r.append r2) (by rw[ZyA]; omega),rfl,q _ I.fresh⟩
theorem Zt4(ha:XB X a ga)(hb:XB X b gb):XF X (.BinOp a .Add b pos) (HM.Zku ga gb):=by
 intro r d h;unfold HM.Zku at h;split at h
 ·rename_i x hx
  split at h
  ·rename_i xs hxs
   split at h
   ·rename_i y hy
    split at h
    ·rename_i ys hys
     split at h
     ·rename_i hz
      cases h;refine PE.imp (ZkA ZuK (ha r _ hx) (hb r _ hy)) λσ H Q ⟨F0,H0,F,at_,k⟩=>?_;refine⟨F0,H0,F,at_,λv F1 H1 x1 ⟨fp,r1⟩=>⟨F0,H0,F1,at_.grow x1,λw F2 H2 x2 ⟨fq,r2⟩=>?_⟩⟩;obtain⟨l1,vs1,rfl,hq1,q1⟩:=ZcE x2.sub (r1.mono x2.ff λ_ _ _ z=>x2.hh _ _ z) hxs;obtain⟨l2,vs2,rfl,hq2,q2⟩:=ZcE x2.sub r2 hys;refine⟨_,_,_,_,rfl,rfl,hq1,hq2,?_,λl hl=>ZcC (P:=λv _ H'=>Q v H') (x1.trans x2) (q1.append q2) hl k⟩;have e1:=q1.1;have e2:=q2.1;have e3:(1000000:Nat)<=sizeLine:=by decide
      unfold HM.big at hz;omega
     ·cases h
    ·cases h
   ·cases h
  ·cases h
 ·cases h
end
end HP
namespace HP
open PySem PySem.Spec PyProof.Rows L2
variable[FX]
end HP
namespace HP
open PySem PySem.Spec PyProof.Rows L2
section
variable[FX]{X:Cx}{e:Expr}{t:HM.TF}
theorem Zvi(i:Nat)(h:XT X e t):XT X e (HM.ZsT i t):=by intro r c hc pins s σ H Q I ⟨F0,H0,F,at_,k⟩;obtain⟨F1,_,s1,a1⟩:=at_.freeze i;exact h (HM.ZhE i r) c hc pins s σ H Q I ⟨F0,H0,F1,a1,λF' H' x=>k F H' ⟨Zp.refl F,x.hh,(s1.trans x.ff).trans x.sub,λ_ _ h=>.inl h,x.tab,id⟩⟩
end
section
variable{prog:Program}{w:World}{A:Around}{E:Value->Shared->Prop}{s:Shared}
set_option maxHeartbeats 3200000 in
theorem ZqZ{l:Addr}{items:Array Value}{ns:List Int}{Q:Value->Shared->Prop}(hh:A.handled=Z_)(hl:s.heap.IsTuple l items)(hi:IntsAre items.toList ns)(hb:∀n∈ns,0<=n/\n<8)
  (h:∀(h':Heap) (tk:Nat),Zb8 prog w h' s.heap.objs.size (HM.dedup [] ns)->(∀b o,b<s.heap.objs.size->s.heap.get? b=Z o->h'.get? b=Z o)->Q (.ref s.heap.objs.size) { s with heap:=h',toks:=tk }) :
  wpAny (model prog w) A (call (.type "set") [.ref l]) Q E s:=by
 have hsz:items.size=ns.length:=by rw[<-hi.length,ZyL]
 obtain⟨c,tl,hmro⟩:=ZyZ.mro;have hmade:=ZyZ.made;have hsub:=ZyZ.sub;refine ZBS (ZCV ?_);show wpAny _ _ (callAny (.type "set") _) _ _ _;refine Zym ⟨Code.quiet_builtin _ (by decide +kernel),ZzA ZCT ?_⟩;rw[Around.under_plain (weight_type_call_type "set" [.ref l] []) rfl];have h1:=ZyZ.notType;have h2:=ZyZ.canCreate;have hct:=ZC4 (.ref l)
 repeat (any_goals (first | assumption | wp_step))
 refine ZzU (Zh9 (.ref l) (E:=E) (Q₁:=λobj s₁=>obj=.ref s.heap.objs.size/\s₁={ s with heap:=s.heap.push (ZaL w) }) ⟨rfl,rfl⟩) λr s₁ hr=>?_;cases r with
 | error e=>exact hr
 | ok fl =>
  cases fl with
  | ret obj =>
   obtain⟨rfl,rfl⟩:=hr;have hX:=Zob (prog:=prog) (w:=w) s.heap;have hS:(s.heap.push (ZaL w)).get? s.heap.objs.size=Z (ZaL w):=ZyC _ rfl;have hT:ZDo { s with heap:=s.heap.push (ZaL w) } (.ref s.heap.objs.size) "set":=⟨_,hS,rfl⟩;have hli:=ZyZ.init.lookup;have hbi:=ZyZ.init.bind (.ref s.heap.objs.size)
   repeat (any_goals (first | assumption | wp_step))
   refine ZzU (codeAny_call_builtin (R:=wants (λr s₂=>r=.none/\∃h' tk,s₂={ s with heap:=h',toks:=tk }/\Zb8 prog w h' s.heap.objs.size (HM.dedup [] ns) /\
     (∀b o,b<s.heap.objs.size->s.heap.get? b=Z o->h'.get? b=Z o)) E) ZyZ.init.plain ZC5 (check_set_init_1 hT ?_)) λr₂ s₂ hr₂=>?_
   ·obtain⟨⟨ocls,odict,odata,oslots⟩,hol,hcl,nl,hdl⟩:=hl
    simp only at hcl hdl;subst hcl; subst hdl;have hol':(s.heap.push (ZaL w)).get? l=Z { cls:=.type "tuple",dict:=odict,data:=.seq items nl,slots:=oslots }:=Zyn _ hol;have hsls:=PySem.F.sub_tuple_set;have hslf:=PySem.F.sub_tuple_frozenset;have hne:(ZAo "tuple" == ZAo "dict")=ZDD:=by decide
    have hl1:(s.heap.push (ZaL w)).IsTuple l items:=⟨_,hol',rfl,nl,rfl⟩;unfold Builtin.«set.__init__» noKeywords ZCc;generalize hPI:pyIter=PI
    wp_walk
    subst hPI;refine wpAny_pyIter_tuple hl1 (Zyi (ZCd ?_));have hlS:l<s.heap.objs.size:=ZyB hol;have hh3:A.in1.in1.in1.handled=Z_:=by simp[hh]
    have hneI:l≠(s.heap.push (ZaL w)).objs.size:=by rw[ZAb]; exact ZyG (ZAi hlS)
    have hSf:s.heap.objs.size ∉ [(s.heap.push (ZaL w)).objs.size,l]:=by rw[ZAb]; simp only[ZyH,Zyt,ZBK,or_false,not_or];exact⟨ZyG (ZAn _),ZA0 hlS⟩
    have Wl:=(Walks.tuple (prog:=prog) (w:=w) hh3 _ l hneI items).toS;rw[hsz]at Wl;refine ZlL Wl s.heap.objs.size hSf (λi v hv=>IntsAre.int_at hi i v (by rw[Zza]; exact hv)) hb (ns.length-0) 0 _ (by omega) (Zzj _)
     ⟨⟨_,ZyC _ rfl,rfl,rfl⟩,hl1.push _⟩ (hX.at' λo e=>Zyn _ e) λs' hm hS'=>?_
    obtain⟨h',g',d',tk',os'⟩:=s';have eg:g'=s.gens:=hm.gens;have ed:d'=s.drawn:=hm.drawn;have eo:os'=s.os:=hm.os;subst eg; subst ed; subst eo
    show wpAny _ _ _ _ _ _;refine Zym ?_;show wpAny _ _ (ret ZyU) _ _ _;refine Zym ⟨rfl,h',tk',rfl,hS',λb o hb e=>?_⟩;refine hm.heap b o ?_ (Zyn _ (Zyn _ e));simp only[ZyH,Zyt,ZBK,or_false,not_or];exact⟨ZyG hb,by rw[ZAb]; exact ZyG (ZAi hb)⟩
   ·cases r₂ with
    | error e=>exact hr₂
    | ok fl₂ =>
     cases fl₂ with
     | ret r =>
      obtain⟨rfl,h',tk,rfl,hS',hk'⟩:=hr₂
      repeat (any_goals (first | assumption | wp_step))
      exact h _ _ hS' hk'
     | _=>exact hr₂.elim
  | _=>exact hr.elim
end
section
variable[FX]{X:Cx}{a:Expr}{fa:HM.EF}{pos p:Pos}
theorem Zsh(hc:X.calm=ZDC):ZaE X (.type "set") (λxs H Q=>∃p ns,xs=[.ref p]/\SqT X.K H p (ns.map V.int)/\(∀n∈ns,0<=n/\n<8)/\∀l,H l=Z_->Q (.ref l) (upd H l (.ext λh=>Zb8 X.prog X.w h l (HM.dedup [] ns)))):=by intro pins s σ H xs us Q I r h;obtain⟨p,ns,rfl,hq,hb,q⟩:=h;obtain⟨u,rfl,rx⟩:=vals1 r;cases rx;obtain⟨its,rv,pl,hz⟩:=I.tuple hq;refine ZqZ (I.ok.hd hc) pl (by simpa using Zcw rv) hb λh' tk hS kp=>?_;have hS':=hS;obtain⟨o,es,ep,t,ho,_⟩:=hS';refine⟨.ref s.heap.objs.size,_,I.laid (a:=s.heap.objs.size) (o:=.ext λh=>Zb8 X.prog X.w h s.heap.objs.size (HM.dedup [] ns)) (λb o e=>kp b o (ZyB e) e) (Zyr _) ?_,rfl,q _ (I.hok.fresh (Zyr _))⟩;exact⟨hS,⟨o,ho⟩,λh1 h2 x kk=>x.at' kk⟩
end
end HP
namespace HP
open PySem PySem.Spec PyProof.Rows L2
section
variable[FX]{X:Cx}{a:Expr}{fa:HM.EF}{pos p:Pos}
theorem Zh3(hm:X.mg "sorted" = Z_)(hm2:X.mg "set" = Z_)(hc:X.calm=ZDC){p' pos':Pos}(ha:XE X a fa)(hg:Gl X "sorted":=by rfl)(hg2:Gl X "set":=by rfl)(hs:Zyz [a] X.env=[(ZDD,eval a X.env)]:=by rfl)
  (hs2:Zyz [ZCq (.Name "set" p') [a] [] pos'] X.env=[(ZDD,eval (ZCq (.Name "set" p') [a] [] pos') X.env)]:=by rfl) :
  XF X (.Call (.Name "sorted" p) [.Call (.Name "set" p') [a] [] pos'] [] pos) (HM.Zbo fa):=by
 intro r d h;unfold HM.Zbo at h;split at h
 case h_2=>cases h
 rename_i ds hx;split at h
 case h_2=>cases h
 rename_i ns hns;split at h
 case isFalse=>cases h
 rename_i hlow;cases h;refine PE.imp (Zcb (Zix hc) hg hm Zgw (Zaf (Zcv (Zsh hc) hg2 hm2 Zrq (Zaf (ha r _ hx) Zbt hs) (he:=hs)) Zbt hs2) (he:=hs2)) λσ H Q ⟨F0,H0,F,at_,k⟩=>?_;refine⟨F0,H0,F,at_,λv F1 H1 x1 r1=>?_⟩;obtain⟨l,vs,e1,hq,rs⟩:=Zjm r1;subst e1;rw[ZbF hns rs]at hq;refine⟨l,ns,rfl,hq.imp (λz=>z.imp (x1.sub _ _) λ⟨o,z⟩=>⟨o,x1.sub _ _ z⟩) id,λn hn=>?_,λl2 hl2=>⟨l2,_,rfl,Zx,λl3 hl3=>?_⟩⟩
 ·have:=Zys.mp hlow n hn
  rw[ZyE,decide_eq_true_eq,decide_eq_true_eq]at this;exact this
 ·have x2:=x1.lay' (o:=.ext λh=>Zb8 X.prog X.w h l2 (HM.dedup [] ns)) hl2
  exact ZcC (P:=λv _ H'=>Q v H') x2 (ZdV _) hl3 k
end
end HP
namespace HP
open PySem PySem.W PyProof.Rows
variable{b:Addr}
section
variable{prog:Program}{w:World}{A:Around}{E:Value->Shared->Prop}{s:Shared}
theorem Zn7:∀{vs:List Value} {ns:List Int},IntsAre vs ns->ItemsAre (intKind prog w) ns vs
 | _,_,.nil=>.nil
 | _,_,.cons n t h=>.cons (ZBY _ _ _ _) (Zn7 h)
theorem Zsu{h:Heap}{t:List Int}(x:TI h b t):IsTupleKey (intKind prog w) h t b:=by obtain⟨o,its,n,e1,e2,e3,e4⟩:=x;exact⟨o,its,n,e1,e2,e3,Zn7 e4⟩
theorem ZqW{a:Addr}{x y:List Int}{P:PySem.Fin->Shared->Prop}(hx:TI s.heap a x)(hy:TI s.heap b y)(h:P (.done (.ret (.bool (HM.lexLt x y)))) s) :
  wpAny (model prog w) A (Builtin.«tuple.__lt__» ⟨[.ref a,.ref b],[]⟩) P E s:=by
 obtain⟨oa,xs,na,a1,a2,a3,a4⟩:=hx;obtain⟨ob,ys,nb,b1,b2,b3,b4⟩:=hy;show wpAny _ _ (isInstance (.ref b) (.type "tuple") >>= _) _ _ s;refine Zyi (ZBL (T:="tuple") ⟨ob,b1,b2⟩ isSubtype_tuple_tuple ?_);simp only[Bool.not_true,Zzr,if_false];refine Zyi (wpAny_tupleItemsOf a1 a3 (Zyi (wpAny_tupleItemsOf b1 b3 ?_)));refine Zyi (wpAny_forIn_list _
  (λrest r s'=>r.1=Z_/\s'=s/\∃x' y' xs' ys',rest=List.zip xs' ys'/\IntsAre xs' x'/\IntsAre ys' y'/\HM.lexLt x' y'=HM.lexLt x y/\decide (xs'.length<ys'.length)=decide (xs.size<ys.size))
  _ ?_ ?_ _ _ ⟨rfl,rfl,x,y,xs.toList,ys.toList,rfl,a4,b4,rfl,by simp⟩)
 ·rintro ⟨u,v⟩ rest r s' ⟨hr,rfl,x',y',xs',ys',hz,hx',hy',hlt,hlen⟩
  cases hx' with
  | nil=>simp at hz
  | cons n1 t1 hx'' =>
   cases hy' with
   | nil=>simp at hz
   | cons n2 t2 hy'' =>
    simp only[List.zip_cons_cons,List.cons.injEq,Prod.mk.injEq]at hz;obtain⟨⟨rfl,rfl⟩,rfl⟩:=hz;refine Zyi (ZBJ ?_);rw[ZdC]at hlt
    by_cases hk:n1=n2
    ·subst hk
     rw[if_pos rfl]at hlt;rw[show(n1==n1)=ZDC by simp];simp only[Bool.not_true,Zzr,if_false];exact Zym ⟨rfl,rfl,_,_,_,_,rfl,hx'',hy'',hlt,by simpa using hlen⟩
    ·rw[if_neg hk]at hlt
     rw[show(n1==n2)=ZDD by simpa using hk];simp only[Bool.not_false,if_true];rw[<-hlt]at h;exact Zyi (ZBX (Zyi (ZDs (Zyi (Zym (Zym (Zym h)))))))
 ·rintro ⟨r1,r2⟩ s' ⟨hr,rfl,x',y',xs',ys',hz,hx',hy',hlt,hlen⟩
  simp only at hr;subst hr;refine Zym ?_;have hfin:decide (xs.size<ys.size)=HM.lexLt x y:=by
   rw[<-hlt,<-hlen];cases hx' with
   | nil=>cases hy'<;>rfl
   | cons _ _ _ =>
    cases hy' with
    | nil=>rfl
    | cons _ _ _=>simp at hz
  show P (.done (.ret (.bool (decide (xs.size<ys.size))))) s';rw[hfin]; exact h
def KI(h:Heap)(b:Addr)(t:List Int):Prop:=∃o n tk c,h.get? b=Z o/\o.cls=.type "tuple"/\o.data=.seq #[.int (t.length:Int) tk,.ref c] n/\TI h c t
theorem ZwD{x y:Addr}{a b:List Int}{Q:Bool->Shared->Prop}(hu:A.units<cLine)(hx:KI s.heap x a)(hy:KI s.heap y b)(h:Q (HM.lexLt (HM.ZbB a) (HM.ZbB b)) s) :
  wpAny (model prog w) A (keyLt' (tuples' ZDC) (.ref x) (.ref y)) Q E s:=by
 obtain⟨ox,n,tk,c,e1,_,d1,r1⟩:=hx;obtain⟨oy,m,tl,d,e2,_,d2,r2⟩:=hy;refine kat_lt e1 d1 e2 d2 ?_;show KatLex prog w A ZDC (decide (2<2)) Q [(.int (a.length:Int) tk,.int (b.length:Int) tl),(.ref c,.ref d)] 0 s;unfold HM.ZbB at h;rw[ZdC]at h;refine kat_cons (ZBJ ?_)
 by_cases hl:(a.length:Int)=b.length
 ·rw[if_pos hl]at h
  rw[show((a.length:Int)==(b.length:Int))=ZDC by simpa using hl];refine kat_yes (kat_cons (wpAny_eqBool_tuple (knd:=intKind prog w) hu (Zsu r1) (Zsu r2) ?_))
  by_cases hab:a=b
  ·rw[decide_eq_true hab]
   refine kat_yes (kat_nil ?_);rw[hab,lex_irrefl]at h;exact h
  ·rw[decide_eq_false hab]
   refine kat_no ?_;obtain⟨oc,i1,n1,c1,c2,c3⟩:=id r1;obtain⟨od,i2,n2,f1,f2,f3⟩:=id r2;have T1:s.TypeIs (.ref c) "tuple":=⟨oc,c1,c2⟩;have T2:s.TypeIs (.ref d) "tuple":=⟨od,f1,f2⟩;refine kat_one _ _ (show wpAny _ _ (richCompare .Lt (.ref c) (.ref d)) _ _ _ from wpAny_richCompare_same_room (op:=.Lt) T1 T2 F.slot_tuple_lt (Zzv F.slot_tuple_lt T1 F.entry_tuple_lt (ZqW r1 r2 ⟨_,rfl,(λe=>nomatch e),?_⟩) (F.args_tuple_lt_2 _ _)) hu);exact h
 ·rw[if_neg hl]at h
  rw[show((a.length:Int)==(b.length:Int))=ZDD by simpa using hl];refine kat_no ?_;exact oneLt_int h
end
end HP
namespace HP
open PySem PySem.Spec PyProof.Rows L2
variable{F:Hp}{ts:List (List Int)}{K:Zyk}
variable[FX]
def KH(H:Hp)(v:V)(t:List Int):Prop:=∃kb c,v=.ref kb/\H kb=Z (.tup [.int (t.length:Int),.ref c])/\H c=Z (.tup (t.map V.int))
theorem KH.st{H H':Hp}{v:V}{t:List Int}(h:KH H v t)(s:Zab H H'):KH H' v t:=by obtain⟨kb,c,e,h1,h2⟩:=h;exact⟨kb,c,e,s.ntb h1 rfl,s.ntb h2 rfl⟩
theorem Zsn{us:List (List Int)}(h:us.Perm ts)(hs:us.Pairwise (λx y=>HM.lexLt (HM.ZbB y) (HM.ZbB x)=ZDD)):us=HM.ZbU ts:=by
 refine Zfo (R:=λx y=>HM.lexLt (HM.ZbB y) (HM.ZbB x)=ZDD) (λa b h1 h2=>?_) (h.trans (ZAk ts _).symm) hs ?_
 ·have:=Zgs _ _ h2 h1
  unfold HM.ZbB at this;injection this
 ·have:=ZAP (le:=λa b:List Int=>!HM.lexLt (HM.ZbB b) (HM.ZbB a)) (λa b c h1 h2=>by
   simp only[ZCC]at *;cases q:HM.lexLt (HM.ZbB c) (HM.ZbB a)with
   | false=>rfl
   | true =>
    rcases Zjn _ (HM.ZbB b) _ q with z | z
    ·rw[h2]at z; cases z
    ·rw[h1]at z; cases z) (λa b=>by
   cases q:HM.lexLt (HM.ZbB b) (HM.ZbB a)with
   | false=>simp
   | true =>
    cases q2:HM.lexLt (HM.ZbB a) (HM.ZbB b)with
    | false=>simp
    | true=>have:=lex_trans _ _ _ q q2; rw[lex_irrefl]at this; cases this) ts
  exact this.imp λh=>by simpa using h
theorem ZrP{ws:List V}{p:List Nat}(hp:p.Perm (Zyp ts.length))(r:Zq K F (HM.ZaG ts) ws):Zq K F (HM.ZaG (p.map λi=>ts.getD i [])) (p.map λi=>ws.getD i V.non):=by
 have hl:ws.length=ts.length:=by have:=r.1; unfold HM.ZaG at this; rw[Zyj]at this; omega
 refine⟨by unfold HM.ZaG; simp,λi d v h1 h2=>?_⟩;unfold HM.ZaG at h1;rw[ZyM,ZyI]at h1;rw[ZyI]at h2;obtain⟨j,e1,e2⟩:=Zyl.mp h1;rw[e1]at h2;have hj:j<ts.length:=ZyJ.mp (hp.mem_iff.mp (ZyQ e1));refine r.2 j d v ?_ ?_
 ·unfold HM.ZaG
  rw[ZyI,ZyF hj,<-e2];simp[Zzs,hj]
 ·have:Z (ws.getD j V.non)=Z v:=h2
  rw[<-this];simp[Zzs,show j<ws.length by omega]
section
variable{X:Cx}{pins:List (Addr × Obj)}{σ:L2.St}{H FS:Hp}{s:Shared}
theorem KH.ki(I:Inv X pins σ H s){v:V}{u:Value}{t:List Int}(h:KH H v t)(r:RelV v u):∃kb,u=.ref kb/\KI s.heap kb t:=by
 obtain⟨kb,c,rfl,h1,h2⟩:=h;obtain rfl:u=Zzc kb:=r;obtain⟨_,its,rv,o,g1,g2,n,g3⟩:=(show ZW X.prog X.w H s.heap kb (.tup [.int (t.length:Int),.ref c]) from I.hok kb _ h1);obtain⟨_,jts,rw',o',f1,f2,m,f3⟩:=(show ZW X.prog X.w H s.heap c (.tup (t.map V.int)) from I.hok c _ h2);cases rv with
 | cons q1 rv =>
  cases rv with
  | cons q2 rv=>cases rv;obtain⟨tk,rfl⟩:=q1;cases q2;exact⟨kb,rfl,o,n,tk,c,g1,g2,g3,o',jts.toArray,m,f1,f2,f3,by simpa using Zcw rw'⟩
theorem ZoN{t:List Int}{v:V}(rp:Rep K F (.tuple (HM.ofInts t)) v):∃c,v=.ref c/\F c=Z (.tup (t.map V.int)):=by
 generalize hq:HM.ofInts t=q at rp;cases rp with
 | @tupk b x h1 =>
  exfalso;cases t with
  | nil=>cases hq
  | cons a t =>
   injection hq with e1 _
   cases e1
 | @tup b _ xs hb hl hr=>subst hq;have ev:=ZbF (F:=F) (Zle t) ⟨hl,hr⟩;subst ev;exact⟨b,rfl,hb⟩
variable{k:Nat}{params:Arguments}{body:Expr}{scope:Scope}{x:Str}{q:Addr}{ts:List (List Int)}{ws:List V}{its:List Value}{P:PySem.Fin->Shared->Prop}{E:Value->Shared->Prop}
abbrev ZqU:HM.EF:=HM.Zac (HM.Za (HM.Zbe (HM.Zo 0)) (HM.Za (HM.Zc 0) HM.Zg))
theorem ZuZ(t:List Int):HM.ZhU 1 0 ZqU [] [.tuple (HM.ofInts t)]=Z (.tuple [.int (t.length:Int),.tuple (HM.ofInts t)]):=by
 have hn:[Zzh (HM.ofInts t)].all (HM.noF 20)=ZDC:=by rw[ZzD,ZB1,Bool.and_true];refine Zys.mpr λd hd=>?_;obtain⟨i,_,rfl⟩:=Zyy.mp hd;rfl
 have hl:(HM.ofInts t).length=t.length:=by unfold HM.ofInts; rw[Zyj]
 unfold HM.ZhU;rw[if_pos ⟨rfl,rfl,hn⟩];simp[ZqU,hl]
set_option maxHeartbeats 1600000 in
theorem ZtC(hr:ZV (k+3) X.A)(S:ZeO scope x [])
  (hbind:∀(qual:Str) (clos:List (Str × Addr)) (pm cd ctv u:Value),ZB9 (ZDg "<lambda>" qual params body scope clos pm cd ctv) ⟨[u],[]⟩=pure [(x,u)])
  (hbody:∀(qual:Str) (f:Addr) (cd:Value) (clos:List (Str × Addr)) (A:Around) (outer:List Env) (s:Shared) (H:Hp),ZV k (A.deeper (ZAp qual scope s.heap.objs.size f cd clos))->XE (Zh0 X.prog X.w X.K X.mg X.base [x] qual scope f cd clos A outer s H) body ZqU)
  (I:Inv X pins σ H s) (C:Clo X.K FS q params body scope [] []) (sub:Zp FS H) (nt:NoT FS) (tb:Tb H) (rvs:Vals ws its) (rs:Zq X.K FS (HM.ZaG ts) ws) (h64:ts.length<64)
  (fin:∀H' ws' s',Zab H H'->Tb H'->H' s.heap.objs.size=Z_->Inv X pins σ (upd H' s.heap.objs.size (.lst ws')) s'->(∀F,Zq X.K F (HM.ZaG ts) ws->Zq X.K F (HM.ZaG (HM.ZbU ts)) ws')->P (.done (.ret .none)) s') :
  wpAny (model X.prog X.w) X.A.in1.in1 (ksk_tree s.heap.objs.size (.ref q) ZDD) P E { s with heap:=s.heap.push (seqObj "list" its.toArray 0) }:=by
 have hlw:ws.length=ts.length:=by have:=rs.1; unfold HM.ZaG at this; rw[Zyj]at this; omega
 have hli:its.length=ts.length:=by rw[<-rvs.length,hlw]
 have hr2:ZV (k+1) X.A.in1.in1:=hr.in1.in1;generalize haA:s.heap.objs.size=a at *;have hoL:(s.heap.push (seqObj "list" its.toArray 0)).get? a=Z (seqObj "list" its.toArray 0):=by rw[<-haA]; exact ZyC _ rfl
 unfold ksk_tree;refine Zyi (listItems_at hoL rfl ?_);refine Zyi (ZBb hoL rfl ?_ (by rw[Zyu,Zze]; omega) (Zzj _));obtain⟨e1,ho1⟩:∃e1,((s.heap.push (seqObj "list" its.toArray 0)).update a (ZAe λ_=>#[])).get? a=Z (seqObj "list" #[] e1):=⟨_,get?_update_seq hoL λ_=>#[]⟩;have kp1:∀b u,s.heap.get? b=Z u->((s.heap.push (seqObj "list" its.toArray 0)).update a (ZAe λ_=>#[])).get? b=Z u:=λb u e=>by
  have hb:b≠a:=by rw[<-haA]; exact ZyG (ZyB e)
  rw[ZB5 _ _ _ _ hb];exact Zyn _ e
 generalize hg1:(s.heap.push (seqObj "list" its.toArray 0)).update a (ZAe λ_=>#[])=g1 at *;have I4:Inv X pins σ (upd H a (Zaz a (seqObj "list" #[] e1))) { s with heap:=g1,toks:=s.toks }:=I.laid (a:=a) (t':=s.toks) kp1 (ZA3 haA) (Zhg ho1);refine Zyi (ZC6 ho1 rfl ?_);refine Zyi (wpAny_newTuple ?_ (by show its.length<=_; rw[Zze]; omega));refine Zyi (ZBG ?_ (Zzj _));refine Zzp ?_;have I5:Inv X pins σ (upd H a (Zaz a (seqObj "list" #[] e1))) { s with heap:=g1.push (seqObj "tuple" its.toArray 0),toks:=s.toks }:=I4.kept (t':=s.toks) λb u e=>Zyn _ e;have I6:=I5.lnew (ys:=[]) (its:=[]) (t':=s.toks) .nil (Zzj _);have hkA:(g1.push (seqObj "tuple" its.toArray 0)).objs.size=a+2:=by rw[size_push',<-hg1,ZA8,size_push',haA]
 have hHa:H a=Z_:=I.hok.fresh (ZA3 haA);have hHk:H (a+2)=Z_:=I.hok.fresh (by rw[haA]; omega);have I6:Inv X pins σ (upd (upd H a (Zaz a (seqObj "list" #[] e1))) (a+2) (.lst [])) { s with heap:=(g1.push (seqObj "tuple" its.toArray 0)).push (seqObj "list" #[] 0),toks:=s.toks }:=by have:=I5.lnew (ys:=[]) (its:=[]) (t':=s.toks) .nil (Zzj _);rw[show({ s with heap:=g1.push (seqObj "tuple" its.toArray 0),toks:=s.toks }:Shared).heap.objs.size=a+2 from hkA]at this;exact this
 show wpAny _ _ (ksk_rest a (.ref q) ZDD its.toArray e1 (.ref (g1.push (seqObj "tuple" its.toArray 0)).objs.size)) P E { s with heap:=(g1.push (seqObj "tuple" its.toArray 0)).push (seqObj "list" #[] 0),toks:=s.toks };rw[hkA];have st6:Zab H (upd (upd H a (Zaz a (seqObj "list" #[] e1))) (a+2) (.lst [])):=.of λb o e=>by
  have h1:b≠a:=λz=>by rw[z,hHa]at e; cases e
  have h2:b≠a+2:=λz=>by rw[z,hHk]at e; cases e
  unfold upd;rw[if_neg h2,if_neg h1];exact e
 have hak:a≠a+2:=ZyG (Nat.lt_add_of_pos_right (by decide));unfold ksk_rest;refine Zyi (ZBX ?_);rw[List.forIn_toArray];refine Zyi (ksk_fold (λi s'=>∃H' ks,Inv X pins σ H' s'/\Zab H H'/\Tb H'/\H' a=Z (Zaz a (seqObj "list" #[] e1))/\H' (a+2)=Z (.lst ks)/\ks.length=i/\∀(j:Nat) t v,ts[j]?=Z t->ks[j]?=Z v->KH H' v t) its 0 _
  ⟨_,[],I6,st6,tb.same ?tb0,?a0,Zx,rfl,λj t v _ e=>by simp at e⟩ ?step ?done)
 case tb0 =>
  intro b o e;have h1:b≠a:=λz=>by rw[z,hHa]at e; cases e
  have h2:b≠a+2:=λz=>by rw[z,hHk]at e; cases e
  unfold upd;rw[if_neg h2,if_neg h1];exact e
 case a0=>unfold upd;rw[if_neg hak,if_pos rfl]
 case step =>
  rintro j u s' hx ⟨H',ks,I',st',tb',hA',hK',hkl,hks⟩
  rw[Nat.zero_add]at hkl ⊢;have hj:j<its.length:=(Zyw.mp hx).1;have ht:ts[j]?=Z (ts.getD j []):=by simp[show j<ts.length by omega]
  have hv:ws[j]?=Z (ws.getD j V.non):=by simp[show j<ws.length by omega]
  generalize ts.getD j []=t at ht;generalize ws.getD j V.non=v at hv;obtain⟨u',hu',ru⟩:=rvs.get hv;rw[hx]at hu';cases hu';have rp:Rep X.K FS (.tuple (HM.ofInts t)) v:=rs.2 j _ v (by unfold HM.ZaG; rw[ZyI,ht]; rfl) hv;have sub':Zp FS H':=λb o e=>st'.ntb (sub b o e) (nt b o e);have call1:wpAny (model X.prog X.w) X.A.in1.in1 (call (.ref q) [u]) (EP X pins σ λv' H2=>∃F',Ext FS H' F' H2/\Rep X.K F' (.tuple [.int (t.length:Int),.tuple (HM.ofInts t)]) v') (λ_ _=>False) s':=by
   refine ZBS (ZzU (Zpw S hbind hbody C I'.env0.in1.in1 sub' hr2 tb' nt (us:=[u]) (vs:=[v]) (.cons ru .nil) (Zq.one rp) (ZuZ t) (Q:=λv' H2=>∃F',Ext FS H' F' H2/\Rep X.K F' (.tuple [.int (t.length:Int),.tuple (HM.ofInts t)]) v') λv' F' H2 x' r'=>⟨F',x',r'⟩) λrs s2 hq=>?_);cases rs with
   | error e=>exact Zzf hq
   | ok fl =>
    cases fl with
    | ret u=>exact I'.after hq
    | next=>exact Zzf hq
    | brk=>exact Zzf hq
    | cont=>exact Zzf hq
  refine Zyi (ZBF (Zzw call1 (λu2 s2 he=>?_) λ_ _ hF=>hF.elim));obtain⟨v2,H2,I2,rv2,F2,x2,r2⟩:=he;have kh:KH H2 v2 t:=by obtain⟨kb,v3,v4,rfl,h1,h2,h3⟩:=ZtG r2;obtain⟨c,rfl,h4⟩:=ZoN h3;rw[h2.int_inv]at h1;exact⟨kb,c,rfl,x2.sub _ _ h1,x2.sub _ _ h4⟩
  have hK2:=x2.hh.ntb hK' rfl;obtain⟨zz,kits,nk,rk,lk,ek⟩:=I2.lstM hK2;have hz:ks.length+1<=sizeLine:=by rw[Zze]; omega
  refine Zyi (ZBb ek rfl ?_ (by rw[Zyu,<-lk]; exact Nat.le_of_succ_le hz) (by show(kits.toArray.push u2).size<=_; rw[Array.size_push,Zyu,<-lk]; first | exact hz | exact Nat.le_succ_of_le hz))
  have I3:=I2.lset (f:=(·.push u2)) (its':=kits++[u2]) (ys:=ks++[v2]) (t':=s2.toks) hK2 ek (by simp) (rk.append (.cons rv2 .nil)) (by rw[ZyA]; exact hz);have st3:Zab H2 H2:=.refl _;have up:∀{b:Addr} {o:HO},b≠a+2->H2 b=Z o->upd H2 (a+2) (.lst (ks++[v2])) b=Z o:=λ{b o} hb e=>by unfold upd; rw[if_neg hb]; exact e
  have hne:∀{b:Addr} {xs:List V},H2 b=Z (.tup xs)->b≠a+2:=λ{b xs} e z=>by rw[z,hK2]at e; cases e
  have khs:∀{v:V} {t:List Int},KH H2 v t->KH (upd H2 (a+2) (.lst (ks++[v2]))) v t:=λ{v t} ⟨kb,c,e,h1,h2⟩=>⟨kb,c,e,up (hne h1) h1,up (hne h2) h2⟩;refine Zym ⟨rfl,_,ks++[v2],I3,λb o e=>?_,?_,up hak (x2.hh.ntb hA' rfl),Zx,by rw[ZyA,hkl]; rfl,λi t' v' e1 e2=>?_⟩
  ·have hb:b≠a+2:=λz=>by rw[z,hHk]at e; cases e
   exact((st'.trans x2.hh) b o e).cong (by unfold upd; rw[if_neg hb])
  ·exact(x2.tab tb').keep λb o e n=>up (λz=>by rw[z,hK2]at e; cases e; cases n) e
  ·by_cases hi:i<ks.length
   ·rw[ZyY hi]at e2
    exact khs ((hks i t' v' e1 e2).st x2.hh)
   ·have hil:i<ks.length+1:=by
     have:=(Zyw.mp e2).1
     rwa [ZyA]at this
    obtain rfl:i=ks.length:=by omega
    rw[Zy0 (Zyr _),Nat.sub_self]at e2;cases e2;rw[hkl,ht]at e1;cases e1;exact khs kh
 case done =>
  rintro s' ⟨H',ks,I',st',tb',hA',hK',hkl,hks⟩
  rw[Nat.zero_add]at hkl;obtain⟨zz,kits,nk,rk,lk,ek⟩:=I'.lstM hK';refine Zyi (listItems_at ek rfl ?_);have hkits:kits.length=its.length:=by rw[<-lk,hkl]
  have hT:∀(i:Nat) t,ts[i]?=Z t->∃b,kits[i]?=Z (.ref b)/\KI s'.heap b t:=λi t e=>by
   have hi:i<ts.length:=(Zyw.mp e).1;have hv:ks[i]?=Z (ks.getD i V.non):=by simp[show i<ks.length by omega]
   obtain⟨u,hu,ru⟩:=rk.get hv;obtain⟨kb,rfl,x⟩:=(hks i t _ e hv).ki I' ru;exact⟨kb,hu,x⟩
  have tail:∀(st2:SortSt) (p:List Nat),p.Perm (Zyp ts.length)->(p.map λi=>ts.getD i []).Pairwise (λx y=>HM.lexLt (HM.ZbB y) (HM.ZbB x)=ZDD)->(arrOf st2).map (·.2)=(p.map λi=>its.getD i ZyU).toArray->failedOf st2=Z_ ->
    wpAny (model X.prog X.w) X.A.in1.in1 (ksk_tail a ZDD e1 (.ref (a+2)) st2) P E s':=by
   intro st2 p hp hs har hf;unfold ksk_tail;dsimp only;refine Zyi (ZBb ek rfl ?_ (by rw[Zyu,Zze]; omega) (Zzj _));have I7:=I'.lset (f:=λ_=>#[]) (its':=[]) (ys:=[]) (t':=s'.toks) hK' ek rfl .nil (Zzj _);have hA7:upd H' (a+2) (.lst []) a=Z (Zaz a (seqObj "list" #[] e1)):=by unfold upd; rw[if_neg hak]; exact hA'
   have hga:=Za6 (I7.hok a _ hA7);refine Zyi (ZCj ?_);refine Zyi (ZC6 hga rfl ?_);rw[har];simp only[Zzr,if_false];have hpl:p.length=ts.length:=by rw[hp.length_eq,ZzZ]
   have hout:(p.map λi=>its.getD i ZyU).toArray.size<=sizeLine:=by rw[Zyu,Zyj,Zze]; omega
   refine Zyi (ZBb hga rfl ?_ (Zzj _) (Nat.le_succ_of_le hout));rw[hf];simp only[bne_self_eq_false,Zzr,if_false];obtain⟨e2,hq⟩:∃e2,((s'.heap.update (a+2) (ZAe λ_=>#[])).update a (ZAe λ_=>(p.map λi=>its.getD i ZyU).toArray)).get? a=Z (seqObj "list" (p.map λi=>its.getD i ZyU).toArray e2):=⟨_,get?_update_seq hga λ_=>(p.map λi=>its.getD i ZyU).toArray⟩;have hvals:Vals (p.map λi=>ws.getD i V.non) (p.map λi=>its.getD i ZyU):=Zfx (by simp) λi v u e1 e2=>by rw[ZyI]at e1 e2;obtain⟨j,f1,f2⟩:=Zyl.mp e1;rw[f1]at e2;have f3:its.getD j ZyU=u:=Zzm e2;have hj:j<ts.length:=ZyJ.mp (hp.mem_iff.mp (ZyQ f1));obtain⟨u3,g1,g2⟩:=rvs.get (show ws[j]?=Z v by rw[<-f2]; simp[show j<ws.length by omega]);rw[<-f3,show its.getD j ZyU=u3 by simp[Zzs,g1]];exact g2
   have I8:=I7.write (x:=a) (e:=a) (o:=.lst (p.map λi=>ws.getD i V.non)) (t':=s'.toks) (by rw[hA7]; exact trivial) (.inl rfl) (λb u hb e=>by rw[ZB5 _ _ _ _ hb]; exact e) ⟨_,hq⟩ ⟨by rw[Zyj,Zze]; omega,_,e2,hvals,hq⟩;have hcut:upd (λb=>if b=a then Z_ else upd H' (a+2) (.lst []) b) a (.lst (p.map λi=>ws.getD i V.non))=upd (upd H' (a+2) (.lst [])) a (.lst (p.map λi=>ws.getD i V.non)):=by
    funext b
    by_cases hb:b=a
    ·subst hb; rw[Zx,Zx]
    ·unfold upd
     rw[if_neg hb,if_neg hb];show(if b=a then Z_ else _)=_;rw[if_neg hb]
   refine Zym (fin (λb=>if b=a then Z_ else upd H' (a+2) (.lst []) b) (p.map λi=>ws.getD i V.non) _ (λb o e=>?_) ?_ (if_pos rfl) (by rw[hcut]; exact I8) λF r=>?_)
   ·have h1:b≠a:=λz=>by rw[z,hHa]at e; cases e
    have h2:b≠a+2:=λz=>by rw[z,hHk]at e; cases e
    refine(st' b o e).cong ?_;show(if b=a then Z_ else upd H' (a+2) (.lst []) b)=H' b;rw[if_neg h1];unfold upd;rw[if_neg h2]
   ·intro T n hT
    obtain⟨ps,h1,h2,h3⟩:=tb' T n hT;have key:∀{b:Addr} {o:HO},b≠a->H' b=Z o->te o=ZDC->(if b=a then Z_ else upd H' (a+2) (.lst []) b)=Z o:=λ{b o} hb e n=>by rw[if_neg hb];unfold upd;rw[if_neg λz=>by rw[z,hK']at e; cases e; cases n];exact e
    refine⟨ps,key (λz=>by rw[z,hA']at h1; cases h1) h1 rfl,h2,λpos c hc=>?_⟩;obtain⟨b,o,q1,q2,q3⟩:=h3 pos c hc;refine⟨b,o,q1,key (λz=>?_) q2 rfl,q3⟩;have g1:=Za6 (I'.hok b _ q2);have g2:=Za6 (I'.hok a _ hA');rw[z,g2]at g1;cases g1;obtain⟨vs,tt,d1,_⟩:=q3;cases d1
   ·have e:=Zsn (ts:=ts) (us:=p.map λi=>ts.getD i []) ?_ hs
    ·rw[<-e]; exact ZrP hp r
    ·refine(hp.map _).trans ?_
     have:(Zyp ts.length).map (λi=>ts.getD i [])=ts:=by refine List.ext_getElem (by simp) λi h1 h2=>?_;simp[Zzs,show i<ts.length by simpa using h1]
     rw[this]
  unfold ksk_end;dsimp only;simp only[Zzr,if_false]
  by_cases h2:its.toArray.size<2
  ·rw[if_pos h2,if_pos h2]
   refine Zyi (Zym ?_);rw[StateT.run_pure];refine Zyi (Zym ?_);refine tail (SortSt.mk' general' (kits.toArray.zip its.toArray) #[] 7 Z_) (Zyp ts.length) (.refl _) ?_ ?_ rfl
   ·rw[Zyu]at h2
    have:ts.length=0\/ts.length=1:=by omega
    rcases this with e | e<;>rw[e]<;>simp
   ·rw[Zyu]at h2
    show Array.map (·.2) (kits.toArray.zip its.toArray)=_;rw[<-hli]
    match its,kits,hkits,h2 with
    | [],_,_,_=>simp
    | [v],[w],_,_=>simp
  ·rw[if_neg h2,if_neg h2]
   rw[Zyu]at h2;have tups:∀(vs:List Value) (ts:List (List Int)),ts.length=vs.length->(∀(i:Nat) t,ts[i]?=Z t->∃b,vs[i]?=Z (.ref b)/\KI s'.heap b t)->∃fs,PySem.W.KatTups s'.heap vs fs/\fs.length=vs.length/\∀v∈fs,∃x t,v=Zz0 x t:=by
    intro vs
    induction vs with
    | nil=>intro ts hl _; exact⟨[],PySem.W.KatTups.nil,rfl,by simp⟩
    | cons v vs ih =>
     intro ts hl hT;cases ts with
     | nil=>simp at hl
     | cons t ts =>
      obtain⟨fs,f1,f2,f3⟩:=ih ts (by simpa using hl) λi t e=>hT (i+1) t (by simpa using e);obtain⟨b,eb,o,n,tk,c,g1,g2,g3,g4⟩:=hT 0 t rfl;simp at eb;subst eb;refine⟨.int (t.length:Int) tk::fs,PySem.W.KatTups.cons g1 g2 g3 rfl f1,by simp[f2],λv hv=>?_⟩;rcases ZyH.mp hv with e | e
      ·exact⟨_,tk,e⟩
      ·exact f3 v e
   obtain⟨fs,f1,f2,f3⟩:=tups kits ts (by omega) hT;refine Zyi (PySem.W.kat_kind (T:=.type "int") f1 (by omega) (λv hv=>?_) (by rfl) ?_)
   ·obtain⟨x,t,rfl⟩:=f3 v hv
    exact PySem.W.Looks.of_pure rfl
   rw[show(ZAo "int" != ZAo "tuple")=ZDC by decide];refine Zyi (Zzw (PySem.W.kat_run (ks:=kits) (vs:=its) (Q:=λst2 s2=>s2=s'/\∃p:Array Nat,Pm its.length p/\Up Zhe (λi=>HM.ZbB (ts.getD i [])) p its.length/\arrOf st2=p.map (PySem.W.kas_item (kits.toArray.zip its.toArray))/\failedOf st2=Z_)
    (G:=λp s2=>s2=s'/\Pm its.length p/\Up Zhe (λi=>HM.ZbB (ts.getD i [])) p its.length) hkits (by omega) (by omega) (λp' st2 s2 a1 a2 a3 a4=>⟨a4.1,p',a4.2.1,a4.2.2,a2,a3⟩) ?_) ?_ λ_ _ e=>e)
   ·refine Zlf (o:=orc Zhe λi=>HM.ZbB (ts.getD i [])) (n:=its.length) (λi j C hi hj hC=>?_) _ (ZlP (by omega) λp h1 h2=>⟨rfl,h1,h2⟩)
    have gi:ts[i]?=Z (ts.getD i []):=by simp[show i<ts.length by omega]
    have gj:ts[j]?=Z (ts.getD j []):=by simp[show j<ts.length by omega]
    obtain⟨b1,v1,x1⟩:=hT i _ gi;obtain⟨b2,v2,x2⟩:=hT j _ gj;show wpAny (model X.prog X.w) X.A.in1.in1 (keyLt' _ (kits.getD i ZyU) (kits.getD j ZyU)) C _ _;rw[show kits.getD i ZyU=.ref b1 by simp[Zzs,v1],show kits.getD j ZyU=.ref b2 by simp[Zzs,v2]];exact ZwD hr2.units0 x1 x2 hC
   ·rintro ⟨⟨⟩,st2⟩ s2 ⟨rfl,p,hp,hu,har,hf⟩
    refine tail st2 p.toList ?_ ?_ (PySem.W.kat_snds hkits har) hf
    ·have:=ZBa.mp hp.perm
     rw[<-hli];simpa using this
    ·rw[ZCA,ZBg]
     intro i j hi hj hij;have hsz:=hp.size;have q:=hu i j (Zz3 hij) (by rw[ZyL]at hj; omega);unfold Ka at q;rw[show p.getD i 0=p.toList[i] by simp[Zz6,show i<p.size by simpa using hi],show p.getD j 0=p.toList[j] by simp[Zz6,show j<p.size by simpa using hj]]at q;exact q
end
end HP
namespace HP
open PySem PySem.Spec PyProof.Rows L2
variable[FX]
section
variable{X:Cx}{a:Expr}{pos p:Pos}
set_option maxHeartbeats 1600000 in
theorem ZoS{k t:Nat}{params:Arguments}{body:Expr}{scope:Scope}{x:Str}{lpos kp:Pos}{f:HM.BF}(hm:X.mg "sorted" = Z_)(hc:X.calm=ZDC)(hr:ZV (k+3) X.A)(L:ZmO X t params body scope [] [])(S:ZeO scope x [])
  (hbind:∀(qual:Str) (clos:List (Str × Addr)) (pm cd ctv u:Value),ZB9 (ZDg "<lambda>" qual params body scope clos pm cd ctv) ⟨[u],[]⟩=pure [(x,u)])
  (hbody:∀(qual:Str) (f:Addr) (cd:Value) (clos:List (Str × Addr)) (A:Around) (outer:List Env) (s:Shared) (H:Hp),ZV k (A.deeper (ZAp qual scope s.heap.objs.size f cd clos))->XE (Zh0 X.prog X.w X.K X.mg X.base [x] qual scope f cd clos A outer s H) body ZqU)
  (hfree:∀y∈scope.names,y.2≠.free) (hcl:closureFor scope X.env=pure [])
  (ha:XB X a f) (hg:Gl X "sorted":=by rfl) (hs:Zyz [a] X.env=[(ZDD,eval a X.env)]:=by rfl)
  (he:backTo pos (Zyz [a] X.env)=(ZDD,eval a X.env)::backTo pos (Zyz [] X.env):=by rfl) (hpl:(backTo pos (Zyz [a] X.env)).any (·.1)=ZDD:=by rfl) :
  XF X (.Call (.Name "sorted" p) [a] [⟨Z "key",.Lambda params body scope lpos,kp⟩] pos) (HM.Zgu f):=by
 intro r d h;unfold HM.Zgu at h;split at h
 case h_2=>cases h
 rename_i y hx;split at h
 case h_2=>cases h
 rename_i ds hds;split at h
 case h_2=>cases h
 rename_i ts hts;split at h
 case isFalse=>cases h
 rename_i h64;cases h;intro pins s σ H Q I ⟨F0,H0,F,at_,kk⟩;refine Zz9 (Zhh I hg hm Zgw ?_);refine callWith_kw (thn (Zdr ha hx hs pos pins s σ H (λvs H1=>∃v fp F1,vs=[v]/\Ext F H F1 H1/\Z9 X.K F1 H1 y v fp) I ⟨F0,H0,F,at_,λv fp F' H' x1 r1=>⟨v,fp,F',rfl,x1,r1⟩⟩) λus s1 ⟨vs,H1,I1,rv,v,fp,F1,e1,x1,r1⟩=>?_) he hpl;subst e1;obtain⟨u,rfl,ru⟩:=vals1 rv;obtain⟨l,ws,rfl,hq,rs⟩:=ZcE x1.sub r1 hds;obtain rfl:u=Zzc l:=ru;rw[Zj6 hts]at rs;refine kws_cons (thn (ZnN L I1 (at_.tbx x1) hcl) λu2 s2 ⟨q,H2,e2,I2,m⟩=>?_);subst e2;refine kws_nil ?_;have nt1:=at_.ntx x1;have s12:Zp F1 H2:=λb o z=>m.hh.ntb (x1.sub b o z) (nt1 b o z);have hq2:SqL X.K H2 l ws:=hq.imp (λz=>z.imp (λz=>m.hh.ntb z rfl) λ⟨o,z⟩=>⟨o,m.hh.ntb z rfl⟩) id;obtain⟨its,rvs,pl,hz⟩:=I2.list hq2;obtain⟨o,ho,hcl',n,hd⟩:=pl.isList;have hlw:ws.length=ts.length:=by have:=rs.1; unfold HM.ZaG at this; rw[Zyj]at this; omega
 have hli:its.length=ts.length:=by rw[<-rvs.length,hlw]
 have ff:Zp F1 (ZcT F1 H2):=λb o z=>ZpB s12 z;have s33:Zp (ZcT F1 H2) H2:=λb o z=>by
  rcases Zf9 z with⟨w,_⟩ | w
  ·exact w
  ·exact s12 b o w
 have nt3:NoT (ZcT F1 H2):=λb o z=>by
  rcases Zf9 z with⟨w1,w2⟩ | w
  ·unfold ZcT at z
   split at z
   ·cases z; rfl
   ·exact nt1 b o z
  ·exact nt1 b o w
 obtain⟨pm,ctv,c,oc,m1,m2,m3⟩:=m.ex;have clo:Clo X.K (ZcT F1 H2) q params body scope [] []:=⟨_,pm,ctv,c,oc,[],ZeK m1,ZeK m2,m3,λ_ _ _ z=>(by cases z),λy hy z=>absurd z (hfree y hy),λ_ _ z=>(by cases z),rfl,λi y d z=>(by simp at z)⟩;refine call_function_entry_kw kind_sorted plain_sorted entry_sorted (ksk_s1 _ _) ?_;unfold Builtin.«sorted»;refine Zyi (m:=checkCount "sorted" 1 1 _) (Zym ?_);refine Zyi (ZCB l (.inl rfl) ho hcl' hd (λh' kp=>?_) (by rw[Zyu,Zze]; omega));refine Zyi (ZBG ?_ (by show its.toArray.toList.length<=_; rw[Zze,List.toList_toArray]; omega));have hoL:(h'.push (seqObj "list" its.toArray 0)).get? h'.objs.size=Z (seqObj "list" its.toArray 0):=ZyC _ rfl;refine Zyi (Zzp (wpAny_call_entry_kw ZCh ⟨_,hoL,rfl⟩ ZBZ ?_ (ksk_l1 _ _)));show wpAny _ X.A.in1.in1 (Builtin.«list.sort» ⟨[.ref h'.objs.size],[(ZAd "key",.ref q)]⟩) _ _ _;rw[ksk_t1];have I3:Inv X pins σ H2 { s2 with heap:=h' }:=I2.kept (t':=s2.toks) kp;refine ZtC (s:={ s2 with heap:=h' }) hr S hbind hbody I3 clo s33 nt3 m.tb rvs (rs.mono ff) h64 λH' ws' s' st' tb' hn I' rp=>⟨_,rfl,?_⟩;refine Zym ⟨_,rfl,.ref h'.objs.size,_,I',rfl,?_⟩;have x2:Ext F H F1 H':=⟨x1.ff,(x1.hh.trans m.hh).trans st',λb o z=>st'.ntb (s12 b o z) (nt1 b o z),x1.new,λ_=>tb',x1.nts⟩;exact ZcC (P:=λv _ H'=>Q v H') x2 (rp F1 rs) hn kk
end
end HP
namespace HM
open PySem
variable{i:Int}{ds:List D}{n:Nat}
theorem Zbx{α:Type}{c:TF}{e:EF}{r:Env}(g:α->D)(p:α->Bool)(f:α->D):∀(xs:List α),(∀x∈xs,c (Z (.pl (g x))::r)=Z (p x))->(∀x∈xs,p x=ZDC->e (Z (.pl (g x))::r)=Z (f x))->Zag c e r (xs.map g)=Z ((xs.filter p).map f)
 | [],_,_=>rfl
 | x::xs,h1,h2=>by
  have ih:=Zbx g p f xs (λy hy=>h1 y (Zyq _ hy)) (λy hy=>h2 y (Zyq _ hy));have hc:=h1 x (Zyo ..);rw[Zyv];unfold Zag;rw[hc];cases hp:p x with
  | true=>have he:=h2 x (Zyo ..) hp;dsimp only;rw[he];dsimp only;rw[ih,List.filter_cons_of_pos hp];rfl
  | false=>dsimp only;rw[ih,List.filter_cons_of_neg (by simp[hp])]
theorem Za5{α:Type}{e:EF}{r:Env}(g:α->D)(f:α->D)(xs:List α)(h:∀x∈xs,e (Z (.pl (g x))::r)=Z (f x)):Zag Z4 e r (xs.map g)=Z (xs.map f):=by rw[Zbx g (λ_=>ZDC) f xs (λ_ _=>rfl) λx hx _=>h x hx,ZB6.mpr λ_ _=>rfl]
theorem Zjj{α:Type}{i:Nat}{body:SF}(g:α->D)(P:List α->Env->Prop)(xs:List α)(r:Env)(h0:P [] r)
  (hs:∀pre x post r,xs=pre++x::post->P pre r->∃r',body (r.set i (Z (.pl (g x))))=Z (.nx r')/\P (pre++[x]) r'):∃r',Zaq i body (xs.map g) r=Z (.nx r')/\P xs r':=by
 have key:∀(post pre:List α) (r:Env),xs=pre++post->P pre r->∃r',Zaq i body (post.map g) r=Z (.nx r')/\P xs r':=by
  intro post
  induction post with
  | nil=>intro pre r e h; rw[Zy6]at e; subst e; exact⟨r,rfl,h⟩
  | cons x post ih=>intro pre r e h;obtain⟨r1,h1,h2⟩:=hs pre x post r e h;obtain⟨r2,h3,h4⟩:=ih (pre++[x]) r1 (by rw[e,ZAh]; rfl) h2;refine⟨r2,?_,h4⟩;rw[Zyv];unfold Zaq;rw[h1];exact h3
 exact key xs [] r rfl h0
def ZvD{α S:Type}(q:S->α->Bool)(step:S->α->S):S->List α->Bool
 | _,[]=>ZDC
 | s,x::xs=>q s x&&ZvD q step (step s x) xs
abbrev dI(i:Int):D:=ZyV i
abbrev dN(k:Nat):D:=ZyV (k:Int)
theorem ZhL(ns:List Int):ofInts ns=ns.map dI:=rfl
theorem Zai(n:Nat):ZcK 0 n=(Zyp n).map dN:=by unfold ZcK;refine ZzO λk _=>?_;show ZyV (0+(k:Int))=ZyV (k:Int);rw[Int.zero_add]
theorem Zc6(ns:List Int):Zas (ns.map dI)=Z ns:=by
 induction ns with
 | nil=>rfl
 | cons n ns ih=>show(Zas (ns.map dI)).map (n::·)=_; rw[ih]; rfl
theorem Zfr(bs:List Bool):Zds (bs.map λb=>Zzk b)=Z bs:=by
 induction bs with
 | nil=>rfl
 | cons b bs ih=>show(Zds (bs.map λb=>Zzk b)).map (b::·)=_; rw[ih]; rfl
abbrev tupI(ns:List Int):D:=Zzh (ns.map dI)
theorem ZeD{j:Nat}{d:D}(h:ds[j]?=Z d):atD ds (j:Int)=Z d:=by have hj:j<ds.length:=(Zyw.mp h).1;unfold atD ixN;rw[if_pos (by omega),if_pos (by omega)];simpa using h
theorem Zi8{d:D}(h0:0<=i)(h:ds[i.toNat]?=Z d):atD ds i=Z d:=by
 have e:i=((i.toNat:Nat):Int):=by omega
 rw[e]; exact ZeD (by simpa using h)
@[simp] theorem Zx9(d:D)(r:List D):atD (d::r) 0=Z d:=ZeD (j:=0) rfl
@[simp] theorem Zyc(a d:D)(r:List D):atD (a::d::r) 1=Z d:=ZeD (j:=1) rfl
@[simp] theorem Zx7(a b d:D)(r:List D):atD (a::b::d::r) 2=Z d:=ZeD (j:=2) rfl
@[simp] theorem Zx6(a b c d:D)(r:List D):atD (a::b::c::d::r) 3=Z d:=ZeD (j:=3) rfl
@[simp] theorem Zx5(a b c e d:D)(r:List D):atD (a::b::c::e::d::r) 4=Z d:=ZeD (j:=4) rfl
theorem ZxX(i j:Int)(h:(ZS i||ZS j)=ZDC):ZcS (.int i) (.int j)=Z (.int (i*j)):=by show(if ZS i||ZS j then Z (ZyV (i*j))else Z_)=_;rw[if_pos h]
@[simp] theorem ZxV:ZS 7=ZDC:=rfl
@[simp] theorem Zxf:ZS 11=ZDC:=rfl
@[simp] theorem Zxd:ZS 13=ZDC:=rfl
@[simp] theorem Zxm:ZS 17=ZDC:=rfl
@[simp] theorem Zxc:ZS 19=ZDC:=rfl
@[simp] theorem Zxo:ZS 23=ZDC:=rfl
@[simp] theorem Zxe:ZS 29=ZDC:=rfl
@[simp] theorem Zxj:ZS 31=ZDC:=rfl
@[simp] theorem Zxq:ZS 37=ZDC:=rfl
@[simp] theorem Zxl:ZS 41=ZDC:=rfl
@[simp] theorem Zxr:ZS 43=ZDC:=rfl
@[simp] theorem Zxb:ZS 47=ZDC:=rfl
@[simp] theorem Zxs:ZS 53=ZDC:=rfl
@[simp] theorem Zxk:ZS 59=ZDC:=rfl
@[simp] theorem Zxh:ZS 61=ZDC:=rfl
@[simp] theorem Zxp:ZS 67=ZDC:=rfl
@[simp] theorem Zxg:ZS 71=ZDC:=rfl
@[simp] theorem Zxi:ZS 73=ZDC:=rfl
@[simp] theorem Zwe:ZS 48271=ZDC:=rfl
@[simp] theorem ZxA:ZS 2=ZDC:=rfl
@[simp] theorem ZxF:ZS 3=ZDC:=rfl
@[simp] theorem ZxT:ZS 5=ZDC:=rfl
theorem ZiF(h1:-1000000000<i)(h2:i<1000000000):ZS i=ZDC:=by
 unfold ZS;have:i.natAbs<18446744073709551616:=by omega
 exact ZBm.mpr this
theorem Zdh(h:n<1000000):okR (n:Int)=ZDC:=ZBm.mpr (by omega)
@[simp] theorem Zw6(i:Int):Zb6 (.int i)=ZDC:=rfl
@[simp] theorem ZwF(i:Bool):Zb6 (.bool i)=ZDC:=rfl
@[simp] theorem ZwE:Zb6 .none=ZDC:=rfl
@[simp] theorem Zx0(i j:Int):ZAV (.int i) (.int j)=(i==j):=rfl
structure Wk where
 many:Nat
 deeds:List (List (List Int))
 looks:List (List Int)
 beg:List Int
 goal:List Int
noncomputable def ZB (dd:List (List Int)):D:=.tuple (dd.map tupI)
def Wk.d(w:Wk):D:=.tuple [.int w.many,.tuple (w.deeds.map ZB),.tuple (w.looks.map tupI),tupI w.beg,tupI w.goal]
def Cr(n:Nat)(c:List Int):Prop:=c.Pairwise (· < ·)/\∀x∈c,0<=x/\x<(n:Int)
structure Wk.Ok(w:Wk):Prop where
 m1:2<=w.many
 m2:w.many<=5
 d1:1<=w.deeds.length
 d2:w.deeds.length<=3
 dl:∀dd∈w.deeds,dd.length=w.many
 dc:∀dd∈w.deeds,∀c∈dd,Cr w.many c
 l2:w.looks.length<=3
 ll:∀l∈w.looks,l.length=w.many
 lc:∀l∈w.looks,∀x∈l,0<=x/\x<=9
 b1:w.beg≠[]
 bc:Cr w.many w.beg
 g1:w.goal≠[]
 gc:Cr w.many w.goal
theorem Cr.len:∀{c:List Int},Cr n c->c.length<=n:=by
 have key:∀(c:List Int) (l:Int),c.Pairwise (· < ·)->(∀x∈c,l<=x/\x<(n:Int))->(c.length:Int)<=max 0 ((n:Int)-l):=by
  intro c
  induction c with
  | nil=>intro l _ _; simp; omega
  | cons x c ih=>intro l hp hb;have h1:=hb x (Zyo ..);have h2:=ih (x+1) (Zzb.mp hp).2 λy hy=>⟨by have:=(Zzb.mp hp).1 y hy; omega,(hb y (Zyq _ hy)).2⟩;rw[ZyD];omega
 intro c h;have:=key c 0 h.1 h.2;omega
theorem sortI_perm(ns:List Int):(sortI ns).Perm ns:=ZAk ns _
theorem Zs3(ns:List Int):(sortI ns).Pairwise (·<=·):=by have h:=ZAP (le:=λa b:Int=>decide (a<=b)) (λa b c h1 h2=>by simp at *; omega) (λa b=>by simp; omega) ns;exact h.imp λh=>by simpa using h
theorem ZjI:∀{ns:List Int},ns.Pairwise (·<=·)->ns.Nodup->ns.Pairwise (· < ·)
 | [],_,_=>.nil
 | n::ns,h,hn=>by obtain⟨h1,h2⟩:=Zzb.mp h;obtain⟨n1,n2⟩:=Zzn.mp hn;refine Zzb.mpr ⟨λx hx=>?_,ZjI h2 n2⟩;have:=h1 x hx;have:n≠x:=λe=>n1 (e▸hx);omega
theorem Zf6{ns:List Int}(hn:ns.Nodup)(hb:∀x∈ns,0<=x/\x<(n:Int)):Cr n (sortI ns) :=
 ⟨ZjI (Zs3 ns) ((sortI_perm ns).nodup_iff.mpr hn),λx hx=>hb x ((sortI_perm ns).mem_iff.mp hx)⟩
theorem ZhT(ns:List Int)(h:ns.length<64):ZeW (ns.map dI)=Z ((sortI ns).map dI):=by unfold ZeW;rw[if_pos (by rw[Zyj]; exact h),Zc6];rfl
theorem Zc7:∀(ns acc:List Int) (x:Int),x∈dedup acc ns↔x∈acc\/x∈ns
 | [],acc,x=>by simp[dedup]
 | n::ns,acc,x=>by
  unfold dedup;split
  ·rename_i h
   have h':n∈acc:=by simpa using h
   rw[Zc7 ns acc x]
   constructor
   ·rintro (h | h)
    ·exact .inl h
    ·exact .inr (Zyq _ h)
   ·rintro (h | h)
    ·exact .inl h
    ·rcases ZyH.mp h with e | e
     ·exact .inl (e▸h')
     ·exact .inr e
  ·rw[Zc7 ns _ x,ZyK,Zyt,ZyH]
   constructor
   ·rintro ((h | h) | h)
    ·exact .inl h
    ·exact .inr (.inl h)
    ·exact .inr (.inr h)
   ·rintro (h | h | h)
    ·exact .inl (.inl h)
    ·exact .inl (.inr h)
    ·exact .inr h
theorem Zdt:∀(ns acc:List Int),acc.Nodup->(dedup acc ns).Nodup
 | [],acc,h=>h
 | n::ns,acc,h=>by
  unfold dedup;split
  ·exact Zdt ns acc h
  ·rename_i hc
   have hc':n ∉ acc:=by simpa using hc
   refine Zdt ns _ ?_;rw[ZAY];exact⟨h,by simp,λa ha b hb=>by simp at hb; subst hb; exact λe=>hc' (e▸ha)⟩
end HM
namespace HG
open PySem HM
def Zig:SF :=
 (Zu (sIf (tOr (tV (ZhN (Zc 0) .bool)) (ZbZ (tV (ZhN (Zc 0) .int)))) (ZA (eC (.bool ZDD))) Zar)
  (ZA (Zky gLe gLe (Zc 1) (Zc 0) (Zc 2))))
def ZaW:List D->Option D:=fnOf 3 3 Zig
def ZlF:SF :=
 (ZA (ZfZ (ZhN (Zc 0) .tuple) (Zky gLe gLe (Zc 1) (Zbe (Zo 0)) (Zc 2))))
def ZaP:List D->Option D:=fnOf 3 3 ZlF
def Zal:SF :=
 (Zu (sIf (ZbZ (tV (Zh ZaW (Za (Zc 3) (Za (Zc 2) (Za (op2 Zk9 (Zc 1) (eC (.int 1))) Zg)))))) (ZA (eC (.bool ZDD))) Zar)
  (ZU 2 (op2 Zbu (Zc 3) (eC (.int 1)))))
def Zd2:SF :=
 (Zu (sIf (ZbZ (tV (ZhN (Zc 0) .tuple))) (ZA (eC (.bool ZDD))) Zar)
  (Zu (ZU 2 (eC (.int 0)))
  (Zu (Zby 3 (ZP (bOf (Zc 0))) Zal)
  (ZA (eC (.bool ZDC))))))
def Z7:List D->Option D:=fnOf 2 4 Zd2
def Zhk:SF :=
 (ZA (ZfZ (Zh ZaP (Za (Zc 0) (Za (Zc 1) (Za (Zc 1) Zg)))) (ZhI (Zz (ZP (bOf (Zc 0))) Z4 (Zh Z7 (Za (Zc 0) (Za (Zc 2) Zg)))))))
def Zcx:List D->Option D:=fnOf 2 2 Zhk
def Zhl:SF :=
 (ZA (ZfZ (Zh ZaP (Za (Zc 0) (Za (Zc 1) (Za (Zc 1) Zg)))) (ZhI (Zz (ZP (bOf (Zc 0))) Z4 (Zh ZaW (Za (Zc 0) (Za (eC (.int 0)) (Za (eC (.int 9)) Zg))))))))
def Zcy:List D->Option D:=fnOf 2 2 Zhl
def Zih:SF :=
 (ZA (ZfZ (Zh ZaP (Za (Zc 0) (Za (eC (.int 1)) (Za (eC (.int 5)) Zg)))) (ZhI (Zz (ZP (bOf (Zc 0))) Z4 (Zh Zcx (Za (Zc 0) (Za (Zc 2) Zg)))))))
def ZcY:List D->Option D:=fnOf 2 2 Zih
def Zii:SF :=
 (ZA (ZfZ (Zh ZaP (Za (Zc 0) (Za (eC (.int 0)) (Za (eC (.int 4)) Zg)))) (ZhI (Zz (ZP (bOf (Zc 0))) Z4 (Zh Zcy (Za (Zc 0) (Za (Zc 2) Zg)))))))
def ZcZ:List D->Option D:=fnOf 2 2 Zii
def Zju:SF :=
 (ZA (ZfZ (Zh Z7 (Za (Zc 0) (Za (Zc 1) Zg))) (op2 gGt (Zbe (Zo 0)) (eC (.int 0)))))
def Zdn:List D->Option D:=fnOf 2 2 Zju
def Zij:SF :=
 (Zu (sIf (tOr (ZbZ (tV (Zh ZaP (Za (Zc 0) (Za (eC (.int 5)) (Za (eC (.int 5)) Zg)))))) (ZbZ (tV (Zh ZaW (Za (eIx (Zo 0) (eC (.int 0))) (Za (eC (.int 1)) (Za (eC (.int 8)) Zg))))))) (ZA (eC (.bool ZDD))) Zar)
  (Zu (ZU 1 (eIx (Zo 0) (eC (.int 0))))
  (Zu (sIf (tOr (ZbZ (tV (Zh ZcY (Za (eIx (Zo 0) (eC (.int 1))) (Za (Zc 1) Zg))))) (ZbZ (tV (Zh ZcZ (Za (eIx (Zo 0) (eC (.int 2))) (Za (Zc 1) Zg)))))) (ZA (eC (.bool ZDD))) Zar)
  (ZA (ZfZ (Zh Zdn (Za (eIx (Zo 0) (eC (.int 3))) (Za (Zc 1) Zg))) (Zh Z7 (Za (eIx (Zo 0) (eC (.int 4))) (Za (Zc 1) Zg))))))))
def Zc0:List D->Option D:=fnOf 1 2 Zij
def Zik:SF :=
 (ZA (eIx (Zo 0) (eC (.int 0))))
def ZbI:List D->Option D:=fnOf 1 1 Zik
def Zjv:SF :=
 (ZA (eIx (Zo 0) (eC (.int 1))))
def ZaM:List D->Option D:=fnOf 1 1 Zjv
def Zjw:SF :=
 (ZA (eIx (Zo 0) (eC (.int 2))))
def Zbm:List D->Option D:=fnOf 1 1 Zjw
def Zkg:SF :=
 (Zu (sIf (ZbZ (tV (Zh Zc0 (Za (Zc 0) Zg)))) ZoH Zar)
  (ZA (Zc 0)))
def ZaX:List D->Option D:=fnOf 1 1 Zkg
def ZfB:SF :=
 (Zu (sIf (ZbZ (tV (Zh Z7 (Za (Zc 1) (Za (Zbe (bOf (Zh Zbm (Za (Zc 0) Zg)))) Zg))))) ZoH Zar)
  (ZA (Zc 1)))
def ZbJ:List D->Option D:=fnOf 2 2 ZfB
def Zkh:SF :=
 (ZA (Z2 (Zz (ZP (bOf (Zc 1))) Z4 (eIx (bOf (eIx (bOf (Zh Zbm (Za (Zc 1) Zg))) (Zc 0))) (Zc 3)))))
def Zd3:List D->Option D:=fnOf 3 3 Zkh
def Zg0:SF :=
 (Zu (ZU 3 (eIx (bOf (Zh ZaM (Za (Zc 0) Zg))) (Zc 2)))
  (ZA (ZhI (Zz (ZP (bOf (Zc 1))) Z4 (op2 gGt (Zbe (bOf (eIx (Zo 4) (Zc 0)))) (eC (.int 0)))))))
def Zcg:List D->Option D:=fnOf 3 4 Zg0
def Zh4:SF :=
 (ZA (eOf (Zz (ZbV (Zbe (bOf (Zh ZaM (Za (Zc 0) Zg))))) (tV (Zh Zcg (Za (Zc 1) (Za (Zc 2) (Za (Zc 0) Zg))))) (Zc 0))))
def ZcG:List D->Option D:=fnOf 2 2 Zh4
def Zd4:SF :=
 (ZiJ 4 (Zc 6) (eC (.bool ZDC)))
def Zd5:SF :=
 (Zby 6 (ZP (bOf (eIx (Zo 3) (Zc 5)))) Zd4)
def ZlG:SF :=
 (Zu (ZU 3 (eIx (bOf (Zh ZaM (Za (Zc 0) Zg))) (Zc 2)))
  (Zu (ZT 4 fDk)
  (Zu (Zby 5 (ZP (bOf (Zc 1))) Zd5)
  (ZA (Z2 (Zg5 (Zo 4)))))))
def ZdO:List D->Option D:=fnOf 3 7 ZlG
def Zd6:SF :=
 (ZoM 3 (Zh Zd3 (Za (Zc 0) (Za (Zc 1) (Za (Zc 4) Zg)))) (Zc 4))
def ZlH:SF :=
 (Zu (ZT 3 Zwh)
  (Zu (Zby 4 (ZP (bOf (Zc 2))) Zd6)
  (ZA (eOf (Zz (ZP (bOf (eOf (Zg5 (Zo 3))))) Z4 (Zac (Za (Zc 0) (Za (Z2 (ZqJ 4 (Zc 0))) Zg))))))))
def Zba:List D->Option D:=fnOf 3 5 ZlH
def Zjx:SF :=
 (Zu (sIf (tV (op2 gLt (Zc 1) (Zbe (Zo 0)))) (ZA (eIx (Zo 0) (Zc 1))) Zar)
  (ZA (eC (.int 0))))
def ZK:List D->Option D:=fnOf 2 2 Zjx
def Zki:SF :=
 (ZA (op2 ZqQ (op2 ZqQ (op2 ZcS (Zc 0) (eC (.int 48271))) (Zc 1)) (Zc 2)))
def ZG:List D->Option D:=fnOf 3 3 Zki
def ZfC:SF :=
 (Zu (ZT 3 (Zz (ZbV (Zc 1)) (tV (op2 gLt (Zh ZG (Za (op2 Zbu (op2 Zbu (Zc 1) (op2 ZcS (op2 ZcS (eC (.int 31)) (Zc 0)) (Zc 0))) (op2 ZcS (eC (.int 7)) (Zc 0))) (Za (eC (.int 9973)) (Za (eC (.int 5)) Zg)))) (eC (.int 2)))) (Zc 0)))
  (Zu (sIf (tV (op2 gLt (Zbe (Zo 3)) (Zc 2))) (ZT 3 (Zeq (Za (Zh ZG (Za (Zc 0) (Za (eC (.int 9967)) (Za (Zc 1) Zg)))) Zg))) Zar)
  (ZA (Z2 (Zo 3)))))
def ZbK:List D->Option D:=fnOf 3 4 ZfC
def ZbL:SF :=
 (Zu (ZU 4 (op2 Zbu (op2 Zbu (Zc 0) (op2 ZcS (op2 ZcS (eC (.int 43)) (Zc 3)) (Zc 3))) (op2 ZcS (eC (.int 11)) (Zc 3))))
  (Zu (ZU 5 (Zh ZG (Za (Zc 4) (Za (eC (.int 9949)) (Za (eC (.int 10)) Zg)))))
  (Zu (ZT 6 (Zop (Zh ZG (Za (Zc 4) (Za (eC (.int 9941)) (Za (Zc 1) Zg)))) (eC (.bool ZDC))))
  (Zu (sIf (tV (op2 gLt (Zc 5) (eC (.int 3)))) (ZiJ 6 (Zh ZG (Za (Zc 4) (Za (eC (.int 9931)) (Za (Zc 1) Zg)))) (eC (.bool ZDC))) Zar)
  (Zu (ZdQ 2 (Z2 (Zg5 (Zo 6))))
  (sIf (tV (op2 gEq (Zc 5) (eC (.int 9)))) (Zq4 2 (eC (.int (-1))) (Zac Zg)) Zar))))))
def Zjy:SF :=
 (Zu (ZT 2 (Zeq Zg))
  (Zu (Zby 3 (ZbV (Zc 1)) ZbL)
  (ZA (Z2 (Zo 2)))))
def ZbD:List D->Option D:=fnOf 2 7 Zjy
def Zc1:SF :=
 (Zu (ZU 5 (op2 Zvj (op2 Zk9 (Zc 4) (eC (.int 1))) (eC (.int 0))))
  (Zu (ZU 6 (op2 Zv8 (op2 Zbu (Zc 4) (eC (.int 1))) (op2 Zk9 (Zc 1) (eC (.int 1)))))
  (Zu (ZU 7 (op2 gEq (Zh ZG (Za (op2 Zbu (Zc 0) (op2 ZcS (eC (.int 17)) (Zc 4))) (Za (eC (.int 9929)) (Za (eC (.int 6)) Zg)))) (eC (.int 1))))
  (Zu (ZdQ 2 (Z2 (ZhB (ZqX (Zeq (Za (Zc 5) Zg)) (Ztg (Zeq (Za (Zc 4) Zg)) (Zog (Zc 7)))))))
  (ZdQ 3 (Zac (Za (Zc 6) Zg)))))))
def Zjz:SF :=
 (Zu (ZT 2 (Zeq Zg))
  (Zu (ZT 3 (Zeq Zg))
  (Zu (Zby 4 (ZbV (Zc 1)) Zc1)
  (ZA (Zac (Za (Z2 (Zo 2)) (Za (Z2 (Zo 3)) Zg)))))))
def Zdo:List D->Option D:=fnOf 2 8 Zjz
def ZcH:SF :=
 (Zu (ZU 7 (op2 Zbu (Zh ZK (Za (Zc 0) (Za (op2 Zbu (op2 Zbu (Zc 1) (eC (.int 4))) (Zc 5)) Zg))) (op2 ZcS (eC (.int 71)) (Zc 5))))
  (Zu (ZU 8 (op2 Zbu (eC (.int 2)) (Zh ZG (Za (Zc 7) (Za (eC (.int 9883)) (Za (eC (.int 2)) Zg))))))
  (ZdQ 6 (Z2 (Zz (ZbV (Zc 3)) Z4 (Zh ZG (Za (op2 Zbu (Zc 8) (op2 ZcS (op2 ZcS (eC (.int 13)) (Zc 0)) (Zc 0))) (Za (eC (.int 9871)) (Za (Zc 9) Zg)))))))))
def Zdu:SF :=
 (ZdQ 4 (Zh ZbD (Za (op2 Zbu (Zh ZK (Za (Zc 0) (Za (op2 Zbu (op2 Zbu (Zc 1) (eC (.int 1))) (Zc 5)) Zg))) (op2 ZcS (eC (.int 61)) (Zc 5))) (Za (Zc 3) Zg))))
def Zc2:SF :=
 (Zu (ZU 2 (Zh ZK (Za (Zc 0) (Za (Zc 1) Zg))))
  (Zu (ZU 3 (op2 Zbu (eC (.int 2)) (Zh ZG (Za (Zc 2) (Za (eC (.int 9923)) (Za (eC (.int 4)) Zg))))))
  (Zu (sIf (tV (op2 gGt (Zbe (Zo 0)) (eC (.int 63)))) (ZU 3 (op2 Zbu (eC (.int 2)) (Zh ZG (Za (Zc 2) (Za (eC (.int 9923)) (Za (eC (.int 6)) Zg)))))) Zar)
  (Zu (ZT 4 (Zeq Zg))
  (Zu (Zby 5 (ZbV (op2 Zbu (eC (.int 1)) (Zh ZG (Za (Zc 2) (Za (eC (.int 9907)) (Za (eC (.int 3)) Zg)))))) Zdu)
  (Zu (sIf (tV (op2 gEq (Zh ZG (Za (Zc 2) (Za (eC (.int 9901)) (Za (eC (.int 3)) Zg)))) (eC (.int 1)))) (ZT 4 (ZqX (Zja (bOf (Zh Zdo (Za (Zh ZK (Za (Zc 0) (Za (op2 Zbu (Zc 1) (eC (.int 1))) Zg))) (Za (Zc 3) Zg))))) (Ztk (Zo 4) Z_ (Z (eC (.int 1)))))) Zar)
  (Zu (ZT 6 (Zeq Zg))
  (Zu (Zby 5 (ZbV (Zh ZG (Za (Zc 2) (Za (eC (.int 9887)) (Za (eC (.int 4)) Zg))))) ZcH)
  (Zu (ZU 9 (Zh ZbK (Za (Zh ZK (Za (Zc 0) (Za (op2 Zbu (Zc 1) (eC (.int 7))) Zg))) (Za (Zc 3) (Za (eC (.int 1)) Zg)))))
  (Zu (sIf (tV (op2 gEq (Zh ZG (Za (Zc 2) (Za (eC (.int 9859)) (Za (eC (.int 3)) Zg)))) (eC (.int 1)))) (ZU 9 (ZeE (ZbV (Zc 3)))) Zar)
  (Zu (ZU 10 (Zh ZbK (Za (Zh ZK (Za (Zc 0) (Za (op2 Zbu (Zc 1) (eC (.int 8))) Zg))) (Za (Zc 3) (Za (eC (.int 1)) Zg)))))
  (ZA (Zac (Za (Zc 3) (Za (Z2 (Zo 4)) (Za (Z2 (Zo 6)) (Za (Zc 9) (Za (Zc 10) Zg))))))))))))))))))
def ZaY:List D->Option D:=fnOf 2 11 Zc2
def Zil:SF :=
 (ZA (Z2 (Zz (ZbV (Zbe (bOf (eIx (Zo 0) (eC (.int 2)))))) (tV (op2 gGt (Zh ZG (Za (op2 Zbu (Zc 2) (op2 ZcS (eC (.int 19)) (Zc 0))) (Za (eC (.int 9857)) (Za (eC (.int 4)) Zg)))) (eC (.int 0)))) (Zc 0))))
def Zch:List D->Option D:=fnOf 2 2 Zil
end HG
namespace HG
open PySem HM
def Zr(ns:List Int)(k:Nat):Int:=if k<ns.length then ns.getD k 0 else 0
theorem Zdj(ns:List Int)(k:Nat):ZK [.list (ns.map dI),.int k]=Z (.int (Zr ns k)):=by
 simp[ZK,Zjx,Zr]
 by_cases h:k<ns.length
 ·have h':(k:Int)<(ns.length:Int):=by omega
  have e:atD (ns.map dI) (k:Int)=Z (.int ns[k]):=ZeD (by simp[h]);simp[h,h',e]
 ·have h':¬(k:Int)<(ns.length:Int):=by omega
  simp[h,h']
def ZQ(c p m:Int):Int:=c*48271 % p % m
theorem Zb5(c p m:Int)(hp:0<p)(hm:0<m):ZG [.int c,.int p,.int m]=Z (.int (ZQ c p m)):=by simp[ZG,Zki,hp,hm,ZQ]
theorem ZaB(c p m:Int)(hm:0<m):0<=ZQ c p m/\ZQ c p m<m:=⟨Int.emod_nonneg _ (by omega),Int.emod_lt_of_pos _ hm⟩
def crP(c:Int)(k:Nat):Bool:=decide (ZQ (c+31*(k:Int)*(k:Int)+7*(k:Int)) 9973 5<2)
def crF(c:Int)(n:Nat):List Int:=((Zyp n).filter (crP c)).map λ(k:Nat)=>(k:Int)
def crV(c:Int)(n:Nat):List Int:=if(crF c n).length<1 then[ZQ c 9967 n]else crF c n
theorem Zh1(n:Nat)(p:Nat->Bool):Cr n (((Zyp n).filter p).map λ(k:Nat)=>(k:Int)):=by
 refine⟨?_,λx hx=>?_⟩
 ·rw[ZCA]
  refine List.Pairwise.imp (λ{a b} h=>?_) (List.Pairwise.filter p ZC7);omega
 ·obtain⟨k,hk,rfl⟩:=Zyy.mp hx
  have:=ZyJ.mp (ZyW.mp hk).1;omega
theorem Zss(c:Int)(n:Nat)(hn:0<n):Cr n (crV c n)/\crV c n≠[]:=by
 unfold crV;split
 ·refine⟨⟨by simp,λx hx=>?_⟩,by simp⟩
  have e:x=ZQ c 9967 n:=by simpa using hx
  rw[e];have:=ZaB c 9967 n (by omega);omega
 ·rename_i h
  exact⟨Zh1 n _,λe=>h (by rw[e]; simp)⟩
theorem Zoi(c:Int)(n:Nat)(hn:0<n)(hb:n<1000):ZbK [.int c,.int n,.int 1]=Z (tupI (crV c n)):=by
 have hn':(0:Int)<(n:Int):=by omega
 have key:Zag (tV (op2 gLt (Zh ZG (Za (op2 Zbu (op2 Zbu (Zc 1) (op2 ZcS (op2 ZcS (eC (.int 31)) (Zc 0)) (Zc 0))) (op2 ZcS (eC (.int 7)) (Zc 0))) (Za (eC (.int 9973)) (Za (eC (.int 5)) Zg)))) (eC (.int 2)))) (Zc 0)
   [Z (.pl (.int c)),Z (.pl (.int n)),Z (.pl (.int 1)),Z_] (ZcK 0 n)=Z ((crF c n).map dI):=by
  rw[Zai];rw[Zbx dN (crP c) dN]
  ·unfold crF
   rw[ZyM];rfl
  ·intro k hk
   have hk':=ZyJ.mp hk;have s2:ZS (31*(k:Int))=ZDC:=ZiF (by omega) (by omega);simp[Zb5,crP,s2]
  ·intro k hk _
   simp
 have h1:okR (n:Int)=ZDC:=Zdh (by omega);have h2:(ZcK 0 n).length<1000000:=by rw[Zai]; simp; omega
 by_cases hl:(crF c n).length<1
 ·have hl':((crF c n).length:Int)<1:=by omega
  have hm:=Zb5 c 9967 n (by decide) hn';simp[ZbK,ZfC,h1,h2,key];simp[hl',crV,hl,hm]
 ·have hl':¬((crF c n).length:Int)<1:=by omega
  simp[ZbK,ZfC,h1,h2,key];simp[hl',crV,hl]
def Ztu(c:Int)(n k:Nat):List Int :=
 let s:=c+43*(k:Int)*(k:Int)+11*(k:Int)
 if ZQ s 9949 10<3/\ZQ s 9941 n≠ZQ s 9931 n then[ZQ s 9941 n,ZQ s 9931 n]else[ZQ s 9941 n]
def ZdK(c:Int)(n k:Nat):List Int:=if ZQ (c+43*(k:Int)*(k:Int)+11*(k:Int)) 9949 10=9 then[]else sortI (Ztu c n k)
theorem ZpN(c:Int)(n k:Nat)(hn:0<n):Cr n (ZdK c n k):=by
 unfold ZdK;split
 ·exact⟨.nil,λx hx=>by simp at hx⟩
 ·unfold Ztu
  dsimp only;have b1:=ZaB (c+43*(k:Int)*(k:Int)+11*(k:Int)) 9941 n (by omega);have b2:=ZaB (c+43*(k:Int)*(k:Int)+11*(k:Int)) 9931 n (by omega);split
  ·rename_i h
   refine Zf6 (by simp[h.2]) λx hx=>?_;simp at hx;rcases hx with e | e<;>(subst e; assumption)
  ·refine Zf6 (by simp) λx hx=>?_
   simp at hx;subst hx; assumption
theorem Ztm(n:Nat):ixN (n+1) (-1)=Z n:=by unfold ixN;rw[if_neg (by decide),if_pos (by omega)];congr 1;omega
theorem Zr0(c:Int)(n k:Nat)(rows:List D)(o4 o5 o6:Option B)(hn:0<n)(hk:k<1000)(hl:rows.length<1000) :
  ∃r5 r6 r7,ZbL [Z (.pl (.int c)),Z (.pl (.int n)),Z (.ol rows),Z (.pl (dN k)),o4,o5,o6]=Z (.nx [Z (.pl (.int c)),Z (.pl (.int n)),Z (.ol (rows++[tupI (ZdK c n k)])),Z (.pl (dN k)),r5,r6,r7]):=by
 have hn':(0:Int)<(n:Int):=by omega
 have s2:ZS (43*(k:Int))=ZDC:=ZiF (by omega) (by omega);have hl':rows.length<1000000:=by omega
 have m1:=Zb5 (c+43*(k:Int)*(k:Int)+11*(k:Int)) 9949 10 (by decide) (by decide);have m2:=Zb5 (c+43*(k:Int)*(k:Int)+11*(k:Int)) 9941 n (by decide) hn';have m3:=Zb5 (c+43*(k:Int)*(k:Int)+11*(k:Int)) 9931 n (by decide) hn';unfold ZdK Ztu;dsimp only;generalize ZQ (c+43*(k:Int)*(k:Int)+11*(k:Int)) 9949 10=wy at *;generalize ZQ (c+43*(k:Int)*(k:Int)+11*(k:Int)) 9941 n=a at *;generalize ZQ (c+43*(k:Int)*(k:Int)+11*(k:Int)) 9931 n=b at *;have t1:ZeW [ZyV a]=Z ((sortI [a]).map dI):=ZhT [a] (by simp);have t2:ZeW [ZyV a,ZyV b]=Z ((sortI [a,b]).map dI):=ZhT [a,b] (by simp)
 by_cases w3:wy<3
 ·have w9:(wy==9)=ZDD:=by simp; omega
  have w9':¬wy=9:=by omega
  by_cases ab:a=b
  ·subst ab
   simp[ZbL,s2,m1,m2,m3,w3,w9,w9',putD,Zat,hl',t1]
  ·simp[ZbL,s2,m1,m2,m3,w3,w9,w9',putD,ab,Zat,hl',t2]
 ·by_cases w9:wy=9
  ·subst w9
   simp[ZbL,s2,m1,m2,putD,Zat,hl',t1,Ztm]
  ·have w9':(wy==9)=ZDD:=by simp[w9]
   simp[ZbL,s2,m1,m2,w3,w9',w9,putD,Zat,hl',t1]
theorem ZpV(c:Int)(n:Nat)(hn:0<n)(hb:n<1000):ZbD [.int c,.int n]=Z (ZB ((Zyp n).map λk=>ZdK c n k)):=by
 have h1:okR (n:Int)=ZDC:=Zdh (by omega);have h2:(ZcK 0 n).length<1000000:=by rw[Zai]; simp; omega
 obtain⟨r',e1,o3,o4,o5,o6,p1⟩:=Zjj (i:=3) (body:=ZbL) dN (λ(s:List Nat) r=>∃o3 o4 o5 o6,r=[Z (.pl (.int c)),Z (.pl (.int n)),Z (.ol (s.map λk=>tupI (ZdK c n k))),o3,o4,o5,o6]) (Zyp n)
  [Z (.pl (.int c)),Z (.pl (.int n)),Z (.ol []),Z_,Z_,Z_,Z_] ⟨Z_,Z_,Z_,Z_,rfl⟩ (by
   rintro s k post r hxs ⟨o3,o4,o5,o6,rfl⟩
   have hk':k<n:=ZyJ.mp (by rw[hxs]; simp);have hs:s.length<n:=by have:=congrArg Zy8 hxs; simp at this; omega
   obtain⟨r5,r6,r7,e⟩:=Zr0 c n k (s.map λk=>tupI (ZdK c n k)) o4 o5 o6 hn (by omega) (by simp; omega);exact⟨_,e,Z (.pl (dN k)),r5,r6,r7,by simp⟩)
 subst p1;have hl:n<1000000:=by omega
 simp[ZbD,Zjy,h1,Zai,hl,e1,ZB]
end HG
namespace HG
open PySem HM
def ahV(k:Nat):Int:=if(0:Int) > (k:Int)-1 then 0 else(k:Int)-1
def beV(n k:Nat):Int:=if(n:Int)-1<(k:Int)+1 then(n:Int)-1 else(k:Int)+1
def wlV(c:Int)(k:Nat):List Int:=sortI (dedup [] (ahV k::(if ZQ (c+17*(k:Int)) 9929 6=1 then[(k:Int)]else[])))
theorem ZvO(c:Int)(n k:Nat)(hk:k<n):Cr n (wlV c k):=by
 unfold wlV;have ha:0<=ahV k/\ahV k<n:=by unfold ahV; split<;>omega
 refine Zf6 (Zdt _ _ (by simp)) λx hx=>?_;rw[Zc7]at hx;rcases hx with h | h
 ·simp at h
 ·rcases ZyH.mp h with e | e
  ·subst e; exact ha
  ·split at e
   ·simp at e; subst e; omega
   ·simp at e
theorem Zwa(n k:Nat)(hk:k<n):Cr n [beV n k]:=by
 have ha:0<=beV n k/\beV n k<n:=by unfold beV; split<;>omega
 exact⟨by simp,λx hx=>by simp at hx; subst hx; exact ha⟩
theorem ZrF(c:Int)(n k:Nat)(ls rs:List D)(o4 o5 o6 o7:Option B)(hk:k<8)(h1:ls.length<1000)(h2:rs.length<1000) :
  ∃r4 r5 r6,Zc1 [Z (.pl (.int c)),Z (.pl (.int n)),Z (.ol ls),Z (.ol rs),Z (.pl (dN k)),o5,o6,o7]=Z (.nx [Z (.pl (.int c)),Z (.pl (.int n)),Z (.ol (ls++[tupI (wlV c k)])),Z (.ol (rs++[tupI [beV n k]])),Z (.pl (dN k)),r4,r5,r6]):=by
 have h1':ls.length<1000000:=by omega
 have h2':rs.length<1000000:=by omega
 have m1:=Zb5 (c+17*(k:Int)) 9929 6 (by decide) (by decide);have hk8:k=0\/k=1\/k=2\/k=3\/k=4\/k=5\/k=6\/k=7:=by omega
 have l1:Zj8 [if(k:Int)-1<0 then 0 else(k:Int)-1,(k:Int)]=ZDC:=by rcases hk8 with rfl | rfl | rfl | rfl | rfl | rfl | rfl | rfl<;>rfl
 have l2:Zj8 [if(k:Int)-1<0 then 0 else(k:Int)-1]=ZDC:=by rcases hk8 with rfl | rfl | rfl | rfl | rfl | rfl | rfl | rfl<;>rfl
 unfold wlV;generalize ZQ (c+17*(k:Int)) 9929 6=a at *
 by_cases e:a=1
 ·subst e
  simp[Zc1,m1,h1',h2',ahV,beV,Zas,ZhL,l1]
 ·have e':(a==1)=ZDD:=by simp[e]
  simp[Zc1,m1,h1',h2',ahV,beV,e,e',Zas,ZhL,l2]
theorem ZuP(c:Int)(n:Nat)(hb:n<=8):Zdo [.int c,.int n]=Z (.tuple [ZB ((Zyp n).map λk=>wlV c k),ZB ((Zyp n).map λk=>[beV n k])]):=by
 have h1:okR (n:Int)=ZDC:=Zdh (by omega);obtain⟨r',e1,o4,o5,o6,o7,p1⟩:=Zjj (i:=4) (body:=Zc1) dN (λ(s:List Nat) r=>∃o4 o5 o6 o7,r=[Z (.pl (.int c)),Z (.pl (.int n)),Z (.ol (s.map λk=>tupI (wlV c k))),Z (.ol (s.map λk=>tupI [beV n k])),o4,o5,o6,o7]) (Zyp n)
  [Z (.pl (.int c)),Z (.pl (.int n)),Z (.ol []),Z (.ol []),Z_,Z_,Z_,Z_] ⟨Z_,Z_,Z_,Z_,rfl⟩ (by
   rintro s k post r hxs ⟨o4,o5,o6,o7,rfl⟩
   have hk':k<n:=ZyJ.mp (by rw[hxs]; simp);have hs:s.length<n:=by have:=congrArg Zy8 hxs; simp at this; omega
   obtain⟨r5,r6,r7,e⟩:=ZrF c n k (s.map λk=>tupI (wlV c k)) (s.map λk=>tupI [beV n k]) o4 o5 o6 o7 (by omega) (by simp; omega) (by simp; omega);exact⟨_,e,Z (.pl (dN k)),r5,r6,r7,by simp⟩)
 subst p1;have hl:n<1000000:=by omega
 simp[Zdo,Zjz,h1,Zai,hl,e1,ZB]
section
variable(ns:List Int)(at_:Nat)
def ZJ:Nat:=(2+ZQ (Zr ns at_) 9923 4).toNat
def ZbA:List (List (List Int)):=(Zyp (1+ZQ (Zr ns at_) 9907 3).toNat).map λk=>(Zyp (ZJ ns at_)).map λs=>ZdK (Zr ns (at_+1+k)+61*(k:Int)) (ZJ ns at_) s
def Zgd:List (List (List Int)) :=
 if ZQ (Zr ns at_) 9901 3=1 then[(Zyp (ZJ ns at_)).map λk=>wlV (Zr ns (at_+1)) k,(Zyp (ZJ ns at_)).map λk=>[beV (ZJ ns at_) k]]++(ZbA ns at_).take 1 else ZbA ns at_
def Zgr(k:Nat):List Int:=(Zyp (ZJ ns at_)).map λ(s:Nat)=>ZQ (Zr ns (at_+4+k)+71*(k:Int)+13*(s:Int)*(s:Int)) 9871 (2+ZQ (Zr ns (at_+4+k)+71*(k:Int)) 9883 2)
def Zf2:List (List Int):=(Zyp (ZQ (Zr ns at_) 9887 4).toNat).map (Zgr ns at_)
def Zn2:List Int:=if ZQ (Zr ns at_) 9859 3=1 then(Zyp (ZJ ns at_)).map λ(k:Nat)=>(k:Int)else crV (Zr ns (at_+7)) (ZJ ns at_)
def ZtW:List Int:=crV (Zr ns (at_+8)) (ZJ ns at_)
def wkV:Wk:=⟨ZJ ns at_,Zgd ns at_,Zf2 ns at_,Zn2 ns at_,ZtW ns at_⟩
theorem Zjf:2<=ZJ ns at_/\ZJ ns at_<=5:=by have:=ZaB (Zr ns at_) 9923 4 (by decide);unfold ZJ; omega
theorem Zui:((ZJ ns at_:Nat):Int)=2+ZQ (Zr ns at_) 9923 4:=by have:=ZaB (Zr ns at_) 9923 4 (by decide);unfold ZJ; omega
theorem Zv9:(wkV ns at_).Ok:=by
 have hm:=Zjf ns at_;have hd3:=ZaB (Zr ns at_) 9907 3 (by decide);have dk:∀dd∈ZbA ns at_,dd.length=ZJ ns at_/\∀c∈dd,Cr (ZJ ns at_) c:=by intro dd h;unfold ZbA at h;obtain⟨k,_,rfl⟩:=Zyy.mp h;refine⟨by simp,λc hc=>?_⟩;obtain⟨s,_,rfl⟩:=Zyy.mp hc;exact ZpN _ _ _ (by omega)
 have dv:∀dd∈Zgd ns at_,dd.length=ZJ ns at_/\∀c∈dd,Cr (ZJ ns at_) c:=by
  intro dd h;unfold Zgd at h;split at h
  ·rcases ZyK.mp h with h | h
   ·simp at h
    rcases h with rfl | rfl
    ·refine⟨by simp,λc hc=>?_⟩
     obtain⟨s,hs,rfl⟩:=Zyy.mp hc;exact ZvO _ _ _ (ZyJ.mp hs)
    ·refine⟨by simp,λc hc=>?_⟩
     obtain⟨s,hs,rfl⟩:=Zyy.mp hc;exact Zwa _ _ (ZyJ.mp hs)
   ·exact dk dd (List.mem_of_mem_take h)
  ·exact dk dd h
 have lk:(ZbA ns at_).length=(1+ZQ (Zr ns at_) 9907 3).toNat:=by unfold ZbA; simp
 have lv:1<=(Zgd ns at_).length/\(Zgd ns at_).length<=3:=by
  unfold Zgd;split
  ·simp; omega
  ·omega
 have hl4:=ZaB (Zr ns at_) 9887 4 (by decide);have lo:∀l∈Zf2 ns at_,l.length=ZJ ns at_/\∀x∈l,0<=x/\x<=9:=by intro l h;unfold Zf2 at h;obtain⟨k,_,rfl⟩:=Zyy.mp h;unfold Zgr;refine⟨by simp,λx hx=>?_⟩;obtain⟨s,_,rfl⟩:=Zyy.mp hx;have h2:=ZaB (Zr ns (at_+4+k)+71*(k:Int)) 9883 2 (by decide);have h3:=ZaB (Zr ns (at_+4+k)+71*(k:Int)+13*(s:Int)*(s:Int)) 9871 (2+ZQ (Zr ns (at_+4+k)+71*(k:Int)) 9883 2) (by omega);omega
 have ll:(Zf2 ns at_).length<=3:=by unfold Zf2; simp; omega
 have cb:=Zss (Zr ns (at_+7)) (ZJ ns at_) (by omega);have cg:=Zss (Zr ns (at_+8)) (ZJ ns at_) (by omega);have hb:Zn2 ns at_≠[]/\Cr (ZJ ns at_) (Zn2 ns at_):=by
  unfold Zn2;split
  ·refine⟨λe=>?_,?_⟩
   ·have:=congrArg Zy8 e
    simp at this;omega
   ·have:=Zh1 (ZJ ns at_) λ_=>ZDC
    rwa [ZB6.mpr λ_ _=>rfl]at this
  ·exact⟨cb.2,cb.1⟩
 exact⟨hm.1,hm.2,lv.1,lv.2,λdd h=>(dv dd h).1,λdd h=>(dv dd h).2,ll,λl h=>(lo l h).1,λl h=>(lo l h).2,hb.1,hb.2,cg.2,cg.1⟩
theorem Zxy(k:Int)(h:0<=k):ZK [.list (ns.map dI),.int k]=Z (.int (Zr ns k.toNat)):=by
 have:=Zdj ns k.toNat
 rwa [ZB7 h]at this
theorem ZqH(k n:Nat)(c:Option B)(ds:List D)(o6 o7 o8 o9 o10:Option B)(hk:k<1000)(h1:ds.length<1000)(hn:0<n)(hb:n<1000) :
  Zdu [Z (.pl (.list (ns.map dI))),Z (.pl (.int at_)),c,Z (.pl (.int n)),Z (.ol ds),Z (.pl (dN k)),o6,o7,o8,o9,o10] =
   Z (.nx [Z (.pl (.list (ns.map dI))),Z (.pl (.int at_)),c,Z (.pl (.int n)),Z (.ol (ds++[ZB ((Zyp n).map λs=>ZdK (Zr ns (at_+1+k)+61*(k:Int)) n s)])),Z (.pl (dN k)),o6,o7,o8,o9,o10]):=by
 have h1':ds.length<1000000:=by omega
 have hc:=Zdj ns (at_+1+k);have e:((at_+1+k:Nat):Int)=(at_:Int)+1+(k:Int):=by omega
 rw[e]at hc;have hd:=ZpV (Zr ns (at_+1+k)+61*(k:Int)) n hn hb;simp[Zdu,hc,hd,h1']
theorem Zq6(k n:Nat)(c o4:Option B)(ls:List D)(o7 o8 o9 o10:Option B)(hk:k<1000)(h1:ls.length<1000)(hn:n=ZJ ns at_) :
  ∃r7 r8,ZcH [Z (.pl (.list (ns.map dI))),Z (.pl (.int at_)),c,Z (.pl (.int n)),o4,Z (.pl (dN k)),Z (.ol ls),o7,o8,o9,o10] =
   Z (.nx [Z (.pl (.list (ns.map dI))),Z (.pl (.int at_)),c,Z (.pl (.int n)),o4,Z (.pl (dN k)),Z (.ol (ls++[tupI (Zgr ns at_ k)])),r7,r8,o9,o10]):=by
 have hb:=Zjf ns at_;have h1':ls.length<1000000:=by omega
 have hc:=Zdj ns (at_+4+k);have e:((at_+4+k:Nat):Int)=(at_:Int)+4+(k:Int):=by omega
 rw[e]at hc;have m1:=Zb5 (Zr ns (at_+4+k)+71*(k:Int)) 9883 2 (by decide) (by decide);have b1:=ZaB (Zr ns (at_+4+k)+71*(k:Int)) 9883 2 (by decide);have hok:okR (n:Int)=ZDC:=Zdh (by omega);have hl:n<1000000:=by omega
 unfold Zgr;rw[<-hn];generalize ZQ (Zr ns (at_+4+k)+71*(k:Int)) 9883 2=mo at *;generalize Zr ns (at_+4+k)=cc at *;simp[ZcH,hc,m1,hok,h1',Zai,hl];rw[Za5 dN λ(s:Nat)=>dI (ZQ (cc+71*(k:Int)+13*(s:Int)*(s:Int)) 9871 (2+mo))]
 ·refine⟨Z (.pl (.int (cc+71*(k:Int)))),Z (.pl (.int (2+mo))),?_⟩
  simp
 ·intro s hs
  have hs':=ZyJ.mp hs;have s2:ZS (13*(s:Int))=ZDC:=ZiF (by omega) (by omega);have m2:=Zb5 (cc+71*(k:Int)+13*(s:Int)*(s:Int)) 9871 (2+mo) (by decide) (by omega);simp[s2,m2]
theorem Ztx(h:ns.length<=63):ZaY [.list (ns.map dI),.int at_]=Z (wkV ns at_).d:=by
 have hb:=Zjf ns at_;have hmc:=Zui ns at_;have c0:=Zdj ns at_;have c1:=Zdj ns (at_+1);have c7:=Zdj ns (at_+7);have c8:=Zdj ns (at_+8);have e1:((at_+1:Nat):Int)=(at_:Int)+1:=by omega
 have e7:((at_+7:Nat):Int)=(at_:Int)+7:=by omega
 have e8:((at_+8:Nat):Int)=(at_:Int)+8:=by omega
 rw[e1]at c1;rw[e7]at c7;rw[e8]at c8;have m4:=Zb5 (Zr ns at_) 9923 4 (by decide) (by decide);have m3:=Zb5 (Zr ns at_) 9907 3 (by decide) (by decide);have b3:=ZaB (Zr ns at_) 9907 3 (by decide);have mw:=Zb5 (Zr ns at_) 9901 3 (by decide) (by decide);have ml:=Zb5 (Zr ns at_) 9887 4 (by decide) (by decide);have bl:=ZaB (Zr ns at_) 9887 4 (by decide);have mb:=Zb5 (Zr ns at_) 9859 3 (by decide) (by decide);have wk:=ZuP (Zr ns (at_+1)) (ZJ ns at_) (by omega);have k7:=Zoi (Zr ns (at_+7)) (ZJ ns at_) (by omega) (by omega);have k8:=Zoi (Zr ns (at_+8)) (ZJ ns at_) (by omega) (by omega);have hlen:¬(63:Int)<(ns.length:Int):=by omega
 have ok3:okR (1+ZQ (Zr ns at_) 9907 3)=ZDC:=ZBm.mpr (by omega);have okl:okR (ZQ (Zr ns at_) 9887 4)=ZDC:=ZBm.mpr (by omega);have okm:okR ((ZJ ns at_:Nat):Int)=ZDC:=Zdh (by omega);obtain⟨r1,f1,o5,q1⟩:=Zjj (i:=5) (body:=Zdu) dN (λ(s:List Nat) r=>∃o5,r=[Z (.pl (.list (ns.map dI))),Z (.pl (.int at_)),Z (.pl (.int (Zr ns at_))),Z (.pl (.int (ZJ ns at_))),
   Z (.ol (s.map λk=>ZB ((Zyp (ZJ ns at_)).map λs=>ZdK (Zr ns (at_+1+k)+61*(k:Int)) (ZJ ns at_) s))),o5,Z_,Z_,Z_,Z_,Z_]) (Zyp (1+ZQ (Zr ns at_) 9907 3).toNat)
  [Z (.pl (.list (ns.map dI))),Z (.pl (.int at_)),Z (.pl (.int (Zr ns at_))),Z (.pl (.int (ZJ ns at_))),Z (.ol []),Z_,Z_,Z_,Z_,Z_,Z_] ⟨Z_,rfl⟩ (by
   rintro s k post r hxs ⟨o5,rfl⟩
   have hk':=ZyJ.mp (show k∈Zyp (1+ZQ (Zr ns at_) 9907 3).toNat by rw[hxs]; simp);have hs:s.length<4:=by have:=congrArg Zy8 hxs; simp at this; omega
   have e:=ZqH ns at_ k (ZJ ns at_) (Z (.pl (.int (Zr ns at_)))) (s.map λk=>ZB ((Zyp (ZJ ns at_)).map λs=>ZdK (Zr ns (at_+1+k)+61*(k:Int)) (ZJ ns at_) s)) Z_ Z_ Z_ Z_ Z_ (by omega) (by simp; omega) (by omega) (by omega);exact⟨_,e,Z (.pl (dN k)),by simp⟩)
 subst q1;have lks:∀(o4 o5:Option B),∃r2,Zaq 5 ZcH ((Zyp (ZQ (Zr ns at_) 9887 4).toNat).map dN) [Z (.pl (.list (ns.map dI))),Z (.pl (.int at_)),Z (.pl (.int (Zr ns at_))),Z (.pl (.int (ZJ ns at_))),o4,o5,Z (.ol []),Z_,Z_,Z_,Z_]=Z (.nx r2) /\
   ∃o5 o7 o8,r2=[Z (.pl (.list (ns.map dI))),Z (.pl (.int at_)),Z (.pl (.int (Zr ns at_))),Z (.pl (.int (ZJ ns at_))),o4,o5,Z (.ol ((Zyp (ZQ (Zr ns at_) 9887 4).toNat).map λk=>tupI (Zgr ns at_ k))),o7,o8,Z_,Z_]:=by
  intro o4 o5;refine Zjj (i:=5) (body:=ZcH) dN (λ(s:List Nat) r=>∃o5 o7 o8,r=[Z (.pl (.list (ns.map dI))),Z (.pl (.int at_)),Z (.pl (.int (Zr ns at_))),Z (.pl (.int (ZJ ns at_))),
   o4,o5,Z (.ol (s.map λk=>tupI (Zgr ns at_ k))),o7,o8,Z_,Z_]) (Zyp (ZQ (Zr ns at_) 9887 4).toNat) _ ⟨o5,Z_,Z_,rfl⟩ ?_
  rintro s k post r hxs ⟨o5,o7,o8,rfl⟩
  have hk':=ZyJ.mp (show k∈Zyp (ZQ (Zr ns at_) 9887 4).toNat by rw[hxs]; simp);have hs:s.length<4:=by have:=congrArg Zy8 hxs; simp at this; omega
  obtain⟨r7,r8,e⟩:=Zq6 ns at_ k (ZJ ns at_) (Z (.pl (.int (Zr ns at_)))) o4 (s.map λk=>tupI (Zgr ns at_ k)) o7 o8 Z_ Z_ (by omega) (by simp; omega) rfl;exact⟨_,e,Z (.pl (dN k)),r7,r8,by simp⟩
 have n3:(1+ZQ (Zr ns at_) 9907 3).toNat<1000000:=by omega
 have nl:(ZQ (Zr ns at_) 9887 4).toNat<1000000:=by omega
 have nm:ZJ ns at_<1000000:=by omega
 have hdk:((Zyp (1+ZQ (Zr ns at_) 9907 3).toNat).map λk=>ZB ((Zyp (ZJ ns at_)).map λs=>ZdK (Zr ns (at_+1+k)+61*(k:Int)) (ZJ ns at_) s))=(ZbA ns at_).map ZB:=by unfold ZbA; simp
 have hlk:((Zyp (ZQ (Zr ns at_) 9887 4).toNat).map λk=>tupI (Zgr ns at_ k))=(Zf2 ns at_).map tupI:=by unfold Zf2; simp
 rw[hdk]at f1;simp only[hlk]at lks;have dkl:(ZbA ns at_).length<10:=by unfold ZbA; simp; omega
 unfold wkV Wk.d Zgd Zn2 ZtW;simp only
 by_cases w1:ZQ (Zr ns at_) 9901 3=1
 ·have w1':(ZQ (Zr ns at_) 9901 3==1)=ZDC:=by simp[w1]
  have cut:cutD ((ZbA ns at_).map ZB) Z_ (Z 1)=((ZbA ns at_).take 1).map ZB:=by unfold cutD sIx;simp
  obtain⟨r2,f2,p5,p7,p8,q2⟩:=lks (Z (.ol (ZB ((Zyp (ZJ ns at_)).map λk=>wlV (Zr ns (at_+1)) k)::ZB ((Zyp (ZJ ns at_)).map λk=>[beV (ZJ ns at_) k])::List.take 1 ((ZbA ns at_).map ZB)))) o5;subst q2;have c2:min 1 (ZbA ns at_).length+1+1<1000000:=by omega
  have c3:(2:Nat)+min 1 (ZbA ns at_).length<1000000:=by omega
  by_cases w2:ZQ (Zr ns at_) 9859 3=1
  ·have w2':(ZQ (Zr ns at_) 9859 3==1)=ZDC:=by simp[w2]
   simp[ZaY,Zc2,c0,m4,<-hmc,hlen,m3,ok3,Zai,n3,f1,mw,w1',c1,wk,cut,w1,ml,okl,nl,f2,c7,k7,mb,w2',okm,nm,c8,k8,w2,c2,c3]
  ·have w2':(ZQ (Zr ns at_) 9859 3==1)=ZDD:=by simp[w2]
   simp[ZaY,Zc2,c0,m4,<-hmc,hlen,m3,ok3,Zai,n3,f1,mw,w1',c1,wk,cut,w1,ml,okl,nl,f2,c7,k7,mb,w2',okm,nm,c8,k8,w2,c2,c3]
 ·have w1':(ZQ (Zr ns at_) 9901 3==1)=ZDD:=by simp[w1]
  obtain⟨r2,f2,p5,p7,p8,q2⟩:=lks (Z (.ol ((ZbA ns at_).map ZB))) o5;subst q2
  by_cases w2:ZQ (Zr ns at_) 9859 3=1
  ·have w2':(ZQ (Zr ns at_) 9859 3==1)=ZDC:=by simp[w2]
   simp[ZaY,Zc2,c0,m4,<-hmc,hlen,m3,ok3,Zai,n3,f1,mw,w1',w1,ml,okl,nl,f2,c7,k7,mb,w2',okm,nm,c8,k8,w2]
  ·have w2':(ZQ (Zr ns at_) 9859 3==1)=ZDD:=by simp[w2]
   simp[ZaY,Zc2,c0,m4,<-hmc,hlen,m3,ok3,Zai,n3,f1,mw,w1',w1,ml,okl,nl,f2,c7,k7,mb,w2',okm,nm,c8,k8,w2]
end
end HG
namespace HG
open PySem HM
variable{c:List Int}{n:Nat}{w:Wk}
theorem ZnO{e:EF}{r:HM.Env}{f:D->D}(xs:List D)(h:∀x∈xs,e (Z (.pl x)::r)=Z (f x)):Zag Z4 e r xs=Z (xs.map f):=by
 have:=Za5 (e:=e) (r:=r) id f xs h
 rwa [List.map_id]at this
theorem ZnB(xs:List D)(p:D->Bool):Zds (xs.map λx=>Zzk (p x))=Z (xs.map p):=by
 have:=Zfr (xs.map p)
 rwa [ZyM]at this
def ZgR(d:D)(lo hi:Int):Bool:=match d with
 | .int i=>decide (lo<=i)&&decide (i<=hi)
 | _=>ZDD
def ndD:D->Prop
 | .dict _=>False
 | _=>True
theorem ZfX(d:D)(lo hi:Int)(nd:ndD d:=by trivial):ZaW [d,.int lo,.int hi]=Z (.bool (ZgR d lo hi)):=by
 cases d<;>first | exact nd.elim | simp[ZaW,Zig,ZgR]
 rename_i i
 by_cases h:lo<=i<;>simp[h]
def Zdl(d:D)(lo hi:Int):Bool:=match d with
 | .tuple ds=>decide (lo<=(ds.length:Int))&&decide ((ds.length:Int)<=hi)
 | _=>ZDD
theorem Ze0(d:D)(lo hi:Int)(nd:ndD d:=by trivial):ZaP [d,.int lo,.int hi]=Z (.bool (Zdl d lo hi)):=by
 cases d<;>first | exact nd.elim | simp[ZaP,ZlF,Zdl]
 rename_i ds
 by_cases h:lo<=(ds.length:Int)<;>simp[h]
def Zb7(many:Int):Int->List D->Bool
 | _,[]=>ZDC
 | l,.int i::r=>(decide (l<=i)&&decide (i<=many-1))&&Zb7 many (i+1) r
 | _,_::_=>ZDD
def Zi9(d:D)(many:Int):Bool:=match d with
 | .tuple ds=>Zb7 many 0 ds
 | _=>ZDD
theorem ZpL(d:D)(many:Int):∀(ds:List D) (l:Int) (o:Option B),(∀x∈ds,ndD x) ->
  (Zb7 many l ds=ZDC->∃l' o',Zaq 3 Zal ds [Z (.pl d),Z (.pl (.int many)),Z (.pl (.int l)),o]=Z (.nx [Z (.pl d),Z (.pl (.int many)),Z (.pl (.int l')),o'])) /\
  (Zb7 many l ds=ZDD->Zaq 3 Zal ds [Z (.pl d),Z (.pl (.int many)),Z (.pl (.int l)),o]=Z (.rt (.bool ZDD)))
 | [],l,o,_=>⟨λ_=>⟨l,o,rfl⟩,λh=>by simp[Zb7]at h⟩
 | x::ds,l,o,nd=>by
  have key:=ZfX x l (many-1) (nd x (Zyo ..));cases hx:ZgR x l (many-1)with
  | false =>
   have e:Zal [Z (.pl d),Z (.pl (.int many)),Z (.pl (.int l)),Z (.pl x)]=Z (.rt (.bool ZDD)):=by rw[hx]at key;simp[Zal,key]
   have e2:Zb7 many l (x::ds)=ZDD:=by cases x<;>simp[Zb7];rename_i i;simp[ZgR]at hx;intro h1 h2;exact absurd (hx h1) (by omega)
   refine⟨λh=>?_,λ_=>?_⟩
   ·rw[e2]at h; cases h
   ·unfold Zaq
    show(match Zal [Z (.pl d),Z (.pl (.int many)),Z (.pl (.int l)),Z (.pl x)]with | some (.nx r')=>_ | some (.ct r')=>_ | some (.bk r')=>_ | some (.rt d)=>_ | none=>_)=_;rw[e]
  | true =>
   cases x with
   | int i =>
    have e:Zal [Z (.pl d),Z (.pl (.int many)),Z (.pl (.int l)),Z (.pl (.int i))]=Z (.nx [Z (.pl d),Z (.pl (.int many)),Z (.pl (.int (i+1))),Z (.pl (.int i))]):=by rw[hx]at key;simp[Zal,key]
    have e2:Zb7 many l (.int i::ds)=Zb7 many (i+1) ds:=by have:(decide (l<=i)&&decide (i<=many-1))=ZDC:=hx;simp only[Zb7,this,ZDq]
    obtain⟨a1,a2⟩:=ZpL d many ds (i+1) (Z (.pl (.int i))) λx hx=>nd x (Zyq _ hx);rw[e2];have e3:Zaq 3 Zal (.int i::ds) [Z (.pl d),Z (.pl (.int many)),Z (.pl (.int l)),o]=Zaq 3 Zal ds [Z (.pl d),Z (.pl (.int many)),Z (.pl (.int (i+1))),Z (.pl (.int i))]:=by show(match Zal [Z (.pl d),Z (.pl (.int many)),Z (.pl (.int l)),Z (.pl (.int i))]with | some (.nx r')=>_ | some (.ct r')=>_ | some (.bk r')=>_ | some (.rt d)=>_ | none=>_)=_;rw[e]
    rw[e3];exact⟨a1,a2⟩
   | _=>simp[ZgR]at hx
theorem ZiQ(d:D)(many:Int)(hl:∀ds,d=.tuple ds->ds.length<1000000/\∀x∈ds,ndD x)(nd:ndD d:=by trivial):Z7 [d,.int many]=Z (.bool (Zi9 d many)):=by
 cases d with
 | tuple ds =>
  obtain⟨hl,hn⟩:=hl ds rfl;obtain⟨a1,a2⟩:=ZpL (.tuple ds) many ds 0 Z_ hn;cases h:Zb7 many 0 ds with
  | true=>obtain⟨l',o',e⟩:=a1 h;simp[Z7,Zd2,Zi9,h,hl,e]
  | false=>have e:=a2 h;simp[Z7,Zd2,Zi9,h,hl,e]
 | dict _=>exact nd.elim
 | _=>simp[Z7,Zd2,Zi9]
def small:D->Prop
 | .tuple ds=>ds.length<1000000/\∀x∈ds,ndD x
 | .dict _=>False
 | _=>True
theorem ZkJ(h:(c.map dI).length<1000000):small (tupI c):=⟨h,λx hx=>by obtain⟨i,_,rfl⟩:=Zyy.mp hx; trivial⟩
theorem Zoo{d:D}(h:small d):ndD d:=by cases d<;>first | exact h.elim | trivial
theorem Zrp{d:D}(h:small d):∀ds,d=.tuple ds->ds.length<1000000/\∀x∈ds,ndD x:=by rintro ds rfl; exact h
def ZiV(d:D)(many:Int):Bool:=Zdl d many many&&(match d with | .tuple ds=>ds.all λc=>Zi9 c many | _=>ZDD)
def ZkU(d:D):Prop:=match d with | .tuple ds=>ds.length<1000000/\∀x∈ds,small x | .dict _=>False | _=>True
theorem ZsU{d:D}(h:ZkU d):ndD d:=by cases d<;>first | exact h.elim | trivial
theorem ZqA(d:D)(many:Int)(hs:ZkU d):Zcx [d,.int many]=Z (.bool (ZiV d many)):=by
 have h1:=Ze0 d many many (ZsU hs);cases hr:Zdl d many many with
 | false=>rw[hr]at h1; simp[Zcx,Zhk,h1,ZiV,hr]
 | true =>
  rw[hr]at h1;cases d with
  | tuple ds =>
   have hs':ds.length<1000000/\∀x∈ds,small x:=hs;simp[Zcx,Zhk,h1,ZiV,hr,hs'.1];rw[ZnO (f:=λc=>.bool (Zi9 c many))]
   ·simp[ZnB]
   ·intro x hx
    simp[ZiQ x many (Zrp (hs'.2 x hx)) (Zoo (hs'.2 x hx))]
  | _=>simp[Zdl]at hr
def ZiH(d:D)(many:Int):Bool:=Zdl d many many&&(match d with | .tuple ds=>ds.all λc=>ZgR c 0 9 | _=>ZDD)
theorem ZqE(d:D)(many:Int)(hs:small d):Zcy [d,.int many]=Z (.bool (ZiH d many)):=by
 have h1:=Ze0 d many many (Zoo hs);cases hr:Zdl d many many with
 | false=>rw[hr]at h1; simp[Zcy,Zhl,h1,ZiH,hr]
 | true =>
  rw[hr]at h1;cases d with
  | tuple ds =>
   have hs':ds.length<1000000:=hs.1;simp[Zcy,Zhl,h1,ZiH,hr,hs'];rw[ZnO (f:=λc=>.bool (ZgR c 0 9))]
   ·simp[ZnB]
   ·intro x hx
    simp[ZfX x 0 9 (hs.2 x hx)]
  | _=>simp[Zdl]at hr
structure Wk.V(w:Wk):Prop where
 m1:1<=w.many
 m2:w.many<=8
 d1:1<=w.deeds.length
 d2:w.deeds.length<=5
 dl:∀dd∈w.deeds,dd.length=w.many
 dc:∀dd∈w.deeds,∀c∈dd,Cr w.many c
 l2:w.looks.length<=4
 ll:∀l∈w.looks,l.length=w.many
 lc:∀l∈w.looks,∀x∈l,0<=x/\x<=9
 b1:w.beg≠[]
 bc:Cr w.many w.beg
 gc:Cr w.many w.goal
theorem Wk.Ok.v(h:w.Ok):Wk.V w:=by obtain⟨m1,m2,d1,d2,dl,dc,l2,ll,lc,b1,bc,g1,gc⟩:=h;exact⟨by omega,by omega,d1,by omega,dl,dc,by omega,ll,lc,b1,bc,gc⟩
theorem Zlc(n:Nat):∀(c:List Int) (l:Int),c.Pairwise (· < ·)->(∀x∈c,l<=x/\x<(n:Int))->Zb7 n l (c.map dI)=ZDC
 | [],_,_,_=>rfl
 | x::c,l,hp,hb=>by have h1:=hb x (Zyo ..);have ih:=Zlc n c (x+1) (Zzb.mp hp).2 λy hy=>⟨by have:=(Zzb.mp hp).1 y hy; omega,(hb y (Zyq _ hy)).2⟩;show((decide (l<=x)&&decide (x<=(n:Int)-1))&&Zb7 n (x+1) (c.map dI))=ZDC;rw[ih,decide_eq_true h1.1,decide_eq_true (show x<=(n:Int)-1 by omega)];rfl
theorem ZiO(h:Cr n c)(hn:n<1000):Z7 [tupI c,.int n]=Z (.bool ZDC):=by have hl:=h.len;rw[ZiQ (tupI c) n (by intro ds e; cases e; exact⟨by simp; omega,λx hx=>by obtain⟨i,_,rfl⟩:=Zyy.mp hx; trivial⟩)];show Z (Zzk (Zb7 n 0 (c.map dI)))=_;rw[Zlc n c 0 h.1 h.2]
theorem Zpt(h:Cr n c)(h0:c≠[])(hn:n<1000):Zdn [tupI c,.int n]=Z (.bool ZDC):=by
 have h1:=ZiO h hn;have h2:(0:Int)<(c.length:Int):=by have:=ZB8.mpr h0;omega
 simp[Zdn,Zju,h1];exact ZB8.mpr h0
theorem Zuk(h:Wk.V w){dd:List (List Int)}(hd:dd∈w.deeds):Zcx [ZB dd,.int w.many]=Z (.bool ZDC):=by
 have hl:=h.dl dd hd;have m2:=h.m2;rw[ZqA (ZB dd) _ (show(dd.map tupI).length<1000000/\∀x∈dd.map tupI,small x by refine⟨by simp; omega,λx hx=>?_⟩;obtain⟨c,hc,rfl⟩:=Zyy.mp hx;have:=(h.dc dd hd c hc).len;refine ZkJ ?_;simp; omega)];have e:ZiV (ZB dd) w.many=ZDC:=by unfold ZiV ZB Zdl;simp[hl];intro c hc;exact Zlc w.many c 0 (h.dc dd hd c hc).1 (h.dc dd hd c hc).2
 rw[e]
theorem Zu2(h:Wk.V w){l:List Int}(hd:l∈w.looks):Zcy [tupI l,.int w.many]=Z (.bool ZDC):=by
 have hl:=h.ll l hd;have m2:=h.m2;rw[ZqE (tupI l) _ (ZkJ (show(l.map dI).length<1000000 by simp; omega))];have e:ZiH (tupI l) w.many=ZDC:=by unfold ZiH Zdl;simp[hl];intro x hx;have:=h.lc l hd x hx;simp[ZgR];omega
 rw[e]
theorem allTrue(α:Type)(xs:List α):Zds (xs.map λ_=>Zzk ZDC)=Z (xs.map λ_=>ZDC):=by
 have:=Zfr (xs.map λ_=>ZDC)
 rwa [ZyM]at this
theorem Znz(h:Wk.V w):ZcY [.tuple (w.deeds.map ZB),.int w.many]=Z (.bool ZDC):=by
 have h1:=Ze0 (.tuple (w.deeds.map ZB)) 1 5;have d1:=h.d1;have d2:=h.d2;have e:Zdl (.tuple (w.deeds.map ZB)) 1 5=ZDC:=by simp[Zdl]; omega
 rw[e]at h1;have hl:w.deeds.length<1000000:=by omega
 simp[ZcY,Zih,h1,hl];rw[Za5 ZB (λ_=>.bool ZDC)]
 ·simp[allTrue]
 ·intro x hx
  simp[Zuk h hx]
theorem ZnT(h:Wk.V w):ZcZ [.tuple (w.looks.map tupI),.int w.many]=Z (.bool ZDC):=by
 have h1:=Ze0 (.tuple (w.looks.map tupI)) 0 4;have d2:=h.l2;have e:Zdl (.tuple (w.looks.map tupI)) 0 4=ZDC:=by simp[Zdl]; omega
 rw[e]at h1;have hl:w.looks.length<1000000:=by omega
 simp[ZcZ,Zii,h1,hl];rw[Za5 tupI (λ_=>.bool ZDC)]
 ·simp[allTrue]
 ·intro x hx
  simp[Zu2 h hx]
theorem ZoG(h:Wk.V w):Zc0 [w.d]=Z (.bool ZDC):=by
 have h1:=Ze0 w.d 5 5;have e:Zdl w.d 5 5=ZDC:=by simp[Zdl,Wk.d]
 rw[e]at h1;have h2:=ZfX (.int w.many) 1 8;have m1:=h.m1;have m2:=h.m2;have e2:ZgR (.int w.many) 1 8=ZDC:=by simp[ZgR]; omega
 rw[e2]at h2;have h3:=Znz h;have h4:=ZnT h;have h5:=Zpt h.bc h.b1 (by omega);have h6:=ZiO h.gc (by omega);unfold Wk.d at h1 ⊢;simp[Zc0,Zij,h1,h2,h3,h4,h5,h6]
theorem Zft(h:Wk.V w):ZaX [w.d]=Z w.d:=by simp[ZaX,Zkg,ZoG h]
theorem Zoq(w:Wk):ZbI [w.d]=Z (.int w.many):=by simp[ZbI,Zik,Wk.d]
theorem ZeX(w:Wk):ZaM [w.d]=Z (.tuple (w.deeds.map ZB)):=by simp[ZaM,Zjv,Wk.d]
theorem ZgV(w:Wk):Zbm [w.d]=Z (.tuple (w.looks.map tupI)):=by simp[Zbm,Zjw,Wk.d]
theorem Zj2(h:Wk.V w){ls:List Int}(hl:Cr w.looks.length ls):ZbJ [w.d,tupI ls]=Z (tupI ls):=by have l2:=h.l2;have h1:=ZiO hl (by omega);simp[ZbJ,ZfB,ZgV,h1]
end HG
namespace HG
open PySem HM
variable{l s:Int}{c:List Int}{w:Wk}
def ZbY(w:Wk)(d s:Int):List Int:=(w.deeds[d.toNat]?.getD [])[s.toNat]?.getD []
def ZkC(w:Wk)(l s:Int):Int:=(w.looks[l.toNat]?.getD [])[s.toNat]?.getD 0
def ZbW(w:Wk)(c:List Int)(d:Int):Bool:=c.all λs=>decide (0<(ZbY w d s).length)
def Zbv(w:Wk)(c:List Int)(d:Int):List Int:=c.flatMap λs=>ZbY w d s
def Zau(w:Wk)(c:List Int)(d:Int):List Int:=sortI (dedup [] (Zbv w c d))
def ZC(w:Wk)(ls:List Int)(s:Int):List Int:=ls.map λl=>ZkC w l s
theorem ZpM{d:Int}(h0:0<=d)(h1:d<w.deeds.length):atD (w.deeds.map ZB) d=Z (ZB (w.deeds[d.toNat]?.getD [])):=by
 refine Zi8 h0 ?_;have h:d.toNat<w.deeds.length:=by omega
 simp[h,Zzs]
theorem Zr8(hv:Wk.V w){d:Int}(h0:0<=d)(h1:d<w.deeds.length)(h2:0<=s)(h3:s<w.many):atD ((w.deeds[d.toNat]?.getD []).map tupI) s=Z (tupI (ZbY w d s)):=by
 refine Zi8 h2 ?_;have h:d.toNat<w.deeds.length:=by omega
 have hl:(w.deeds[d.toNat]?.getD []).length=w.many:=by
  have:w.deeds[d.toNat]?.getD []=w.deeds[d.toNat]:=by simp[h,Zzs]
  rw[this];exact hv.dl _ (Zz8 h)
 have h':s.toNat<(w.deeds[d.toNat]?.getD []).length:=by omega
 unfold ZbY;rw[ZyI,ZyF h'];simp[Zzs,h']
theorem Zsv(hv:Wk.V w){d:Int}(h0:0<=d)(h1:d<w.deeds.length)(h2:0<=s)(h3:s<w.many):Cr w.many (ZbY w d s):=by
 have h:d.toNat<w.deeds.length:=by omega
 have e:w.deeds[d.toNat]?.getD []=w.deeds[d.toNat]:=by simp[h,Zzs]
 have hl:=hv.dl _ (Zz8 h);unfold ZbY;rw[e];have h':s.toNat<(w.deeds[d.toNat]).length:=by omega
 have e2:(w.deeds[d.toNat])[s.toNat]?.getD []=(w.deeds[d.toNat])[s.toNat]:=by simp[h',Zzs]
 rw[e2];exact hv.dc _ (Zz8 h) _ (Zz8 h')
theorem ZuI(h0:0<=l)(h1:l<w.looks.length):atD (w.looks.map tupI) l=Z (tupI (w.looks[l.toNat]?.getD [])):=by
 refine Zi8 h0 ?_;have h:l.toNat<w.looks.length:=by omega
 simp[h,Zzs]
theorem Zus(hv:Wk.V w)(h0:0<=l)(h1:l<w.looks.length)(h2:0<=s)(h3:s<w.many):atD ((w.looks[l.toNat]?.getD []).map dI) s=Z (.int (ZkC w l s)):=by
 refine Zi8 h2 ?_;have h:l.toNat<w.looks.length:=by omega
 have hl:(w.looks[l.toNat]?.getD []).length=w.many:=by
  have:w.looks[l.toNat]?.getD []=w.looks[l.toNat]:=by simp[h,Zzs]
  rw[this];exact hv.ll _ (Zz8 h)
 have h':s.toNat<(w.looks[l.toNat]?.getD []).length:=by omega
 unfold ZkC;rw[ZyI,ZyF h'];simp[Zzs,h']
theorem ZqV(hv:Wk.V w){ls:List Int}(hl:Cr w.looks.length ls)(h2:0<=s)(h3:s<w.many):Zd3 [w.d,tupI ls,.int s]=Z (tupI (ZC w ls s)):=by
 have l2:=hv.l2;have hlen:=hl.len;have hb:ls.length<1000000:=by omega
 simp[Zd3,Zkh,hb];rw[Za5 dI (λl=>dI (ZkC w l s))]
 ·simp[ZC]
 ·intro l hl'
  have hb:=hl.2 l hl';simp[ZgV,ZuI hb.1 hb.2,Zus hv hb.1 hb.2 h2 h3]
theorem Zlb(hv:Wk.V w)(hc:Cr w.many c){d:Int}(h0:0<=d)(h1:d<w.deeds.length):Zcg [w.d,tupI c,.int d]=Z (.bool (ZbW w c d)):=by
 have m2:=hv.m2;have hlen:=hc.len;have hb:c.length<1000000:=by omega
 simp[Zcg,Zg0,ZeX,ZpM h0 h1,hb];rw[Za5 dI (λs=>.bool (decide (0<(ZbY w d s).length)))]
 ·have e:=Zfr (c.map λs=>decide (0<(ZbY w d s).length))
  rw[ZyM]at e;have e':((λb=>Zzk b)∘λs=>decide (0<(ZbY w d s).length))=λs=>Zzk (decide (0<(ZbY w d s).length)):=rfl;rw[e']at e;simp[e,ZbW]
 ·intro s hs
  have hb:=hc.2 s hs;simp[ZB,Zr8 hv h0 h1 hb.1 hb.2]
def doV(w:Wk)(c:List Int):List Int:=((Zyp w.deeds.length).filter λ(d:Nat)=>ZbW w c (d:Int)).map λ(k:Nat)=>(k:Int)
theorem ZmB(hv:Wk.V w)(hc:Cr w.many c):ZcG [w.d,tupI c]=Z (.list ((doV w c).map dI)):=by
 have d2:=hv.d2;have hok:okR (w.deeds.length:Int)=ZDC:=Zdh (by omega);have hb:w.deeds.length<1000000:=by omega
 simp[ZcG,Zh4,ZeX,hok,Zai,hb];rw[Zbx dN (λk:Nat=>ZbW w c k) dN]
 ·simp[doV]
 ·intro k hk
  have hk':=ZyJ.mp hk;simp[Zlb hv hc (show(0:Int)<=(k:Int) by omega) (by omega)]
 ·intro k hk _
  simp
def Zcc(acc:List Int)(x:Int):List Int:=if acc.contains x then acc else acc++[x]
theorem Zfn:∀(l acc:List Int),dedup acc l=l.foldl Zcc acc
 | [],acc=>rfl
 | x::l,acc=>by
  unfold dedup;rw[ZAr];unfold Zcc;split
  ·rw[Zfn l acc]; rfl
  ·rw[Zfn l (acc++[x])]; rfl
def tru(acc:List Int):List (Ky × D):=acc.map λi=>(Zz1 i,Zzk ZDC)
theorem Zup(acc:List Int)(x:Int):putD (tru acc) (Zz1 x) (Zzk ZDC)=tru (Zcc acc x):=by
 unfold putD Zcc tru
 by_cases h:x∈acc
 ·have e1:((acc.map λi=>((Zz1 i:Ky),Zzk ZDC)).any λp=>decide (p.1=Zz1 x))=ZDC:=by
   simp; exact h
  have e2:acc.contains x=ZDC:=by simpa using h
  rw[if_pos e1,if_pos e2,ZyM];refine ZzO λi _=>?_;simp
 ·have e1:¬((acc.map λi=>((Zz1 i:Ky),Zzk ZDC)).any λp=>decide (p.1=Zz1 x))=ZDC:=by
   simp; exact h
  have e2:¬acc.contains x=ZDC:=by simpa using h
  rw[if_neg e1,if_neg e2];simp
theorem Zl3(acc:List Int)(x:Int):(Zcc acc x).length<=acc.length+1:=by unfold Zcc; split<;>simp
theorem ZnU:∀(l acc:List Int),(l.foldl Zcc acc).length<=acc.length+l.length
 | [],acc=>by simp
 | x::l,acc=>by rw[ZAr];have:=ZnU l (Zcc acc x);have:=Zl3 acc x;simp; omega
theorem Zsm(e0 e1 e2 e3 e5:Option B):∀(l acc:List Int) (o:Option B),acc.length+l.length<1000000 ->
  ∃o',Zaq 6 Zd4 (l.map dI) [e0,e1,e2,e3,Z (.ok (tru acc)),e5,o]=Z (.nx [e0,e1,e2,e3,Z (.ok (tru (l.foldl Zcc acc))),e5,o'])
 | [],acc,o,_=>⟨o,rfl⟩
 | x::l,acc,o,h=>by
  rw[ZyD]at h;have hb:acc.length<1000000:=by omega
  have e:Zd4 [e0,e1,e2,e3,Z (.ok (tru acc)),e5,Z (.pl (dI x))]=Z (.nx [e0,e1,e2,e3,Z (.ok (tru (Zcc acc x))),e5,Z (.pl (dI x))]):=by
   have hl:(tru acc).length<1000000:=by unfold tru; simp; exact hb
   simp[Zd4,hl,Zup]
  have hd:=Zl3 acc x;obtain⟨o',e'⟩:=Zsm e0 e1 e2 e3 e5 l (Zcc acc x) (Z (.pl (dI x))) (by omega);refine⟨o',?_⟩;rw[Zyv,ZAr,<-e'];unfold Zaq;show(match Zd4 [e0,e1,e2,e3,Z (.ok (tru acc)),e5,Z (.pl (dI x))]with | some (.nx r')=>_ | some (.ct r')=>_ | some (.bk r')=>_ | some (.rt d)=>_ | none=>_)=_;rw[e];cases l<;>rfl
theorem Zro{w:Wk}(hv:Wk.V w){d:Int}(h0:0<=d)(h1:d<w.deeds.length)(e1 e2:Option B):∀(c acc:List Int) (o5 o6:Option B),(∀s∈c,0<=s/\s<(w.many:Int))->acc.length+c.length*10<100000 ->
  ∃o5' o6',Zaq 5 Zd5 (c.map dI) [Z (.pl w.d),e1,e2,Z (.pl (ZB (w.deeds[d.toNat]?.getD []))),Z (.ok (tru acc)),o5,o6]=Z (.nx [Z (.pl w.d),e1,e2,Z (.pl (ZB (w.deeds[d.toNat]?.getD []))),Z (.ok (tru ((Zbv w c d).foldl Zcc acc))),o5',o6'])
 | [],acc,o5,o6,_,_=>⟨o5,o6,rfl⟩
 | s::c,acc,o5,o6,hs,hl=>by
  rw[ZyD]at hl;have hb:=hs s (Zyo ..);have hr:=(Zsv hv h0 h1 hb.1 hb.2).len;have m2:=hv.m2;have hrl:(ZbY w d s).length<1000000:=by omega
  obtain⟨o',e⟩:=Zsm (Z (.pl w.d)) e1 e2 (Z (.pl (ZB (w.deeds[d.toNat]?.getD [])))) (Z (.pl (dI s))) (ZbY w d s) acc o6 (by omega);have e':Zd5 [Z (.pl w.d),e1,e2,Z (.pl (ZB (w.deeds[d.toNat]?.getD []))),Z (.ok (tru acc)),Z (.pl (dI s)),o6]=Z (.nx [Z (.pl w.d),e1,e2,Z (.pl (ZB (w.deeds[d.toNat]?.getD []))),Z (.ok (tru ((ZbY w d s).foldl Zcc acc))),Z (.pl (dI s)),o']):=by unfold ZB at e ⊢;simp[Zd5,Zr8 hv h0 h1 hb.1 hb.2,hrl,e]
  have hf:=ZnU (ZbY w d s) acc;obtain⟨p5,p6,ih⟩:=Zro hv h0 h1 e1 e2 c ((ZbY w d s).foldl Zcc acc) (Z (.pl (dI s))) o' (λx hx=>hs x (Zyq _ hx)) (by omega);refine⟨p5,p6,?_⟩;have ef:Zbv w (s::c) d=ZbY w d s++Zbv w c d:=rfl;rw[ef,List.foldl_append,<-ih,Zyv];show(match Zd5 [Z (.pl w.d),e1,e2,Z (.pl (ZB (w.deeds[d.toNat]?.getD []))),Z (.ok (tru acc)),Z (.pl (dI s)),o6]with | some (.nx r')=>_ | some (.ct r')=>_ | some (.bk r')=>_ | some (.rt d)=>_ | none=>_)=_;rw[e']
theorem Zv5(hv:Wk.V w)(hc:Cr w.many c){d:Int}(h0:0<=d)(h1:d<w.deeds.length):∀x∈Zbv w c d,0<=x/\x<(w.many:Int):=by intro x hx;obtain⟨s,hs,h⟩:=ZAF.mp hx;exact(Zsv hv h0 h1 (hc.2 s hs).1 (hc.2 s hs).2).2 x h
theorem Zfy(hv:Wk.V w)(hc:Cr w.many c){d:Int}(h0:0<=d)(h1:d<w.deeds.length):Cr w.many (Zau w c d):=by refine Zf6 (Zdt _ _ (by simp)) λx hx=>Zv5 hv hc h0 h1 x ?_;rw[Zc7]at hx;simpa using hx
theorem Zrw(hv:Wk.V w)(hc:Cr w.many c){d:Int}(h0:0<=d)(h1:d<w.deeds.length):ZdO [w.d,tupI c,.int d]=Z (tupI (Zau w c d)):=by
 have m2:=hv.m2;have hlen:=hc.len;have hb:c.length<1000000:=by omega
 obtain⟨o5,o6,e⟩:=Zro hv h0 h1 (Z (.pl (tupI c))) (Z (.pl (.int d))) c [] Z_ Z_ hc.2 (by simp; omega);have hl:(dedup [] (Zbv w c d)).length<64:=by have h:=(Zfy hv hc h0 h1).len;have:=(sortI_perm (dedup [] (Zbv w c d))).length_eq;unfold Zau at h;omega
 have hs:=ZhT _ hl;rw[Zfn]at hs;have ek:(tru ((Zbv w c d).foldl Zcc [])).map (λp=>Zat p.1)=((Zbv w c d).foldl Zcc []).map dI:=by unfold tru;rw[ZyM];rfl
 simp[ZdO,ZlG,ZeX,ZpM h0 h1,hb];rw[show Z (B.ok [])=Z (B.ok (tru [])) from rfl,e];simp[ek,hs,Zau,Zfn]
end HG
namespace HG
open PySem HM
abbrev Gs:=List (List Int × List Int)
abbrev Zap(k:List Int):List Ky:=k.map Zz1
def ZbT(g:Gs):List (List Ky × List D):=g.map λp=>(Zap p.1,p.2.map dI)
theorem Zf8{a b:List Int}(h:Zap a=Zap b):a=b:=by
 induction a generalizing b with
 | nil=>cases b with
  | nil=>rfl
  | cons _ _=>simp at h
 | cons x a ih=>cases b with
  | nil=>simp at h
  | cons y b=>simp at h;rw[h.1,ih (by simpa using h.2)]
theorem Zlo(a b:List Int):(Zap a=Zap b)↔a=b:=⟨Zf8,λh=>by rw[h]⟩
theorem ZqS(k:List Int):Zlh (k.map dI)=Z (Zap k):=by
 induction k with
 | nil=>rfl
 | cons x k ih=>show(Zlh (k.map dI)).map (Zz1 x::·)=_;rw[ih];rfl
theorem Zb9(k:List Int):ZbR (tupI k)=Z (Zap k):=ZqS k
theorem Zke(g:Gs)(k:List Int):Zn (ZbT g) (Zap k)=(Zn g k).map λp=>p.map dI:=by
 unfold Zn ZbT;rw[List.find?_map];have e:((λp:List Ky × List D=>decide (p.1=Zap k))∘λp:List Int × List Int=>(Zap p.1,p.2.map dI))=λp=>decide (p.1=k):=by
  funext p
  simp only[ZBH];exact decide_eq_decide.mpr (Zlo p.1 k)
 rw[e];cases g.find? λp=>decide (p.1=k)<;>rfl
theorem Zp5(g:Gs)(k:List Int):Zcm (ZbT g) (Zap k)=ZbT (Zcm g k):=by
 unfold Zcm;rw[Zke];cases Zn g k with
 | none=>simp[ZbT]
 | some p=>rfl
theorem Zp1(k:List Int)(s:Int):∀(g:Gs),Zdk (ZbT g) (Zap k) (dI s)=ZbT (Zdk g k s)
 | []=>rfl
 | (x,p)::g=>by
  show Zdk ((Zap x,p.map dI)::ZbT g) (Zap k) (dI s)=ZbT (Zdk ((x,p)::g) k s);unfold Zdk
  by_cases h:x=k
  ·rw[if_pos (by rw[h]),if_pos h]
   simp[ZbT]
  ·rw[if_neg (λe=>h (Zf8 e)),if_neg h,Zp1 k s g]
   rfl
def Zgc(g:Gs)(k:List Int)(s:Int):Gs:=Zdk (Zcm g k) k s
theorem Zf5(k:List Int):Zn ([]:Gs) k=Z_:=rfl
theorem ZbG(x:List Int)(p:List Int)(g:Gs)(k:List Int):Zn ((x,p)::g) k=if x=k then Z p else Zn g k:=by
 unfold Zn;rw[Zzo]
 by_cases h:x=k<;>simp[h]
theorem ZoI(k:List Int)(s:Int)(k':List Int):∀(g:Gs),Zn (Zdk g k s) k'=if k=k' then(Zn g k).map (·++[s])else Zn g k'
 | []=>by simp[Zdk,Zf5]
 | (x,p)::g=>by
  unfold Zdk
  by_cases h:x=k
  ·subst h
   rw[if_pos rfl,ZbG,ZbG,ZbG,if_pos rfl];split<;>rfl
  ·rw[if_neg h,ZbG,ZoI k s k' g,ZbG,ZbG,if_neg h]
   by_cases h2:x=k'
   ·subst h2
    rw[if_pos rfl,if_pos rfl,if_neg (Zzt h)]
   ·rw[if_neg h2,if_neg h2]
theorem ZkQ(x:List Int)(p:List Int)(k:List Int):∀(g:Gs),Zn (g++[(x,p)]) k=match Zn g k with | some q=>Z q | none=>if x=k then Z p else Z_
 | []=>by simp[Zf5,ZbG]
 | (y,q)::g=>by rw[ZCR,ZbG,ZbG,ZkQ x p k g];split<;>rfl
theorem Zkc(g:Gs)(k k':List Int):Zn (Zcm g k) k'=if k=k' then Z ((Zn g k).getD [])else Zn g k':=by
 unfold Zcm;cases h:Zn g k with
 | some p =>
  by_cases e:k=k'
  ·subst e; rw[if_pos rfl]; exact h
  ·rw[if_neg e]
 | none =>
  show Zn (g++[(k,[])]) k'=_;rw[ZkQ]
  by_cases e:k=k'
  ·subst e; rw[if_pos rfl,if_pos rfl,h]; rfl
  ·rw[if_neg e,if_neg e]
   cases Zn g k'<;>rfl
theorem Zth(g:Gs)(k k':List Int)(s:Int):Zn (Zgc g k s) k'=if k=k' then Z ((Zn g k).getD []++[s])else Zn g k':=by
 unfold Zgc;rw[ZoI,Zkc,Zkc,if_pos rfl]
 by_cases e:k=k'
 ·rw[if_pos e,if_pos e]; rfl
 ·rw[if_neg e,if_neg e,if_neg e]
theorem ZoP(k:List Int)(s:Int):∀(g:Gs),(Zdk g k s).map (·.1)=g.map (·.1)
 | []=>rfl
 | (x,p)::g=>by
  unfold Zdk;split
  ·rfl
  ·rw[Zyv,ZoP k s g]; rfl
theorem ZjZ(g:Gs)(k:List Int):(Zn g k).isSome=ZDC↔k∈g.map (·.1):=by
 induction g with
 | nil=>simp[Zf5]
 | cons p g ih =>
  obtain⟨x,q⟩:=p;rw[ZbG,Zyv,ZyH]
  by_cases h:x=k
  ·simp[h]
  ·rw[if_neg h,ih]
   constructor
   ·exact .inr
   ·rintro (e | e)
    ·exact absurd e.symm h
    ·exact e
theorem Zs1(g:Gs)(k:List Int):(Zcm g k).map (·.1)=if k∈g.map (·.1)then g.map (·.1)else g.map (·.1)++[k]:=by
 unfold Zcm;cases h:Zn g k with
 | some p=>rw[if_pos ((ZjZ g k).mp (by rw[h]; rfl))]
 | none=>rw[if_neg (λm=>by have:=(ZjZ g k).mpr m; rw[h]at this; cases this)];simp
theorem Ztl(g:Gs)(k:List Int)(s:Int):(Zgc g k s).map (·.1)=if k∈g.map (·.1)then g.map (·.1)else g.map (·.1)++[k]:=by unfold Zgc;rw[ZoP,Zs1]
def ZdG(f:Int->List Int)(c:List Int):Gs:=c.foldl (λg s=>Zgc g (f s) s) []
structure Grp(f:Int->List Int)(pre:List Int)(g:Gs):Prop where
 nd:(g.map (·.1)).Nodup
 look:∀k,Zn g k=if k∈pre.map f then Z (pre.filter λs=>f s==k)else Z_
theorem Grp.mem{f:Int->List Int}{pre:List Int}{g:Gs}(h:Grp f pre g)(k:List Int):k∈g.map (·.1)↔k∈pre.map f:=by
 rw[<-ZjZ,h.look];split
 ·rename_i m; exact⟨λ_=>m,λ_=>rfl⟩
 ·rename_i m; exact⟨(λe=>by cases e),λe=>absurd e m⟩
theorem Grp.step{f:Int->List Int}{pre:List Int}{g:Gs}(h:Grp f pre g)(s:Int):Grp f (pre++[s]) (Zgc g (f s) s):=by
 refine⟨?_,λk=>?_⟩
 ·rw[Ztl]
  split
  ·exact h.nd
  ·rename_i m
   rw[ZAY];exact⟨h.nd,by simp,λa ha b hb=>by simp at hb; subst hb; exact λe=>m (e▸ha)⟩
 ·rw[Zth,h.look,h.look,ZyR,List.filter_append]
  by_cases e:f s=k
  ·subst e
   have e0:f s∈pre.map f++[s].map f:=by simp
   rw[if_pos rfl,if_pos e0];have e2:[s].filter (λx=>f x==f s)=[s]:=by simp
   rw[e2];split
   ·rfl
   ·rename_i m
    have:pre.filter (λx=>f x==f s)=[]:=by rw[ZBC];intro a ha q;exact m (Zyy.mpr ⟨a,ha,by simpa using q⟩)
    rw[this]; rfl
  ·have e2:[s].filter (λx=>f x==k)=[]:=by simp[e]
   rw[if_neg e,e2,Zy6];have e3:(k∈pre.map f++[s].map f)↔k∈pre.map f:=by
    rw[ZyK]
    constructor
    ·rintro (q | q)
     ·exact q
     ·simp at q; exact absurd q.symm e
    ·exact .inl
   by_cases q:k∈pre.map f
   ·rw[if_pos q,if_pos (e3.mpr q)]
   ·rw[if_neg q,if_neg (λz=>q (e3.mp z))]
theorem ZpC(f:Int->List Int):∀(c pre:List Int) (g:Gs),Grp f pre g->Grp f (pre++c) (c.foldl (λg s=>Zgc g (f s) s) g)
 | [],pre,g,h=>by rw[Zy6]; exact h
 | s::c,pre,g,h=>by have:=ZpC f c (pre++[s]) _ (h.step s);rw[ZAh]at this;exact this
theorem Zha(f:Int->List Int)(c:List Int):Grp f c (ZdG f c):=by
 have:=ZpC f c [] [] ⟨ZAa,λk=>by simp[Zf5]⟩
 rwa [ZBf]at this
def ZbQ(w:Wk)(ls c:List Int):Gs:=(ZeY ((ZdG (ZC w ls) c).map (·.1))).map λk=>(k,c.filter λs=>ZC w ls s==k)
def Zbp(p:List Int × List Int):D:=.tuple [tupI p.1,tupI p.2]
theorem Zn9(ks:List (List Int)):Zgv (ks.map tupI)=Z ks:=by
 induction ks with
 | nil=>rfl
 | cons k ks ih=>show(match Zas (k.map dI)with | some ns=>(Zgv (ks.map tupI)).map (ns::·) | none=>Z_)=_;rw[Zc6,ih];rfl
theorem ZqP(ks:List (List Int))(h:ks.length<64)(hn:ks.length<2\/∀k∈ks,k≠[]):ZeW (ks.map tupI)=Z ((ZeY ks).map tupI):=by
 unfold ZeW;rw[if_pos (by rw[Zyj]; exact h)];cases ks with
 | nil=>simp[Zas,sortI,ZeY,ofInts]
 | cons k ks =>
  have e:Zas (ZCa tupI (k::ks))=Z_:=rfl;rw[e,Zn9];have e2:(decide ((ZCa tupI (k::ks)).length<2)||(k::ks).all λt=>!t.isEmpty)=ZDC:=by
   rw[ZzQ,Zyj];rcases hn with q | q
   ·exact .inl (by simpa using q)
   ·refine .inr (Zys.mpr λt ht=>?_)
    have:=q t ht;cases t with
    | nil=>exact absurd rfl this
    | cons _ _=>rfl
  dsimp only;rw[if_pos e2];unfold ZaG;simp only[ZhL]
theorem Zes(ks:List (List Int)):(ZeY ks).Perm ks:=ZAk ks _
theorem Zt9(w:Wk)(ls c:List Int)(hc:c.length<60):ZeW ((ZbT (ZdG (ZC w ls) c)).map λp=>Zzh (p.1.map Zat))=Z ((ZeY ((ZdG (ZC w ls) c).map (·.1))).map tupI):=by
 have hg:=Zha (ZC w ls) c;have e:((ZbT (ZdG (ZC w ls) c)).map λp=>Zzh (p.1.map Zat))=((ZdG (ZC w ls) c).map (·.1)).map tupI:=by unfold ZbT;rw[ZyM,ZyM];refine ZzO λp _=>?_;simp only[ZBH];unfold Zap tupI;rw[ZyM];rfl
 rw[e];have hsub:∀k∈(ZdG (ZC w ls) c).map (·.1),k∈c.map (ZC w ls):=λk hk=>(hg.mem k).mp hk;refine ZqP _ ?_ ?_
 ·have:(ZdG (ZC w ls) c).map (·.1) ⊆ c.map (ZC w ls):=hsub
  have:=(ZzR hg.nd this);rw[Zyj,Zyj]at this;rw[Zyj];omega
 ·cases ls with
  | nil =>
   left
   have:(ZdG (ZC w []) c).map (·.1) ⊆ [[]]:=λk hk=>by obtain⟨s,_,e⟩:=Zyy.mp (hsub k hk);rw[<-e];simp[ZC]
   have:=(ZzR hg.nd this);simp at this ⊢;omega
  | cons l ls =>
   right
   intro k hk e;obtain⟨s,_,e'⟩:=Zyy.mp (hsub k hk);rw[e]at e';simp[ZC]at e'
theorem ZqI(w:Wk)(ls c:List Int)(e:EF)(r:HM.Env)(h:∀k∈(ZdG (ZC w ls) c).map (·.1),e (Z (.pl (tupI k))::r)=Z (.tuple [tupI k,.tuple ((c.filter λs=>ZC w ls s==k).map dI)])) :
  Zag Z4 e r ((ZeY ((ZdG (ZC w ls) c).map (·.1))).map tupI)=Z ((ZbQ w ls c).map Zbp):=by
 rw[Za5 tupI (λk=>.tuple [tupI k,.tuple ((c.filter λs=>ZC w ls s==k).map dI)])]
 ·unfold ZbQ
  rw[ZyM];rfl
 ·intro k hk
  exact h k ((Zes _).mem_iff.mp hk)
theorem Ztz(w:Wk)(ls c:List Int)(k:List Int)(hk:k∈(ZdG (ZC w ls) c).map (·.1)):Zn (ZbT (ZdG (ZC w ls) c)) (Zap k)=Z ((c.filter λs=>ZC w ls s==k).map dI):=by have hg:=Zha (ZC w ls) c;rw[Zke,hg.look,if_pos ((hg.mem k).mp hk)];rfl
theorem Zue(f:Int->List Int)(pre:List Int)(g:Gs)(h:Grp f pre g)(k:List Int)(p:List Int)(e:Zn g k=Z p):p.length<=pre.length:=by
 rw[h.look]at e;split at e
 ·cases e; exact ZzS _ _
 ·cases e
theorem Zqr(f:Int->List Int)(pre:List Int)(g:Gs)(h:Grp f pre g):g.length<=pre.length:=by have h2:g.map (·.1) ⊆ pre.map f:=λk hk=>(h.mem k).mp hk;have:=ZzR h.nd h2;simpa using this
theorem ZlU{w:Wk}(hv:Wk.V w){ls:List Int}(hl:Cr w.looks.length ls)(e2:Option B):∀(c pre:List Int) (g:Gs) (o:Option B),Grp (ZC w ls) pre g->(∀s∈c,0<=s/\s<(w.many:Int))->pre.length+c.length<1000 ->
  ∃o',Zaq 4 Zd6 (c.map dI) [Z (.pl w.d),Z (.pl (tupI ls)),e2,Z (.otl (ZbT g)),o]=Z (.nx [Z (.pl w.d),Z (.pl (tupI ls)),e2,Z (.otl (ZbT (c.foldl (λg s=>Zgc g (ZC w ls s) s) g))),o'])
 | [],pre,g,o,_,_,_=>⟨o,rfl⟩
 | s::c,pre,g,o,hg,hb,hn=>by
  rw[ZyD]at hn;have hs:=hb s (Zyo ..);have hlen:(ZbT g).length<1000000:=by have:=Zqr _ _ _ hg;unfold ZbT;rw[Zyj]; omega
  have h1:Zn (Zcm (ZbT g) (Zap (ZC w ls s))) (Zap (ZC w ls s))=Z (((Zn g (ZC w ls s)).getD []).map dI):=by rw[Zp5,Zke,Zkc,if_pos rfl]; rfl
  have h2:(((Zn g (ZC w ls s)).getD []).map dI).length<1000000:=by
   rw[Zyj];cases e:Zn g (ZC w ls s)with
   | none=>simp
   | some p=>have:=Zue _ _ _ hg _ _ e;simp; omega
  have h2':((Zn g (ZC w ls s)).getD []).length<1000000:=by rwa [Zyj]at h2
  have e:Zd6 [Z (.pl w.d),Z (.pl (tupI ls)),e2,Z (.otl (ZbT g)),Z (.pl (dI s))]=Z (.nx [Z (.pl w.d),Z (.pl (tupI ls)),e2,Z (.otl (ZbT (Zgc g (ZC w ls s) s))),Z (.pl (dI s))]):=by have ek:=ZqV hv hl hs.1 hs.2;simp[Zd6,ek,Zb9,hlen,h1,h2'];rw[Zp5,Zp1];rfl
  obtain⟨o',ih⟩:=ZlU hv hl e2 c (pre++[s]) (Zgc g (ZC w ls s) s) (Z (.pl (dI s))) (hg.step s) (λx hx=>hb x (Zyq _ hx)) (by simp; omega);refine⟨o',?_⟩;rw[Zyv,ZAr,<-ih];show(match Zd6 [Z (.pl w.d),Z (.pl (tupI ls)),e2,Z (.otl (ZbT g)),Z (.pl (dI s))]with | some (.nx r')=>_ | some (.ct r')=>_ | some (.bk r')=>_ | some (.rt d)=>_ | none=>_)=_;rw[e]
theorem ZiX{w:Wk}(hv:Wk.V w){ls:List Int}(hl:Cr w.looks.length ls){c:List Int}(hc:Cr w.many c):Zba [w.d,tupI ls,tupI c]=Z (.list ((ZbQ w ls c).map Zbp)):=by
 have m2:=hv.m2;have hlen:=hc.len;have hb:c.length<1000000:=by omega
 obtain⟨o',e⟩:=ZlU hv hl (Z (.pl (tupI c))) c [] [] Z_ ⟨ZAa,λk=>by simp[Zf5]⟩ hc.2 (by simp; omega);have hk:=Zt9 w ls c (by omega);have hg:c.foldl (λg s=>Zgc g (ZC w ls s) s) []=ZdG (ZC w ls) c:=rfl;rw[hg]at e;have hn:(ZeY ((ZdG (ZC w ls) c).map (·.1))).length<1000000:=by rw[(Zes _).length_eq,Zyj];have:=Zqr _ _ _ (Zha (ZC w ls) c);omega
 simp[Zba,ZlH,hb];rw[show Z (B.otl [])=Z (B.otl (ZbT [])) from rfl,e];simp[hk,hn];rw[ZqI]
 ·simp
 ·intro k hk'
  simp[Zb9,Ztz w ls c k hk']
end HG
namespace HG
open PySem HM
variable{ds:List D}{m n:Nat}
def nbD:Nat->D->Bool
 | _,.none=>ZDC
 | _,.int _=>ZDC
 | _,.str x=>PyData.canLay0 (.str x)
 | 0,_=>ZDD
 | n+1,.list ds=>ds.all (nbD n)
 | n+1,.tuple ds=>ds.all (nbD n)
 | _,_=>ZDD
theorem ZiS(h:∀d∈ds,d.canLay0=ZDC):ZAX ds=ZDC:=by
 induction ds with
 | nil=>rfl
 | cons d ds ih=>show(d.canLay0&&ZAX ds)=ZDC;rw[h d (Zyo ..),ih λx hx=>h x (Zyq _ hx)];rfl
theorem ZjJ(h:∀d∈ds,d.depth<=n):ZB2 ds<=n:=by
 induction ds with
 | nil=>exact Zzj _
 | cons d ds ih=>show max d.depth (ZB2 ds)<=n;have h1:=h d (Zyo ..);have h2:=ih λx hx=>h x (Zyq _ hx);omega
theorem Zi1:∀(n:Nat) (d:D),nbD n d=ZDC->d.canLay0=ZDC/\d.depth<=n
 | n,.none,_=>⟨rfl,by show 0<=n; omega⟩
 | n,.int _,_=>⟨rfl,by show 0<=n; omega⟩
 | n,.str x,h=>by refine⟨?_,by show 0<=n; omega⟩;cases n<;>exact h
 | 0,.bool _,h=>by cases h
 | 0,.list _,h=>by cases h
 | 0,.tuple _,h=>by cases h
 | 0,.dict _,h=>by cases h
 | n+1,.bool _,h=>by cases h
 | n+1,.dict _,h=>by cases h
 | n+1,.list ds,h=>by have h':ds.all (nbD n)=ZDC:=h;have hh:=Zys.mp h';refine⟨ZiS λd hd=>(Zi1 n d (hh d hd)).1,?_⟩;show ZB2 ds+1<=n+1;have:=ZjJ λd hd=>(Zi1 n d (hh d hd)).2;omega
 | n+1,.tuple ds,h=>by have h':ds.all (nbD n)=ZDC:=h;have hh:=Zys.mp h';refine⟨ZiS λd hd=>(Zi1 n d (hh d hd)).1,?_⟩;show ZB2 ds+1<=n+1;have:=ZjJ λd hd=>(Zi1 n d (hh d hd)).2;omega
theorem ZdD{d:D}(h:nbD n d=ZDC)(hn:n<=60):Zb6 d=ZDC:=by obtain⟨h1,h2⟩:=Zi1 n d h;unfold Zb6;rw[h1,decide_eq_true (show d.depth<=60 by omega)];rfl
theorem Zkt(ih:∀d∈ds,∀e,(∃m,nbD m e=ZDC)->(ZAV d e=ZDC↔d=e)):∀(es:List D),(∀e∈es,∃m,nbD m e=ZDC)->(ZCt ds es=ZDC↔ds=es):=by
 induction ds with
 | nil =>
  intro es _;cases es with
  | nil=>exact⟨λ_=>rfl,λ_=>rfl⟩
  | cons e es=>exact⟨(λh=>by cases h),(λh=>by cases h)⟩
 | cons d ds ihl =>
  intro es he;cases es with
  | nil=>exact⟨(λh=>by cases h),(λh=>by cases h)⟩
  | cons e es=>show((ZAV d e&&ZCt ds es)=ZDC)↔_;rw[ZyE,ih d (Zyo ..) e (he e (Zyo ..)),ihl (λx hx=>ih x (Zyq _ hx)) es (λx hx=>he x (Zyq _ hx)),List.cons.injEq]
theorem Zt7(h:nbD m (.list ds)=ZDC):∀d∈ds,∃m,nbD m d=ZDC:=by
 cases m with
 | zero=>cases h
 | succ m=>have h':ds.all (nbD m)=ZDC:=h;exact λd hd=>⟨m,Zys.mp h' d hd⟩
theorem ZtB(h:nbD m (.tuple ds)=ZDC):∀d∈ds,∃m,nbD m d=ZDC:=by
 cases m with
 | zero=>cases h
 | succ m=>have h':ds.all (nbD m)=ZDC:=h;exact λd hd=>⟨m,Zys.mp h' d hd⟩
theorem ZeH{b:Bool}(h:nbD m (.bool b)=ZDC):False:=by cases m<;>cases h
theorem ZeQ{b:List (D × D)}(h:nbD m (.dict b)=ZDC):False:=by cases m<;>cases h
theorem Zjg:∀(n:Nat) (d e:D),nbD n d=ZDC->(∃m,nbD m e=ZDC)->(ZAV d e=ZDC↔d=e):=by
 intro n
 induction n with
 | zero =>
  intro d e hd ⟨m,he⟩;cases d<;>first | cases hd | skip
  all_goals cases e<;>first
   | exact(ZeH he).elim
   | exact(ZeQ he).elim
   | exact⟨λ_=>rfl,λ_=>rfl⟩
   | exact⟨(λh=>by cases h),(λh=>by cases h)⟩
   | (rename_i a b; show((a==b)=ZDC)↔_; simp)
 | succ n ih =>
  intro d e hd ⟨m,he⟩;cases d with
  | bool _=>exact(ZeH hd).elim
  | dict _=>exact(ZeQ hd).elim
  | list ds =>
   cases e with
   | list es=>show(ZCt ds es=ZDC)↔_;rw[Zkt (λd h e he=>ih d e (Zys.mp (show ds.all (nbD n)=ZDC from hd) d h) he) es (Zt7 he)];simp
   | bool _=>exact(ZeH he).elim
   | dict _=>exact(ZeQ he).elim
   | _=>exact⟨(λh=>by cases h),(λh=>by cases h)⟩
  | tuple ds =>
   cases e with
   | tuple es=>show(ZCt ds es=ZDC)↔_;rw[Zkt (λd h e he=>ih d e (Zys.mp (show ds.all (nbD n)=ZDC from hd) d h) he) es (ZtB he)];simp
   | bool _=>exact(ZeH he).elim
   | dict _=>exact(ZeQ he).elim
   | _=>exact⟨(λh=>by cases h),(λh=>by cases h)⟩
  | none=>cases e<;>first
   | exact(ZeH he).elim
   | exact(ZeQ he).elim
   | exact⟨λ_=>rfl,λ_=>rfl⟩
   | exact⟨(λh=>by cases h),(λh=>by cases h)⟩
  | int i=>cases e<;>first
   | exact(ZeH he).elim
   | exact(ZeQ he).elim
   | exact⟨(λh=>by cases h),(λh=>by cases h)⟩
   | (rename_i b; show((i==b)=ZDC)↔_; simp)
  | str i=>cases e<;>first
   | exact(ZeH he).elim
   | exact(ZeQ he).elim
   | exact⟨(λh=>by cases h),(λh=>by cases h)⟩
   | (rename_i b; show((i==b)=ZDC)↔_; simp)
theorem Zuf{d e:D}(hd:nbD n d=ZDC)(he:nbD m e=ZDC)(hn:n<=60)(hm:m<=60)[Decidable (d=e)]:gEq d e=Z (.bool (decide (d=e))):=by
 unfold gEq;rw[ZdD hd hn,ZdD he hm,if_pos (by rfl)];congr 2;have h:=Zjg n d e hd ⟨m,he⟩;cases q:ZAV d e with
 | true=>exact(decide_eq_true (h.mp q)).symm
 | false=>exact(decide_eq_false λz=>by rw[h.mpr z]at q; cases q).symm
theorem Zj0{d:D}(hd:nbD n d=ZDC)(hn:n<=60):gEq d d=Z (.bool ZDC):=by unfold gEq;rw[ZdD hd hn,(Zjg n d d hd ⟨n,hd⟩).mpr rfl];rfl
theorem Zi2{d e:D}(hd:nbD n d=ZDC)(he:nbD m e=ZDC)(hn:n<=60)(hm:m<=60)(h:d≠e):gEq d e=Z (.bool ZDD):=by have:Decidable (d=e):=isFalse h;rw[Zuf hd he hn hm,decide_eq_false h]
theorem Zoe{d e:D}(hd:nbD n d=ZDC)(he:nbD m e=ZDC)(hn:n<=60)(hm:m<=60)(h:d≠e):gNe d e=Z (.bool ZDC):=by
 unfold gNe;have q:ZAV d e=ZDD:=by
  cases q:ZAV d e with
  | false=>rfl
  | true=>exact absurd ((Zjg n d e hd ⟨m,he⟩).mp q) h
 rw[ZdD hd hn,ZdD he hm,q];rfl
theorem ZjR{d:D}(hd:nbD n d=ZDC)(hn:n<=60):gNe d d=Z (.bool ZDD):=by unfold gNe;rw[ZdD hd hn,(Zjg n d d hd ⟨n,hd⟩).mpr rfl];rfl
theorem ZeG(n:Nat)(ns:List Int):nbD (n+1) (tupI ns)=ZDC:=by show(ns.map dI).all (nbD n)=ZDC;rw[Zys];intro d hd;obtain⟨i,_,rfl⟩:=Zyy.mp hd;cases n<;>rfl
theorem Zj5(n:Nat)(ns:List Int):nbD (n+1) (.list (ns.map dI))=ZDC:=ZeG n ns
theorem ZvY(h:∀d∈ds,nbD n d=ZDC):nbD (n+1) (.tuple ds)=ZDC:=Zys.mpr h
theorem Zwk(h:∀d∈ds,nbD n d=ZDC):nbD (n+1) (.list ds)=ZDC:=Zys.mpr h
theorem ZcM(n:Nat)(i:Int):nbD n (.int i)=ZDC:=by cases n<;>rfl
theorem Zuh(n:Nat):nbD n .none=ZDC:=by cases n<;>rfl
end HG
namespace HG
open PySem HM
variable{w:Wk}
def lkV(n:Nat)(c:Int):List Int:=((Zyp n).filter λ(k:Nat)=>decide (0<ZQ (c+19*(k:Int)) 9857 4)).map λ(k:Nat)=>(k:Int)
theorem ZrU(n:Nat)(c:Int):Cr n (lkV n c):=Zh1 n _
theorem ZnZ(hv:Wk.V w)(c:Int):Zch [w.d,.int c]=Z (tupI (lkV w.looks.length c)):=by
 have l2:=hv.l2;have hok:okR (w.looks.length:Int)=ZDC:=Zdh (by omega);have hb:w.looks.length<1000000:=by omega
 have e2:atD [ZyV w.many,.tuple (w.deeds.map ZB),.tuple (w.looks.map tupI),tupI w.beg,tupI w.goal] 2=Z (.tuple (w.looks.map tupI)):=by simp
 unfold Wk.d;simp[Zch,Zil,hok,Zai,hb];rw[Zbx dN (λk:Nat=>decide (0<ZQ (c+19*(k:Int)) 9857 4)) dN]
 ·simp[lkV]
 ·intro k hk
  have m:=Zb5 (c+19*(k:Int)) 9857 4 (by decide) (by decide);simp[m]
 ·intro k hk _
  simp
def Zye(w:Wk)(c:List Int)(d:Int):D:=if ZbW w c d then tupI (Zau w c d)else .none
theorem ZeL{c:List Int}{d:Int}(h:d∈doV w c):0<=d/\d<w.deeds.length/\ZbW w c d=ZDC:=by unfold doV at h;obtain⟨k,hk,rfl⟩:=Zyy.mp h;obtain⟨h1,h2⟩:=ZyW.mp hk;have:=ZyJ.mp h1;exact⟨by omega,by omega,h2⟩
end HG
namespace HG4
open PySem HM HG
def Zim:SF :=
 (ZA (ZeE (ZbV (Zbe (bOf (Zh Zbm (Za (Zh ZaX (Za (Zc 0) Zg)) Zg)))))))
def ZbM:List D->Option D:=fnOf 1 1 Zim
end HG4
namespace HM
open PySem
theorem ZR{P:Option Out->Prop}{a b:SF}{r r':Env}(h:a r=Z (.nx r'))(k:P (b r')):P (Zu a b r):=by show P (match a r with | some (.nx r')=>b r' | some (.rt d)=>Z (.rt d) | some (.bk r')=>Z (.bk r') | some (.ct r')=>Z (.ct r') | none=>Z_);rw[h];exact k
end HM
namespace HG4
open PySem HM HG
variable{x:Int}{c:List Int}{w:Wk}
def ZkG(w:Wk)(ls c:List Int)(s:Int):List Int:=c.filter λx=>ZC w ls x==ZC w ls s
theorem Zkv{n:Nat}(p:Int->Bool)(h:Cr n c):Cr n (c.filter p):=⟨h.1.filter p,λx hx=>h.2 x (ZyW.mp hx).1⟩
def alV(w:Wk):List Int:=(Zyp w.looks.length).map λ(k:Nat)=>(k:Int)
theorem Zx2(w:Wk):Cr w.looks.length (alV w):=by
 have:=Zh1 w.looks.length λ_=>ZDC
 rwa [ZB6.mpr λ_ _=>rfl]at this
theorem Zoj{ls:List Int}{s:Int}:x∈ZkG w ls c s↔x∈c/\ZC w ls x=ZC w ls s:=by unfold ZkG;rw[ZyW,beq_iff_eq]
theorem Zlt{d:Int}:x∈Zau w c d↔∃s∈c,x∈ZbY w d s:=by
 unfold Zau;rw[(sortI_perm _).mem_iff,Zc7];unfold Zbv;rw[ZAF]
 constructor
 ·rintro (h | h)
  ·cases h
  ·exact h
 ·exact .inr
theorem ZoL(hv:Wk.V w):ZbM [w.d]=Z (tupI (alV w)):=by
 have l2:=hv.l2;have hok:okR (w.looks.length:Int)=ZDC:=Zdh (by omega);have hb:w.looks.length<1000000:=by omega
 simp[ZbM,Zim,Zft hv,ZgV,hok,Zai,hb,alV]
end HG4
namespace HM
open PySem
def ZH:Option Out->Option D
 | some (.nx _)=>Z .none
 | some (.rt d)=>Z d
 | _=>Z_
end HM
namespace HG4
open PySem HM HG
end HG4
namespace HG5
open PySem HM HG HG4
variable{L:List (List Int)}{c ls p:List Int}{m n:Nat}{w:Wk}
def ZY(w:Wk)(ls c:List Int):List (List Int):=(ZbQ w ls c).map (·.2)
theorem ZdT:p∈ZY w ls c↔∃s∈c,p=ZkG w ls c s:=by
 unfold ZY ZbQ;rw[ZyM,Zyy];have hg:=Zha (ZC w ls) c
 constructor
 ·rintro ⟨k,hk,rfl⟩
  obtain⟨s,hs,e⟩:=Zyy.mp ((hg.mem k).mp ((Zes _).mem_iff.mp hk));refine⟨s,hs,?_⟩;subst e;rfl
 ·rintro ⟨s,hs,rfl⟩
  exact⟨ZC w ls s,(Zes _).mem_iff.mpr ((hg.mem _).mpr (Zyy.mpr ⟨s,hs,rfl⟩)),rfl⟩
theorem Zls(hc:Cr w.many c)(h:p∈ZY w ls c):Cr w.many p/\p≠[]/\∀x∈p,x∈c:=by obtain⟨s,hs,rfl⟩:=ZdT.mp h;exact⟨Zkv _ hc,ZBk (Zoj.mpr ⟨hs,rfl⟩),λx hx=>(Zoj.mp hx).1⟩
theorem ZhJ(h:c≠[]):ZY w ls c≠[]:=by
 cases c with
 | nil=>exact absurd rfl h
 | cons s c=>exact ZBk (ZdT.mpr ⟨s,Zyo ..,rfl⟩)
def Ziy:Nat->List (List Int)
 | 0=>[[]]
 | n+1=>Ziy n++(Ziy n).map (·++[(n:Int)])
theorem ZnA:∀n,(Ziy n).length=2 ^ n
 | 0=>rfl
 | n+1=>by show(Ziy n++(Ziy n).map (·++[(n:Int)])).length=_;rw[ZyA,Zyj,ZnA n,Nat.pow_succ];omega
theorem ZjP:∀(n:Nat) (c:List Int),Cr n c->c∈Ziy n
 | 0,c,h=>by
  cases c with
  | nil=>exact Zyt.mpr rfl
  | cons x c=>have:=h.2 x (Zyo ..); omega
 | n+1,c,h=>by
  show c∈Ziy n++(Ziy n).map (·++[(n:Int)])
  by_cases hm:(n:Int)∈c
  ·-- the last is n
   have key:∀(c:List Int),c.Pairwise (· < ·)->(∀x∈c,0<=x/\x<((n+1:Nat):Int))->(n:Int)∈c->∃c',c=c'++[(n:Int)]/\c'.Pairwise (· < ·)/\∀x∈c',0<=x/\x<(n:Int):=by
    intro c
    induction c with
    | nil=>intro _ _ h; simp at h
    | cons x c ih =>
     intro hp hb hm;obtain⟨p1,p2⟩:=Zzb.mp hp
     by_cases hx:x=(n:Int)
     ·cases c with
      | nil=>exact⟨[],by rw[hx]; rfl,.nil,λy hy=>by simp at hy⟩
      | cons y c=>have h1:=p1 y (Zyo ..);have h2:=hb y (Zyq _ (Zyo ..));omega
     ·have hm':(n:Int)∈c:=by
       rcases ZyH.mp hm with e | e
       ·exact absurd e.symm hx
       ·exact e
      obtain⟨c',e,q1,q2⟩:=ih p2 (λy hy=>hb y (Zyq _ hy)) hm';refine⟨x::c',by rw[e]; rfl,Zzb.mpr ⟨λy hy=>p1 y (by rw[e]; exact Zy1 _ hy),q1⟩,λy hy=>?_⟩;rcases ZyH.mp hy with e' | hy
      ·have h1:=p1 (n:Int) hm'
       have h2:=hb x (Zyo ..);rw[e'];omega
      ·exact q2 y hy
   obtain⟨c',e,q1,q2⟩:=key c h.1 h.2 hm;exact ZyP _ (Zyy.mpr ⟨c',ZjP n c' ⟨q1,q2⟩,e.symm⟩)
  ·refine Zy1 _ (ZjP n c ⟨h.1,λx hx=>?_⟩)
   have h1:=h.2 x hx;have:x≠(n:Int):=λe=>hm (e▸hx);omega
theorem Zqv(hn:L.Nodup)(h:∀c∈L,Cr n c):L.length<=2 ^ n:=by rw[<-ZnA n];exact ZzR hn λc hc=>ZjP n c (h c hc)
def Z3(w:Wk)(c:List Int):Bool:=c.all λs=>w.goal.contains s
def Win(w:Wk)(ls:List Int):Nat->List Int->Bool
 | 0,c=>Z3 w c
 | n+1,c=>Z3 w c||(Zyp w.deeds.length).any λd=>ZbW w c d&&(ZY w ls (Zau w c d)).all λp=>Win w ls n p
theorem ZhH{w:Wk}{ls:List Int}:∀(n:Nat) (c:List Int),Win w ls n c=ZDC->Win w ls (n+1) c=ZDC
 | 0,c,h=>by show(Z3 w c||_)=ZDC;rw[show Z3 w c=ZDC from h];rfl
 | n+1,c,h=>by
  have h':(Z3 w c||(Zyp w.deeds.length).any λd=>ZbW w c d&&(ZY w ls (Zau w c d)).all λp=>Win w ls n p)=ZDC:=h;show(Z3 w c||(Zyp w.deeds.length).any λd=>ZbW w c d&&(ZY w ls (Zau w c d)).all λp=>Win w ls (n+1) p)=ZDC;rw[ZzQ]at h' ⊢;rcases h' with h' | h'
  ·exact .inl h'
  ·right
   obtain⟨d,hd,hq⟩:=Zzi.mp h';rw[ZyE]at hq;refine Zzi.mpr ⟨d,hd,?_⟩;rw[ZyE];exact⟨hq.1,Zys.mpr λp hp=>ZhH n p (Zys.mp hq.2 p hp)⟩
theorem Zge(h:n<=m)(q:Win w ls n c=ZDC):Win w ls m c=ZDC:=by
 induction h with
 | refl=>exact q
 | step _ ih=>exact ZhH _ _ ih
def Ze1(w:Wk)(ls:List Int)(L:List (List Int)):Prop:=∀c∈L,∀d:Nat,d<w.deeds.length->ZbW w c d=ZDC->∀p∈ZY w ls (Zau w c d),p∈L
theorem ZhR{w:Wk}{ls:List Int}{L:List (List Int)}(hL:Ze1 w ls L){n:Nat}(h:∀c∈L,Win w ls (n+1) c=ZDC->Win w ls n c=ZDC):∀(m:Nat),∀c∈L,Win w ls m c=ZDC->Win w ls n c=ZDC
 | 0,c,_,q=>Zge (Zzj n) q
 | m+1,c,hc,q=>by
  refine h c hc ?_;have q':(Z3 w c||(Zyp w.deeds.length).any λd=>ZbW w c d&&(ZY w ls (Zau w c d)).all λp=>Win w ls m p)=ZDC:=q;show(Z3 w c||(Zyp w.deeds.length).any λd=>ZbW w c d&&(ZY w ls (Zau w c d)).all λp=>Win w ls n p)=ZDC;rw[ZzQ]at q' ⊢;rcases q' with q' | q'
  ·exact .inl q'
  ·right
   obtain⟨d,hd,hq⟩:=Zzi.mp q';rw[ZyE]at hq;refine Zzi.mpr ⟨d,hd,?_⟩;rw[ZyE];exact⟨hq.1,Zys.mpr λp hp=>ZhR hL h m p (hL c hc d (ZyJ.mp hd) hq.1 p hp) (Zys.mp hq.2 p hp)⟩
theorem Zdy{α:Type}{p q:α->Bool}:∀{L:List α},(∀x∈L,p x=ZDC->q x=ZDC)->(∃x∈L,q x=ZDC/\p x=ZDD)->(L.filter p).length<(L.filter q).length
 | [],_,⟨x,hx,_⟩=>by simp at hx
 | y::L,h,⟨x,hx,h1,h2⟩=>by
  have le:∀{L:List α},(∀x∈L,p x=ZDC->q x=ZDC)->(L.filter p).length<=(L.filter q).length:=by
   intro L
   induction L with
   | nil=>intro _; exact Zyr _
   | cons z L ih =>
    intro h;have:=ih λx hx=>h x (Zyq _ hx);have hz:=h z (Zyo ..);rw[ZAH,ZAH];cases hp:p z with
    | true=>rw[hz hp]; simpa using this
    | false =>
     cases q z
     ·simpa using this
     ·simp; omega
  have hL:=λx hx=>h x (Zyq y hx);have hy:=h y (Zyo ..);rw[ZAH,ZAH];rcases ZyH.mp hx with e | hx
  ·subst e
   rw[h2,h1];have:=le hL;simp; omega
  ·have:=Zdy hL ⟨x,hx,h1,h2⟩
   cases hp:p y with
   | true=>rw[hy hp]; simpa using this
   | false =>
    cases q y
    ·simpa using this
    ·simp; omega
theorem Zu0(hL:Ze1 w ls L)(hc:c∈L)(q:Win w ls m c=ZDC):Win w ls L.length c=ZDC:=by
 have key:∀t:Nat,(∃n,n<=t/\∀c∈L,Win w ls (n+1) c=ZDC->Win w ls n c=ZDC)\/t+1<=(L.filter λc=>Win w ls (t+1) c).length:=by
  intro t
  induction t with
  | zero =>
   by_cases h:∀c∈L,Win w ls 1 c=ZDC->Win w ls 0 c=ZDC
   ·exact .inl ⟨0,Zyr 0,h⟩
   ·right
    have h':∃c∈L,Win w ls 1 c=ZDC/\Win w ls 0 c=ZDD:=by
     apply ZCI;intro z;apply h;intro c hc h1;cases h0:Win w ls 0 c with
     | true=>rfl
     | false=>exact absurd ⟨c,hc,h1,h0⟩ z
    have:=Zdy (p:=λc=>Win w ls 0 c) (q:=λc=>Win w ls 1 c) (L:=L) (λx _ hx=>ZhH 0 x hx) h';show 1<=(L.filter λc=>Win w ls 1 c).length;omega
  | succ t ih =>
   rcases ih with⟨n,hn,hs⟩ | ih
   ·exact .inl ⟨n,by omega,hs⟩
   ·by_cases h:∀c∈L,Win w ls (t+1+1) c=ZDC->Win w ls (t+1) c=ZDC
    ·exact .inl ⟨t+1,Zyr _,h⟩
    ·right
     have h':∃c∈L,Win w ls (t+1+1) c=ZDC/\Win w ls (t+1) c=ZDD:=by
      apply ZCI;intro z;apply h;intro c hc h1;cases h0:Win w ls (t+1) c with
      | true=>rfl
      | false=>exact absurd ⟨c,hc,h1,h0⟩ z
     have:=Zdy (p:=λc=>Win w ls (t+1) c) (q:=λc=>Win w ls (t+1+1) c) (L:=L) (λx _ hx=>ZhH (t+1) x hx) h';omega
 rcases key L.length with⟨n,hn,hs⟩ | h
 ·exact Zge hn (ZhR hL hs m c hc q)
 ·have:=ZzS (λc=>Win w ls (L.length+1) c) L
  omega
end HG5
namespace HG5
open PySem HM HG
end HG5
namespace HG5
open PySem HM HG HG4
theorem Zxn(p:List Int):Zb6 (tupI p)=ZDC:=ZdD (ZeG 0 p) (by decide)
theorem ZoK{w:Wk}{c:List Int}{d:Int}(h0:c≠[])(hc:ZbW w c d=ZDC):Zau w c d≠[]:=by
 cases c with
 | nil=>exact absurd rfl h0
 | cons s c =>
  unfold ZbW at hc;have h1:=Zys.mp hc s (Zyo ..);have h2:0<(ZbY w d s).length:=by simpa using h1
  cases hr:ZbY w d s with
  | nil=>rw[hr]at h2; simp at h2
  | cons x xs=>exact ZBk (Zlt.mpr ⟨s,Zyo ..,by rw[hr]; exact Zyo ..⟩)
def Zya(w:Wk)(ls c:List Int)(L:List (List Int))(d:Nat):List (List Int):=if ZbW w c d then L++(ZY w ls (Zau w c d)).filter (λp=>!L.contains p)else L
end HG5
namespace HG5
open PySem HM HG HG4
abbrev Tb:=List (List Int × Int)
def encM(M:Tb):List (List Ky × D):=M.map λp=>(Zap p.1,dI p.2)
theorem Ze2(M:Tb)(k:List Int):Zn (encM M) (Zap k)=(Zn M k).map dI:=by
 unfold Zn encM;rw[List.find?_map];have e:((λp:List Ky × D=>decide (p.1=Zap k))∘λp:List Int × Int=>(Zap p.1,dI p.2))=λp=>decide (p.1=k):=by
  funext p
  simp only[ZBH];exact decide_eq_decide.mpr (Zlo p.1 k)
 rw[e];cases M.find? λp=>decide (p.1=k)<;>rfl
theorem Zor(M:Tb)(k:List Int)(v:Int):putD (encM M) (Zap k) (dI v)=encM (putD M k v):=by
 unfold putD;have e1:((encM M).any λp=>decide (p.1=Zap k))=M.any λp=>decide (p.1=k):=by
  unfold encM;rw[ZDz];congr 1
  funext p
  simp only[ZBH];exact decide_eq_decide.mpr (Zlo p.1 k)
 rw[e1];split
 ·unfold encM
  rw[ZyM,ZyM];refine ZzO λp _=>?_;simp only[ZBH]
  by_cases h:p.1=k
  ·rw[if_pos h,if_pos (by rw[h])]
  ·rw[if_neg h,if_neg (λe=>h (Zf8 e))]
 ·unfold encM
  rw[ZyR];rfl
theorem ZiM(k:List Int):Zn ([]:Tb) k=Z_:=rfl
theorem ZbC(x:List Int)(v:Int)(M:Tb)(k:List Int):Zn ((x,v)::M) k=if x=k then Z v else Zn M k:=by
 unfold Zn;rw[Zzo]
 by_cases h:x=k<;>simp[h]
theorem Zrs(x k:List Int)(v:Int)(M:Tb):Zn (putD M x v) k=if x=k then Z v else Zn M k:=by
 have rep:∀M:Tb,Zn (M.map λp=>if p.1=x then(p.1,v)else p) k=if x=k then(Zn M k).map (λ_=>v)else Zn M k:=by
  intro M
  induction M with
  | nil=>rw[ZA1,ZiM]; split<;>rfl
  | cons p M ih =>
   obtain⟨a,b⟩:=p;rw[Zyv]
   by_cases ha:a=x
   ·rw[if_pos (show(a,b).1=x from ha),ZbC,ZbC,ih]
    show(if a=k then Z v else _)=_
    by_cases hk:x=k
    ·rw[if_pos (by rw[ha,hk]),if_pos hk,if_pos (by rw[ha,hk])]; rfl
    ·rw[if_neg (by rw[ha]; exact hk),if_neg hk,if_neg hk,if_neg (by rw[ha]; exact hk)]
   ·rw[if_neg (show ¬(a,b).1=x from ha),ZbC,ZbC,ih]
    by_cases hk:a=k
    ·rw[if_pos hk,if_pos hk]
     have:x≠k:=λe=>ha (hk.trans e.symm);rw[if_neg this]
    ·rw[if_neg hk,if_neg hk]
 have app:∀M:Tb,Zn (M++[(x,v)]) k=match Zn M k with | some u=>Z u | none=>if x=k then Z v else Z_:=by
  intro M
  induction M with
  | nil=>rw[ZBf,ZbC,ZiM]
  | cons p M ih =>
   obtain⟨a,b⟩:=p;rw[ZCR,ZbC,ZbC,ih]
   by_cases hk:a=k
   ·rw[if_pos hk,if_pos hk]
   ·rw[if_neg hk,if_neg hk]
 have has:∀M:Tb,(M.any λp=>decide (p.1=x))=(Zn M x).isSome:=by
  intro M
  induction M with
  | nil=>rfl
  | cons p M ih =>
   obtain⟨a,b⟩:=p;rw[ZAR,ZbC,ih]
   by_cases ha:a=x<;>simp[ha]
 unfold putD;split
 ·rename_i h
  rw[rep]
  by_cases hk:x=k
  ·subst hk
   rw[has]at h;rw[if_pos rfl,if_pos rfl];obtain⟨u,hu⟩:=Zzg.mp h;rw[hu]; rfl
  ·rw[if_neg hk,if_neg hk]
 ·rename_i h
  rw[app]
  by_cases hk:x=k
  ·subst hk
   rw[has]at h;rw[if_pos rfl,if_pos rfl];cases hq:Zn M x with
   | none=>rfl
   | some u=>rw[hq]at h; exact absurd rfl h
  ·rw[if_neg hk,if_neg hk]
   cases Zn M k<;>rfl
theorem Zpy(x:List Int)(v:Int)(M:Tb):(putD M x v).length<=M.length+1:=by
 unfold putD;split
 ·rw[Zyj]; omega
 ·rw[ZyA]; exact Zyr _
def ZN(M:Tb)(p:List Int):Bool:=(Zn M p).isSome
def Zfb(w:Wk)(ls c:List Int)(M:Tb):Bool:=(Zyp w.deeds.length).any λd=>ZbW w c d&&(ZY w ls (Zau w c d)).all λp=>ZN M p
end HG5
namespace HG5
open PySem HM HG HG4
variable{L:List (List Int)}{c ls:List Int}{w:Wk}
def Zcd(w:Wk)(ls:List Int)(t:Nat)(c:List Int):Option Int:=((Zyp (t+1)).find? λn=>Win w ls n c).map λ(n:Nat)=>(n:Int)
theorem ZcB{t:Nat}:(Zcd w ls t c).isSome=Win w ls t c:=by
 unfold Zcd;rw[ZzM];cases h:Win w ls t c with
 | true=>rw[ZCD]; exact⟨t,ZyJ.mpr (by omega),h⟩
 | false =>
  cases q:(Zyp (t+1)).find? λn=>Win w ls n c with
  | none=>rfl
  | some n=>have h1:=List.find?_some q;have h2:=ZyJ.mp (ZBh q);rw[Zge (show n<=t by omega) h1]at h;cases h
theorem ZqM{t:Nat}:Zcd w ls (t+1) c=match Zcd w ls t c with
  | some k=>Z k
  | none=>if Win w ls (t+1) c then Z ((t+1:Nat):Int)else Z_:=by
 unfold Zcd;rw[List.range_succ (n:=t+1),ZCx];cases(Zyp (t+1)).find? λn=>Win w ls n c with
 | some n=>rfl
 | none=>show ZzY _ (Option.or Z_ ([t+1].find? λn=>Win w ls n c))=_;rw[Option.none_or,Zzo];cases Win w ls (t+1) c<;>rfl
theorem ZkM{t:Nat}{k:Int}(h:Zcd w ls t c=Z k):∃n:Nat,k=(n:Int)/\n<=t/\Win w ls n c=ZDC/\∀m,m<n->Win w ls m c=ZDD:=by
 unfold Zcd at h;obtain⟨n,hn,rfl⟩:=Zyl.mp h;refine⟨n,rfl,?_,List.find?_some (p:=λn=>Win w ls n c) hn,λm hm=>?_⟩
 ·have:=ZyJ.mp (ZBh hn)
  omega
 ·cases q:Win w ls m c with
  | false=>rfl
  | true =>
   obtain⟨_,as,bs,e,hno⟩:=List.find?_eq_some_iff_append.mp hn;have hmem:m∈Zyp (t+1):=ZyJ.mpr (by have:=ZyJ.mp (ZBh hn);omega);have hp:(as++n::bs).Pairwise (· < ·):=by rw[<-e]; exact ZC7
   rw[e]at hmem;rcases ZyK.mp hmem with h1 | h1
   ·have:=hno m h1
    rw[q]at this;cases this
   ·rcases ZyH.mp h1 with h2 | h2
    ·omega
    ·have:=(Zzb.mp (ZA5.mp hp).2.1).1 m h2
     omega
structure Zhz(w:Wk)(ls:List Int)(L:List (List Int))(t:Nat)(M:Tb):Prop where
 look:∀c,Zn M c=if c∈L then Zcd w ls t c else Z_
theorem Zgt(v:Int)(k:List Int):∀(ms:List (List Int)) (M:Tb),Zn (ms.foldl (λM c=>putD M c v) M) k=if k∈ms then Z v else Zn M k
 | [],M=>by simp
 | c::ms,M=>by
  rw[ZAr,Zgt v k ms,Zrs]
  by_cases h1:k∈ms
  ·rw[if_pos h1,if_pos (Zyq _ h1)]
  ·rw[if_neg h1]
   by_cases h2:c=k
   ·rw[if_pos h2,if_pos (by rw[h2]; exact Zyo ..)]
   ·rw[if_neg h2,if_neg]
    intro h;rcases ZyH.mp h with e | e
    ·exact h2 e.symm
    ·exact h1 e
theorem ZlW(v:Int):∀(ms:List (List Int)) (M:Tb),(ms.foldl (λM c=>putD M c v) M).length<=M.length+ms.length
 | [],M=>Zyr _
 | c::ms,M=>by rw[ZAr,ZyD];have:=ZlW v ms (putD M c v);have:=Zpy c v M;omega
def Zfv(w:Wk)(ls:List Int)(L:List (List Int))(M:Tb):List (List Int):=L.filter λc=>!ZN M c&&Zfb w ls c M
theorem Zn3(hL:Ze1 w ls L){t:Nat}{M:Tb}(T:Zhz w ls L t M):Zhz w ls L (t+1) ((Zfv w ls L M).foldl (λM c=>putD M c ((t+1:Nat):Int)) M):=by
 have hhas:∀c∈L,ZN M c=Win w ls t c:=λc hc=>by unfold ZN;rw[T.look,if_pos hc,ZcB]
 refine⟨λc=>?_⟩;rw[Zgt,T.look]
 by_cases hc:c∈L
 ·rw[if_pos hc,if_pos hc,ZqM]
  have hcan:Zfb w ls c M=(Zyp w.deeds.length).any λd=>ZbW w c d&&(ZY w ls (Zau w c d)).all λp=>Win w ls t p:=by
   unfold Zfb;apply ZCY.mpr;rw[Zzi,Zzi]
   constructor
   ·rintro ⟨d,hd,hq⟩
    rw[ZyE]at hq;refine⟨d,hd,?_⟩;rw[ZyE];refine⟨hq.1,Zys.mpr λp hp=>?_⟩;rw[<-hhas p (hL c hc d (ZyJ.mp hd) hq.1 p hp)];exact Zys.mp hq.2 p hp
   ·rintro ⟨d,hd,hq⟩
    rw[ZyE]at hq;refine⟨d,hd,?_⟩;rw[ZyE];refine⟨hq.1,Zys.mpr λp hp=>?_⟩;rw[hhas p (hL c hc d (ZyJ.mp hd) hq.1 p hp)];exact Zys.mp hq.2 p hp
  have hmem:c∈Zfv w ls L M↔(Win w ls t c=ZDD/\Zfb w ls c M=ZDC):=by
   unfold Zfv;rw[ZyW,ZyE,hhas c hc]
   constructor
   ·rintro ⟨_,h1,h2⟩
    exact⟨by simpa using h1,h2⟩
   ·rintro ⟨h1,h2⟩
    exact⟨hc,by simp[h1],h2⟩
  cases hw:Win w ls t c with
  | true =>
   have hs:(Zcd w ls t c).isSome=ZDC:=by rw[ZcB]; exact hw
   obtain⟨k,hk⟩:=Zzg.mp hs;rw[if_neg (λh=>by rw[hw]at hmem; cases(hmem.mp h).1),hk]
  | false =>
   have hs:Zcd w ls t c=Z_:=by
    have:=ZcB (w:=w) (ls:=ls) (t:=t) (c:=c);rw[hw]at this;cases q:Zcd w ls t c with
    | none=>rfl
    | some k=>rw[q]at this; cases this
   have hth:Z3 w c=ZDD:=by
    cases q:Z3 w c with
    | false=>rfl
    | true=>have:Win w ls t c=ZDC:=Zge (Zzj t) (show Win w ls 0 c=ZDC from q);rw[hw]at this;cases this
   have hwin:Win w ls (t+1) c=Zfb w ls c M:=by rw[hcan];show(Z3 w c||_)=_;rw[hth,ZDm]
   rw[hs];dsimp only;rw[hwin];cases hcw:Zfb w ls c M with
   | true=>rw[if_pos (hmem.mpr ⟨hw,hcw⟩),if_pos rfl]
   | false=>rw[if_neg (λh=>by have:=(hmem.mp h).2; rw[hcw]at this; cases this)]; rfl
 ·rw[if_neg hc,if_neg hc,if_neg]
  intro h;exact hc (ZyW.mp h).1
def M0(w:Wk)(L:List (List Int)):Tb:=(L.filter λc=>Z3 w c).foldl (λM c=>putD M c 0) []
theorem ZnV:Zhz w ls L 0 (M0 w L):=by
 refine⟨λc=>?_⟩;unfold M0;rw[Zgt,ZiM];have e:Zcd w ls 0 c=if Z3 w c then Z 0 else Z_:=by unfold Zcd;show ZzY _ (([0]:List Nat).find? λn=>Win w ls n c)=_;rw[Zzo];show ZzY _ (match Win w ls 0 c with | true=>Z 0 | false=>_)=_;have:Win w ls 0 c=Z3 w c:=rfl;rw[this];cases Z3 w c<;>rfl
 rw[e]
 by_cases hc:c∈L
 ·rw[if_pos hc]
  cases ht:Z3 w c with
  | true=>rw[if_pos (ZyW.mpr ⟨hc,ht⟩)]; rfl
  | false=>rw[if_neg (λh=>by have:=(ZyW.mp h).2; rw[ht]at this; cases this)]; rfl
 ·rw[if_neg hc,if_neg λh=>hc (ZyW.mp h).1]
end HG5
namespace HG5
open PySem HM HG HG4
def ZgM(w:Wk)(ls:List Int)(n:Nat):Prop:=∀p∈ZY w ls w.beg,Win w ls n p=ZDC
def Few(w:Wk)(ls:List Int)(d:D):Prop:=(∃n:Nat,d=.int n/\ZgM w ls n/\∀m,m<n->¬ZgM w ls m)\/(d=.none/\∀n,¬ZgM w ls n)
end HG5
namespace HG5
open PySem HM HG
def ZoT:SF :=
 (ZA (eIx (Zo 0) (eC (.int 3))))
def ZcO:List D->Option D:=fnOf 1 1 ZoT
def Zqb:SF :=
 (ZA (eIx (Zo 0) (eC (.int 4))))
def Zcz:List D->Option D:=fnOf 1 1 Zqb
def ZjA:SF :=
 (ZA (ZhI (Zz (ZP (bOf (Zc 1))) Z4 (ZjW (Zc 0) (bOf (Zh Zcz (Za (Zc 1) Zg)))))))
def ZbE:List D->Option D:=fnOf 2 2 ZjA
def Zin:SF :=
 (ZA (eOf (Zz (ZP (bOf (Zc 0))) Z4 (eIx (Zo 0) (eC (.int 1))))))
def ZL:List D->Option D:=fnOf 1 1 Zin
def ZbN(ap:AP):SF :=
 (Zjd 3 (ZiW ZL (Za (eIx (Zo 5) (eC (.int 1))) Zg)))
def Zbi(ap:AP):SF :=
 (Zu (ZsW 4 3)
  (sIf (tV (ZdU (Zc 4) (Zo 2))) (Zu (ZiJ 2 (Zc 4) (Zgi ap 1 (Za (Zc 4) Zg)))
  (Zby 5 (ZP (bOf (Zbf (Zo 2) (Zc 4)))) (ZbN ap))) Zar))
def ZcU(ap:AP):SF :=
 (Zu (ZT 2 fDt)
  (Zu (ZT 3 (Zja (Zo 0)))
  (Zu (ZnC 100000 (tV (op2 gGt (Zbe (Zo 3)) (eC (.int 0)))) (Zbi ap))
  (Zgg 2 (ZA (Zc 2))))))
def Zb3(ap:AP):List D->Option D:=fnOf 2 6 (ZcU ap)
def Ze3(ap:AP):SF :=
 (Zu (ZT 3 (Zz (ZP (bOf (Zc 0))) Z4 (Zgi ap 3 (Za (Zc 0) (Za (Zc 2) Zg)))))
  (Zgg 3 (ZA (Zfp (Zz (ZP (bOf (Zc 3))) (tV (op2 Zen (Zc 0) (eC .none))) (Zc 0))))))
def Zb0(ap:AP):List D->Option D:=fnOf 3 4 (Ze3 ap)
def ZZ(ap:AP):SF :=
 (sIf (tV (ZdU (Zc 4) (Zo 1))) (Zu (ZU 5 (Zh (Zb0 ap) (Za (Zbf (Zo 0) (Zc 4)) (Za (Zc 1) (Za (Zc 2) Zg)))))
  (sIf (tV (op2 Zen (Zc 5) (eC .none))) (ZiJ 3 (Zc 4) (Zc 5)) Zar)) Zar)
def Zbc(ap:AP):List D->Option (List (List Ky × D)):=newOf 3 6
 (ZjQ (ZT 3 fDt)
 (ZjQ (ZeV 0 (Zby 4 (ZaR 0) (ZZ ap)))
 (Zof 3)))
def Zc3(ap:AP):SF :=
 (ZiJ 3 (Zc 6) (Zc 4))
def Zc4(ap:AP):SF :=
 (Zu (Zgg 5 (Zby 6 (ZP (bOf (Zc 5))) (Zc3 ap)))
  (Zu (ZT 7 (ZiK (Zbc ap) (Za (Zc 1) (Za (Zq2 (Zo 3)) (Za (Zc 2) Zg)))))
  (Zu (Zgg 7 (ZeV 7 (ZU 4 (Zfp (Zz (ZaR 7) Z4 (Zbf (Zo 8) (Zc 0)))))))
  (Zgg 7 (ZeV 7 (ZT 5 (Zz (ZaR 7) (tV (op2 gEq (Zbf (Zo 8) (Zc 0)) (Zc 5))) (Zc 0))))))))
def ZeR(ap:AP):SF :=
 (Zu (ZT 3 fDt)
  (Zu (ZU 4 (eC (.int 0)))
  (Zu (ZeV 1 (ZT 5 (Zz (ZaR 1) (tV (Zh ZbE (Za (Zc 1) (Za (Zc 0) Zg)))) (Zc 0))))
  (Zu (ZnC 100000 (tV (op2 gGt (Zbe (Zo 5)) (eC (.int 0)))) (Zc4 ap))
  (Zgg 3 (ZA (Zc 3)))))))
def Zdp(ap:AP):List D->Option D:=fnOf 3 8 (ZeR ap)
def Zdz:SF :=
 (Zu (ZT 2 (Zz (ZP (bOf (Zh ZL (Za (Zc 0) Zg)))) (tV (Zoc (Zc 0) (Zo 2))) (Zbf (Zo 2) (Zc 0))))
  (ZA (eIf (tV (op2 gEq (Zbe (Zo 2)) (Zbe (Zo 0)))) (ZkE (Zo 2)) (eC .none))))
def Zaj:List D->Option D:=fnOf 2 3 Zdz
def Zio:SF :=
 (ZA (eOf (Zz (ZP (bOf (Zh ZcG (Za (Zc 0) (Za (Zc 2) Zg))))) Z4 (Zac (Za (Zc 0) (Za (Zh Zba (Za (Zc 1) (Za (Zc 2) (Za (Zh ZdO (Za (Zc 1) (Za (Zc 3) (Za (Zc 0) Zg)))) Zg)))) Zg))))))
def ZaZ:List D->Option D:=fnOf 3 3 Zio
def Zev(ap:AP):SF :=
 (ZA (ZhX (Zb3 ap) 1 [0,1] (Zh ZL (Za (Zh Zba (Za (Zc 0) (Za (Zc 1) (Za (Zc 2) Zg)))) Zg))))
def Zci(ap:AP):List D->Option D:=fnOf 3 3 (Zev ap)
def Zgy:SF :=
 (Zu (ZU 2 (Zh Zaj (Za (eIx (Zo 0) (eC (.int 1))) (Za (Zc 1) Zg))))
  (ZA (eIf (tV (op2 ZqF (Zc 2) (eC .none))) (eC .none) (op2 Zbu (Zc 2) (eC (.int 1))))))
def Zdq:List D->Option D:=fnOf 2 3 Zgy
def ZfD(ap:AP):SF :=
 (ZA (Zh (Zdp ap) (Za (Zc 0) (Za (Zc 1) (Za (eC (fnD 0 [])) Zg)))))
def Zd7(ap:AP):List D->Option D:=fnOf 2 2 (ZfD ap)
def Zip(ap:AP):SF :=
 (Zu (ZkS (Zh ZaX (Za (Zc 0) Zg)))
  (Zu (ZkS (Zh ZbJ (Za (Zc 0) (Za (Zc 1) Zg))))
  (Zu (ZU 2 (Zh ZcO (Za (Zc 0) Zg)))
  (Zu (ZU 3 (Zh (Zd7 ap) (Za (Zc 0) (Za (Zh (Zci ap) (Za (Zc 0) (Za (Zc 1) (Za (Zc 2) Zg)))) Zg))))
  (ZA (Zh Zaj (Za (Zh Zba (Za (Zc 0) (Za (Zc 1) (Za (Zc 2) Zg)))) (Za (Zc 3) Zg))))))))
def Z8(ap:AP):List D->Option D:=fnOf 2 4 (Zip ap)
end HG5
namespace HG5
open PySem HM HG HG4
variable{c:List Int}{w:Wk}
theorem Zyg(w:Wk):ZdI (.pl w.d)=Z [ZyV w.many,.tuple (w.deeds.map ZB),.tuple (w.looks.map tupI),tupI w.beg,tupI w.goal]:=rfl
theorem ZjH(w:Wk):ZcO [w.d]=Z (tupI w.beg):=rfl
theorem ZkD(w:Wk):Zcz [w.d]=Z (tupI w.goal):=rfl
theorem ZjX{α:Type}(xs:List α)(p:α->Bool):Zds (xs.map λx=>Zzk (p x))=Z (xs.map p):=by
 have:=Zfr (xs.map p)
 rwa [ZyM]at this
theorem Zpi(hc:c.length<1000):ZbE [w.d,tupI c]=Z (.bool (Z3 w c)):=by
 have hb:c.length<1000000:=by omega
 have e:∀r:HM.Env,r[0]?=Z (Z (.pl w.d))->Zag Z4 (ZjW (Zc 0) (bOf (Zh Zcz (Za (Zc 1) Zg)))) r (c.map dI)=Z (c.map λs=>Zzk (w.goal.contains s)):=λr r0=>by
  rw[Za5 dI (λs=>Zzk (w.goal.contains s))]
  ·intro s _
   simp[r0,ZkD,ZnQ,Zc6,-ZAB]
 simp[ZbE,ZjA,hb,e,ZjX,Z3,-ZAB]
theorem Zf0(g:Gs)(h:g.length<1000000):ZL [.list (g.map Zbp)]=Z (.list ((g.map (·.2)).map tupI)):=by
 have e:∀r:HM.Env,Zag Z4 (eIx (Zo 0) (eC (.int 1))) r (g.map Zbp)=Z ((g.map (·.2)).map tupI):=λr=>by
  rw[Za5 Zbp (λp=>tupI p.2),ZyM]
  ·rfl
  ·intro p _
   rfl
 simp[ZL,Zin,h,e]
def Zq1(w:Wk)(ls c:List Int)(d:Int):D:=.tuple [dI d,.list ((ZbQ w ls (Zau w c d)).map Zbp)]
def ZmJ(w:Wk)(ls c:List Int):D:=.list ((doV w c).map (Zq1 w ls c))
theorem split_len{ls:List Int}:(ZbQ w ls c).length<=c.length:=by unfold ZbQ;rw[Zyj,(Zes _).length_eq,Zyj];exact Zqr _ _ _ (Zha (ZC w ls) c)
theorem Zly(w:Wk)(c:List Int):(doV w c).length<=w.deeds.length:=by
 unfold doV;rw[Zyj];have:=ZzS (λ(d:Nat)=>ZbW w c (d:Int)) (Zyp w.deeds.length)
 rwa [ZzZ]at this
theorem ZpP{d:Nat}(hd:d<w.deeds.length)(hc:ZbW w c d=ZDC):(d:Int)∈doV w c:=by unfold doV;exact Zyy.mpr ⟨d,ZyW.mpr ⟨ZyJ.mpr hd,hc⟩,rfl⟩
section
variable{w:Wk}(hv:Wk.V w){ls:List Int}(hl:Cr w.looks.length ls)
include hv hl
theorem Zn6(hc:Cr w.many c):ZaZ [w.d,tupI ls,tupI c]=Z (ZmJ w ls c):=by
 have hdo:=ZmB hv hc;have hb:(doV w c).length<1000000:=by have:=Zly w c; have:=hv.d2; omega
 have e:∀r:HM.Env,r[0]?=Z (Z (.pl w.d))->r[1]?=Z (Z (.pl (tupI ls)))->r[2]?=Z (Z (.pl (tupI c))) ->
   Zag Z4 (Zac (Za (Zc 0) (Za (Zh Zba (Za (Zc 1) (Za (Zc 2) (Za (Zh ZdO (Za (Zc 1) (Za (Zc 3) (Za (Zc 0) Zg)))) Zg)))) Zg))) r ((doV w c).map dI)=Z ((doV w c).map (Zq1 w ls c)):=λr r0 r1 r2=>by
  rw[Za5 dI (Zq1 w ls c)];intro d hd;obtain⟨d0,d1,_⟩:=ZeL hd;have h1:=Zrw hv hc d0 d1;have h2:=ZiX hv hl (Zfy hv hc d0 d1);simp[r0,r1,r2,h1,h2,Zq1]
 simp[ZaZ,Zio,hdo,hb,e,ZmJ]
end
end HG5
namespace HG5
open PySem HM HG HG4
variable{C:List (List Int)}{ds:List D}{p:List Int}{n:Nat}{wf:Wf}
abbrev Wy:=D × Gs
def wyD(y:Wy):D:=.tuple [y.1,.list (y.2.map Zbp)]
def wyP(y:Wy):List (List Int):=y.2.map (·.2)
abbrev Wf:=List Int->List Wy
inductive Zli(wf:Wf)(B:List (List Int)):List Int->Prop where
 | beg {p:List Int} (h:p∈B):Zli wf B p
 | step {c p:List Int} {y:Wy} (r:Zli wf B c) (hy:y∈wf c) (h:p∈wyP y):Zli wf B p
structure ZgT(wf:Wf)(Ok:List Int->Prop)(B C W:List (List Int)):Prop where
 nd:C.Nodup
 cr:∀c∈C,Ok c
 wr:∀c∈W,Ok c
 rc:∀c∈C,Zli wf B c
 rw:∀c∈W,Zli wf B c
 cl:∀c∈C,∀y∈wf c,∀p∈wyP y,p∈C\/p∈W
 bg:∀p∈B,p∈C\/p∈W
def Zt(wf:Wf)(C:List (List Int)):List (List Ky × D):=C.map λc=>(Zap c,.list ((wf c).map wyD))
theorem ZiI(wf:Wf)(C:List (List Int))(k:List Int):Zn (Zt wf C) (Zap k)=if k∈C then Z (.list ((wf k).map wyD))else Z_:=by
 unfold Zn Zt
 induction C with
 | nil=>rfl
 | cons c C ih =>
  rw[Zyv,Zzo]
  by_cases h:c=k
  ·subst h
   rw[if_pos (Zyo ..)];simp
  ·have h':decide ((Zap c,(PyData.list ((wf c).map wyD))).1=Zap k)=ZDD:=decide_eq_false λe=>h (Zf8 e)
   rw[h'];dsimp only;rw[ih]
   by_cases q:k∈C
   ·rw[if_pos q,if_pos (Zyq _ q)]
   ·rw[if_neg q,if_neg λz=>by
     rcases ZyH.mp z with e | e
     ·exact h e.symm
     ·exact q e]
theorem ZtE{k:List Int}(h:k ∉ C):putD (Zt wf C) (Zap k) (.list ((wf k).map wyD))=Zt wf (C++[k]):=by
 unfold putD;rw[if_neg]
 ·unfold Zt
  rw[ZyR];rfl
 ·intro z
  obtain⟨p,hp,e⟩:=Zzi.mp z;unfold Zt at hp;obtain⟨c,hc,rfl⟩:=Zyy.mp hp;have e:=Zf8 (of_decide_eq_true e);subst e;exact h hc
theorem Zl4(wf:Wf)(L:List (List Int)):((Zt wf L).map λp=>Zzh (p.1.map Zat))=L.map tupI:=by unfold Zt;rw[ZyM];refine ZzO λc _=>?_;show Zzh ((c.map Zz1).map Zat)=Zzh (c.map dI);rw[ZyM];rfl
def Zlu(wf:Wf)(c:List Int):List (List Int):=(wf c).flatMap wyP
theorem ZgT.old{Ok:List Int->Prop}{B V:List (List Int)}(I:ZgT wf Ok B C (V++[p]))(hp:p∈C):ZgT wf Ok B C V:=by
 have key:∀q,q∈C\/q∈V++[p]->q∈C\/q∈V:=λq h=>by
  rcases h with h | h
  ·exact .inl h
  ·rcases ZyK.mp h with h | h
   ·exact .inr h
   ·rw[Zyt.mp h]; exact .inl hp
 exact⟨I.nd,I.cr,λc h=>I.wr c (Zy1 _ h),I.rc,λc h=>I.rw c (Zy1 _ h),λc hc y hy q hq=>key q (I.cl c hc y hy q hq),λq hq=>key q (I.bg q hq)⟩
structure Zqo(wf:Wf)(Ok:List Int->Prop):Prop where
 ok:∀c,Ok c->∀y∈wf c,∀p∈wyP y,Ok p
 ys:∀c,Ok c->(wf c).length<=10
 ps:∀c,Ok c->∀y∈wf c,y.2.length<=8
 cs:∀C:List (List Int),C.Nodup->(∀c∈C,Ok c)->C.length<=128
theorem ZgT.new{Ok:List Int->Prop}(O:Zqo wf Ok){B V:List (List Int)}(I:ZgT wf Ok B C (V++[p]))(hp:p ∉ C):ZgT wf Ok B (C++[p]) (V++Zlu wf p):=by
 have hpc:=I.wr p (ZyP _ (Zyt.mpr rfl));have hpr:=I.rw p (ZyP _ (Zyt.mpr rfl));have key:∀q,q∈C\/q∈V++[p]->q∈C++[p]\/q∈V++Zlu wf p:=λq h=>by
  rcases h with h | h
  ·exact .inl (Zy1 _ h)
  ·rcases ZyK.mp h with h | h
   ·exact .inr (Zy1 _ h)
   ·exact .inl (ZyP _ h)
 refine⟨?_,λc h=>?_,λc h=>?_,λc h=>?_,λc h=>?_,λc h y hy q hq=>?_,λq hq=>key q (I.bg q hq)⟩
 ·rw[ZAY]
  refine⟨I.nd,by simp,λx hx y hy e=>?_⟩;rw[Zyt.mp hy]at e;exact hp (e▸hx)
 ·rcases ZyK.mp h with h | h
  ·exact I.cr c h
  ·rw[Zyt.mp h]; exact hpc
 ·rcases ZyK.mp h with h | h
  ·exact I.wr c (Zy1 _ h)
  ·obtain⟨y,hy,hq⟩:=ZAF.mp h
   exact O.ok p hpc y hy c hq
 ·rcases ZyK.mp h with h | h
  ·exact I.rc c h
  ·rw[Zyt.mp h]; exact hpr
 ·rcases ZyK.mp h with h | h
  ·exact I.rw c (Zy1 _ h)
  ·obtain⟨y,hy,hq⟩:=ZAF.mp h
   exact .step hpr hy hq
 ·rcases ZyK.mp h with h | h
  ·exact key q (I.cl c h y hy q hq)
  ·rw[Zyt.mp h]at hy
   exact .inr (ZyP _ (ZAF.mpr ⟨y,hy,hq⟩))
theorem Ztt{Ok:List Int->Prop}(O:Zqo wf Ok){c:List Int}(hc:Ok c):(Zlu wf c).length<=80:=by
 have key:∀ys:List Wy,(∀y∈ys,y∈wf c)->(ys.flatMap wyP).length<=8*ys.length:=by
  intro ys
  induction ys with
  | nil=>intro _; exact Zyr 0
  | cons y ys ih =>
   intro h;rw[List.flatMap_cons,ZyA,ZyD];have h1:=ih λx hx=>h x (Zyq _ hx);have h2:=O.ps c hc y (h y (Zyo ..));have h3:(wyP y).length=y.2.length:=by unfold wyP; rw[Zyj]
   omega
 have h1:=key (wf c) λ_ h=>h;have h2:=O.ys c hc;unfold Zlu;omega
theorem Zsi(ap:AP)(e0 e1 e2 e4:Option B):∀(ys:List Wy) (W:List (List Int)) (o:Option B),(∀y∈ys,y.2.length<=8)->W.length+8*ys.length<900000 ->
  ∃o',Zaq 5 (ZbN ap) (ys.map wyD) [e0,e1,e2,Z (.ol (W.map tupI)),e4,o]=Z (.nx [e0,e1,e2,Z (.ol ((W++ys.flatMap wyP).map tupI)),e4,o'])
 | [],W,o,_,_=>⟨o,by rw[List.flatMap_nil,Zy6]; rfl⟩
 | y::ys,W,o,hds,hlen=>by
  rw[ZyD]at hlen;have hb:=hds y (Zyo ..);have hci:=Zf0 y.2 (by omega);have hpl:(wyP y).length<=8:=by unfold wyP; rw[Zyj]; exact hb
  have body:ZbN ap [e0,e1,e2,Z (.ol (W.map tupI)),e4,Z (.pl (wyD y))]=Z (.nx [e0,e1,e2,Z (.ol ((W++wyP y).map tupI)),e4,Z (.pl (wyD y))]):=by
   have h1:ZiW ZL (Za (eIx (Zo 5) (eC (.int 1))) Zg) [e0,e1,e2,Z (.ol (W.map tupI)),e4,Z (.pl (wyD y))]=Z (.ol ((wyP y).map tupI)):=by unfold ZiW;show(match ZL [.list (y.2.map Zbp)]with | some (.list ys)=>Z (B.ol ys) | _=>Z_)=_;rw[hci];rfl
   unfold ZbN Zjd;rw[h1];show(if _ then _ else _)=_;rw[if_pos (by rw[Zyj,Zyj]; show _<1000000; omega),ZyR];rfl
  obtain⟨o',ih⟩:=Zsi ap e0 e1 e2 e4 ys (W++wyP y) (Z (.pl (wyD y))) (λx hx=>hds x (Zyq _ hx)) (by rw[ZyA]; omega);refine⟨o',?_⟩;rw[List.flatMap_cons,<-ZAh,<-ih,Zyv];show(match ZbN ap [e0,e1,e2,Z (.ol (W.map tupI)),e4,Z (.pl (wyD y))]with | some (.nx r')=>_ | some (.ct r')=>_ | some (.bk r')=>_ | some (.rt d)=>_ | none=>_)=_;rw[body]
theorem ZjE(wf:Wf)(C:List (List Int))(p:List Int)(r:HM.Env)(i j:Nat)(h1:r[i]?=Z (Z (.pl (tupI p))))(h2:r[j]?=Z (Z (.ot (Zt wf C)))):tV (ZdU (Zc i) (Zo j)) r=Z (!decide (p∈C)):=by
 have hk:ZbR (tupI p)=Z (Zap p):=Zb9 p;have hlk:=ZiI wf C p
 by_cases hp:p∈C
 ·rw[if_pos hp]at hlk
  simp[h1,h2,hk,hlk,hp]
 ·rw[if_neg hp]at hlk
  simp[h1,h2,hk,hlk,hp]
theorem Zp2(t:Nat)(cs:List D):Zk7 (fnD t cs)=Z (t,cs):=rfl
section
variable{ap:AP}{wf:Wf}{Ok:List Int->Prop}(O:Zqo wf Ok){t:Nat}{cs:List D}(ha:∀c,Ok c->ap t cs [tupI c]=Z (.list ((wf c).map wyD)))
include O ha
omit ha O in
theorem ZsR{V:List (List Int)}(e0 e1 o4 o5:Option B)(hp:p∈C) :
  Zbi ap [e0,e1,Z (.ot (Zt wf C)),Z (.ol ((V++[p]).map tupI)),o4,o5]=Z (.nx [e0,e1,Z (.ot (Zt wf C)),Z (.ol (V.map tupI)),Z (.pl (tupI p)),o5]):=by
 unfold Zbi;refine ZR (P:=λq=>q=_) (r':=[e0,e1,Z (.ot (Zt wf C)),Z (.ol (V.map tupI)),Z (.pl (tupI p)),o5]) ?_ ?_
 ·rw[ZyR]
  simp
 ·have ht:=ZjE wf C p [e0,e1,Z (.ot (Zt wf C)),Z (.ol (V.map tupI)),Z (.pl (tupI p)),o5] 4 2 rfl rfl
  rw[decide_eq_true hp]at ht;unfold sIf;rw[ht];rfl
theorem Zty{V:List (List Int)}(e0 o4 o5:Option B)(hp:p ∉ C)(hc:Ok p)(hC:C.length<1000)(hV:V.length<100000) :
  ∃o5',Zbi ap [e0,Z (.pl (fnD t cs)),Z (.ot (Zt wf C)),Z (.ol ((V++[p]).map tupI)),o4,o5]=Z (.nx [e0,Z (.pl (fnD t cs)),Z (.ot (Zt wf (C++[p]))),Z (.ol ((V++Zlu wf p).map tupI)),Z (.pl (tupI p)),o5']):=by
 have hdl:=O.ys p hc;obtain⟨o5',go⟩:=Zsi ap e0 (Z (.pl (fnD t cs))) (Z (.ot (Zt wf (C++[p])))) (Z (.pl (tupI p))) (wf p) V o5 (λy hy=>O.ps p hc y hy) (by omega);refine⟨o5',?_⟩;unfold Zbi;refine ZR (P:=λq=>q=_) (r':=[e0,Z (.pl (fnD t cs)),Z (.ot (Zt wf C)),Z (.ol (V.map tupI)),Z (.pl (tupI p)),o5]) ?_ ?_
 ·rw[ZyR]
  simp
 ·have ht:=ZjE wf C p [e0,Z (.pl (fnD t cs)),Z (.ot (Zt wf C)),Z (.ol (V.map tupI)),Z (.pl (tupI p)),o5] 4 2 rfl rfl
  rw[decide_eq_false hp]at ht;unfold sIf;rw[ht];show Zu _ _ _=_;have hk:ZbR (tupI p)=Z (Zap p):=Zb9 p;have hww:=ha p hc;have hcl:(Zt wf C).length<1000000:=by unfold Zt; rw[Zyj]; omega
  refine ZR (P:=λq=>q=_) (r':=[e0,Z (.pl (fnD t cs)),Z (.ot (Zt wf (C++[p]))),Z (.ol (V.map tupI)),Z (.pl (tupI p)),o5]) ?_ ?_
  ·rw[<-ZtE hp]
   have hv:Zgi ap 1 (Za (Zc 4) Zg) [e0,Z (.pl (fnD t cs)),Z (.ot (Zt wf C)),Z (.ol (V.map tupI)),Z (.pl (tupI p)),o5]=Z (.list ((wf p).map wyD)):=by unfold Zgi;show(match Zk7 (fnD t cs)with | some (t,cs)=>_ | none=>Z_)=_;rw[Zp2];exact hww
   unfold ZiJ;rw[hv];show(match ZbR (tupI p)with | some y=>_ | none=>Z_)=_;rw[hk];dsimp only;rw[if_pos (show _<big from hcl)];rfl
  ·have hlk:=ZiI wf (C++[p]) p
   rw[if_pos (ZyP _ (Zyt.mpr rfl))]at hlk;have hi:ZP (bOf (Zbf (Zo 2) (Zc 4))) [e0,Z (.pl (fnD t cs)),Z (.ot (Zt wf (C++[p]))),Z (.ol (V.map tupI)),Z (.pl (tupI p)),o5]=Z ((wf p).map wyD):=by simp[hk,hlk]
   unfold Zby;rw[hi];dsimp only;rw[if_pos (by rw[Zyj]; show _<1000000; omega)];exact go
theorem ZeI(B:List (List Int))(e0:Option HM.B):∀(fuel:Nat) (C W:List (List Int)) (o4 o5:Option HM.B),ZgT wf Ok B C W->(128-C.length)*81+W.length<fuel->(128-C.length)*81+W.length<60000 ->
  ∃C' o4' o5',Zbw (tV (op2 gGt (Zbe (Zo 3)) (eC (.int 0)))) (Zbi ap) fuel [e0,Z (.pl (fnD t cs)),Z (.ot (Zt wf C)),Z (.ol (W.map tupI)),o4,o5]=Z (.nx [e0,Z (.pl (fnD t cs)),Z (.ot (Zt wf C')),Z (.ol []),o4',o5'])/\ZgT wf Ok B C' []
 | 0,C,W,o4,o5,I,h,_=>by omega
 | fuel+1,C,W,o4,o5,I,h,hW=>by
  have hlen:=O.cs C I.nd I.cr
  by_cases hw:W=[]
  ·subst hw
   refine⟨C,o4,o5,?_,I⟩;unfold Zbw;have ht:(tV (op2 gGt (Zbe (Zo 3)) (eC (.int 0)))) [e0,Z (.pl (fnD t cs)),Z (.ot (Zt wf C)),Z (.ol (([]:List (List Int)).map tupI)),o4,o5]=Z ZDD:=by simp
   rw[ht];rfl
  ·obtain⟨V,p,rfl⟩:∃V p,W=V++[p]:=⟨W.dropLast,W.getLast hw,(List.dropLast_concat_getLast hw).symm⟩
   rw[ZyA,ZzF]at h hW;have ht:(tV (op2 gGt (Zbe (Zo 3)) (eC (.int 0)))) [e0,Z (.pl (fnD t cs)),Z (.ot (Zt wf C)),Z (.ol ((V++[p]).map tupI)),o4,o5]=Z ZDC:=by simp
   by_cases hp:p∈C
   ·obtain⟨C',o4',o5',g,J⟩:=ZeI B e0 fuel C V (Z (.pl (tupI p))) o5 (I.old hp) (by omega) (by omega)
    refine⟨C',o4',o5',?_,J⟩;unfold Zbw;rw[ht];dsimp only;rw[ZsR e0 _ o4 o5 hp];exact g
   ·have hpc:=I.wr p (ZyP _ (Zyt.mpr rfl))
    have J0:=I.new O hp;have hl2:=O.cs _ J0.nd J0.cr;rw[ZyA,ZzF]at hl2;have hbl:=Ztt O hpc;obtain⟨q5,e⟩:=Zty O ha (V:=V) e0 o4 o5 hp hpc (by omega) (by omega);obtain⟨C',o4',o5',g,J⟩:=ZeI B e0 fuel (C++[p]) (V++Zlu wf p) (Z (.pl (tupI p))) q5 J0 (by rw[ZyA,ZyA,ZzF]; omega) (by rw[ZyA,ZyA,ZzF]; omega);refine⟨C',o4',o5',?_,J⟩;unfold Zbw;rw[ht];dsimp only;rw[e];exact g
theorem Zq5{B:List (List Int)}(hB:∀c∈B,Ok c)(hl:B.length<=100):∃L,Zb3 ap [.list (B.map tupI),fnD t cs]=Z (.dict (Zm (Zt wf L)))/\ZgT wf Ok B L []:=by
 have I0:ZgT wf Ok B [] B:=⟨.nil,λc h=>(by simp at h),hB,λc h=>(by simp at h),λc h=>.beg h,λc h=>(by simp at h),λp h=>.inr h⟩;obtain⟨L,o4,o5,g,J⟩:=ZeI O ha B (Z (.pl (.list (B.map tupI)))) 100000 [] B Z_ Z_ I0 (by simp; omega) (by simp; omega);refine⟨L,?_,J⟩;show ZH (ZcU ap [Z (.pl (.list (B.map tupI))),Z (.pl (fnD t cs)),Z_,Z_,Z_,Z_])=_;have e:ZcU ap [Z (.pl (.list (B.map tupI))),Z (.pl (fnD t cs)),Z_,Z_,Z_,Z_]=Z (.rt (.dict (Zm (Zt wf L)))):=by unfold ZcU;refine ZR (P:=λq=>q=_) (r':=[Z (.pl (.list (B.map tupI))),Z (.pl (fnD t cs)),Z (.ot (Zt wf [])),Z_,Z_,Z_]) rfl ?_;refine ZR (P:=λq=>q=_) (r':=[Z (.pl (.list (B.map tupI))),Z (.pl (fnD t cs)),Z (.ot (Zt wf [])),Z (.ol (B.map tupI)),Z_,Z_]) rfl ?_;refine ZR (P:=λq=>q=_) g ?_;simp
 rw[e];rfl
end
theorem ZdP(n:Nat)(p:List Int):noF (n+1) (tupI p)=ZDC:=by show(p.map dI).all (noF n)=ZDC;rw[List.all_map];exact Zys.mpr λx _=>by cases n<;>rfl
theorem ZuF(n:Nat)(i:Int):noF n (.int i)=ZDC:=by cases n<;>rfl
theorem ZdW(h:∀d∈ds,noF n d=ZDC):noF (n+1) (.tuple ds)=ZDC:=Zys.mpr h
theorem Zol(h:∀d∈ds,noF n d=ZDC):noF (n+1) (.list ds)=ZDC:=Zys.mpr h
theorem ZsN(n:Nat)(p:List Int × List Int):noF (n+2) (Zbp p)=ZDC:=ZdW λd hd=>by
 rcases ZyH.mp hd with e | hd
 ·subst e; exact ZdP n _
 ·rw[Zyt.mp hd]; exact ZdP n _
theorem Zvy{y:Wy}(h:noF (n+3) y.1=ZDC):noF (n+4) (wyD y)=ZDC:=ZdW λd hd=>by
 rcases ZyH.mp hd with e | hd
 ·subst e; exact h
 ·rw[Zyt.mp hd]
  exact Zol λd hd=>by obtain⟨p,_,rfl⟩:=Zyy.mp hd;exact ZsN n p
theorem Zw7{L:List (List Int)}(h:∀c∈L,∀y∈wf c,noF (n+3) y.1=ZDC):noF (n+6) (.dict (Zm (Zt wf L)))=ZDC:=by show(Zm (Zt wf L)).all _=ZDC;refine Zys.mpr λp hp=>?_;unfold Zm Zt at hp;rw[ZyM]at hp;obtain⟨c,hc,rfl⟩:=Zyy.mp hp;show noF (n+5) (.list ((wf c).map wyD))=ZDC;exact Zol λd hd=>by obtain⟨y,hy,rfl⟩:=Zyy.mp hd;exact Zvy (h c hc y hy)
theorem ZwM(w:Wk):noF 20 w.d=ZDC:=by
 refine ZdW λd hd=>?_;have h:∀x:List (List Int),∀d∈x.map tupI,noF 17 d=ZDC:=λx d hd=>by obtain⟨p,_,rfl⟩:=Zyy.mp hd;exact ZdP 16 p
 have hd:=ZyH.mp hd;rcases hd with e | hd
 ·subst e; rfl
 rcases ZyH.mp hd with e | hd
 ·subst e
  exact ZdW λd hd=>by obtain⟨x,_,rfl⟩:=Zyy.mp hd;exact ZdW (h x)
 rcases ZyH.mp hd with e | hd
 ·subst e
  exact ZdW λd hd=>by obtain⟨x,_,rfl⟩:=Zyy.mp hd;exact ZdP 17 x
 rcases ZyH.mp hd with e | hd
 ·subst e; exact ZdP 18 _
 ·rw[Zyt.mp hd]; exact ZdP 18 _
end HG5
namespace HG5
open PySem HM HG HG4
variable{cb:Cb}{c:List Int}{M:Tb}
def oI:Option Int->D
 | some k=>.int k
 | none=>.none
abbrev Cb:=Wy->Tb->Option Int
def Zcq(cb:Cb)(ys:List Wy)(M:Tb):Option Int:=(ys.filterMap λy=>cb y M).min?
def ZaD(wf:Wf)(cb:Cb)(L:List (List Int))(M:Tb):Tb:=L.filterMap λc=>if ZN M c then Z_ else(Zcq cb (wf c) M).map λk=>(c,k)
def ZbX(T:Tb):Option Int:=(T.map (·.2)).min?
def Zfe(T:Tb):List (List Int):=(T.filter λp=>Z p.2==ZbX T).map (·.1)
def Zbg(found:List (List Int))(k:Int)(M:Tb):Tb:=found.foldl (λM c=>putD M c k) M
inductive ZjY(wf:Wf)(cb:Cb)(L:List (List Int)):Tb->Option Int->List (List Int)->Tb->Prop where
 | done {M:Tb} {k:Option Int}:ZjY wf cb L M k [] M
 | step {M R:Tb} {k:Int} {found:List (List Int)} (hf:found≠[]) (h:ZjY wf cb L (Zbg found k M) (ZbX (ZaD wf cb L (Zbg found k M))) (Zfe (ZaD wf cb L (Zbg found k M))) R):ZjY wf cb L M (Z k) found R
theorem ZnR:∀os:List (Option Int),Zas ((os.filter ZBc).map oI)=Z (os.filterMap id)
 | []=>rfl
 | none::os=>ZnR os
 | some k::os=>by show(Zas ((os.filter ZBc).map oI)).map (k::·)=_;rw[ZnR os];rfl
theorem ZmD{ap:AP}{t:Nat}{cs:List D}{ys:List Wy}(hy:ys.length<1000)(ha:∀y∈ys,ap t cs [wyD y,.dict (Zm (encM M))]=Z (oI (cb y M))) :
  Zb0 ap [.list (ys.map wyD),.dict (Zm (encM M)),fnD t cs]=Z (oI (Zcq cb ys M)):=by
 show ZH (Ze3 ap [Z (.pl (.list (ys.map wyD))),Z (.pl (.dict (Zm (encM M)))),Z (.pl (fnD t cs)),Z_])=_;have hb:ys.length<big:=by show _<1000000; omega
 have e1:Zag Z4 (Zgi ap 3 (Za (Zc 0) (Za (Zc 2) Zg))) [Z (.pl (.list (ys.map wyD))),Z (.pl (.dict (Zm (encM M)))),Z (.pl (fnD t cs)),Z_] (ys.map wyD)=Z ((ys.map λy=>cb y M).map oI):=by
  rw[Za5 wyD (λy=>oI (cb y M)),ZyM]
  ·rfl
  ·intro y h
   show(match Zk7 (fnD t cs)with | some (t,cs)=>_ | none=>Z_)=_;rw[Zp2];exact ha y h
 have e2:Zag (tV (op2 Zen (Zc 0) (eC .none))) (Zc 0) [Z (.pl (.list (ys.map wyD))),Z (.pl (.dict (Zm (encM M)))),Z (.pl (fnD t cs)),Z (.pl (.list ((ys.map λy=>cb y M).map oI)))] ((ys.map λy=>cb y M).map oI)=Z (((ys.map λy=>cb y M).filter ZBc).map oI):=by
  rw[Zbx oI ZBc oI]
  ·intro o _
   cases o<;>rfl
  ·intro o _ _
   rfl
 unfold Ze3;refine ZR (P:=λq=>ZH q=_) (r':=[Z (.pl (.list (ys.map wyD))),Z (.pl (.dict (Zm (encM M)))),Z (.pl (fnD t cs)),Z (.ol ((ys.map λy=>cb y M).map oI))]) ?_ ?_
 ·unfold ZT Zz
  show ZzY _ (if(ys.map wyD).length<big then _ else _)=_;rw[if_pos (by rw[Zyj]; exact hb),e1];rfl
 ·show ZH (ZzY Out.rt (Zfp _ [Z (.pl (.list (ys.map wyD))),Z (.pl (.dict (Zm (encM M)))),Z (.pl (fnD t cs)),Z (.pl (.list ((ys.map λy=>cb y M).map oI)))]))=_
  have e3:Zz (ZP (bOf (Zc 3))) (tV (op2 Zen (Zc 0) (eC .none))) (Zc 0) [Z (.pl (.list (ys.map wyD))),Z (.pl (.dict (Zm (encM M)))),Z (.pl (fnD t cs)),Z (.pl (.list ((ys.map λy=>cb y M).map oI)))]=Z (.ol (((ys.map λy=>cb y M).filter ZBc).map oI)):=by unfold Zz;show(if((ys.map λy=>cb y M).map oI).length<big then _ else Z_)=_;rw[if_pos (by rw[Zyj,Zyj]; exact hb),e2];rfl
  unfold Zfp;rw[e3];show ZH (ZzY Out.rt (match Zas (((ys.map λy=>cb y M).filter ZBc).map oI)with | some ns=>Z (match ns.min? with | some i=>ZyV i | none=>.none) | none=>Z_))=_;rw[ZnR];show Z (match((ys.map λy=>cb y M).filterMap id).min? with | some i=>ZyV i | none=>.none)=_;unfold Zcq;rw[List.filterMap_map];show Z (match(ys.filterMap λy=>cb y M).min? with | some i=>ZyV i | none=>.none)=_;cases(ys.filterMap λy=>cb y M).min?<;>rfl
theorem Zs9{k:Int}(h:ZN M c=ZDD):putD M c k=M++[(c,k)]:=by unfold putD;rw[if_neg];intro z;obtain⟨p,hp,e⟩:=Zzi.mp z;have e:=of_decide_eq_true e;unfold ZN Zn at h;rw[ZzM]at h;have:(M.find? λp=>decide (p.1=c)).isSome=ZDC:=ZCD.mpr ⟨p,hp,decide_eq_true e⟩;rw[h]at this;cases this
theorem Zq9(M N:Tb)(c:List Int):ZN (M++N) c=(ZN M c||ZN N c):=by unfold ZN Zn;rw[ZCx,ZzM,ZzM,ZzM,Option.isSome_or]
theorem Zuq:ZN M c=ZDC↔∃k,(c,k)∈M:=by
 unfold ZN Zn;rw[ZzM,ZCD]
 constructor
 ·rintro ⟨⟨c',k⟩,h,e⟩
  have e:=of_decide_eq_true e;exact⟨k,by rw[<-e]; exact h⟩
 ·rintro ⟨k,h⟩
  exact⟨_,h,decide_eq_true rfl⟩
theorem ZuJ{wf:Wf}{L:List (List Int)}{k:Int}:(c,k)∈ZaD wf cb L M↔c∈L/\ZN M c=ZDD/\Zcq cb (wf c) M=Z k:=by
 unfold ZaD;rw[ZzG]
 constructor
 ·rintro ⟨c',h1,h2⟩
  split at h2
  ·cases h2
  ·rename_i hn
   obtain⟨k',h3,h4⟩:=Zyl.mp h2;cases h4;exact⟨h1,by simpa using hn,h3⟩
 ·rintro ⟨h1,h2,h3⟩
  exact⟨c,h1,by rw[h2,h3]; rfl⟩
section
variable{ap:AP}{wf:Wf}{L:List (List Int)}{t:Nat}{cs:List D}{cb:Cb}(hnd:L.Nodup)(hlen:L.length<=128)(hys:∀c∈L,(wf c).length<1000)(ha:∀c∈L,∀y∈wf c,∀M,ap t cs [wyD y,.dict (Zm (encM M))]=Z (oI (cb y M)))
include hys ha
theorem Zp7{M:Tb}:∀(K:List (List Int)) (acc:Tb) (o4 o5:Option B),(∀c∈K,c∈L)->K.Nodup->(∀c∈K,ZN acc c=ZDD)->Zbd o4=ZDD->Zbd o5=ZDD->acc.length+K.length<100000 ->
  ∃p4 p5,Zbd p4=ZDD/\Zbd p5=ZDD/\Zaq 4 (ZZ ap) (K.map tupI) [Z (.hd (Zm (Zt wf L))),Z (.pl (.dict (Zm (encM M)))),Z (.pl (fnD t cs)),Z (.ot (encM acc)),o4,o5] =
   Z (.nx [Z (.hd (Zm (Zt wf L))),Z (.pl (.dict (Zm (encM M)))),Z (.pl (fnD t cs)),Z (.ot (encM (acc++ZaD wf cb K M))),p4,p5])
 | [],acc,o4,o5,_,_,_,h4,h5,_=>⟨o4,o5,h4,h5,by show Z (Out.nx _)=_; rw[show ZaD wf cb [] M=[] from rfl,Zy6]⟩
 | c::K,acc,o4,o5,hK,hn,hacc,h4,h5,hl=>by
  rw[ZyD]at hl;have hc:=hK c (Zyo ..);have hk:ZbR (tupI c)=Z (Zap c):=Zb9 c;have hlk:=Ze2 M c;have hlr:=ZiI wf L c;rw[if_pos hc]at hlr;have hlc:=ZmD (ap:=ap) (t:=t) (cs:=cs) (cb:=cb) (ys:=wf c) (M:=M) (hys c hc) λy hy=>ha c hc y hy M;have hcons:ZaD wf cb (c::K) M=(if ZN M c then[]else match Zcq cb (wf c) M with | some k=>[(c,k)] | none=>[])++ZaD wf cb K M:=by
   unfold ZaD;rw[ZzB];cases ZN M c with
   | true=>rfl
   | false=>cases Zcq cb (wf c) M<;>rfl
  have step:∀(acc':Tb) (p5:Option B),Zbd p5=ZDD->(∀x∈K,ZN acc' x=ZDD)->acc'.length+K.length<100000->ZZ ap [Z (.hd (Zm (Zt wf L))),Z (.pl (.dict (Zm (encM M)))),Z (.pl (fnD t cs)),Z (.ot (encM acc)),Z (.pl (tupI c)),o5] =
     Z (.nx [Z (.hd (Zm (Zt wf L))),Z (.pl (.dict (Zm (encM M)))),Z (.pl (fnD t cs)),Z (.ot (encM acc')),Z (.pl (tupI c)),p5])->acc'++ZaD wf cb K M=acc++ZaD wf cb (c::K) M ->
    ∃p4 p5,Zbd p4=ZDD/\Zbd p5=ZDD/\Zaq 4 (ZZ ap) ((c::K).map tupI) [Z (.hd (Zm (Zt wf L))),Z (.pl (.dict (Zm (encM M)))),Z (.pl (fnD t cs)),Z (.ot (encM acc)),o4,o5] =
     Z (.nx [Z (.hd (Zm (Zt wf L))),Z (.pl (.dict (Zm (encM M)))),Z (.pl (fnD t cs)),Z (.ot (encM (acc++ZaD wf cb (c::K) M))),p4,p5]):=λacc' p5 hp5 hx hl' e eq=>by
   obtain⟨q4,q5,g4,g5,ih⟩:=Zp7 (M:=M) K acc' (Z (.pl (tupI c))) p5 (λx hx=>hK x (Zyq _ hx)) (Zzn.mp hn).2 hx rfl hp5 hl';refine⟨q4,q5,g4,g5,?_⟩;rw[<-eq,<-ih,Zyv];show(match ZZ ap [Z (.hd (Zm (Zt wf L))),Z (.pl (.dict (Zm (encM M)))),Z (.pl (fnD t cs)),Z (.ot (encM acc)),Z (.pl (tupI c)),o5]with | some (.nx r')=>_ | some (.ct r')=>_ | some (.bk r')=>_ | some (.rt d)=>_ | none=>_)=_;rw[e]
  have hKa:∀x∈K,ZN acc x=ZDD:=λx hx=>hacc x (Zyq _ hx);cases hq:Zn M c with
  | some k =>
   have hh:ZN M c=ZDC:=by unfold ZN; rw[hq]; rfl
   rw[hq]at hlk;refine step acc o5 h5 hKa (by omega) ?_ (by rw[hcons,hh]; rfl);have ht:tV (ZdU (Zc 4) (Zo 1)) [Z (.hd (Zm (Zt wf L))),Z (.pl (.dict (Zm (encM M)))),Z (.pl (fnD t cs)),Z (.ot (encM acc)),Z (.pl (tupI c)),o5]=Z ZDD:=by simp[dec_enc,hk,hlk]
   unfold ZZ sIf;rw[ht];rfl
  | none =>
   have hh:ZN M c=ZDD:=by unfold ZN; rw[hq]; rfl
   rw[hq]at hlk;have ht:tV (ZdU (Zc 4) (Zo 1)) [Z (.hd (Zm (Zt wf L))),Z (.pl (.dict (Zm (encM M)))),Z (.pl (fnD t cs)),Z (.ot (encM acc)),Z (.pl (tupI c)),o5]=Z ZDC:=by simp[dec_enc,hk,hlk]
   have hca:Zh (Zb0 ap) (Za (Zbf (Zo 0) (Zc 4)) (Za (Zc 1) (Za (Zc 2) Zg))) [Z (.hd (Zm (Zt wf L))),Z (.pl (.dict (Zm (encM M)))),Z (.pl (fnD t cs)),Z (.ot (encM acc)),Z (.pl (tupI c)),o5]=Z (oI (Zcq cb (wf c) M)):=by
    have hg:Zbf (Zo 0) (Zc 4) [Z (.hd (Zm (Zt wf L))),Z (.pl (.dict (Zm (encM M)))),Z (.pl (fnD t cs)),Z (.ot (encM acc)),Z (.pl (tupI c)),o5]=Z (.list ((wf c).map wyD)):=by simp[dec_enc,hk,hlr]
    unfold Zh Za;rw[hg];exact hlc
   have hs5:ZU 5 (Zh (Zb0 ap) (Za (Zbf (Zo 0) (Zc 4)) (Za (Zc 1) (Za (Zc 2) Zg)))) [Z (.hd (Zm (Zt wf L))),Z (.pl (.dict (Zm (encM M)))),Z (.pl (fnD t cs)),Z (.ot (encM acc)),Z (.pl (tupI c)),o5]=Z (.nx [Z (.hd (Zm (Zt wf L))),Z (.pl (.dict (Zm (encM M)))),Z (.pl (fnD t cs)),Z (.ot (encM acc)),Z (.pl (tupI c)),Z (.pl (oI (Zcq cb (wf c) M)))]):=by unfold ZU;rw[hca];rfl
   cases hle:Zcq cb (wf c) M with
   | none=>rw[hle]at hs5;refine step acc (Z (.pl .none)) rfl hKa (by omega) ?_ (by rw[hcons,hh,hle]; rfl);unfold ZZ sIf;rw[ht];dsimp only;refine ZR (P:=λq=>q=_) hs5 ?_;rfl
   | some k =>
    rw[hle]at hs5;have hput:=Zs9 (k:=k) (hacc c (Zyo ..));have hpe:=Zor acc c k;have hal:(encM acc).length<1000000:=by unfold encM; rw[Zyj]; omega
    refine step (acc++[(c,k)]) (Z (.pl (.int k))) rfl (λx hx=>?_) (by rw[ZyA,ZzF]; omega) ?_ (by rw[hcons,hh,hle,ZAh]; rfl)
    ·rw[Zq9,hKa x hx,ZDm]
     cases hb:ZN [(c,k)] x with
     | false=>rfl
     | true=>obtain⟨k',hm⟩:=Zuq.mp hb;cases Zyt.mp hm;exact absurd hx (Zzn.mp hn).1
    ·unfold ZZ sIf
     rw[ht];dsimp only;refine ZR (P:=λq=>q=_) hs5 ?_;have h2:tV (op2 Zen (Zc 5) (eC .none)) [Z (.hd (Zm (Zt wf L))),Z (.pl (.dict (Zm (encM M)))),Z (.pl (fnD t cs)),Z (.ot (encM acc)),Z (.pl (tupI c)),Z (.pl (oI (Z k)))]=Z ZDC:=rfl;rw[h2,<-hput,<-hpe];show(match ZbR (tupI c)with | some y=>_ | none=>Z_)=_;rw[hk];show(if(encM acc).length<big then _ else Z_)=_;rw[if_pos (show _<big from hal)];rfl
include hnd hlen
theorem Zmz(M:Tb):Zbc ap [.dict (Zm (Zt wf L)),.dict (Zm (encM M)),fnD t cs]=Z (encM (ZaD wf cb L M)):=by
 obtain⟨p4,p5,g4,g5,go⟩:=Zp7 hys ha (M:=M) L [] Z_ Z_ (λ_ h=>h) hnd (λ_ _=>rfl) rfl rfl (by simp; omega);have hw:ZaR 0 [Z (.hd (Zm (Zt wf L))),Z (.pl (.dict (Zm (encM M)))),Z (.pl (fnD t cs)),Z (.ot (encM [])),Z_,Z_]=Z (L.map tupI):=by show(Zfg (Zm (Zt wf L))).map _=_;rw[dec_enc,<-Zl4 wf L];rfl
 have hf:Zby 4 (ZaR 0) (ZZ ap) [Z (.hd (Zm (Zt wf L))),Z (.pl (.dict (Zm (encM M)))),Z (.pl (fnD t cs)),Z (.ot (encM [])),Z_,Z_]=Z (.nx [Z (.hd (Zm (Zt wf L))),Z (.pl (.dict (Zm (encM M)))),Z (.pl (fnD t cs)),Z (.ot (encM (ZaD wf cb L M))),p4,p5]):=by unfold Zby;rw[hw];dsimp only;rw[if_pos (by rw[Zyj]; show _<1000000; omega),go];rfl
 have hh:ZeV 0 (Zby 4 (ZaR 0) (ZZ ap)) [Z (.pl (.dict (Zm (Zt wf L)))),Z (.pl (.dict (Zm (encM M)))),Z (.pl (fnD t cs)),Z (.ot (encM [])),Z_,Z_]=Z (.nx [Z (.pl (.dict (Zm (Zt wf L)))),Z (.pl (.dict (Zm (encM M)))),Z (.pl (fnD t cs)),Z (.ot (encM (ZaD wf cb L M))),p4,p5]):=by
  show(match Zby 4 (ZaR 0) (ZZ ap) [Z (.hd (Zm (Zt wf L))),Z (.pl (.dict (Zm (encM M)))),Z (.pl (fnD t cs)),Z (.ot (encM [])),Z_,Z_]with | some (.nx r')=>_ | some (.rt d)=>_ | _=>Z_)=_;rw[hf];have a2:([Z_,Z (B.pl (.dict (Zm (encM M)))),Z (.pl (fnD t cs)),Z (.ot (encM (ZaD wf cb L M))),p4,p5]:HM.Env).all (λq=>!Zbd q)=ZDC:=by simp only[ZzD,ZB1,g4,g5];rfl
  show(if([Z_,Z (B.pl (.dict (Zm (encM M)))),Z (.pl (fnD t cs)),Z (.ot (encM (ZaD wf cb L M))),p4,p5]:HM.Env).all (λq=>!Zbd q)=ZDC then _ else _)=_;rw[if_pos a2];rfl
 unfold Zbc newOf;rw[if_pos (show([PyData.dict (Zm (Zt wf L)),PyData.dict (Zm (encM M)),fnD t cs]:List D).length=3 from rfl)];show(match ZT 3 fDt [Z (.pl (.dict (Zm (Zt wf L)))),Z (.pl (.dict (Zm (encM M)))),Z (.pl (fnD t cs)),Z_,Z_,Z_]with | some (.nx r')=>ZjQ (ZeV 0 (Zby 4 (ZaR 0) (ZZ ap))) (Zof 3) r' | _=>Z_)=_;show ZjQ (ZeV 0 (Zby 4 (ZaR 0) (ZZ ap))) (Zof 3) [Z (.pl (.dict (Zm (Zt wf L)))),Z (.pl (.dict (Zm (encM M)))),Z (.pl (fnD t cs)),Z (.ot (encM [])),Z_,Z_]=_;unfold ZjQ;rw[hh];rfl
end
end HG5
namespace HG5
open PySem HM HG HG4
variable{cb:Cb}{M T:Tb}{wf:Wf}
theorem ZpK(ap:AP)(e0 e1 e2 e5 e7:Option B)(v:Int):∀(ms:List (List Int)) (M:Tb) (o:Option B),M.length+ms.length<100000->Zbd o=ZDD ->
  ∃p,Zbd p=ZDD/\Zaq 6 (Zc3 ap) (ms.map tupI) [e0,e1,e2,Z (.ot (encM M)),Z (.pl (dI v)),e5,o,e7]=Z (.nx [e0,e1,e2,Z (.ot (encM (Zbg ms v M))),Z (.pl (dI v)),e5,p,e7])
 | [],M,o,_,h=>⟨o,h,rfl⟩
 | c::ms,M,o,hlen,_=>by
  rw[ZyD]at hlen;have hml:(encM M).length<1000000:=by unfold encM; rw[Zyj]; omega
  have hk:ZbR (tupI c)=Z (Zap c):=Zb9 c;have hput:=Zor M c v;have hpl:=Zpy c v M;have e:Zc3 ap [e0,e1,e2,Z (.ot (encM M)),Z (.pl (dI v)),e5,Z (.pl (tupI c)),e7]=Z (.nx [e0,e1,e2,Z (.ot (encM (putD M c v))),Z (.pl (dI v)),e5,Z (.pl (tupI c)),e7]):=by rw[<-hput];simp[Zc3,hk,hml]
  obtain⟨p,hp,ih⟩:=ZpK ap e0 e1 e2 e5 e7 v ms (putD M c v) (Z (.pl (tupI c))) (by omega) rfl;refine⟨p,hp,?_⟩;show _=Z (Out.nx [e0,e1,e2,Z (.ot (encM (Zbg ms v (putD M c v)))),Z (.pl (dI v)),e5,p,e7]);rw[Zyv,<-ih];show(match Zc3 ap [e0,e1,e2,Z (.ot (encM M)),Z (.pl (dI v)),e5,Z (.pl (tupI c)),e7]with | some (.nx r')=>_ | some (.ct r')=>_ | some (.bk r')=>_ | some (.rt d)=>_ | none=>_)=_;rw[e]
theorem ZlN(T:Tb):((encM T).map λp=>Zzh (p.1.map Zat))=(T.map (·.1)).map tupI:=by unfold encM;rw[ZyM,ZyM];refine ZzO λp _=>?_;show Zzh ((p.1.map Zz1).map Zat)=Zzh (p.1.map dI);rw[ZyM];rfl
def NdT(T:Tb):Prop:=(T.map (·.1)).Nodup
theorem ZpQ(h:NdT T){p:List Int × Int}(hp:p∈T):Zn T p.1=Z p.2:=by
 induction T with
 | nil=>simp at hp
 | cons q T ih =>
  obtain⟨c,k⟩:=q;rw[ZbC];unfold NdT at h;rw[Zyv,Zzn]at h;rcases ZyH.mp hp with e | e
  ·subst e; rw[if_pos rfl]
  ·rw[if_neg λz=>h.1 (by rw[z]; exact Zyy.mpr ⟨p,e,rfl⟩)]
   exact ih h.2 e
theorem Zwg:∀{L:List (List Int)},L.Nodup->NdT (ZaD wf cb L M):=by
 intro L h;unfold NdT;have:((ZaD wf cb L M).map (·.1)).Sublist L:=by
  unfold ZaD;rw[List.map_filterMap]
  clear h
  induction L with
  | nil=>exact .slnil
  | cons c L ih =>
   rw[ZzB];cases ZN M c with
   | true=>exact ih.cons c
   | false=>cases Zcq cb (wf c) M with
    | none=>exact ih.cons c
    | some k=>exact ih.cons₂ c
 exact h.sublist this
theorem ZpO{L:List (List Int)}:(ZaD wf cb L M).length<=L.length:=ZCS ..
section
variable{T:Tb}(hT:NdT T)(hl:T.length<100000)
include hT hl
theorem Zrt(r:HM.Env)(h7:r[7]?=Z (Z (.hd (Zm (encM T))))):Zz (ZaR 7) Z4 (Zbf (Zo 8) (Zc 0)) r=Z (.ol ((T.map (·.2)).map dI)):=by
 have hw:ZaR 7 r=Z ((T.map (·.1)).map tupI):=by unfold ZaR;rw[h7];show(Zfg (Zm (encM T))).map _=_;rw[dec_enc,<-ZlN T];rfl
 have hg:Zag Z4 (Zbf (Zo 8) (Zc 0)) r ((T.map (·.1)).map tupI)=Z ((T.map (·.2)).map dI):=by rw[ZyM,ZyM];have:=Za5 (e:=Zbf (Zo 8) (Zc 0)) (r:=r) (λp:List Int × Int=>tupI p.1) (λp=>dI p.2) T (λp hp=>by have hk:ZbR (tupI p.1)=Z (Zap p.1):=Zb9 p.1;have hlk:=Ze2 T p.1;rw[ZpQ hT hp]at hlk;simp[h7,dec_enc,hk,hlk]);exact this
 unfold Zz;rw[hw];dsimp only;rw[if_pos (by rw[Zyj,Zyj]; show _<1000000; omega),hg];rfl
theorem Zr3{k:Option Int}(r:HM.Env)(h7:r[7]?=Z (Z (.hd (Zm (encM T)))))(h4:r[4]?=Z (Z (.pl (oI k)))):Zz (ZaR 7) (tV (op2 gEq (Zbf (Zo 8) (Zc 0)) (Zc 5))) (Zc 0) r=Z (.ol (((T.filter λp=>Z p.2==k).map (·.1)).map tupI)):=by
 have hw:ZaR 7 r=Z ((T.map (·.1)).map tupI):=by unfold ZaR;rw[h7];show(Zfg (Zm (encM T))).map _=_;rw[dec_enc,<-ZlN T];rfl
 have hg:Zag (tV (op2 gEq (Zbf (Zo 8) (Zc 0)) (Zc 5))) (Zc 0) r ((T.map (·.1)).map tupI)=Z (((T.filter λp=>Z p.2==k).map (·.1)).map tupI):=by
  rw[ZyM,ZyM];have:=Zbx (c:=tV (op2 gEq (Zbf (Zo 8) (Zc 0)) (Zc 5))) (e:=Zc 0) (r:=r) (λp:List Int × Int=>tupI p.1) (λp=>Z p.2==k) (λp=>tupI p.1) T (λp hp=>by
   have hk:ZbR (tupI p.1)=Z (Zap p.1):=Zb9 p.1;have hlk:=Ze2 T p.1;rw[ZpQ hT hp]at hlk;have h1:Zbf (Zo 8) (Zc 0) (Z (.pl (tupI p.1))::r)=Z (.int p.2):=by simp[h7,dec_enc,hk,hlk]
   have h2:Zc 5 (Z (B.pl (tupI p.1))::r)=Z (oI k):=by simp[h4]
   unfold tV op2;rw[h1,h2];cases k with
   | none=>show(match gEq (.int p.2) .none with | some (.bool b)=>Z b | _=>Z_)=_;rw[Zi2 (ZcM 1 _) (Zuh 1) (by decide) (by decide) (by simp)];rfl
   | some k =>
    show(match gEq (.int p.2) (.int k)with | some (.bool b)=>Z b | _=>Z_)=_
    by_cases e:p.2=k
    ·rw[e,Zj0 (ZcM 1 _) (by decide)]
     simp
    ·rw[Zi2 (ZcM 1 _) (ZcM 1 _) (by decide) (by decide) (by simpa using e)]
     simp[e]) (λp _ _=>by simp)
  exact this
 unfold Zz;rw[hw];dsimp only;rw[if_pos (by rw[Zyj,Zyj]; show _<1000000; omega),hg];rfl
end
section
variable{w:Wk}(hv:Wk.V w){ap:AP}{wf:Wf}{L:List (List Int)}{t:Nat}{cs:List D}{cb:Cb}(hnd:L.Nodup)(hlen:L.length<=128)(hcr:∀c∈L,Cr w.many c)(hys:∀c∈L,(wf c).length<1000)(ha:∀c∈L,∀y∈wf c,∀M,ap t cs [wyD y,.dict (Zm (encM M))]=Z (oI (cb y M)))
include hnd hlen hys ha
theorem Zq0{k:Int}{found:List (List Int)}{o6 o7:Option B}(h6:Zbd o6=ZDD)(h7:Zbd o7=ZDD)(hf:found.length<=128)(hM:M.length<50000) :
  ∃p6 p7,Zbd p6=ZDD/\Zbd p7=ZDD/\Zc4 ap [Z (.pl w.d),Z (.pl (.dict (Zm (Zt wf L)))),Z (.pl (fnD t cs)),Z (.ot (encM M)),Z (.pl (dI k)),Z (.ol (found.map tupI)),o6,o7] =
   Z (.nx [Z (.pl w.d),Z (.pl (.dict (Zm (Zt wf L)))),Z (.pl (fnD t cs)),Z (.ot (encM (Zbg found k M))),Z (.pl (oI (ZbX (ZaD wf cb L (Zbg found k M))))),Z (.ol ((Zfe (ZaD wf cb L (Zbg found k M))).map tupI)),p6,p7]):=by
 obtain⟨p6,hp6,e1⟩:=ZpK ap (Z (.pl w.d)) (Z (.pl (.dict (Zm (Zt wf L))))) (Z (.pl (fnD t cs))) (Z (.pl (.list (found.map tupI)))) o7 k found M o6 (by omega) h6;generalize hM':Zbg found k M=M' at *;have hnx:=Zmz hnd hlen hys ha M';have hT:NdT (ZaD wf cb L M'):=Zwg hnd;have hTl:(ZaD wf cb L M').length<100000:=by have:=ZpO (wf:=wf) (cb:=cb) (L:=L) (M:=M'); omega
 generalize hO:ZaD wf cb L M'=T at *;refine⟨p6,Z (.pl (.dict (Zm (encM T)))),hp6,rfl,?_⟩;unfold Zc4;refine ZR (P:=λq=>q=_) (r':=[Z (.pl w.d),Z (.pl (.dict (Zm (Zt wf L)))),Z (.pl (fnD t cs)),Z (.ot (encM M')),Z (.pl (dI k)),Z (.pl (.list (found.map tupI))),p6,o7]) ?_ ?_
 ·unfold Zgg ZhE Zby
  have hfb:found.length<1000000:=by omega
  simp[hfb];exact e1
 ·refine ZR (P:=λq=>q=_) (r':=[Z (.pl w.d),Z (.pl (.dict (Zm (Zt wf L)))),Z (.pl (fnD t cs)),Z (.ot (encM M')),Z (.pl (dI k)),Z (.pl (.list (found.map tupI))),p6,Z (.ot (encM T))]) ?_ ?_
  ·have hcl:ZiK (Zbc ap) (Za (Zc 1) (Za (Zq2 (Zo 3)) (Za (Zc 2) Zg))) [Z (.pl w.d),Z (.pl (.dict (Zm (Zt wf L)))),Z (.pl (fnD t cs)),Z (.ot (encM M')),Z (.pl (dI k)),Z (.pl (.list (found.map tupI))),p6,o7]=Z (.ot (encM T)):=by
    unfold ZiK;show(match Zbc ap [.dict (Zm (Zt wf L)),.dict (Zm (encM M')),fnD t cs]with | some kvs=>if kvs.all (λp=>Zks p.2)then Z (B.ot kvs)else Z_ | none=>Z_)=_;rw[hnx];have hfl:(encM T).all (λp=>Zks p.2)=ZDC:=by unfold encM;rw[List.all_map];exact Zys.mpr λp _=>rfl
    dsimp only;rw[if_pos hfl]
   unfold ZT;rw[hcl];rfl
  ·have a1:∀x4 x5:D,([Z (B.pl w.d),Z (.pl (.dict (Zm (Zt wf L)))),Z (.pl (fnD t cs)),Z (.ot (encM M')),Z (.pl x4),Z (.pl x5),p6,Z (.pl (.dict (Zm (encM T))))]:HM.Env).all (λq=>!Zbd q)=ZDC:=λx4 x5=>by
    simp only[ZzD,ZB1,hp6];rfl
   have a2:∀x4:D,∀x5:B,Zbd (Z x5)=ZDD->([Z (B.pl w.d),Z (.pl (.dict (Zm (Zt wf L)))),Z (.pl (fnD t cs)),Z (.ot (encM M')),Z (.pl x4),Z x5,p6,Z_]:HM.Env).all (λq=>!Zbd q)=ZDC:=λx4 x5 hx=>by simp only[ZzD,ZB1,hp6,hx];rfl
   have hv1:=Zrt hT hTl [Z (.pl w.d),Z (.pl (.dict (Zm (Zt wf L)))),Z (.pl (fnD t cs)),Z (.ot (encM M')),Z (.pl (dI k)),Z (.pl (.list (found.map tupI))),p6,Z (.hd (Zm (encM T)))] rfl;have hm1:ZU 4 (Zfp (Zz (ZaR 7) Z4 (Zbf (Zo 8) (Zc 0)))) [Z (.pl w.d),Z (.pl (.dict (Zm (Zt wf L)))),Z (.pl (fnD t cs)),Z (.ot (encM M')),Z (.pl (dI k)),Z (.pl (.list (found.map tupI))),p6,Z (.hd (Zm (encM T)))]=Z (.nx [Z (.pl w.d),Z (.pl (.dict (Zm (Zt wf L)))),Z (.pl (fnD t cs)),Z (.ot (encM M')),Z (.pl (oI (ZbX T))),Z (.pl (.list (found.map tupI))),p6,Z (.hd (Zm (encM T)))]):=by
    have:Zfp (Zz (ZaR 7) Z4 (Zbf (Zo 8) (Zc 0))) [Z (.pl w.d),Z (.pl (.dict (Zm (Zt wf L)))),Z (.pl (fnD t cs)),Z (.ot (encM M')),Z (.pl (dI k)),Z (.pl (.list (found.map tupI))),p6,Z (.hd (Zm (encM T)))]=Z (oI (ZbX T)):=by unfold Zfp;rw[hv1];show(match Zas ((T.map (·.2)).map dI)with | some ns=>Z (match ns.min? with | some i=>ZyV i | none=>.none) | none=>Z_)=_;rw[Zc6];show Z (match(T.map (·.2)).min? with | some i=>ZyV i | none=>.none)=_;unfold ZbX;cases(T.map (·.2)).min?<;>rfl
    unfold ZU;rw[this];rfl
   refine ZR (P:=λq=>q=_) (r':=[Z (.pl w.d),Z (.pl (.dict (Zm (Zt wf L)))),Z (.pl (fnD t cs)),Z (.ot (encM M')),Z (.pl (oI (ZbX T))),Z (.pl (.list (found.map tupI))),p6,Z (.pl (.dict (Zm (encM T))))]) ?_ ?_
   ·show(if([Z (B.pl w.d),Z (.pl (.dict (Zm (Zt wf L)))),Z (.pl (fnD t cs)),Z (.ot (encM M')),Z (.pl (dI k)),Z (.pl (.list (found.map tupI))),p6,Z (.pl (.dict (Zm (encM T))))]:HM.Env).all (λq=>!Zbd q)=ZDC then _ else _)=_
    rw[if_pos (a1 _ _)];show(match ZU 4 _ [Z (.pl w.d),Z (.pl (.dict (Zm (Zt wf L)))),Z (.pl (fnD t cs)),Z (.ot (encM M')),Z (.pl (dI k)),Z (.pl (.list (found.map tupI))),p6,Z (.hd (Zm (encM T)))]with | some (.nx r')=>_ | some (.rt d)=>_ | _=>Z_)=_;rw[hm1];show(if([Z (B.pl w.d),Z (.pl (.dict (Zm (Zt wf L)))),Z (.pl (fnD t cs)),Z (.ot (encM M')),Z (.pl (oI (ZbX T))),Z (.pl (.list (found.map tupI))),p6,Z_]:HM.Env).all (λq=>!Zbd q)=ZDC then _ else _)=_;rw[if_pos (a2 _ _ rfl)];rfl
   ·have hk1:=Zr3 hT hTl (k:=ZbX T) [Z (.pl w.d),Z (.pl (.dict (Zm (Zt wf L)))),Z (.pl (fnD t cs)),Z (.ot (encM M')),Z (.pl (oI (ZbX T))),Z (.pl (.list (found.map tupI))),p6,Z (.hd (Zm (encM T)))] rfl rfl
    have hm2:ZT 5 (Zz (ZaR 7) (tV (op2 gEq (Zbf (Zo 8) (Zc 0)) (Zc 5))) (Zc 0)) [Z (.pl w.d),Z (.pl (.dict (Zm (Zt wf L)))),Z (.pl (fnD t cs)),Z (.ot (encM M')),Z (.pl (oI (ZbX T))),Z (.pl (.list (found.map tupI))),p6,Z (.hd (Zm (encM T)))]=Z (.nx [Z (.pl w.d),Z (.pl (.dict (Zm (Zt wf L)))),Z (.pl (fnD t cs)),Z (.ot (encM M')),Z (.pl (oI (ZbX T))),Z (.ol ((Zfe T).map tupI)),p6,Z (.hd (Zm (encM T)))]):=by unfold ZT;rw[hk1];rfl
    show(if([Z (B.pl w.d),Z (.pl (.dict (Zm (Zt wf L)))),Z (.pl (fnD t cs)),Z (.ot (encM M')),Z (.pl (oI (ZbX T))),Z (.pl (.list (found.map tupI))),p6,Z (.pl (.dict (Zm (encM T))))]:HM.Env).all (λq=>!Zbd q)=ZDC then _ else _)=_;rw[if_pos (a1 _ _)];show(match ZT 5 _ [Z (.pl w.d),Z (.pl (.dict (Zm (Zt wf L)))),Z (.pl (fnD t cs)),Z (.ot (encM M')),Z (.pl (oI (ZbX T))),Z (.pl (.list (found.map tupI))),p6,Z (.hd (Zm (encM T)))]with | some (.nx r')=>_ | some (.rt d)=>_ | _=>Z_)=_;rw[hm2];show(if([Z (B.pl w.d),Z (.pl (.dict (Zm (Zt wf L)))),Z (.pl (fnD t cs)),Z (.ot (encM M')),Z (.pl (oI (ZbX T))),Z (.ol ((Zfe T).map tupI)),p6,Z_]:HM.Env).all (λq=>!Zbd q)=ZDC then _ else _)=_;rw[if_pos (a2 _ _ rfl)];rfl
omit hnd hlen hys ha in
theorem ZsX{c:List Int}(h:c∈Zfe (ZaD wf cb L M)):c∈L/\ZN M c=ZDD:=by obtain⟨⟨c',k⟩,h1,rfl⟩:=Zyy.mp h;have:=ZuJ.mp (ZyW.mp h1).1;exact⟨this.1,this.2.1⟩
omit hnd hlen hys ha in
theorem Zr9(h:Zfe T≠[]):∃k,ZbX T=Z k:=by
 cases hq:ZbX T with
 | some k=>exact⟨k,rfl⟩
 | none=>refine absurd ?_ h;unfold ZbX at hq;rw[ZDh]at hq;have:=List.map_eq_nil_iff.mp hq;subst this;rfl
theorem ZiU:∀(fuel n:Nat) (M:Tb) (k:Option Int) (found:List (List Int)) (o6 o7:Option B),Zbd o6=ZDD->Zbd o7=ZDD->(∀c∈found,c∈L/\ZN M c=ZDD)->found.length<=128->M.length<=128*n->n<=(L.filter λc=>ZN M c).length->130<=n+fuel->(found≠[]->∃i,k=Z i) ->
  ∃R p4 p5 p6 p7,Zbw (tV (op2 gGt (Zbe (Zo 5)) (eC (.int 0)))) (Zc4 ap) fuel [Z (.pl w.d),Z (.pl (.dict (Zm (Zt wf L)))),Z (.pl (fnD t cs)),Z (.ot (encM M)),Z (.pl (oI k)),Z (.ol (found.map tupI)),o6,o7]=Z (.nx [Z (.pl w.d),Z (.pl (.dict (Zm (Zt wf L)))),Z (.pl (fnD t cs)),Z (.ot (encM R)),p4,p5,p6,p7])/\ZjY wf cb L M k found R
 | 0,n,M,k,found,o6,o7,_,_,_,_,_,ht,hfu,_=>by have:=ZzS (λc=>ZN M c) L;omega
 | fuel+1,n,M,k,found,o6,o7,h6,h7,hfo,hfl,hM,ht,hfu,hks=>by
  have htl:=ZzS (λc=>ZN M c) L
  by_cases hf:found=[]
  ·subst hf
   refine⟨M,Z (.pl (oI k)),Z (.ol []),o6,o7,?_,.done⟩;unfold Zbw;have e:(tV (op2 gGt (Zbe (Zo 5)) (eC (.int 0)))) [Z (.pl w.d),Z (.pl (.dict (Zm (Zt wf L)))),Z (.pl (fnD t cs)),Z (.ot (encM M)),Z (.pl (oI k)),Z (.ol (([]:List (List Int)).map tupI)),o6,o7]=Z ZDD:=by simp
   rw[e];rfl
  ·obtain⟨i,rfl⟩:=hks hf
   have e:(tV (op2 gGt (Zbe (Zo 5)) (eC (.int 0)))) [Z (.pl w.d),Z (.pl (.dict (Zm (Zt wf L)))),Z (.pl (fnD t cs)),Z (.ot (encM M)),Z (.pl (oI (Z i))),Z (.ol (found.map tupI)),o6,o7]=Z ZDC:=by have:0<found.length:=ZB8.mpr hf;simp;omega
   obtain⟨p6,p7,g6,g7,ht1⟩:=Zq0 hnd hlen hys ha (w:=w) (M:=M) (k:=i) (found:=found) h6 h7 hfl (by omega);have hml:(Zbg found i M).length<=M.length+found.length:=ZlW i found M;have hlk:∀k,Zn (Zbg found i M) k=if k∈found then Z i else Zn M k:=λk=>Zgt i k found M
   have hcnt:(L.filter λc=>ZN M c).length<(L.filter λc=>ZN (Zbg found i M) c).length:=by
    refine Zdy (λx _ hx=>?_) ?_
    ·unfold ZN at hx ⊢
     rw[hlk];split
     ·rfl
     ·exact hx
    ·obtain⟨c,cs,rfl⟩:=ZCu hf
     refine⟨c,(hfo c (Zyo ..)).1,?_,(hfo c (Zyo ..)).2⟩;unfold ZN;rw[hlk,if_pos (Zyo ..)];rfl
   have hol:(Zfe (ZaD wf cb L (Zbg found i M))).length<=128:=by
    have h1:(Zfe (ZaD wf cb L (Zbg found i M))).length<=(ZaD wf cb L (Zbg found i M)).length:=by unfold Zfe;rw[Zyj];exact ZzS ..
    have h2:=ZpO (wf:=wf) (cb:=cb) (L:=L) (M:=Zbg found i M);omega
   obtain⟨R,q4,q5,q6,q7,g,J⟩:=ZiU fuel (n+1) (Zbg found i M) (ZbX (ZaD wf cb L (Zbg found i M))) (Zfe (ZaD wf cb L (Zbg found i M))) p6 p7 g6 g7 (λc hc=>ZsX hc) hol (by omega) (by omega) (by omega) Zr9;refine⟨R,q4,q5,q6,q7,?_,.step hf J⟩;unfold Zbw;rw[e];dsimp only;show(match Zc4 ap [Z (.pl w.d),Z (.pl (.dict (Zm (Zt wf L)))),Z (.pl (fnD t cs)),Z (.ot (encM M)),Z (.pl (dI i)),Z (.ol (found.map tupI)),o6,o7]with | some (.nx r')=>_ | some (.ct r')=>_ | some (.bk r')=>_ | some (.rt d)=>_ | none=>_)=_;rw[ht1];exact g
include hv hcr
theorem Zpn:∃R,Zdp ap [w.d,.dict (Zm (Zt wf L)),fnD t cs]=Z (.dict (Zm (encM R)))/\ZjY wf cb L [] (Z 0) (L.filter λc=>Z3 w c) R:=by
 have hlb:L.length<1000000:=by omega
 have hfl:(L.filter λc=>Z3 w c).length<=128:=Zy2 (ZzS _ _) hlen;obtain⟨R,p4,p5,p6,p7,g,J⟩:=ZiU hnd hlen hys ha (w:=w) 100000 0 [] (Z 0) (L.filter λc=>Z3 w c) Z_ Z_ rfl rfl (λc hc=>⟨(ZyW.mp hc).1,rfl⟩) hfl (by simp) (Zzj _) (by omega) λ_=>⟨0,rfl⟩;refine⟨R,?_,J⟩;have hw:ZaR 1 [Z (.pl w.d),Z (.hd (Zm (Zt wf L))),Z (.pl (fnD t cs)),Z (.ot (encM [])),Z (.pl (dI 0)),Z_,Z_,Z_]=Z (L.map tupI):=by show(Zfg (Zm (Zt wf L))).map _=_;rw[dec_enc,<-Zl4 wf L];rfl
 have hgo:∀r:HM.Env,r[0]?=Z (Z (.pl w.d))->Zag (tV (Zh ZbE (Za (Zc 1) (Za (Zc 0) Zg)))) (Zc 0) r (L.map tupI)=Z ((L.filter λc=>Z3 w c).map tupI):=λr r0=>by
  rw[Zbx tupI (λc=>Z3 w c) tupI]
  ·intro c hc
   have:=Zpi (w:=w) (c:=c) (by have:=(hcr c hc).len; have:=hv.m2; omega);simp[r0,this]
  ·intro c _ _
   simp
 have hc:Zz (ZaR 1) (tV (Zh ZbE (Za (Zc 1) (Za (Zc 0) Zg)))) (Zc 0) [Z (.pl w.d),Z (.hd (Zm (Zt wf L))),Z (.pl (fnD t cs)),Z (.ot (encM [])),Z (.pl (dI 0)),Z_,Z_,Z_]=Z (.ol ((L.filter λc=>Z3 w c).map tupI)):=by unfold Zz;rw[hw];dsimp only;rw[if_pos (by rw[Zyj]; exact hlb),hgo _ rfl];rfl
 have hh:ZeV 1 (ZT 5 (Zz (ZaR 1) (tV (Zh ZbE (Za (Zc 1) (Za (Zc 0) Zg)))) (Zc 0))) [Z (.pl w.d),Z (.pl (.dict (Zm (Zt wf L)))),Z (.pl (fnD t cs)),Z (.ot (encM [])),Z (.pl (dI 0)),Z_,Z_,Z_]=Z (.nx [Z (.pl w.d),Z (.pl (.dict (Zm (Zt wf L)))),Z (.pl (fnD t cs)),Z (.ot (encM [])),Z (.pl (dI 0)),Z (.ol ((L.filter λc=>Z3 w c).map tupI)),Z_,Z_]):=by show(match ZT 5 _ [Z (.pl w.d),Z (.hd (Zm (Zt wf L))),Z (.pl (fnD t cs)),Z (.ot (encM [])),Z (.pl (dI 0)),Z_,Z_,Z_]with | some (.nx r')=>_ | some (.rt d)=>_ | _=>Z_)=_;unfold ZT;rw[hc];rfl
 show ZH (ZeR ap [Z (.pl w.d),Z (.pl (.dict (Zm (Zt wf L)))),Z (.pl (fnD t cs)),Z_,Z_,Z_,Z_,Z_])=_;have e:ZeR ap [Z (.pl w.d),Z (.pl (.dict (Zm (Zt wf L)))),Z (.pl (fnD t cs)),Z_,Z_,Z_,Z_,Z_]=Z (.rt (.dict (Zm (encM R)))):=by unfold ZeR;refine ZR (P:=λq=>q=_) (r':=[Z (.pl w.d),Z (.pl (.dict (Zm (Zt wf L)))),Z (.pl (fnD t cs)),Z (.ot (encM [])),Z_,Z_,Z_,Z_]) rfl ?_;refine ZR (P:=λq=>q=_) (r':=[Z (.pl w.d),Z (.pl (.dict (Zm (Zt wf L)))),Z (.pl (fnD t cs)),Z (.ot (encM [])),Z (.pl (dI 0)),Z_,Z_,Z_]) rfl ?_;refine ZR (P:=λq=>q=_) hh ?_;refine ZR (P:=λq=>q=_) g ?_;simp
 rw[e];rfl
end
end HG5
namespace HG5
open PySem HM HG
def ap:AP:=λt cs ds=>match t with
 | 0=>if cs.isEmpty then Zdq ds else Z_
 | 1=>ZhU 1 2 (Zh ZaZ (Za (Zc 1) (Za (Zc 2) (Za (Zc 0) Zg)))) cs ds
 | _=>Z_
end HG5
namespace HG5
open PySem HM HG HG4
variable{ps:List (List Int)}{b c:List Int}{M R:Tb}
inductive Zns(w:Wk)(ls b:List Int):List Int->Prop where
 | beg {p:List Int} (h:p∈ZY w ls b):Zns w ls b p
 | step {c p:List Int} {d:Nat} (r:Zns w ls b c) (hd:d<w.deeds.length) (hc:ZbW w c d=ZDC) (h:p∈ZY w ls (Zau w c d)):Zns w ls b p
def Zlm(w:Wk)(ls c:List Int)(d:Int):Wy:=(dI d,ZbQ w ls (Zau w c d))
def wfV(w:Wk)(ls:List Int):Wf:=λc=>(doV w c).map (Zlm w ls c)
abbrev Zrb(w:Wk)(ls:List Int)(L:List (List Int)):List (List Ky × D):=Zt (wfV w ls) L
theorem ZrY(w:Wk)(ls c:List Int):ZmJ w ls c=.list ((wfV w ls c).map wyD):=by unfold ZmJ wfV;rw[ZyM];rfl
theorem ZxZ(w:Wk)(ls c:List Int)(d:Int):wyP (Zlm w ls c d)=ZY w ls (Zau w c d):=rfl
abbrev OkC(w:Wk)(c:List Int):Prop:=Cr w.many c/\c≠[]
structure ApD(ap:AP):Prop where
 d0:∀ds,ap 0 [] ds=Zdq ds
 l1:∀cs ds,ap 1 cs ds=ZhU 1 2 (Zh ZaZ (Za (Zc 1) (Za (Zc 2) (Za (Zc 0) Zg)))) cs ds
section
variable{w:Wk}(hv:Wk.V w)(h7:w.many<=7){ls:List Int}(hl:Cr w.looks.length ls)
include hv h7
theorem Zw1:Zqo (wfV w ls) (OkC w):=by
 refine⟨λc hc y hy p hp=>?_,λc hc=>?_,λc hc y hy=>?_,λC hn hC=>?_⟩
 ·obtain⟨d,hd,rfl⟩:=Zyy.mp hy
  obtain⟨d0,d1,_⟩:=ZeL hd;have:=Zls (Zfy hv hc.1 d0 d1) (show p∈ZY w ls (Zau w c d) from hp);exact⟨this.1,this.2.1⟩
 ·unfold wfV
  rw[Zyj];have:=Zly w c;have:=hv.d2;omega
 ·obtain⟨d,hd,rfl⟩:=Zyy.mp hy
  obtain⟨d0,d1,_⟩:=ZeL hd;have:=split_len (w:=w) (ls:=ls) (c:=Zau w c d);have:=(Zfy hv hc.1 d0 d1).len;show(ZbQ w ls (Zau w c d)).length<=8;omega
 ·have h1:=Zqv hn λc hc=>(hC c hc).1
  have h2:2 ^ w.many<=2 ^ 7:=ZA9 (by decide) h7;have h3:2 ^ 7=128:=rfl;omega
omit hv h7 in
theorem Zwb(r:Zli (wfV w ls) (ZY w ls b) c):Zns w ls b c:=by
 induction r with
 | beg h=>exact .beg h
 | @step c p y _ hy hp ih=>obtain⟨d,hd,rfl⟩:=Zyy.mp hy;obtain⟨d0,d1,d2⟩:=ZeL hd;have e:((d.toNat:Nat):Int)=d:=ZB7 d0;exact .step (d:=d.toNat) ih (by omega) (by rw[e]; exact d2) (by rw[e]; exact hp)
include hl
theorem Zhc{ap:AP}(A:ApD ap)(hb:Cr w.many b):∃L,Zci ap [w.d,tupI ls,tupI b]=Z (.dict (Zm (Zrb w ls L)))/\L.Nodup/\L.length<=128/\(∀c∈L,Cr w.many c/\c≠[])/\(∀c∈L,Zns w ls b c)/\Ze1 w ls L/\∀p∈ZY w ls b,p∈L:=by
 have hp:=ZiX hv hl hb;have hsl:=split_len (w:=w) (ls:=ls) (c:=b);have hbl:=hb.len;have hci:=Zf0 (ZbQ w ls b) (by omega);have hpl:(ZY w ls b).length<=100:=by unfold ZY; rw[Zyj]; omega
 have O:=Zw1 hv h7 (ls:=ls);have ha:∀c,OkC w c->ap 1 [w.d,tupI ls] [tupI c]=Z (.list ((wfV w ls c).map wyD)):=λc hc=>by rw[A.l1,<-ZrY];unfold ZhU;rw[if_pos ⟨rfl,rfl,by rw[ZzD,ZdP 19]; rfl⟩];exact Zn6 hv hl hc.1
 obtain⟨L,e,J⟩:=Zq5 O ha (B:=ZY w ls b) (λc h=>⟨(Zls hb h).1,(Zls hb h).2.1⟩) hpl;refine⟨L,?_,J.nd,O.cs L J.nd J.cr,J.cr,λc hc=>Zwb (J.rc c hc),λc hc d hd can p hp=>?_,λp hp=>?_⟩
 ·show ZH (Zev ap [Z (.pl w.d),Z (.pl (tupI ls)),Z (.pl (tupI b))])=_
  have h1:Zh ZL (Za (Zh Zba (Za (Zc 0) (Za (Zc 1) (Za (Zc 2) Zg)))) Zg) [Z (.pl w.d),Z (.pl (tupI ls)),Z (.pl (tupI b))]=Z (.list ((ZY w ls b).map tupI)):=by unfold Zh Za;show(match(match Zba [w.d,tupI ls,tupI b]with | some x=>(Zg _).map (x::·) | none=>Z_)with | some ds=>ZL ds | none=>Z_)=_;rw[hp];exact hci
  have hn1:[w.d,tupI ls].all (noF 20)=ZDC:=by rw[ZzD,ZzD,ZwM,ZdP 19];rfl
  have hn2:noF 20 (.dict (Zm (Zrb w ls L)))=ZDC:=Zw7 (n:=14) λc _ y hy=>by obtain⟨d,_,rfl⟩:=Zyy.mp hy;exact ZuF _ _
  unfold Zev ZA ZhX;rw[h1];show ZH (ZzY Out.rt (if[w.d,tupI ls].all (noF 20)=ZDC then(match Zb3 ap [.list ((ZY w ls b).map tupI),fnD 1 [w.d,tupI ls]]with | some d=>if noF 20 d=ZDC then Z d else Z_ | none=>Z_)else Z_))=_;rw[if_pos hn1,e];dsimp only;rw[if_pos hn2];rfl
 ·rcases J.cl c hc (Zlm w ls c d) (Zyy.mpr ⟨(d:Int),ZpP hd can,rfl⟩) p hp with h | h
  ·exact h
  ·simp at h
 ·rcases J.bg p hp with h | h
  ·exact h
  ·simp at h
end
def Zcp(ps:List (List Int))(M:Tb):Option Int:=if ps.all (ZN M)then(ps.filterMap λp=>Zn M p).max? else Z_
def cbD:Cb:=λy M=>(Zcp (wyP y) M).map (·+1)
theorem Zic{α β:Type}{f:α->Option β}:∀{xs:List α},((xs.filterMap f).length=xs.length↔xs.all (λx=>(f x).isSome)=ZDC)
 | []=>by simp
 | x::xs=>by
  have ih:=Zic (f:=f) (xs:=xs);have hl:(xs.filterMap f).length<=xs.length:=ZCS f xs;rw[ZzB,ZzD];cases h:f x with
  | none=>simp; omega
  | some y=>simpa using ih
theorem Zga{g:Gs}(hg:g.length<1000)(h0:g≠[]):Zaj [.list (g.map Zbp),.dict (Zm (encM M))]=Z (oI (Zcp (g.map (·.2)) M)):=by
 have hci:=Zf0 g (by omega);have hlen:((g.map (·.2)).map tupI).length<big:=by rw[Zyj,Zyj]; show _<1000000; omega
 have h1:ZP (bOf (Zh ZL (Za (Zc 0) Zg))) [Z (.pl (.list (g.map Zbp))),Z (.pl (.dict (Zm (encM M)))),Z_]=Z ((g.map (·.2)).map tupI):=by unfold ZP bOf;show(match ZzY B.pl (ZL [.list (g.map Zbp)])with | some x=>ZdI x | none=>Z_)=_;rw[hci];rfl
 have h2:Zag (tV (Zoc (Zc 0) (Zo 2))) (Zbf (Zo 2) (Zc 0)) [Z (.pl (.list (g.map Zbp))),Z (.pl (.dict (Zm (encM M)))),Z_] ((g.map (·.2)).map tupI)=Z (((g.map (·.2)).filterMap λp=>Zn M p).map dI):=by
  rw[Zbx tupI (ZN M) (λp=>dI ((Zn M p).getD 0))]
  ·congr 1
   generalize g.map (·.2)=ps
   induction ps with
   | nil=>rfl
   | cons p ps ih =>
    rw[ZAH,ZzB];unfold ZN at ih ⊢;cases hq:Zn M p with
    | none=>rw[if_neg (by simp)]; exact ih
    | some k=>rw[if_pos (by rfl),Zyv,Zyv,ih,hq]; rfl
  ·intro p _
   have hk:ZbR (tupI p)=Z (Zap p):=Zb9 p;simp[dec_enc,hk,Ze2,ZN]
  ·intro p _ hp
   have hk:ZbR (tupI p)=Z (Zap p):=Zb9 p;unfold ZN at hp;obtain⟨k,hk'⟩:=Zzg.mp hp;have hlk:=Ze2 M p;rw[hk']at hlk;simp[dec_enc,hk,hlk,hk']
 have hfl:=Zic (f:=λp=>Zn M p) (xs:=g.map (·.2));rw[Zyj]at hfl;have hall:(g.map (·.2)).all (λx=>(Zn M x).isSome)=(g.map (·.2)).all (ZN M):=rfl;rw[hall]at hfl;generalize hN:(g.map (·.2)).filterMap (λp=>Zn M p)=ns at *;show ZH (Zdz [Z (.pl (.list (g.map Zbp))),Z (.pl (.dict (Zm (encM M)))),Z_])=_;unfold Zdz;refine ZR (P:=λq=>ZH q=_) (r':=[Z (.pl (.list (g.map Zbp))),Z (.pl (.dict (Zm (encM M)))),Z (.ol (ns.map dI))]) ?_ ?_
 ·unfold ZT Zz
  rw[h1];dsimp only;rw[if_pos hlen,h2];rfl
 ·have h3:op2 gEq (Zbe (Zo 2)) (Zbe (Zo 0)) [Z (.pl (.list (g.map Zbp))),Z (.pl (.dict (Zm (encM M)))),Z (.ol (ns.map dI))]=Z (.bool (decide (ns.length=g.length))):=by
   show gEq (.int ((ns.map dI).length:Int)) (.int ((g.map Zbp).length:Int))=_;rw[Zyj,Zyj]
   by_cases e:ns.length=g.length
   ·rw[e,Zj0 (ZcM 1 _) (by decide)]
    simp
   ·rw[Zi2 (ZcM 1 _) (ZcM 1 _) (by decide) (by decide) (λz=>e (by injection z with z; omega))]
    simp[e]
  have h4:ZkE (Zo 2) [Z (.pl (.list (g.map Zbp))),Z (.pl (.dict (Zm (encM M)))),Z (.ol (ns.map dI))]=ns.max?.map λi=>ZyV i:=by show(match Zas (ns.map dI)with | some ns=>ns.max?.map λi=>ZyV i | none=>Z_)=_;rw[Zc6]
  unfold ZA eIf tV;rw[h3];unfold Zcp;rw[hN]
  by_cases e:ns.length=g.length
  ·rw[if_pos (hfl.mp e),decide_eq_true e]
   show ZH (ZzY Out.rt (ZkE (Zo 2) _))=_;rw[h4];have hne:ns≠[]:=λz=>by rw[z]at e;exact h0 (ZzT e.symm)
   cases hq:ns.max? with
   | none=>rw[ZDi]at hq; exact absurd hq hne
   | some m=>rfl
  ·rw[if_neg λz=>e (hfl.mpr z),decide_eq_false e]
   rfl
theorem Zph{y:Wy}(hy:y.2.length<1000)(h0:y.2≠[])(M:Tb):Zdq [wyD y,.dict (Zm (encM M))]=Z (oI (cbD y M)):=by
 have h:=Zga hy h0 (M:=M);have h':Zaj [.list (y.2.map Zbp),.dict (Zm (encM M))]=Z (oI (Zcp (wyP y) M)):=h;show ZH (Zgy [Z (.pl (wyD y)),Z (.pl (.dict (Zm (encM M)))),Z_])=_;unfold Zgy cbD;refine ZR (P:=λq=>ZH q=_) (r':=[Z (.pl (wyD y)),Z (.pl (.dict (Zm (encM M)))),Z (.pl (oI (Zcp (wyP y) M)))]) ?_ ?_
 ·unfold ZU Zh
  show ZzY _ (Zaj [.list (y.2.map Zbp),.dict (Zm (encM M))])=_;rw[h'];rfl
 ·cases Zcp (wyP y) M<;>rfl
def ZiN(w:Wk)(ls:List Int)(L:List (List Int))(M:Tb):Prop:=∃t,Zhz w ls L t M/\Zfv w ls L M=[]
theorem ZkK{m:Int}(h:Zcp ps M=Z m):(∀p∈ps,∃k,Zn M p=Z k/\k<=m)/\∃p∈ps,Zn M p=Z m:=by
 unfold Zcp at h;split at h
 ·rename_i ha
  obtain⟨m1,m2⟩:=ZDe.mp h;refine⟨λp hp=>?_,?_⟩
  ·have hh:=Zys.mp ha p hp
   unfold ZN at hh;obtain⟨k,hk⟩:=Zzg.mp hh;exact⟨k,hk,m2 _ (ZzG.mpr ⟨p,hp,hk⟩)⟩
  ·obtain⟨p,hp,e⟩:=ZzG.mp m1
   exact⟨p,hp,e⟩
 ·cases h
theorem ZkB(h0:ps≠[])(h:Zcp ps M=Z_):ps.all (ZN M)=ZDD:=by
 cases hq:ps.all (ZN M)with
 | false=>rfl
 | true=>unfold Zcp at h;rw[hq,if_pos rfl,ZDi]at h;obtain⟨p,r,rfl⟩:=ZCu h0;have hh:=Zys.mp hq p (Zyo ..);unfold ZN at hh;obtain⟨k,hk⟩:=Zzg.mp hh;rw[ZzB,hk]at h;cases h
section
variable{w:Wk}{ls:List Int}{L:List (List Int)}(hL:Ze1 w ls L)(hne:∀c∈L,c≠[])
include hL hne
theorem ZqO{t:Nat}(T:Zhz w ls L t M)(hc:c∈L)(hn:ZN M c=ZDD):Zcq cbD (wfV w ls c) M=if Zfb w ls c M then Z ((t+1:Nat):Int)else Z_:=by
 have known:∀{p:List Int} {k:Int},Zn M p=Z k->∃n:Nat,k=(n:Int)/\n<=t/\Win w ls n p=ZDC:=λ{p k} h=>by
  rw[T.look]at h;split at h
  ·obtain⟨n,h1,h2,h3,_⟩:=ZkM h
   exact⟨n,h1,h2,h3⟩
  ·cases h
 have val:∀y∈wfV w ls c,∀k,cbD y M=Z k->k=((t+1:Nat):Int)/\Zfb w ls c M=ZDC:=λy hy k hk=>by
  obtain⟨d,hd,rfl⟩:=Zyy.mp hy;obtain⟨d0,d1,d2⟩:=ZeL hd;have e:((d.toNat:Nat):Int)=d:=ZB7 d0;obtain⟨m,h1,h2⟩:=Zyl.mp hk;have h1:Zcp (ZY w ls (Zau w c d)) M=Z m:=h1;obtain⟨w1,p,hp,w2⟩:=ZkK h1;obtain⟨n,rfl,hnt,_⟩:=known w2;refine⟨?_,Zzi.mpr ⟨d.toNat,ZyJ.mpr (by omega),?_⟩⟩
  ·subst h2
   by_cases hlt:n<t
   ·-- then the crowd would be known already
    have hw:Win w ls (n+1) c=ZDC:=by show(Z3 w c||_)=ZDC;rw[ZzQ];refine .inr (Zzi.mpr ⟨d.toNat,ZyJ.mpr (by omega),?_⟩);rw[e,d2,ZDq];refine Zys.mpr λq hq=>?_;obtain⟨k,k1,k2⟩:=w1 q hq;obtain⟨n',rfl,_,hw'⟩:=known k1;exact Zge (by omega) hw'
    have:ZN M c=ZDC:=by unfold ZN;rw[T.look,if_pos hc,ZcB];exact Zge (by omega) hw
    rw[hn]at this;cases this
   ·show(n:Int)+1=_
    omega
  ·rw[e,d2,ZDq]
   refine Zys.mpr λq hq=>?_;obtain⟨k,k1,_⟩:=w1 q hq;unfold ZN;rw[k1];rfl
 have all_eq:∀k∈(wfV w ls c).filterMap (λy=>cbD y M),k=((t+1:Nat):Int)/\Zfb w ls c M=ZDC:=λk hk=>by obtain⟨y,hy,e⟩:=ZzG.mp hk;exact val y hy k e
 unfold Zcq;cases hcan:Zfb w ls c M with
 | false =>
  have:(wfV w ls c).filterMap (λy=>cbD y M)=[]:=List.eq_nil_iff_forall_not_mem.mpr λk hk=>by have:=(all_eq k hk).2;rw[hcan]at this;cases this
  rw[this];rfl
 | true =>
  obtain⟨d,hd,hq⟩:=Zzi.mp hcan;rw[ZyE]at hq;have hd':=ZyJ.mp hd;have hy:Zlm w ls c (d:Int)∈wfV w ls c:=Zyy.mpr ⟨(d:Int),ZpP hd' hq.1,rfl⟩;have hpn:ZY w ls (Zau w c d)≠[]:=ZhJ (ZoK (hne c hc) hq.1);have hk:∃k,cbD (Zlm w ls c d) M=Z k:=by
   unfold cbD;cases hw:Zcp (wyP (Zlm w ls c d)) M with
   | none=>have:=ZkB hpn hw;rw[show(ZY w ls (Zau w c d)).all (ZN M)=ZDC from hq.2]at this;cases this
   | some m=>exact⟨m+1,rfl⟩
  obtain⟨k,hk⟩:=hk;have hm:k∈(wfV w ls c).filterMap (λy=>cbD y M):=ZzG.mpr ⟨_,hy,hk⟩;cases hmin:((wfV w ls c).filterMap λy=>cbD y M).min? with
  | none=>rw[ZDh]at hmin; rw[hmin]at hm; simp at hm
  | some m=>have:=(ZBP.mp hmin).1;rw[(all_eq m this).1];rfl
theorem ZsV{t:Nat}(T:Zhz w ls L t M):ZaD (wfV w ls) cbD L M=(Zfv w ls L M).map λc=>(c,((t+1:Nat):Int)):=by
 unfold ZaD Zfv;have key:∀K:List (List Int),(∀c∈K,c∈L)->(K.filterMap λc=>if ZN M c then Z_ else(Zcq cbD (wfV w ls c) M).map λk=>(c,k))=(K.filter λc=>!ZN M c&&Zfb w ls c M).map λc=>(c,((t+1:Nat):Int)):=by
  intro K
  induction K with
  | nil=>intro _; rfl
  | cons c K ih =>
   intro hK;have ih:=ih λx hx=>hK x (Zyq _ hx);rw[ZzB,ZAH];cases hh:ZN M c with
   | true=>simpa using ih
   | false =>
    have hle:=ZqO hL hne T (hK c (Zyo ..)) hh;rw[hle];cases hcan:Zfb w ls c M with
    | false=>simpa [hcan]using ih
    | true=>simpa [hcan]using ih
 exact key L λ_ h=>h
theorem Zuu{k:Option Int}{found:List (List Int)}(r:ZjY (wfV w ls) cbD L M k found R):∀t:Nat,(found=[]->Zhz w ls L t M/\Zfv w ls L M=[])->(found≠[]->k=Z (t:Int)/\Zhz w ls L t (Zbg found t M))->ZiN w ls L R:=by
 induction r with
 | done=>intro t h _; exact⟨t,h rfl⟩
 | @step M R k found hf _ ih =>
  intro t _ h;obtain⟨hk,T⟩:=h hf;cases hk;have ho:=ZsV hL hne T;have hmin:∀ms:List (List Int),Zfe (ms.map λc=>(c,((t+1:Nat):Int)))=ms/\(ms≠[]->ZbX (ms.map λc=>(c,((t+1:Nat):Int)))=Z ((t+1:Nat):Int)):=λms=>by
   cases ms with
   | nil=>exact⟨rfl,λz=>absurd rfl z⟩
   | cons c ms =>
    have hO:ZbX ((c::ms).map λc=>(c,((t+1:Nat):Int)))=Z ((t+1:Nat):Int):=by unfold ZbX;rw[ZyM];refine ZBP.mpr ⟨Zyy.mpr ⟨c,Zyo ..,rfl⟩,λb hb=>?_⟩;obtain⟨c',_,rfl⟩:=Zyy.mp hb;exact Int.le_refl _
    refine⟨?_,λ_=>hO⟩;unfold Zfe;rw[hO];have:∀xs:List (List Int),((xs.map λc=>(c,((t+1:Nat):Int))).filter λp=>Z p.2==Z ((t+1:Nat):Int)).map (·.1)=xs:=by
     intro xs
     induction xs with
     | nil=>rfl
     | cons x xs ih=>simp at ih ⊢; exact ih
    exact this _
  obtain⟨m1,m2⟩:=hmin (Zfv w ls L (Zbg found t M));rw[ho,m1]at ih;refine ih (if Zfv w ls L (Zbg found t M)=[]then t else t+1) (λe=>?_) λe=>?_
  ·rw[if_pos e]
   exact⟨T,e⟩
  ·rw[if_neg e]
   exact⟨m2 e,Zn3 hL T⟩
theorem Ztb(hv:Wk.V w)(r:ZjY (wfV w ls) cbD L [] (Z 0) (L.filter λc=>Z3 w c) R):ZiN w ls L R:=by
 refine Zuu hL hne r 0 (λe=>?_) λ_=>⟨rfl,ZnV⟩;have T:Zhz w ls L 0 (M0 w L):=ZnV;have e0:M0 w L=[]:=by unfold M0; rw[e]; rfl
 rw[e0]at T;refine⟨T,ZBC.mpr λc hc h=>?_⟩;rw[ZyE]at h;obtain⟨d,hd,hq⟩:=Zzi.mp h.2;rw[ZyE]at hq;obtain⟨p,hp⟩:=ZCJ _ (ZhJ (w:=w) (ls:=ls) (ZoK (hne c hc) hq.1));have:=Zys.mp hq.2 p hp;cases this
end
theorem ZnE{w:Wk}(hv:Wk.V w){ap:AP}(A:ApD ap){ls:List Int}{L:List (List Int)}(hnd:L.Nodup)(hcr:∀c∈L,Cr w.many c/\c≠[])(hlen:L.length<=128)(hL:Ze1 w ls L):∃M,Zd7 ap [w.d,.dict (Zm (Zrb w ls L))]=Z (.dict (Zm (encM M)))/\ZiN w ls L M:=by
 have hys:∀c∈L,(wfV w ls c).length<1000:=λc hc=>by unfold wfV;rw[Zyj];have:=Zly w c;have:=hv.d2;omega
 obtain⟨R,e,r⟩:=Zpn hv (ap:=ap) (wf:=wfV w ls) (t:=0) (cs:=[]) (cb:=cbD) hnd hlen (λc hc=>(hcr c hc).1) hys λc hc y hy M=>by
  rw[A.d0];obtain⟨d,hd,rfl⟩:=Zyy.mp hy;obtain⟨d0,d1,d2⟩:=ZeL hd;refine Zph ?_ ?_ M
  ·have:=split_len (w:=w) (ls:=ls) (c:=Zau w c d)
   have:=(Zfy hv (hcr c hc).1 d0 d1).len;have:=hv.m2;show(ZbQ w ls (Zau w c d)).length<1000;omega
  ·exact λz=>ZhJ (w:=w) (ls:=ls) (ZoK (hcr c hc).2 d2) (by unfold ZY; rw[show ZbQ w ls (Zau w c d)=[] from z]; rfl)
 refine⟨R,?_,Ztb hL (λc hc=>(hcr c hc).2) hv r⟩;show ZH (ZfD ap [Z (.pl w.d),Z (.pl (.dict (Zm (Zrb w ls L))))])=_;unfold ZfD ZA Zh;show ZH (ZzY Out.rt (Zdp ap [w.d,.dict (Zm (Zt (wfV w ls) L)),fnD 0 []]))=_;rw[e];rfl
end HG5
namespace HG5
open PySem HM HG HG4
variable{L:List (List Int)}{c ls:List Int}{M:Tb}{w:Wk}
theorem ZiN.cost(F:ZiN w ls L M){k:Int}(h:Zn M c=Z k):c∈L/\∃n:Nat,k=(n:Int)/\Win w ls n c=ZDC/\∀m,m<n->Win w ls m c=ZDD:=by
 obtain⟨t,T,_⟩:=F;rw[T.look]at h;split at h
 ·rename_i hc
  obtain⟨n,h1,_,h2,h3⟩:=ZkM h;exact⟨hc,n,h1,h2,h3⟩
 ·cases h
theorem ZiN.all(hL:Ze1 w ls L)(F:ZiN w ls L M)(hc:c∈L){n:Nat}(h:Win w ls n c=ZDC):ZN M c=ZDC:=by
 obtain⟨t,T,hm⟩:=F;have T':=Zn3 hL T;rw[hm]at T';have st:∀c∈L,Win w ls (t+1) c=ZDC->Win w ls t c=ZDC:=λc hc q=>by have e1:=T.look c;have e2:=T'.look c;rw[if_pos hc]at e1 e2;have e3:Zcd w ls t c=Zcd w ls (t+1) c:=e1.symm.trans e2;rw[<-ZcB,e3,ZcB];exact q
 have:=ZhR hL st n c hc h;unfold ZN;rw[T.look,if_pos hc,ZcB];exact this
def ZxR(w:Wk)(ls:List Int)(P:List (List Int))(d:D):Prop:=(∃n:Nat,d=.int n/\(∀p∈P,Win w ls n p=ZDC)/\∀m,m<n->¬∀p∈P,Win w ls m p=ZDC)\/(d=.none/\∀n,¬∀p∈P,Win w ls n p=ZDC)
theorem ZtL(hL:Ze1 w ls L)(F:ZiN w ls L M){g:Gs}(hg:g.length<1000)(h0:g≠[])(hp:∀p∈g.map (·.2),p∈L):∃d,Zaj [.list (g.map Zbp),.dict (Zm (encM M))]=Z d/\ZxR w ls (g.map (·.2)) d:=by
 rw[Zga hg h0];refine⟨_,rfl,?_⟩;have hne:g.map (·.2)≠[]:=λe=>h0 (List.map_eq_nil_iff.mp e);cases hq:Zcp (g.map (·.2)) M with
 | none=>refine .inr ⟨rfl,λn hn=>?_⟩;have h1:=ZkB hne hq;have:(g.map (·.2)).all (ZN M)=ZDC:=Zys.mpr λp h=>F.all hL (hp p h) (hn p h);rw[h1]at this;cases this
 | some m =>
  obtain⟨w1,p,hpm,w2⟩:=ZkK hq;obtain⟨_,n,rfl,k3,k4⟩:=F.cost w2;refine .inl ⟨n,rfl,λq hq'=>?_,λj hj hw=>?_⟩
  ·obtain⟨k,a1,a2⟩:=w1 q hq'
   obtain⟨_,n',rfl,a3,_⟩:=F.cost a1;exact Zge (by omega) a3
  ·have:=hw p hpm
   rw[k4 j hj]at this;cases this
section
variable{w:Wk}(hv:Wk.V w)(h7:w.many<=7){ls:List Int}(hl:Cr w.looks.length ls)
include hv h7 hl
theorem Zcu{ap:AP}(A:ApD ap):∃d,Z8 ap [w.d,tupI ls]=Z d/\Few w ls d:=by obtain⟨L,hco,hnd,hlen,hcr,_,hL,hbg⟩:=Zhc hv h7 hl A hv.bc;obtain⟨M,hde,F⟩:=ZnE hv A hnd hcr hlen hL;have hpa:=ZiX hv hl hv.bc;have hsl:=split_len (w:=w) (ls:=ls) (c:=w.beg);have hbl:=hv.bc.len;have hsn:ZbQ w ls w.beg≠[]:=λe=>ZhJ (w:=w) (ls:=ls) hv.b1 (by unfold ZY; rw[e]; rfl);obtain⟨d,hm,fw⟩:=ZtL hL F (g:=ZbQ w ls w.beg) (by omega) hsn hbg;refine⟨d,?_,fw⟩;have hc1:=Zft hv;have hc2:=Zj2 hv hl;have hb:=ZjH w;show ZH (Zip ap [Z (.pl w.d),Z (.pl (tupI ls)),Z_,Z_])=_;simp[Zip,hc1,hc2,hb,hco,hde,hpa,hm,ZH]
end
theorem ZhZ:ApD ap:=⟨λ_=>rfl,λ_ _=>rfl⟩
end HG5
namespace HG22
open PySem HM HG4
open HG
open HG5
def ZcI(ap:AP):SF :=
 (Zu (ZkS (Zh ZaX (Za (Zc 0) Zg)))
  (Zu (ZU 1 (ZeE (ZbV (Zh ZbI (Za (Zc 0) Zg)))))
  (ZA (Zh (Z8 ap) (Za (Zac (Za (Zh ZbI (Za (Zc 0) Zg)) (Za (Zh ZaM (Za (Zc 0) Zg)) (Za (Zac (Za (Zc 1) Zg)) (Za (Zh ZcO (Za (Zc 0) Zg)) (Za (Zh Zcz (Za (Zc 0) Zg)) Zg)))))) (Za (Zac (Za (eC (.int 0)) Zg)) Zg))))))
def Zbb(ap:AP):List D->Option D:=fnOf 1 2 (ZcI ap)
end HG22
namespace HG22
open PySem HM HG4
open HG
open HG5
variable{s:Int}{w:Wk}
def ZdJ(w:Wk):Wk:={ w with looks:=[(Zyp w.many).map λ(k:Nat)=>(k:Int)] }
theorem ZmH(hv:Wk.V w):Wk.V (ZdJ w):=by
 refine⟨hv.m1,hv.m2,hv.d1,hv.d2,hv.dl,hv.dc,by simp[ZdJ],λl hl=>?_,λl hl x hx=>?_,hv.b1,hv.bc,hv.gc⟩
 ·have:l=(Zyp w.many).map λ(k:Nat)=>(k:Int):=by simpa [ZdJ]using hl
  rw[this];simp[ZdJ]
 ·have:l=(Zyp w.many).map λ(k:Nat)=>(k:Int):=by simpa [ZdJ]using hl
  rw[this]at hx;obtain⟨k,hk,rfl⟩:=Zyy.mp hx;have:=ZyJ.mp hk;have:=hv.m2;omega
theorem Zj4(h0:0<=s)(h1:s<(w.many:Int)):ZC (ZdJ w) [0] s=[s]:=by
 have:((Zyp w.many).map λ(k:Nat)=>(k:Int))[s.toNat]?=Z s:=by rw[ZyI,List.getElem?_range (by omega)];simp;omega
 simp[ZC,ZdJ,ZkC,this]
def SW(w:Wk)(n:Nat)(s:Int):Bool:=Win (ZdJ w) [0] n [s]
theorem Zx3(h0:0<=s)(h1:s<(w.many:Int)):Cr w.many [s]:=⟨by simp,λx hx=>by rw[Zyt.mp hx]; exact⟨h0,h1⟩⟩
theorem Zx1(w:Wk)(s:Int):SW w 0 s=w.goal.contains s:=by show([s].all λs=>w.goal.contains s)=_;rw[ZzD,ZB1,Bool.and_true]
def Zyb(w:Wk)(n:Nat)(s:Int)(r:List Int):Bool:=!r.isEmpty&&r.all (SW w n)
abbrev Ti:=List (Int × Int)
def Zyh(M:Ti):List (Ky × D):=M.map λp=>(Zz1 p.1,dI p.2)
def ZqY(M:Ti)(s:Int):Bool:=(Zn M s).isSome
def Zyf(w:Wk)(t:Nat)(M:Ti):Prop:=∀s,Zn M s=if 0<=s/\s<(w.many:Int)then Zcd (ZdJ w) [0] t [s]else Z_
def Zx4(v:Int)(ss:List Int)(M:Ti):Ti:=ss.foldl (λM s=>putD M s v) M
def Zt0(M:Ti)(s:Nat)(dd:List (List Int)):Bool:=!(dd[s]?.getD []).isEmpty&&(dd[s]?.getD []).all (ZqY M)
def Zx8(w:Wk)(M:Ti):List Nat:=(Zyp w.many).filter λs=>!ZqY M s&&w.deeds.any (Zt0 M s)
end HG22
namespace HG22
open PySem HM HG4
open HG
open HG5
theorem ZxY(dd:List (List Int)):nbD 2 (ZB dd)=ZDC:=ZvY λd hd=>by obtain⟨c,_,rfl⟩:=Zyy.mp hd;exact ZeG 0 c
theorem Zlv(r:List Int):gNe (tupI r) (.tuple [])=Z (.bool (!r.isEmpty)):=by
 cases r with
 | nil=>exact ZjR (ZeG 0 []) (by decide)
 | cons x r=>exact Zoe (ZeG 0 _) (ZeG 0 []) (by decide) (by decide) (by simp)
section
variable{ap:AP}{w:Wk}(hv:Wk.V w){M:Ti}
include hv
abbrev Zyd(w:Wk)(M:Ti):Nat->Bool:=λ(s:Nat)=>!ZqY M (s:Int)&&w.deeds.any (Zt0 M s)
end
end HG22
namespace HG22
open PySem HM HG4
open HG
open HG5
theorem ZxQ(l:List Nat):l.map dN=(l.map λ(k:Nat)=>(k:Int)).map dI:=by rw[ZyM]; rfl
theorem Zwr(w:Wk):Cr (ZdJ w).looks.length [0]:=⟨by simp,λx hx=>by rw[Zyt.mp hx]; exact⟨by decide,by show(0:Int)<((1:Nat):Int); decide⟩⟩
theorem Zib{ap:AP}(A:ApD ap){w:Wk}(hv:Wk.V w)(h7:w.many<=7):∃d,Zbb ap [w.d]=Z d/\Few (ZdJ w) [0] d:=by
 obtain⟨d,e,f⟩:=Zcu (ZmH hv) (show(ZdJ w).many<=7 from h7) (Zwr w) A;refine⟨d,?_,f⟩;have e1:=Zft hv;have e2:=Zoq w;have e3:=ZeX w;have e4:=ZjH w;have e5:=ZkD w;have e6:Z8 ap [.tuple [.int w.many,.tuple (w.deeds.map ZB),.tuple [tupI ((Zyp w.many).map λ(k:Nat)=>(k:Int))],tupI w.beg,tupI w.goal],.tuple [.int 0]]=Z d:=e;have e7:ZeE (ZbV (Zh ZbI (Za (Zc 0) Zg))) [Z (.pl w.d),Z_]=Z (tupI ((Zyp w.many).map λ(k:Nat)=>(k:Int))):=by
  have hok:=Zdh (n:=w.many) (by omega);have hb:w.many<1000000:=by omega
  simp[e2,hok,Zai,hb]
 show ZH (ZcI ap [Z (.pl w.d),Z_])=_;unfold ZcI;refine ZR (P:=λq=>ZH q=_) (r':=[Z (.pl w.d),Z_]) (by simp[e1]) ?_;refine ZR (P:=λq=>ZH q=_) (r':=[Z (.pl w.d),Z (.pl (tupI ((Zyp w.many).map λ(k:Nat)=>(k:Int))))]) (by unfold ZU; rw[e7]; rfl) ?_;generalize hR:tupI ((Zyp w.many).map λ(k:Nat)=>(k:Int))=R at *;simp[e2,e3,e4,e5,e6,ZH]
end HG22
namespace HG17
open PySem HM
open HG
open HG4
open HG5
open HG22 (ZcI Zbb)
def Za0:SF :=
 (Zgg 1 (ZT 1 (Zku (Zo 1) (Zz (ZP (bOf (Zc 1))) Z4 (ZX (Zc 0) (Zac (Za (Zc 3) Zg)))))))
def Zew:SF :=
 (Zu (ZT 1 (Zeq (Za (Zac Zg) Zg)))
  (Zu (Zby 2 (ZP (bOf (Zh ZbM (Za (Zc 0) Zg)))) Za0)
  (ZA (eOf (Zgu (Zo 1))))))
def Zbj:List D->Option D:=fnOf 1 3 Zew
def ZfE:SF :=
 (ZA (ZhI (Zz (ZP (bOf (Zc 0))) Z4 (ZjW (Zc 0) (Zo 2)))))
def Za1:List D->Option D:=fnOf 2 2 ZfE
def ZfF(ap:AP):SF :=
 (Zu (ZU 3 (Zh (Z8 ap) (Za (Zc 0) (Za (Zc 1) Zg))))
  (ZA (ZfZ (op2 Zen (Zc 3) (eC .none)) (op2 gLe (Zc 3) (Zc 2)))))
def Za2(ap:AP):List D->Option D:=fnOf 3 4 (ZfF ap)
def Za3(ap:AP):SF :=
 (sIf (ZsT 2 (Zka (ZbZ (tV (Zlj (Zz (ZP (bOf (Zc 2))) Z4 (Zh Za1 (Za (Zc 0) (Za (Zc 4) Zg))))))) (tV (Zh (Za2 ap) (Za (Zc 0) (Za (Zc 3) (Za (Zc 1) Zg))))))) (ZdQ 2 (Zc 3)) Zar)
def Zex(ap:AP):SF :=
 (Zu (ZT 2 (Zeq Zg))
  (Zu (Zby 3 (ZP (bOf (Zh Zbj (Za (Zc 0) Zg)))) (Za3 ap))
  (Zgg 2 (ZA (Zc 2)))))
def Zdb(ap:AP):List D->Option D:=fnOf 2 4 (Zex ap)
def Zhm(ap:AP):SF :=
 (Zu (ZkS (Zh ZaX (Za (Zc 0) Zg)))
  (ZA (Zh (Zdb ap) (Za (Zc 0) (Za (eC (.int 999)) Zg)))))
def Zdc(ap:AP):List D->Option D:=fnOf 1 1 (Zhm ap)
def Zcj:SF :=
 (Zu (sIf (tV (op2 ZqF (Zc 1) (eC .none))) (ZA (eC (.bool ZDC))) Zar)
  (ZA (ZfZ (op2 Zen (Zc 0) (eC .none)) (op2 gLe (Zc 0) (Zc 1)))))
def Z0:List D->Option D:=fnOf 2 2 Zcj
def ZmX(ap:AP):SF :=
 (Zu (ZU 1 (Zh ZaY (Za (Zc 0) (Za (eC (.int 2)) Zg))))
  (Zu (ZU 2 (Zh Zch (Za (Zc 1) (Za (Zh ZK (Za (Zc 0) (Za (eC (.int 0)) Zg))) Zg))))
  (Zu (ZU 3 (Zh Zch (Za (Zc 1) (Za (Zh ZK (Za (Zc 0) (Za (eC (.int 1)) Zg))) Zg))))
  (Zu (ZU 4 (Z2 (Zbo (ZX (Zc 2) (Zc 3)))))
  (Zu (ZU 5 (Zh (Z8 ap) (Za (Zc 1) (Za (Zc 2) Zg))))
  (Zu (sIf (tOr (ZbZ (tV (Zh Z0 (Za (Zh (Z8 ap) (Za (Zc 1) (Za (Zc 4) Zg))) (Za (Zc 5) Zg))))) (ZbZ (tV (Zh Z0 (Za (Zc 5) (Za (Zh (Z8 ap) (Za (Zc 1) (Za (Zac Zg) Zg))) Zg)))))) (ZA (eC (.bool ZDD))) Zar)
  (Zu (sIf (ZbZ (tV (Zh Z0 (Za (Zh (Zbb ap) (Za (Zc 1) Zg)) (Za (Zc 5) Zg))))) (ZA (eC (.bool ZDD))) Zar)
  (Zu (ZT 6 (Zz (ZP (bOf (Zh (Zdc ap) (Za (Zc 1) Zg)))) (tV (op2 gEq (eOf (Zz (ZP (bOf (Zc 0))) (tV (ZeN (Zc 0) (Zo 4))) (Zc 0))) (eOf (Zeq Zg)))) (Zc 0)))
  (Zu (Zgg 6 (sIf (tV (op2 gNe (op2 gNe (Zc 6) (eOf (Zeq Zg))) (op2 Zen (Zc 5) (eC .none)))) (ZA (eC (.bool ZDD))) Zar))
  (Zu (ZU 7 (op2 ZqQ (Zh ZK (Za (Zc 0) (Za (eC (.int 1)) Zg))) (eIx (Zo 1) (eC (.int 0)))))
  (Zu (ZU 8 (ZX (Zdx (Zc 1) Z_ (Z (eC (.int 4)))) (Zac (Za (Z2 (Zbo (ZX (eIx (Zo 1) (eC (.int 4))) (Zac (Za (Zc 7) Zg))))) Zg))))
  (Zu (sIf (ZbZ (tV (Zh Z0 (Za (Zh (Z8 ap) (Za (Zc 8) (Za (Zc 2) Zg))) (Za (Zc 5) Zg))))) (ZA (eC (.bool ZDD))) Zar)
  (Zu (ZU 9 (Z2 (Zz (ZP (bOf (eIx (Zo 1) (eC (.int 3))))) (tV (op2 gNe (Zc 0) (Zc 8))) (Zc 0))))
  (Zu (sIf (tV (op2 gNe (Zc 9) (Zac Zg))) (Zu (ZU 10 (ZX (ZX (Zdx (Zc 1) Z_ (Z (eC (.int 3)))) (Zac (Za (Zc 9) Zg))) (Zdx (Zc 1) (Z (eC (.int 4))) Z_)))
  (sIf (ZbZ (tV (Zh Z0 (Za (Zh (Z8 ap) (Za (Zc 10) (Za (Zc 2) Zg))) (Za (Zc 5) Zg))))) (ZA (eC (.bool ZDD))) Zar)) Zar)
  (Zu (sIf (tV (op2 gEq (Zbe (bOf (eIx (Zo 1) (eC (.int 1))))) (eC (.int 5)))) (ZA (eC (.bool ZDC))) Zar)
  (Zu (ZU 11 (Zh ZbD (Za (Zh ZK (Za (Zc 0) (Za (eC (.int 0)) Zg))) (Za (eIx (Zo 1) (eC (.int 0))) Zg))))
  (ZA (Zh Z0 (Za (Zh (Z8 ap) (Za (ZX (Zac (Za (eIx (Zo 1) (eC (.int 0))) (Za (ZX (eIx (Zo 1) (eC (.int 1))) (Zac (Za (Zc 11) Zg))) Zg))) (Zdx (Zc 1) (Z (eC (.int 2))) Z_)) (Za (Zc 2) Zg))) (Za (Zc 5) Zg))))))))))))))))))))
def ZfG(ap:AP):List D->Option D:=fnOf 1 12 (ZmX ap)
end HG17
namespace HG17
open PySem HM
open HG
open HG4
open HG5
open HG22 (ZdJ ZmH Zj4 Zbb)
variable{b g la ls:List Int}{n:Nat}{w:Wk}
structure Mor(w v:Wk)(ls la:List Int):Prop where
 many:v.many=w.many
 goal:∀x∈w.goal,x∈v.goal
 len:w.deeds.length<=v.deeds.length
 row:∀d,d<w.deeds.length->v.deeds[d]?=w.deeds[d]?
 seen:∀x y:Int,0<=x->x<(w.many:Int)->0<=y->y<(w.many:Int)->ZC v la x=ZC v la y->ZC w ls x=ZC w ls y
section
variable{w v:Wk}{ls la:List Int}(M:Mor w v ls la)
include M
theorem Mor.rows{d:Nat}(hd:d<w.deeds.length)(s:Int):ZbY v (d:Int) s=ZbY w (d:Int) s:=by unfold ZbY;rw[ZAZ,M.row d hd]
theorem Mor.there{c c':List Int}(h:∀x∈c',x∈c)(q:Z3 w c=ZDC):Z3 v c'=ZDC :=
 Zys.mpr λs hs=>by have:=Zys.mp q s (h s hs);rw[ZDj]at this ⊢;exact M.goal s this
theorem Mor.win(hv:Wk.V v):∀(n:Nat) (c c':List Int),Cr v.many c'->(∀x∈c',x∈c)->Win w ls n c=ZDC->Win v la n c'=ZDC
 | 0,c,c',_,h,q=>M.there h q
 | n+1,c,c',hc,h,q=>by
  have q:(Z3 w c||(Zyp w.deeds.length).any λd=>ZbW w c d&&(ZY w ls (Zau w c d)).all λp=>Win w ls n p)=ZDC:=q;show(Z3 v c'||(Zyp v.deeds.length).any λd=>ZbW v c' d&&(ZY v la (Zau v c' d)).all λp=>Win v la n p)=ZDC;rw[ZzQ]at q ⊢;rcases q with q | q
  ·exact .inl (M.there h q)
  ·right
   obtain⟨d,hd,q⟩:=Zzi.mp q;have hd:=ZyJ.mp hd;have hd':=ZyO hd M.len;rw[ZyE]at q;refine Zzi.mpr ⟨d,ZyJ.mpr hd',?_⟩;rw[ZyE];have hled:∀x∈Zau v c' d,x∈Zau w c d:=λx hx=>by obtain⟨s,hs,hr⟩:=Zlt.mp hx;rw[M.rows hd]at hr;exact Zlt.mpr ⟨s,h s hs,hr⟩
   have hlc:Cr v.many (Zau v c' d):=Zfy hv hc (by omega) (by omega);refine⟨Zys.mpr λs hs=>?_,Zys.mpr λp' hp'=>?_⟩
   ·have:=Zys.mp q.1 s (h s hs)
    rw[M.rows hd];exact this
   ·obtain⟨s,hs,rfl⟩:=ZdT.mp hp'
    refine Mor.win hv n (ZkG w ls (Zau w c d) s) _ (Zkv _ hlc) (λx hx=>?_) (Zys.mp q.2 _ (ZdT.mpr ⟨s,hled s hs,rfl⟩));obtain⟨h1,h2⟩:=ZyW.mp hx;refine ZyW.mpr ⟨hled x h1,beq_iff_eq.mpr ?_⟩;have b1:=hlc.2 x h1;have b2:=hlc.2 s hs;rw[M.many]at b1 b2;exact M.seen x s b1.1 b1.2 b2.1 b2.2 (beq_iff_eq.mp h2)
theorem Mor.winB(hv:Wk.V v)(hb:∀x∈v.beg,x∈w.beg)(h:ZgM w ls n):ZgM v la n:=λp hp=>by obtain⟨s,hs,rfl⟩:=ZdT.mp hp;refine M.win hv n (ZkG w ls w.beg s) _ (Zkv _ hv.bc) (λx hx=>?_) (h _ (ZdT.mpr ⟨s,hb s hs,rfl⟩));obtain⟨h1,h2⟩:=ZyW.mp hx;refine ZyW.mpr ⟨hb x h1,beq_iff_eq.mpr ?_⟩;have b1:=hv.bc.2 x h1;have b2:=hv.bc.2 s hs;rw[M.many]at b1 b2;exact M.seen x s b1.1 b1.2 b2.1 b2.2 (beq_iff_eq.mp h2)
end
theorem Zhi{v:Wk}(h:∀n,ZgM w ls n->ZgM v la n){d e:D}(fd:Few w ls d)(fe:Few v la e):Z0 [e,d]=Z (.bool ZDC):=by
 rcases fd with⟨n,rfl,hn,_⟩ | ⟨rfl,_⟩
 ·rcases fe with⟨m,rfl,_,hm⟩ | ⟨rfl,hm⟩
  ·have:m<=n:=ZAm λq=>hm n q (h n hn)
   have e:decide ((m:Int)<=(n:Int))=ZDC:=decide_eq_true (by omega);show ZH (Zcj [Z (.pl (.int m)),Z (.pl (.int n))])=_;simp[Zcj,ZH,e];omega
  ·exact absurd (h n hn) (hm n)
 ·show ZH (Zcj [Z (.pl e),Z (.pl .none)])=_
  simp[Zcj,ZH]
theorem ZiA(h:∀l∈ls,l∈la):Mor w w ls la:=⟨rfl,λ_ q=>q,Zyr _,λ_ _=>rfl,λx y _ _ _ _ e=>by unfold ZC at *;exact ZzO λl hl=>List.map_inj_left.mp e l (h l hl)⟩
theorem ZuN:Mor w (ZdJ w) ls [0]:=⟨rfl,λ_ q=>q,Zyr _,λ_ _=>rfl,λx y x0 x1 y0 y1 e=>by rw[Zj4 x0 x1,Zj4 y0 y1]at e;rw[List.head_eq_of_cons_eq e]⟩
theorem ZsP(h:∀x∈w.goal,x∈g):Mor w { w with goal:=g } ls ls:=⟨rfl,h,Zyr _,λ_ _=>rfl,λ_ _ _ _ _ _ e=>e⟩
theorem Zuo:Mor w { w with beg:=b } ls ls:=⟨rfl,λ_ q=>q,Zyr _,λ_ _=>rfl,λ_ _ _ _ _ _ e=>e⟩
theorem ZsM(dd:List (List Int)):Mor w { w with deeds:=w.deeds++[dd] } ls ls:=⟨rfl,λ_ q=>q,by rw[ZyA]; exact Nat.le_add_right ..,λd hd=>ZyY hd,λ_ _ _ _ _ _ e=>e⟩
theorem ZvQ(hv:Wk.V w)(h:Cr w.many g):Wk.V { w with goal:=g }:={ hv with gc:=h }
theorem ZwK(hv:Wk.V w)(h:Cr w.many b)(h0:b≠[]):Wk.V { w with beg:=b }:={ hv with b1:=h0,bc:=h }
theorem ZvW(hv:Wk.V w)(h3:w.deeds.length<=4){dd:List (List Int)}(h1:dd.length=w.many)(h2:∀c∈dd,Cr w.many c):Wk.V { w with deeds:=w.deeds++[dd] }:={ hv with
 d1:=by show 1<=(w.deeds++[dd]).length; rw[ZyA,ZzF]; omega
 d2:=by show(w.deeds++[dd]).length<=5; rw[ZyA,ZzF]; omega
 dl:=λx hx=>by
  rcases ZyK.mp hx with q | q
  ·exact hv.dl x q
  ·rw[Zyt.mp q]; exact h1
 dc:=λx hx=>by
  rcases ZyK.mp hx with q | q
  ·exact hv.dc x q
  ·rw[Zyt.mp q]; exact h2 }
theorem Zsz(hv:Wk.V w)(h7:w.many<=7)(hl:Cr w.looks.length ls)(f:Few w ls (.int n)):n<=128:=by
 obtain⟨L,_,_,hlen,_,_,hL,hbg⟩:=Zhc hv h7 hl ZhZ hv.bc;rcases f with⟨m,e,hm,hmin⟩ | ⟨e,_⟩
 ·injection e with e
  obtain rfl:n=m:=by omega
  refine ZAm λq=>hmin L.length (by omega) λp hp=>Zu0 hL (hbg p hp) (hm p hp)
 ·cases e
end HG17
namespace HG17
open PySem HM
open HG
open HG4
open HG5
variable{c:List Int}{w:Wk}
def chV:Nat->List (List Int)
 | 0=>[[]]
 | n+1=>chV n++(chV n).map (·++[(n:Int)])
theorem ZkP:∀n,(chV n).length=2 ^ n
 | 0=>rfl
 | n+1=>by show(chV n++(chV n).map (·++[(n:Int)])).length=_;rw[ZyA,Zyj,ZkP n,Nat.pow_succ]; omega
theorem Cr.up{n m:Nat}(h:n<=m)(hc:Cr n c):Cr m c:=⟨hc.1,λx hx=>by have:=hc.2 x hx; omega⟩
theorem ZmK:∀n,∀c∈chV n,Cr n c
 | 0,c,h=>by rw[Zyt.mp h];exact⟨ZBs,λx hx=>by cases hx⟩
 | n+1,c,h=>by
  rcases ZyK.mp (show c∈chV n++(chV n).map (·++[(n:Int)]) from h)with h | h
  ·exact Cr.up (Nat.le_succ n) (ZmK n c h)
  ·obtain⟨b,hb,rfl⟩:=Zyy.mp h
   have q:=ZmK n b hb;refine⟨ZA5.mpr ⟨q.1,List.pairwise_singleton ..,λx hx y hy=>?_⟩,λx hx=>?_⟩
   ·rw[Zyt.mp hy]; exact(q.2 x hx).2
   ·rcases ZyK.mp hx with hx | hx
    ·have:=q.2 x hx; omega
    ·rw[Zyt.mp hx]; omega
theorem Zkw:∀n (c:List Int),Cr n c->c∈chV n
 | 0,c,h=>by
  cases c with
  | nil=>exact Zyt.mpr rfl
  | cons x r=>have:=h.2 x (Zyo ..); omega
 | n+1,c,h=>by
  show c∈chV n++(chV n).map (·++[(n:Int)]);rw[ZyK];rcases List.eq_nil_or_concat c with rfl | ⟨l,x,rfl⟩
  ·exact .inl (Zkw n [] ⟨ZBs,λx hx=>by cases hx⟩)
  ·rw[List.concat_eq_append]at h ⊢
   obtain⟨h1,h2⟩:=h;obtain⟨p1,_,p3⟩:=ZA5.mp h1;have hx:=h2 x (ZyP _ (Zyt.mpr rfl));have hl:∀y∈l,y<x:=λy hy=>p3 y hy x (Zyt.mpr rfl)
   by_cases e:x=(n:Int)
   ·subst e
    exact .inr (Zyy.mpr ⟨l,Zkw n l ⟨p1,λy hy=>⟨(h2 y (Zy1 _ hy)).1,hl y hy⟩⟩,rfl⟩)
   ·refine .inl (Zkw n _ ⟨h1,λy hy=>⟨(h2 y hy).1,?_⟩⟩)
    rcases ZyK.mp hy with q | q
    ·have:=hl y q; omega
    ·rw[Zyt.mp q]; omega
theorem Zpp(ts:List (List Int)):(ZbU ts).Perm ts:=ZAk ts _
theorem Zoy(l:Int)(e0 e1 e2:Option B):∀(cs:List (List Int)),(∀c∈cs,c.length<1000)->Zag Z4 (ZX (Zc 0) (Zac (Za (Zc 3) Zg))) [e0,e1,Z (.pl (.int l))] (cs.map tupI)=Z ((cs.map (·++[l])).map tupI)
 | [],_=>rfl
 | c::cs,h=>by
  have hc:=h c (Zyo ..);have hb:(c.map λi=>ZyV i).length+[ZyV l].length<big:=by rw[Zyj]; show c.length+1<1000000; omega
  have ih:=Zoy l e0 e1 e2 cs λx hx=>h x (Zyq _ hx);have e:ZX (Zc 0) (Zac (Za (Zc 3) Zg)) (Z (.pl (tupI c))::[e0,e1,Z (.pl (.int l))])=Z (tupI (c++[l])):=by show(if(c.map λi=>ZyV i).length+[ZyV l].length<big then Z (Zzh ((c.map λi=>ZyV i)++[.int l]))else Z_)=_;rw[if_pos hb];unfold tupI;rw[ZyR];rfl
  rw[Zyv,Zag,e,ih];rfl
theorem ZtS(e0:Option B):∀(k n:Nat) (o:Option B),n+k<=5->∃o',Zaq 2 Za0 ((ZC8 n k).map λ(j:Nat)=>ZyV (j:Int)) [e0,Z (.ol ((chV n).map tupI)),o]=Z (.nx [e0,Z (.ol ((chV (n+k)).map tupI)),o'])
 | 0,n,o,_=>⟨o,rfl⟩
 | k+1,n,o,h=>by
  obtain⟨o',ih⟩:=ZtS e0 k (n+1) (Z (.pl (.int n))) (by omega);refine⟨o',?_⟩;have hl:(chV n).length<=32:=by rw[ZkP];exact Zy2 (ZA9 (by omega) (show n<=5 by omega)) (by decide)
  have hcl:∀c∈chV n,c.length<1000:=λc hc=>by have:=(ZmK n c hc).len; omega
  have hs:Za0 [e0,Z (.ol ((chV n).map tupI)),Z (.pl (.int n))]=Z (.nx [e0,Z (.ol ((chV (n+1)).map tupI)),Z (.pl (.int n))]):=by
   have hc:Zz (ZP (bOf (Zc 1))) Z4 (ZX (Zc 0) (Zac (Za (Zc 3) Zg))) [e0,Z (.pl (.list ((chV n).map tupI))),Z (.pl (.int n))]=Z (.ol (((chV n).map (·++[(n:Int)])).map tupI)):=by have hi:ZP (bOf (Zc 1)) [e0,Z (.pl (.list ((chV n).map tupI))),Z (.pl (.int n))]=Z ((chV n).map tupI):=rfl;unfold Zz;rw[hi];dsimp only;rw[if_pos (by rw[Zyj]; show _<1000000; omega),Zoy n e0 _ Z_ _ hcl];rfl
   have hcat:Zku (Zo 1) (Zz (ZP (bOf (Zc 1))) Z4 (ZX (Zc 0) (Zac (Za (Zc 3) Zg)))) [e0,Z (.pl (.list ((chV n).map tupI))),Z (.pl (.int n))]=Z (.ol ((chV (n+1)).map tupI)):=by have hb:Zo 1 [e0,Z (.pl (.list ((chV n).map tupI))),Z (.pl (.int n))]=Z (.pl (.list ((chV n).map tupI))):=rfl;unfold Zku;rw[hb,hc];show(if _<_ then _ else _)=_;rw[if_pos (by rw[Zyj,Zyj,Zyj]; show _<1000000; omega)];show _=Z (B.ol ((chV n++(chV n).map (·++[(n:Int)])).map tupI));rw[ZyR]
   unfold Za0;show ZT 1 _ [e0,Z (.pl (.list ((chV n).map tupI))),Z (.pl (.int n))]=_;unfold ZT;rw[hcat];rfl
  show(match Za0 [e0,Z (.ol ((chV n).map tupI)),Z (.pl (.int n))]with
   | some (.nx r')=>Zaq 2 Za0 ((ZC8 (n+1) k).map λ(j:Nat)=>ZyV (j:Int)) r'
   | some (.ct r')=>Zaq 2 Za0 ((ZC8 (n+1) k).map λ(j:Nat)=>ZyV (j:Int)) r'
   | some (.bk r')=>Z (.nx r')
   | some (.rt d)=>Z (.rt d)
   | none=>Z_)=_
  rw[hs,show n+(k+1)=n+1+k by omega];exact ih
theorem Zlg(hv:Wk.V w):Zbj [w.d]=Z (.list ((ZbU (chV w.looks.length)).map tupI)):=by
 have l2:=hv.l2;have hal:=ZoL hv;obtain⟨o',hgo⟩:=ZtS (Z (.pl w.d)) w.looks.length 0 Z_ (by omega);rw[Nat.zero_add]at hgo;have hl:(chV w.looks.length).length<=16:=by rw[ZkP];exact Zy2 (ZA9 (by omega) l2) (by decide)
 show ZH (Zew [Z (.pl w.d),Z_,Z_])=_;unfold Zew;refine ZR (P:=λq=>ZH q=_) (r':=[Z (.pl w.d),Z (.ol ((chV 0).map tupI)),Z_]) rfl ?_;refine ZR (P:=λq=>ZH q=_) (r':=[Z (.pl w.d),Z (.ol ((chV w.looks.length).map tupI)),o']) ?_ ?_
 ·have hi:ZP (bOf (Zh ZbM (Za (Zc 0) Zg))) [Z (.pl w.d),Z (.ol ((chV 0).map tupI)),Z_]=Z ((ZC8 0 w.looks.length).map λ(j:Nat)=>ZyV (j:Int)):=by
   have:Zh ZbM (Za (Zc 0) Zg) [Z (.pl w.d),Z (.ol ((chV 0).map tupI)),Z_]=Z (tupI (alV w)):=hal;unfold ZP bOf;rw[this];show Z ((alV w).map dI)=_;unfold alV;rw[ZyM,List.range_eq_range'];rfl
  unfold Zby;rw[hi];dsimp only;rw[if_pos (by rw[Zyj,List.length_range']; show _<1000000; omega)];exact hgo
 ·have hs:Zgu (Zo 1) [Z (.pl w.d),Z (.ol ((chV w.looks.length).map tupI)),o']=Z (.ol ((ZbU (chV w.looks.length)).map tupI)):=by
   show(match Zgv ((chV w.looks.length).map tupI)with
    | some ts=>if ts.length<64 then Z (B.ol (ZaG (ZbU ts)))else Z_
    | none=>Z_)=_
   rw[Zn9];show(if _<_ then _ else _)=_;rw[if_pos (by omega)];rfl
  unfold ZA eOf;rw[hs];rfl
theorem ZoA{a b:List Int}(ha:a.length<1000):Za1 [tupI a,tupI b]=Z (.bool (a.all λx=>b.contains x)):=by
 have hb:a.length<1000000:=by omega
 have e:∀r:HM.Env,r[1]?=Z (Z (.pl (tupI b)))->Zag Z4 (ZjW (Zc 0) (Zo 2)) r (a.map dI)=Z (a.map λs=>Zzk (b.contains s)):=λr r1=>by
  rw[Za5 dI (λs=>Zzk (b.contains s))]
  ·intro s _
   simp[r1,ZnQ,Zc6,tupI,-ZAB]
 show ZH (ZfE [Z (.pl (tupI a)),Z (.pl (tupI b))])=_;simp[ZfE,hb,e,ZjX,ZH,tupI,-ZAB]
def Zeu:D->Bool
 | .none=>ZDD
 | _=>ZDC
theorem ZlA{ls:List Int}{d:D}(f:Few w ls d):Zeu d=ZDC↔∃n,ZgM w ls n:=by
 rcases f with⟨n,rfl,hn,_⟩ | ⟨rfl,hn⟩
 ·exact⟨λ_=>⟨n,hn⟩,λ_=>rfl⟩
 ·exact⟨λh=>(by cases h),λ⟨n,h⟩=>absurd h (hn n)⟩
section
variable{w:Wk}(hv:Wk.V w)(h7:w.many<=7)
include hv h7
theorem Znv(hc:Cr w.looks.length c){d:D}(e:Z8 ap [w.d,tupI c]=Z d)(f:Few w c d):Za2 ap [w.d,tupI c,.int 999]=Z (.bool (Zeu d)):=by
 show ZH (ZfF ap [Z (.pl w.d),Z (.pl (tupI c)),Z (.pl (.int 999)),Z_])=_;unfold ZfF;refine ZR (P:=λq=>ZH q=_) (r':=[Z (.pl w.d),Z (.pl (tupI c)),Z (.pl (.int 999)),Z (.pl d)]) (by simp[e]) ?_;rcases f with⟨n,rfl,hn,hm⟩ | ⟨rfl,hn⟩
 ·have hs:=Zsz hv h7 hc (n:=n) (.inl ⟨n,rfl,hn,hm⟩)
  have e:decide ((n:Int)<=999)=ZDC:=decide_eq_true (by omega);simp[ZH,Zeu];omega
 ·simp[ZH,Zeu]
def Zbh(en:List Int->Bool)(T:List (List Int))(c:List Int):List (List Int):=if !(T.any λt=>t.all λx=>c.contains x)&&en c then T++[c]else T
omit hv h7 in
theorem ZpF{en:List Int->Bool}(hen:∀c,Cr w.looks.length c->Za2 ap [w.d,tupI c,.int 999]=Z (.bool (en c)))(hl:w.looks.length<=4):∀(cs T:List (List Int)) (o:Option B),(∀c∈cs,Cr w.looks.length c)->(∀c∈T,Cr w.looks.length c)->T.length+cs.length<1000 ->
  ∃o',Zaq 3 (Za3 ap) (cs.map tupI) [Z (.pl w.d),Z (.pl (.int 999)),Z (.ol (T.map tupI)),o]=Z (.nx [Z (.pl w.d),Z (.pl (.int 999)),Z (.ol ((cs.foldl (Zbh en) T).map tupI)),o'])
 | [],T,o,_,_,_=>⟨o,rfl⟩
 | c::cs,T,o,h1,h2,h3=>by
  have hc:=h1 c (Zyo ..);rw[ZyD]at h3;have hT:∀t∈Zbh en T c,Cr w.looks.length t:=λt ht=>by
   unfold Zbh at ht;split at ht
   ·rcases ZyK.mp ht with q | q
    ·exact h2 t q
    ·rw[Zyt.mp q]; exact hc
   ·exact h2 t ht
  have hTl:(Zbh en T c).length<=T.length+1:=by
   unfold Zbh;split
   ·rw[ZyA]; exact Zyr _
   ·omega
  obtain⟨o',ih⟩:=ZpF hen hl cs (Zbh en T c) (Z (.pl (tupI c))) (λx hx=>h1 x (Zyq _ hx)) hT (by omega);refine⟨o',?_⟩;have hs:Za3 ap [Z (.pl w.d),Z (.pl (.int 999)),Z (.ol (T.map tupI)),Z (.pl (tupI c))]=Z (.nx [Z (.pl w.d),Z (.pl (.int 999)),Z (.ol ((Zbh en T c).map tupI)),Z (.pl (tupI c))]):=by
   have ha:tV (Zlj (Zz (ZP (bOf (Zc 2))) Z4 (Zh Za1 (Za (Zc 0) (Za (Zc 4) Zg))))) [Z (.pl w.d),Z (.pl (.int 999)),Z (.pl (.list (T.map tupI))),Z (.pl (tupI c))]=Z (T.any λt=>t.all λx=>c.contains x):=by
    have hi:ZP (bOf (Zc 2)) [Z (.pl w.d),Z (.pl (.int 999)),Z (.pl (.list (T.map tupI))),Z (.pl (tupI c))]=Z (T.map tupI):=rfl;have hg:Zag Z4 (Zh Za1 (Za (Zc 0) (Za (Zc 4) Zg))) [Z (.pl w.d),Z (.pl (.int 999)),Z (.pl (.list (T.map tupI))),Z (.pl (tupI c))] (T.map tupI)=Z (T.map λt=>Zzk (t.all λx=>c.contains x)):=by rw[Za5 tupI (λt=>Zzk (t.all λx=>c.contains x))];intro t ht;have:=(h2 t ht).len;exact ZoA (by omega)
    have hf:Zz (ZP (bOf (Zc 2))) Z4 (Zh Za1 (Za (Zc 0) (Za (Zc 4) Zg))) [Z (.pl w.d),Z (.pl (.int 999)),Z (.pl (.list (T.map tupI))),Z (.pl (tupI c))]=Z (.ol (T.map λt=>Zzk (t.all λx=>c.contains x))):=by unfold Zz;rw[hi];dsimp only;rw[if_pos (by rw[Zyj]; show _<1000000; omega),hg];rfl
    generalize Zz (ZP (bOf (Zc 2))) Z4 (Zh Za1 (Za (Zc 0) (Za (Zc 4) Zg)))=E at hf ⊢;have hq:=ZjX T (λt=>t.all λx=>c.contains x);unfold tV Zlj;rw[hf];show(match ZzY (λbs=>Zzk (bs.any id)) (Zds (T.map λt=>Zzk (t.all λx=>c.contains x)))with | some (.bool b)=>Z b | _=>Z_)=_;rw[hq];show Z ((T.map λt=>t.all λx=>c.contains x).any id)=_;rw[ZDz];rfl
   have he:tV (Zh (Za2 ap) (Za (Zc 0) (Za (Zc 3) (Za (Zc 1) Zg)))) [Z (.pl w.d),Z (.pl (.int 999)),Z (.pl (.list (T.map tupI))),Z (.pl (tupI c))]=Z (en c):=by have:Zh (Za2 ap) (Za (Zc 0) (Za (Zc 3) (Za (Zc 1) Zg))) [Z (.pl w.d),Z (.pl (.int 999)),Z (.pl (.list (T.map tupI))),Z (.pl (tupI c))]=Z (.bool (en c)):=hen c hc;unfold tV;rw[this]
   generalize hA:tV (Zlj (Zz (ZP (bOf (Zc 2))) Z4 (Zh Za1 (Za (Zc 0) (Za (Zc 4) Zg)))))=A at ha;generalize hB:tV (Zh (Za2 ap) (Za (Zc 0) (Za (Zc 3) (Za (Zc 1) Zg))))=E at he;have ht:ZsT 2 (Zka (ZbZ A) E) [Z (.pl w.d),Z (.pl (.int 999)),Z (.ol (T.map tupI)),Z (.pl (tupI c))]=Z (!(T.any λt=>t.all λx=>c.contains x)&&en c):=by show Zka (ZbZ A) E [Z (.pl w.d),Z (.pl (.int 999)),Z (.pl (.list (T.map tupI))),Z (.pl (tupI c))]=_;generalize (T.any λt=>t.all λx=>c.contains x)=b at ha;cases b<;>simp[ha,he]
   unfold Za3;rw[hA,hB];unfold sIf;rw[ht];unfold Zbh;cases q:(!(T.any λt=>t.all λx=>c.contains x)&&en c)with
   | false=>rfl
   | true =>
    have hb:(T.map tupI).length<big:=by rw[Zyj]; show _<1000000; omega
    show(if(T.map tupI).length<big then _ else _)=_;rw[if_pos hb,if_pos rfl,ZyR];rfl
  show(match Za3 ap [Z (.pl w.d),Z (.pl (.int 999)),Z (.ol (T.map tupI)),Z (.pl (tupI c))]with
   | some (.nx r')=>Zaq 3 (Za3 ap) (cs.map tupI) r'
   | some (.ct r')=>Zaq 3 (Za3 ap) (cs.map tupI) r'
   | some (.bk r')=>Z (.nx r')
   | some (.rt d)=>Z (.rt d)
   | none=>Z_)=_
  rw[hs];exact ih
end
theorem ZlT{en:List Int->Bool}:∀(cs T:List (List Int)),(∀t∈T,en t=ZDC)->∀t∈cs.foldl (Zbh en) T,(t∈T\/t∈cs)/\en t=ZDC
 | [],T,h,t,ht=>⟨.inl ht,h t ht⟩
 | c::cs,T,h,t,ht=>by
  have hT:∀t∈Zbh en T c,(t∈T\/t=c)/\en t=ZDC:=λt ht=>by
   unfold Zbh at ht;split at ht
   ·rename_i q
    rw[ZyE]at q;rcases ZyK.mp ht with z | z
    ·exact⟨.inl z,h t z⟩
    ·rw[Zyt.mp z]; exact⟨.inr rfl,q.2⟩
   ·exact⟨.inl ht,h t ht⟩
  obtain⟨q1,q2⟩:=ZlT cs (Zbh en T c) (λt ht=>(hT t ht).2) t ht;refine⟨?_,q2⟩;rcases q1 with q1 | q1
  ·rcases(hT t q1).1 with z | z
   ·exact .inl z
   ·exact .inr (by rw[z]; exact Zyo ..)
  ·exact .inr (Zyq _ q1)
theorem ZkN{en:List Int->Bool}{T:List (List Int)}{t:List Int}(h:t∈T):t∈Zbh en T c:=by
 unfold Zbh;split
 ·exact Zy1 _ h
 ·exact h
theorem ZhQ{en:List Int->Bool}:∀(cs T:List (List Int)) {t:List Int},t∈T->t∈cs.foldl (Zbh en) T
 | [],_,_,h=>h
 | c::cs,T,t,h=>ZhQ cs (Zbh en T c) (ZkN h)
theorem ZlX{en:List Int->Bool}:∀(cs T:List (List Int)) {c:List Int},c∈cs->en c=ZDC->∃t∈cs.foldl (Zbh en) T,∀x∈t,x∈c
 | [],_,_,h,_=>by cases h
 | b::cs,T,c,h,he=>by
  rcases ZyH.mp h with rfl | h
  ·by_cases q:(T.any λt=>t.all λx=>c.contains x)=ZDC
   ·obtain⟨t,ht,q⟩:=Zzi.mp q
    refine⟨t,ZhQ cs _ (ZkN ht),λx hx=>?_⟩;have:=Zys.mp q x hx
    rwa [ZDj]at this
   ·refine⟨c,ZhQ cs _ ?_,λx hx=>hx⟩
    unfold Zbh;rw[Bool.not_eq_true]at q;rw[q,he];exact ZyP _ (Zyt.mpr rfl)
  ·exact ZlX cs _ h he
theorem ZqG(hv:Wk.V w)(h7:w.many<=7):∃T:List (List Int),Zdc ap [w.d]=Z (.list (T.map tupI))/\T.length<=16/\(∀t∈T,Cr w.looks.length t/\∃n,ZgM w t n)/\∀c,Cr w.looks.length c->(∃n,ZgM w c n)->∃t∈T,∀x∈t,x∈c:=by
 have hc:=Zft hv;have ha:=Zlg hv;have l2:=hv.l2;have hex:∀c,∃d,Cr w.looks.length c->Z8 ap [w.d,tupI c]=Z d/\Few w c d:=λc=>by
  by_cases h:Cr w.looks.length c
  ·obtain⟨d,e,f⟩:=Zcu hv h7 h ZhZ
   exact⟨d,λ_=>⟨e,f⟩⟩
  ·exact⟨.none,λq=>absurd q h⟩
 obtain⟨fd,hfd⟩:=Classical.axiomOfChoice hex;have hen:∀c,Cr w.looks.length c->Za2 ap [w.d,tupI c,.int 999]=Z (.bool (Zeu (fd c))):=λc hcr=>Znv hv h7 hcr (hfd c hcr).1 (hfd c hcr).2;have hp:=Zpp (chV w.looks.length);have hcr:∀c∈ZbU (chV w.looks.length),Cr w.looks.length c:=λc q=>ZmK _ c (hp.mem_iff.mp q);have hlen:(ZbU (chV w.looks.length)).length<=16:=by rw[hp.length_eq,ZkP];exact Zy2 (ZA9 (by omega) l2) (by decide)
 obtain⟨o',hgo⟩:=ZpF (w:=w) (en:=λc=>Zeu (fd c)) hen l2 (ZbU (chV w.looks.length)) [] Z_ hcr (λc q=>by cases q) (by rw[ZBT]; omega);generalize hT:(ZbU (chV w.looks.length)).foldl (Zbh λc=>Zeu (fd c)) []=T at hgo;have hsub:∀t∈T,t∈ZbU (chV w.looks.length)/\Zeu (fd t)=ZDC:=λt ht=>by rw[<-hT]at ht;obtain⟨q1,q2⟩:=ZlT (en:=λc=>Zeu (fd c)) _ [] (λt q=>by cases q) t ht;exact⟨q1.resolve_left (by simp),q2⟩
 refine⟨T,?_,?_,λt ht=>?_,λc hcc hw=>?_⟩
 ·have hwf:Zdb ap [w.d,.int 999]=Z (.list (T.map tupI)):=by
   show ZH (Zex ap [Z (.pl w.d),Z (.pl (.int 999)),Z_,Z_])=_;unfold Zex;refine ZR (P:=λq=>ZH q=_) (r':=[Z (.pl w.d),Z (.pl (.int 999)),Z (.ol []),Z_]) rfl ?_;refine ZR (P:=λq=>ZH q=_) (r':=[Z (.pl w.d),Z (.pl (.int 999)),Z (.ol (T.map tupI)),o']) ?_ rfl;have hi:ZP (bOf (Zh Zbj (Za (Zc 0) Zg))) [Z (.pl w.d),Z (.pl (.int 999)),Z (.ol []),Z_]=Z ((ZbU (chV w.looks.length)).map tupI):=by have:Zh Zbj (Za (Zc 0) Zg) [Z (.pl w.d),Z (.pl (.int 999)),Z (.ol []),Z_]=Z (.list ((ZbU (chV w.looks.length)).map tupI)):=ha;unfold ZP bOf;rw[this];rfl
   unfold Zby;rw[hi];dsimp only;rw[if_pos (by rw[Zyj]; show _<1000000; omega)];exact hgo
  show ZH (Zhm ap [Z (.pl w.d)])=_;simp[Zhm,hc,hwf,ZH]
 ·rw[<-hT]
  have:∀(cs T:List (List Int)),(cs.foldl (Zbh λc=>Zeu (fd c)) T).length<=T.length+cs.length:=by
   intro cs
   induction cs with
   | nil=>intro T; exact Zyr _
   | cons c cs ih =>
    intro T;refine Zy2 (ih _) ?_;have:(Zbh (λc=>Zeu (fd c)) T c).length<=T.length+1:=by
     unfold Zbh;split
     ·rw[ZyA]; exact Zyr _
     ·omega
    rw[ZyD]; omega
  have:=this (ZbU (chV w.looks.length)) [];rw[ZBT]at this;omega
 ·obtain⟨q1,q2⟩:=hsub t ht
  exact⟨hcr t q1,(ZlA (hfd t (hcr t q1)).2).mp q2⟩
 ·rw[<-hT]
  exact ZlX _ [] (hp.mem_iff.mpr (Zkw _ c hcc)) ((ZlA (hfd c hcc).2).mpr hw)
end HG17
namespace HG17
open PySem HM
open HG
open HG4
open HG5
open HG22 (ZdJ ZmH Zib Zbb Zlv)
variable{x y:D}{f:EF}{r:HM.Env}{c:List Int}
theorem Zjh{g:D->D->Option D}{e:EF}{b:Bool}(h1:e r=Z x)(h2:f r=Z y)(h:g x y=Z (.bool b)):tV (op2 g e f) r=Z b:=by unfold tV op2;rw[h1,h2];show(match g x y with | some (.bool b)=>Z b | _=>Z_)=_;rw[h]
theorem if_false{c:TF}{a:SF}(h:c r=Z ZDD):sIf c a Zar r=Z (.nx r):=by unfold sIf;rw[h];rfl
theorem Zg9{e:EF}(h1:e r=Z x)(h2:f r=Z y)(h:Z0 [x,y]=Z (.bool ZDC)):ZbZ (tV (Zh Z0 (Za e (Za f Zg)))) r=Z ZDD:=by
 have:Zh Z0 (Za e (Za f Zg)) r=Z (.bool ZDC):=by unfold Zh Za;rw[h1];dsimp only;rw[h2];exact h
 unfold ZbZ tV;rw[this];rfl
theorem Ztd(l:List Int):gEq (.list (l.map dI)) (.list [])=Z (.bool l.isEmpty):=by
 cases l with
 | nil=>exact Zj0 (Zj5 0 []) (by decide)
 | cons x l=>exact Zi2 (Zj5 0 (x::l)) (Zj5 0 []) (by decide) (by decide) (by simp)
theorem Ztj(L:List (List Int)):gNe (.list (L.map tupI)) (.list [])=Z (.bool (!L.isEmpty)):=by
 have h:∀L:List (List Int),nbD 2 (.list (L.map tupI))=ZDC:=λL=>Zwk λd hd=>by obtain⟨c,_,rfl⟩:=Zyy.mp hd;exact ZeG 0 c
 cases L with
 | nil=>exact ZjR (h []) (by decide)
 | cons x l=>exact Zoe (h (x::l)) (h []) (by decide) (by decide) (by simp)
theorem Zut(x y:Int):gNe (.int x) (.int y)=Z (.bool (x != y)):=by
 by_cases e:x=y
 ·subst e
  rw[bne_self_eq_false];exact ZjR (ZcM 0 x) (by decide)
 ·rw[bne_iff_ne.mpr e]
  exact Zoe (ZcM 0 x) (ZcM 0 y) (by decide) (by decide) (by simpa using e)
theorem ZrD(a b:Bool):gNe (.bool a) (.bool b)=Z (.bool (a != b)):=by cases a<;>cases b<;>rfl
theorem Zux(d:D):Zen d .none=Z (.bool (Zeu d)):=by cases d<;>rfl
theorem Zsf{n:Nat}(h:∀x∈c,0<=x/\x<(n:Int)):Cr n (sortI (dedup [] c)):=Zf6 (Zdt _ _ (by simp)) λx hx=>by rw[Zc7]at hx;exact h x (by simpa using hx)
theorem ZpJ{x:Int}:x∈sortI (dedup [] c)↔x∈c:=by rw[(sortI_perm _).mem_iff,Zc7];simp
theorem ZpR{e:EF}(he:e r=Z (tupI c))(h:∀x∈c,0<=x/\x<8):Z2 (Zbo e) r=Z (tupI (sortI (dedup [] c))):=by
 have hf:Zbo e r=Z (.ol (ofInts (sortI (dedup [] c)))):=by
  unfold Zbo;rw[he];show(match Zas (c.map dI)with | some ns=>if Zj8 ns then Z (B.ol (ofInts (sortI (dedup [] ns))))else Z_ | none=>Z_)=_;rw[Zc6];show(if Zj8 c=ZDC then _ else _)=_;have hlo:Zj8 c=ZDC:=Zys.mpr λx hx=>by rw[ZyE]; exact⟨decide_eq_true (h x hx).1,decide_eq_true (h x hx).2⟩
  rw[if_pos hlo]
 unfold Z2;rw[hf];rfl
theorem ZeP{e:EF}{xs ys:List D}(h1:e r=Z (.tuple xs))(h2:f r=Z (.tuple ys))(h:xs.length+ys.length<1000):ZX e f r=Z (.tuple (xs++ys)):=by
 unfold ZX;rw[h1,h2];show(if xs.length+ys.length<big then _ else _)=_;have hb:xs.length+ys.length<big:=by show _<1000000; omega
 rw[if_pos hb]
theorem ZhW{ap:AP}{e:EF}{d:D}(h1:e r=Z x)(h2:f r=Z y)(h:Z8 ap [x,y]=Z d):Zh (Z8 ap) (Za e (Za f Zg)) r=Z d:=by unfold Zh Za;rw[h1];dsimp only;rw[h2];exact h
theorem ZjT(ns:List Int)(h:ns.length<=63):ZfG ap [.list (ns.map dI)]=Z (.bool ZDC):=by
 have hok:=Zv9 ns 2;have hv:=Wk.Ok.v hok;have h3:=hok.d2;have h5:(wkV ns 2).many<=5:=(Zjf ns 2).2;have hw:=Ztx ns 2 h;have hc0:=Zdj ns 0;have hc1:=Zdj ns 1;have hlk:=ZnZ hv (Zr ns 0);have hlm:=ZnZ hv (Zr ns 1);have hl:=ZrU (wkV ns 2).looks.length (Zr ns 0);have hm:=ZrU (wkV ns 2).looks.length (Zr ns 1);generalize wkV ns 2=w at *;generalize lkV w.looks.length (Zr ns 0)=ls at *;generalize lkV w.looks.length (Zr ns 1)=lo at *;have h7:w.many<=7:=by omega
 have m1:=hv.m1;have l2:=hv.l2;have hw':ZaY [.list (ns.map dI),.int 2]=Z w.d:=hw;have hc0':ZK [.list (ns.map dI),.int 0]=Z (.int (Zr ns 0)):=hc0;have hc1':ZK [.list (ns.map dI),.int 1]=Z (.int (Zr ns 1)):=hc1;generalize Zr ns 0=c0 at *;generalize Zr ns 1=c1 at *;obtain⟨d,ed,fd⟩:=Zcu hv h7 hl ZhZ;have hb:Cr w.looks.length (sortI (dedup [] (ls++lo))):=Zsf λx hx=>by
  rcases ZyK.mp hx with q | q
  ·exact hl.2 x q
  ·exact hm.2 x q
 have hb8:∀x∈ls++lo,0<=x/\x<8:=λx hx=>by
  rcases ZyK.mp hx with q | q
  ·have:=hl.2 x q; omega
  ·have:=hm.2 x q; omega
 have hbs:∀l∈ls,l∈sortI (dedup [] (ls++lo)):=λl q=>ZpJ.mpr (Zy1 _ q);have hll:=hl.len;have hml:=hm.len;obtain⟨db,edb,fdb⟩:=Zcu hv h7 hb ZhZ;obtain⟨dn,edn,fdn⟩:=Zcu hv h7 (ls:=[]) ⟨ZBs,λx hx=>by cases hx⟩ ZhZ;obtain⟨ds,eds,fds⟩:=Zib ZhZ hv h7;have nb:=Zhi (λn=>(ZiA (w:=w) hbs).winB hv (λ_ q=>q)) fd fdb;have nn:=Zhi (λn=>(ZiA (w:=w) (ls:=[]) (la:=ls) λl q=>by cases q).winB hv (λ_ q=>q)) fdn fd;have nsee:=Zhi (λn=>(ZuN (w:=w) (ls:=ls)).winB (ZmH hv) (λ_ q=>q)) fd fds;obtain⟨T,eT,lT,T1,T2⟩:=ZqG hv h7;have hz:(0:Int)<(w.many:Int):=by omega
 generalize hst:c1 % (w.many:Int)=st;have hst0:0<=st:=by rw[<-hst]; exact Int.emod_nonneg _ (by omega)
 have hst1:st<(w.many:Int):=by rw[<-hst]; exact Int.emod_lt_of_pos _ hz
 have hgb:∀x∈w.goal++[st],0<=x/\x<(w.many:Int):=λx hx=>by
  rcases ZyK.mp hx with q | q
  ·exact hv.gc.2 x q
  ·rw[Zyt.mp q]; exact⟨hst0,hst1⟩
 have hgl:=hv.gc.len;have hg:=Zsf hgb;have hvg:=ZvQ hv hg;obtain⟨dg,edg,fdg⟩:=Zcu hvg (show w.many<=7 from h7) (show Cr w.looks.length ls from hl) ZhZ;have ng:=Zhi (λn=>(ZsP (w:=w) (ls:=ls) (g:=sortI (dedup [] (w.goal++[st]))) λx q=>ZpJ.mpr (Zy1 _ q)).winB hvg (λ_ q=>q)) fd fdg;have hde:=ZpV c0 w.many (by omega) (by omega);have hdl:((Zyp w.many).map λk=>ZdK c0 w.many k).length=w.many:=by rw[Zyj,ZzZ]
 have hdc:∀c∈(Zyp w.many).map λk=>ZdK c0 w.many k,Cr w.many c:=λc hc=>by obtain⟨k,_,rfl⟩:=Zyy.mp hc;exact ZpN c0 w.many k (by omega)
 generalize ((Zyp w.many).map λk=>ZdK c0 w.many k)=dd at *;have hvd:=ZvW hv (by omega) hdl hdc;obtain⟨dx,edx,fdx⟩:=Zcu hvd (show w.many<=7 from h7) (show Cr w.looks.length ls from hl) ZhZ;have nx:=Zhi (λn=>(ZsM (w:=w) (ls:=ls) dd).winB hvd (λ_ q=>q)) fd fdx;show ZH (ZmX ap [Z (.pl (.list (ns.map dI))),Z_,Z_,Z_,Z_,Z_,Z_,Z_,Z_,Z_,Z_,Z_])=_;unfold ZmX;refine ZR (P:=λq=>ZH q=_) (r':=[Z (.pl (.list (ns.map dI))),Z (.pl w.d),Z_,Z_,Z_,Z_,Z_,Z_,Z_,Z_,Z_,Z_]) (by simp[hw']) ?_;refine ZR (P:=λq=>ZH q=_) (r':=[Z (.pl (.list (ns.map dI))),Z (.pl w.d),Z (.pl (tupI ls)),Z_,Z_,Z_,Z_,Z_,Z_,Z_,Z_,Z_]) (by simp[hc0',hlk]) ?_;refine ZR (P:=λq=>ZH q=_) (r':=[Z (.pl (.list (ns.map dI))),Z (.pl w.d),Z (.pl (tupI ls)),Z (.pl (tupI lo)),Z_,Z_,Z_,Z_,Z_,Z_,Z_,Z_]) (by simp[hc1',hlm]) ?_;refine ZR (P:=λq=>ZH q=_) (r':=[Z (.pl (.list (ns.map dI))),Z (.pl w.d),Z (.pl (tupI ls)),Z (.pl (tupI lo)),Z (.pl (tupI (sortI (dedup [] (ls++lo))))),Z_,Z_,Z_,Z_,Z_,Z_,Z_]) ?_ ?_
 ·have hcat:ZX (Zc 2) (Zc 3) [Z (.pl (.list (ns.map dI))),Z (.pl w.d),Z (.pl (tupI ls)),Z (.pl (tupI lo)),Z_,Z_,Z_,Z_,Z_,Z_,Z_,Z_]=Z (tupI (ls++lo)):=by
   rw[ZeP (xs:=ls.map dI) (ys:=lo.map dI) rfl rfl (by rw[Zyj,Zyj]; omega),<-ZyR]
  unfold ZU;rw[ZpR hcat hb8];rfl
 refine ZR (P:=λq=>ZH q=_) (r':=[Z (.pl (.list (ns.map dI))),Z (.pl w.d),Z (.pl (tupI ls)),Z (.pl (tupI lo)),Z (.pl (tupI (sortI (dedup [] (ls++lo))))),Z (.pl d),Z_,Z_,Z_,Z_,Z_,Z_]) (by simp[ed]) ?_;generalize hs3:(Z (.pl (tupI lo)):Option B)=s3;generalize tupI (sortI (dedup [] (ls++lo)))=both at *;refine ZR (P:=λq=>ZH q=_) (if_false ?_) ?_
 ·unfold tOr
  rw[Zg9 (x:=db) (y:=d) (ZhW (x:=w.d) (y:=both) rfl rfl edb) rfl nb];exact Zg9 (x:=d) (y:=dn) rfl (ZhW (x:=w.d) (y:=tupI []) rfl rfl edn) nn
 refine ZR (P:=λq=>ZH q=_) (if_false (Zg9 (x:=ds) (y:=d) (by simp[eds]) rfl nsee)) ?_;generalize hs4:(Z (.pl both):Option B)=s4;refine ZR (P:=λq=>ZH q=_) (r':=[Z (.pl (.list (ns.map dI))),Z (.pl w.d),Z (.pl (tupI ls)),s3,s4,Z (.pl d),Z (.ol ((T.filter λt=>(t.filter λx=>!ls.contains x).isEmpty).map tupI)),Z_,Z_,Z_,Z_,Z_]) ?_ ?_
 ·have hi:ZP (bOf (Zh (Zdc ap) (Za (Zc 1) Zg))) [Z (.pl (.list (ns.map dI))),Z (.pl w.d),Z (.pl (tupI ls)),s3,s4,Z (.pl d),Z_,Z_,Z_,Z_,Z_,Z_]=Z (T.map tupI):=by
   have:Zh (Zdc ap) (Za (Zc 1) Zg) [Z (.pl (.list (ns.map dI))),Z (.pl w.d),Z (.pl (tupI ls)),s3,s4,Z (.pl d),Z_,Z_,Z_,Z_,Z_,Z_]=Z (.list (T.map tupI)):=eT;unfold ZP bOf;rw[this];rfl
  have hin:∀t∈T,∀r:HM.Env,r[2]?=Z (Z (.pl (tupI ls)))->Zz (ZP (bOf (Zc 0))) (tV (ZeN (Zc 0) (Zo 4))) (Zc 0) (Z (.pl (tupI t))::r)=Z (.ol ((t.filter λx=>!ls.contains x).map dI)):=λt ht r r2=>by
   have hi:ZP (bOf (Zc 0)) (Z (.pl (tupI t))::r)=Z (t.map dI):=rfl;have htl:=(T1 t ht).1.len;have hg:Zag (tV (ZeN (Zc 0) (Zo 4))) (Zc 0) (Z (.pl (tupI t))::r) (t.map dI)=Z ((t.filter λx=>!ls.contains x).map dI):=by refine Zbx dI (λx=>!ls.contains x) dI t (λx _=>?_) λx _ _=>rfl;simp[r2,ZnQ,Zc6,tupI,-ZAB]
   unfold Zz;rw[hi];dsimp only;rw[if_pos (by rw[Zyj]; show _<1000000; omega),hg];rfl
  generalize hE:Zz (ZP (bOf (Zc 0))) (tV (ZeN (Zc 0) (Zo 4))) (Zc 0)=E at hin ⊢;have hg:Zag (tV (op2 gEq (eOf E) (eOf (Zeq Zg)))) (Zc 0) [Z (.pl (.list (ns.map dI))),Z (.pl w.d),Z (.pl (tupI ls)),s3,s4,Z (.pl d),Z_,Z_,Z_,Z_,Z_,Z_] (T.map tupI)=Z ((T.filter λt=>(t.filter λx=>!ls.contains x).isEmpty).map tupI):=by refine Zbx tupI (λt=>(t.filter λx=>!ls.contains x).isEmpty) tupI T (λt ht=>?_) λt _ _=>rfl;refine Zjh (x:=.list ((t.filter λx=>!ls.contains x).map dI)) (y:=.list []) ?_ rfl (Ztd _);unfold eOf;rw[hin t ht _ rfl];rfl
  unfold ZT Zz;rw[hi];dsimp only;rw[if_pos (by rw[Zyj]; show _<1000000; omega),hg];rfl
 have hsome:(!(T.filter λt=>(t.filter λx=>!ls.contains x).isEmpty).isEmpty)=Zeu d:=by
  have key:∀t:List Int,(t.filter λx=>!ls.contains x).isEmpty=ZDC↔∀x∈t,x∈ls:=λt=>by rw[List.isEmpty_iff,ZBC];refine forall_congr' λx=>forall_congr' λ_=>?_;simp
  rw[ZCY,ZlA fd,ZCC,List.isEmpty_eq_false_iff]
  constructor
  ·intro q
   obtain⟨t,ht⟩:=ZCJ _ q;obtain⟨h1,h2⟩:=ZyW.mp ht;obtain⟨n,hn⟩:=(T1 t h1).2;exact⟨n,(ZiA (w:=w) ((key t).mp h2)).winB hv (λ_ q=>q) hn⟩
  ·intro q
   obtain⟨t,h1,h2⟩:=T2 ls hl q;exact ZBk (ZyW.mpr ⟨h1,(key t).mpr h2⟩)
 generalize hsm:(T.filter λt=>(t.filter λx=>!ls.contains x).isEmpty)=S at hsome ⊢;refine ZR (P:=λq=>ZH q=_) (r':=[Z (.pl (.list (ns.map dI))),Z (.pl w.d),Z (.pl (tupI ls)),s3,s4,Z (.pl d),Z (.pl (.list (S.map tupI))),Z_,Z_,Z_,Z_,Z_]) ?_ ?_
 ·show sIf _ _ _ [Z (.pl (.list (ns.map dI))),Z (.pl w.d),Z (.pl (tupI ls)),s3,s4,Z (.pl d),Z (.pl (.list (S.map tupI))),Z_,Z_,Z_,Z_,Z_]=_
  refine if_false (Zjh (x:=.bool (!S.isEmpty)) (y:=.bool (Zeu d)) ?_ ?_ ?_)
  ·unfold op2
   show gNe (.list (S.map tupI)) (.list [])=_;exact Ztj S
  ·exact Zux d
  ·rw[ZrD,hsome,bne_self_eq_false]
 generalize (Z (.pl (.list (S.map tupI))):Option B)=s6;refine ZR (P:=λq=>ZH q=_) (r':=[Z (.pl (.list (ns.map dI))),Z (.pl w.d),Z (.pl (tupI ls)),s3,s4,Z (.pl d),s6,Z (.pl (.int st)),Z_,Z_,Z_,Z_]) ?_ ?_
 ·have hx:eIx (Zo 1) (eC (.int 0)) [Z (.pl (.list (ns.map dI))),Z (.pl w.d),Z (.pl (tupI ls)),s3,s4,Z (.pl d),s6,Z_,Z_,Z_,Z_,Z_]=Z (.int w.many):=rfl
  have hy:Zh ZK (Za (Zc 0) (Za (eC (.int 1)) Zg)) [Z (.pl (.list (ns.map dI))),Z (.pl w.d),Z (.pl (tupI ls)),s3,s4,Z (.pl d),s6,Z_,Z_,Z_,Z_,Z_]=Z (.int c1):=hc1';unfold ZU op2;rw[hx,hy];show ZzY _ (if(0:Int)<(w.many:Int)then Z (ZyV (c1 % (w.many:Int)))else Z_)=_;rw[if_pos hz,hst];rfl
 refine ZR (P:=λq=>ZH q=_) (r':=[Z (.pl (.list (ns.map dI))),Z (.pl w.d),Z (.pl (tupI ls)),s3,s4,Z (.pl d),s6,Z (.pl (.int st)),Z (.pl { w with goal:=sortI (dedup [] (w.goal++[st])) }.d),Z_,Z_,Z_]) ?_ ?_
 ·have hx:ZX (eIx (Zo 1) (eC (.int 4))) (Zac (Za (Zc 7) Zg)) [Z (.pl (.list (ns.map dI))),Z (.pl w.d),Z (.pl (tupI ls)),s3,s4,Z (.pl d),s6,Z (.pl (.int st)),Z_,Z_,Z_,Z_]=Z (tupI (w.goal++[st])):=by
   rw[ZeP (xs:=w.goal.map dI) (ys:=[.int st]) rfl rfl (by rw[Zyj]; show w.goal.length+1<1000; omega)];unfold tupI;rw[ZyR];rfl
  have hy:=ZpR hx λx q=>by have:=hgb x q; omega
  have hz':Zac (Za (Z2 (Zbo (ZX (eIx (Zo 1) (eC (.int 4))) (Zac (Za (Zc 7) Zg))))) Zg) [Z (.pl (.list (ns.map dI))),Z (.pl w.d),Z (.pl (tupI ls)),s3,s4,Z (.pl d),s6,Z (.pl (.int st)),Z_,Z_,Z_,Z_]=Z (.tuple [tupI (sortI (dedup [] (w.goal++[st])))]):=by generalize Z2 (Zbo (ZX (eIx (Zo 1) (eC (.int 4))) (Zac (Za (Zc 7) Zg))))=E at hy ⊢;simp[hy]
  unfold ZU;rw[ZeP (xs:=[ZyV w.many,.tuple (w.deeds.map ZB),.tuple (w.looks.map tupI),tupI w.beg]) rfl hz' (by show 4+1<1000; decide)];rfl
 generalize hS8:(Z (.pl (Wk.d { w with goal:=sortI (dedup [] (w.goal++[st])) })):Option B)=s8;refine ZR (P:=λq=>ZH q=_) (if_false (Zg9 (x:=dg) (y:=d) (ZhW (x:=Wk.d { w with goal:=sortI (dedup [] (w.goal++[st])) }) (y:=tupI ls) (by rw[<-hS8]; rfl) rfl edg) rfl ng)) ?_;have hbl:=hv.bc.len;refine ZR (P:=λq=>ZH q=_) (r':=[Z (.pl (.list (ns.map dI))),Z (.pl w.d),Z (.pl (tupI ls)),s3,s4,Z (.pl d),s6,Z (.pl (.int st)),s8,Z (.pl (tupI (w.beg.filter λx=>x != st))),Z_,Z_]) ?_ ?_
 ·have hi:ZP (bOf (eIx (Zo 1) (eC (.int 3)))) [Z (.pl (.list (ns.map dI))),Z (.pl w.d),Z (.pl (tupI ls)),s3,s4,Z (.pl d),s6,Z (.pl (.int st)),s8,Z_,Z_,Z_]=Z (w.beg.map dI):=rfl
  have hg:Zag (tV (op2 gNe (Zc 0) (Zc 8))) (Zc 0) [Z (.pl (.list (ns.map dI))),Z (.pl w.d),Z (.pl (tupI ls)),s3,s4,Z (.pl d),s6,Z (.pl (.int st)),s8,Z_,Z_,Z_] (w.beg.map dI)=Z ((w.beg.filter λx=>x != st).map dI):=by refine Zbx dI (λx=>x != st) dI w.beg (λx _=>?_) λx _ _=>rfl;exact Zjh (x:=.int x) (y:=.int st) rfl rfl (Zut x st)
  have hf:Zz (ZP (bOf (eIx (Zo 1) (eC (.int 3))))) (tV (op2 gNe (Zc 0) (Zc 8))) (Zc 0) [Z (.pl (.list (ns.map dI))),Z (.pl w.d),Z (.pl (tupI ls)),s3,s4,Z (.pl d),s6,Z (.pl (.int st)),s8,Z_,Z_,Z_]=Z (.ol ((w.beg.filter λx=>x != st).map dI)):=by unfold Zz;rw[hi];dsimp only;rw[if_pos (by rw[Zyj]; show _<1000000; omega),hg];rfl
  unfold ZU Z2;rw[hf];rfl
 have hle:Cr w.many (w.beg.filter λx=>x != st):=Zkv _ hv.bc;have hsub:∀x∈w.beg.filter λx=>x != st,x∈w.beg:=λx q=>(ZyW.mp q).1;generalize (w.beg.filter λx=>x != st)=be at *;have tail:∀s10:Option B,ZH (Zu (sIf (tV (op2 gEq (Zbe (bOf (eIx (Zo 1) (eC (.int 1))))) (eC (.int 5)))) (ZA (eC (.bool ZDC))) Zar)
   (Zu (ZU 11 (Zh ZbD (Za (Zh ZK (Za (Zc 0) (Za (eC (.int 0)) Zg))) (Za (eIx (Zo 1) (eC (.int 0))) Zg))))
   (ZA (Zh Z0 (Za (Zh (Z8 ap) (Za (ZX (Zac (Za (eIx (Zo 1) (eC (.int 0))) (Za (ZX (eIx (Zo 1) (eC (.int 1))) (Zac (Za (Zc 11) Zg))) Zg))) (Zdx (Zc 1) (Z (eC (.int 2))) Z_)) (Za (Zc 2) Zg))) (Za (Zc 5) Zg)))))
   [Z (.pl (.list (ns.map dI))),Z (.pl w.d),Z (.pl (tupI ls)),s3,s4,Z (.pl d),s6,Z (.pl (.int st)),s8,Z (.pl (tupI be)),s10,Z_])=Z (.bool ZDC):=λs10=>by
  refine ZR (P:=λq=>ZH q=_) (if_false (Zjh (x:=.int (w.deeds.length:Int)) (y:=.int 5) ?_ rfl ?_)) ?_
  ·have hx:eIx (Zo 1) (eC (.int 1)) [Z (.pl (.list (ns.map dI))),Z (.pl w.d),Z (.pl (tupI ls)),s3,s4,Z (.pl d),s6,Z (.pl (.int st)),s8,Z (.pl (tupI be)),s10,Z_]=Z (.tuple (w.deeds.map ZB)):=rfl
   generalize eIx (Zo 1) (eC (.int 1))=E at hx ⊢;simp[hx]
  ·exact Zi2 (ZcM 0 _) (ZcM 0 _) (by decide) (by decide) (by simp; omega)
  refine ZR (P:=λq=>ZH q=_) (r':=[Z (.pl (.list (ns.map dI))),Z (.pl w.d),Z (.pl (tupI ls)),s3,s4,Z (.pl d),s6,Z (.pl (.int st)),s8,Z (.pl (tupI be)),s10,Z (.pl (ZB dd))]) ?_ ?_
  ·have hx:eIx (Zo 1) (eC (.int 0)) [Z (.pl (.list (ns.map dI))),Z (.pl w.d),Z (.pl (tupI ls)),s3,s4,Z (.pl d),s6,Z (.pl (.int st)),s8,Z (.pl (tupI be)),s10,Z_]=Z (.int w.many):=rfl
   generalize eIx (Zo 1) (eC (.int 0))=E at hx ⊢;simp[hx,hc0',hde]
  ·have h1:ZX (eIx (Zo 1) (eC (.int 1))) (Zac (Za (Zc 11) Zg)) [Z (.pl (.list (ns.map dI))),Z (.pl w.d),Z (.pl (tupI ls)),s3,s4,Z (.pl d),s6,Z (.pl (.int st)),s8,Z (.pl (tupI be)),s10,Z (.pl (ZB dd))]=Z (.tuple ((w.deeds++[dd]).map ZB)):=by
    rw[ZeP (xs:=w.deeds.map ZB) (ys:=[ZB dd]) rfl rfl (by rw[Zyj]; show w.deeds.length+1<1000; omega),ZyR];rfl
   have h2:Zac (Za (eIx (Zo 1) (eC (.int 0))) (Za (ZX (eIx (Zo 1) (eC (.int 1))) (Zac (Za (Zc 11) Zg))) Zg)) [Z (.pl (.list (ns.map dI))),Z (.pl w.d),Z (.pl (tupI ls)),s3,s4,Z (.pl d),s6,Z (.pl (.int st)),s8,Z (.pl (tupI be)),s10,Z (.pl (ZB dd))]=Z (.tuple [.int w.many,.tuple ((w.deeds++[dd]).map ZB)]):=by have hx:eIx (Zo 1) (eC (.int 0)) [Z (.pl (.list (ns.map dI))),Z (.pl w.d),Z (.pl (tupI ls)),s3,s4,Z (.pl d),s6,Z (.pl (.int st)),s8,Z (.pl (tupI be)),s10,Z (.pl (ZB dd))]=Z (.int w.many):=rfl;generalize ZX (eIx (Zo 1) (eC (.int 1))) (Zac (Za (Zc 11) Zg))=E at h1 ⊢;generalize eIx (Zo 1) (eC (.int 0))=E0 at hx ⊢;simp[h1,hx]
   have h3:ZX (Zac (Za (eIx (Zo 1) (eC (.int 0))) (Za (ZX (eIx (Zo 1) (eC (.int 1))) (Zac (Za (Zc 11) Zg))) Zg))) (Zdx (Zc 1) (Z (eC (.int 2))) Z_) [Z (.pl (.list (ns.map dI))),Z (.pl w.d),Z (.pl (tupI ls)),s3,s4,Z (.pl d),s6,Z (.pl (.int st)),s8,Z (.pl (tupI be)),s10,Z (.pl (ZB dd))]=Z (Wk.d { w with deeds:=w.deeds++[dd] }):=by rw[ZeP (ys:=[Zzh (w.looks.map tupI),tupI w.beg,tupI w.goal]) h2 rfl (by show 2+3<1000; decide)];rfl
   generalize ZX (Zac (Za (eIx (Zo 1) (eC (.int 0))) (Za (ZX (eIx (Zo 1) (eC (.int 1))) (Zac (Za (Zc 11) Zg))) Zg))) (Zdx (Zc 1) (Z (eC (.int 2))) Z_)=E at h3 ⊢;simp[h3,edx,nx,ZH]
 by_cases hbe:be=[]
 ·subst hbe
  refine ZR (P:=λq=>ZH q=_) (if_false (Zjh (x:=tupI []) (y:=.tuple []) rfl rfl (Zlv []))) ?_;exact tail Z_
 ·have hvb:=ZwK hv hle hbe
  obtain⟨de,ede,fde⟩:=Zcu hvb (show w.many<=7 from h7) (show Cr w.looks.length ls from hl) ZhZ;have ne:=Zhi (λn=>(Zuo (w:=w) (ls:=ls) (b:=be)).winB hvb hsub) fd fde;refine ZR (P:=λq=>ZH q=_) (r':=[Z (.pl (.list (ns.map dI))),Z (.pl w.d),Z (.pl (tupI ls)),s3,s4,Z (.pl d),s6,Z (.pl (.int st)),s8,Z (.pl (tupI be)),Z (.pl (Wk.d { w with beg:=be })),Z_]) ?_ (tail _);have ht:tV (op2 gNe (Zc 9) (Zac Zg)) [Z (.pl (.list (ns.map dI))),Z (.pl w.d),Z (.pl (tupI ls)),s3,s4,Z (.pl d),s6,Z (.pl (.int st)),s8,Z (.pl (tupI be)),Z_,Z_]=Z ZDC:=by
   refine Zjh (x:=tupI be) (y:=.tuple []) rfl rfl ?_;rw[Zlv];cases be with
   | nil=>exact absurd rfl hbe
   | cons _ _=>rfl
  unfold sIf;rw[ht];show Zu _ _ _=_;have h1:ZX (Zdx (Zc 1) Z_ (Z (eC (.int 3)))) (Zac (Za (Zc 9) Zg)) [Z (.pl (.list (ns.map dI))),Z (.pl w.d),Z (.pl (tupI ls)),s3,s4,Z (.pl d),s6,Z (.pl (.int st)),s8,Z (.pl (tupI be)),Z_,Z_]=Z (.tuple [.int w.many,.tuple (w.deeds.map ZB),.tuple (w.looks.map tupI),tupI be]):=by rw[ZeP (xs:=[ZyV w.many,.tuple (w.deeds.map ZB),.tuple (w.looks.map tupI)]) (ys:=[tupI be]) rfl rfl (by show 3+1<1000; decide)];rfl
  have h2:ZX (ZX (Zdx (Zc 1) Z_ (Z (eC (.int 3)))) (Zac (Za (Zc 9) Zg))) (Zdx (Zc 1) (Z (eC (.int 4))) Z_) [Z (.pl (.list (ns.map dI))),Z (.pl w.d),Z (.pl (tupI ls)),s3,s4,Z (.pl d),s6,Z (.pl (.int st)),s8,Z (.pl (tupI be)),Z_,Z_]=Z (Wk.d { w with beg:=be }):=by rw[ZeP (ys:=[tupI w.goal]) h1 rfl (by show 4+1<1000; decide)];rfl
  refine ZR (P:=λq=>q=Z (Out.nx _)) (r':=[Z (.pl (.list (ns.map dI))),Z (.pl w.d),Z (.pl (tupI ls)),s3,s4,Z (.pl d),s6,Z (.pl (.int st)),s8,Z (.pl (tupI be)),Z (.pl (Wk.d { w with beg:=be })),Z_]) (by unfold ZU; rw[h2]; rfl) ?_;exact if_false (Zg9 (x:=de) (y:=d) (ZhW (x:=Wk.d { w with beg:=be }) (y:=tupI ls) rfl rfl ede) rfl ne)
end HG17
namespace HT
open PySem PySem.Spec PyProof.Rows L2 HP HM
open HG
open HG4
open HG5
open HG22 (ZcI Zbb)
open HG17
variable{Tl c f:Addr}{osl:Array (Option Value)}{fd:FuncData}{h:Heap}{ps:List Str}{an od:Option Addr}{x:Str}{cdv ct doc oc pm:Value}
def top(i:Nat):Stmt:=PySem.Challenge.pw_halfseen_k17_whole_more_to_see.main.body.getD i (.Pass ⟨0,0,0,0⟩)
abbrev ZfH:Stmt:=top 9
abbrev Ziq:Stmt:=top 10
abbrev ZfI:Stmt:=top 11
abbrev Zfj:Stmt:=top 12
abbrev Zfk:Stmt:=top 13
abbrev Zd8:Stmt:=top 14
abbrev Zd9:Stmt:=top 15
abbrev Zgz:Stmt:=top 16
abbrev ZfJ:Stmt:=top 17
abbrev ZfK:Stmt:=top 18
abbrev ZgA:Stmt:=top 19
abbrev ZgB:Stmt:=top 20
abbrev ZgC:Stmt:=top 21
abbrev Zhn:Stmt:=top 22
abbrev Zho:Stmt:=top 23
abbrev ZdA:Stmt:=top 24
abbrev ZfL:Stmt:=top 25
abbrev Zfl:Stmt:=top 26
abbrev Zdd:Stmt:=top 28
abbrev Zdv:Stmt:=top 29
abbrev Zir:Stmt:=top 30
abbrev Zgk:Stmt:=top 31
abbrev ZeS:Stmt:=top 32
abbrev Zck:Stmt:=top 34
abbrev Zea:Stmt:=top 35
abbrev ZcJ:Stmt:=top 36
abbrev Ze4:Stmt:=top 37
abbrev ZcP:Stmt:=top 38
abbrev ZcA:Stmt:=top 39
abbrev Zeb:Stmt:=top 40
abbrev ZM:Stmt:=top 41
abbrev ZeT:Stmt:=top 42
abbrev ZfM:Stmt:=top 43
abbrev Zis:Stmt:=top 44
abbrev ZI:Stmt:=top 47
abbrev Zec:Stmt:=top 48
abbrev ZfN:Stmt:=top 49
abbrev Zde:Stmt:=top 50
abbrev Zhp:Stmt:=top 51
abbrev Ze5:Stmt:=top 53
abbrev ZgD:Stmt:=top 55
abbrev Zhq:Stmt:=top 56
abbrev Zed:Stmt:=top 57
abbrev ZgE:Stmt:=top 58
abbrev ZgF:Stmt:=top 59
abbrev Zee:Stmt:=top 60
abbrev Zef:Stmt:=top 61
abbrev Zey:Stmt:=top 62
abbrev Zeg:Stmt:=top 63
structure Def(K:Zyk)(mg:Str->Option Value)(x:Str)(st:Stmt)(ps:List Str):Prop where
 ex:∃f fd,Fun K x x st f fd/\mg x=Z (.ref f)/\Binds K fd ps []
structure Txt(K:Zyk)(mg:Str->Option Value):Prop where
 n_len:mg "len" = Z_
 n_tuple:mg "tuple" = Z_
 n_list:mg "list" = Z_
 n_set:mg "set" = Z_
 n_sorted:mg "sorted" = Z_
 n_range:mg "range" = Z_
 n_all:mg "all" = Z_
 n_any:mg "any" = Z_
 n_isinstance:mg "isinstance" = Z_
 n_int:mg "int" = Z_
 n_bool:mg "bool" = Z_
 n_max:mg "max" = Z_
 n_min:mg "min" = Z_
 c_MOST_STATES:∃t,mg "MOST_STATES" = Z (.int 8 t)
 c_MOST_DEEDS:∃t,mg "MOST_DEEDS" = Z (.int 5 t)
 c_MOST_LOOKS:∃t,mg "MOST_LOOKS" = Z (.int 4 t)
 c_MOST_SEEN:∃t,mg "MOST_SEEN" = Z (.int 9 t)
 c_MOST_NUMBER:∃t,mg "MOST_NUMBER" = Z (.int 999 t)
section
variable[FX]{P:Program}{w:World}{K:Zyk}{mg:Str->Option Value}{base:Heap}{k:Nat}
set_option maxHeartbeats 8000000
theorem scM{N:List Str}{sc:Scope}(a:sc.kind=.function:=by rfl)(b:sc.isCoroutine=ZDD:=by rfl)(c:sc.isGenerator=ZDD:=by rfl)(d:N.Nodup:=by decide +kernel)(e:N.take ps.length=ps:=by rfl)(f:∀x∈ps,sc.names.lookup x=Z .local\/sc.names.lookup x=Z .cell:=by decide +kernel)(g:∀y∈sc.names,y.2≠.free:=by decide +kernel):Zs N ps sc:=⟨a,b,c,d,e,f,g⟩
theorem Def.ok{x:Str}{st:Stmt}{N ps:List Str}{g:HM.SF}(D:Def K mg x st ps)(S:Zs N ps (Ze st))(body:∀(f:Addr) (cdv:Value) (A:Around) (outer:List PySem.Env) (s:Shared) (H:Hp) (E:XK),ZV k (A.deeper (envOfC x (Ze st) s.heap.objs.size f cdv))->XSs (Zfc CX0 P w K mg base N x (Ze st) f cdv A outer s H E).nox (Zaw st) g):Callee P w K mg base (k+1) x (HM.fnOf ps.length N.length g):=by obtain⟨f,fd,F,m,b⟩:=D.ex;exact ZrH F S m b (body f)
theorem Cup{j:Nat}{M:List PyData->Option PyData}(C:Callee P w K mg base j x M)(h:j<=k:=by decide):Callee P w K mg base k x M:=C.mono h
theorem ZwB:ZeO (Zff ZI) "choice" []:=⟨rfl,rfl,rfl,by decide +kernel,rfl,by decide +kernel,by decide +kernel⟩
theorem Zwd(T:Txt K mg)(qual:Str)(f:Addr)(cd:Value)(clos:List (Str × Addr))(A:Around)(outer:List PySem.Env)(s:Shared)(H:Hp)(hr:ZV k (A.deeper (ZAp qual (Zff ZI) s.heap.objs.size f cd clos))) :
  XE (Zh0 P w K mg base ["choice"] qual (Zff ZI) f cd clos A outer s H) (Zln ZI) (Zac (Za (Zbe (Zo 0)) (Za (Zc 0) Zg))):=by
 have hu:=Zfw hr;exact(ZaV (Zb (Zbz T.n_len (Zv 0)) (Zb (Zd 0) Zf)))
theorem ZmY:Zs ["_law_script","_law_k"] ["_law_script","_law_k"] (Ze ZgD):=scM
theorem ZmZ(T:Txt K mg)(D:Def K mg "_law_cell" ZgD ["_law_script","_law_k"]):Callee P w K mg base (k+1) "_law_cell" ZK :=
 D.ok ZmY λ_ cdv A outer s H E hr=>by
  exact(Zj (ZaI (ZaF cLt (Zd 1) (Zbz T.n_len (Zv 0))) (Zl (Zw (Zan (Zv 0) (Zd 1)))) Z5)
  (Zl (Zw Zk)))
theorem ZoU:Zs ["_law_cell_here","_law_prime","_law_many"] ["_law_cell_here","_law_prime","_law_many"] (Ze Zhq):=scM
theorem ZoV(T:Txt K mg)(D:Def K mg "_law_mix" Zhq ["_law_cell_here","_law_prime","_law_many"]):Callee P w K mg base (k+1) "_law_mix" ZG :=
 D.ok ZoU λ_ cdv A outer s H E hr=>by exact(Zl (Zw (ZE oMod (ZE oMod (ZE ZeJ (Zd 0) Zk) (Zd 1)) (Zd 2))))
abbrev Zgh:List Str:=["_law_cell_here","_law_many","_law_least","_law_found"]
theorem Ze6:Zs Zgh ["_law_cell_here","_law_many","_law_least"] (Ze Zed):=scM
theorem Zl6(T:Txt K mg)(ZD:Callee P w K mg base k "_law_mix" ZG)(D:Def K mg "_law_crowd" Zed ["_law_cell_here","_law_many","_law_least"]):Callee P w K mg base (k+1) "_law_crowd" ZbK :=
 D.ok Ze6 λ_ cdv A outer s H E hr=>by
  exact(Zj (Zda 3 Ze6.nd rfl rfl (N:="_law_state" :: Zgh) (ZF (sc:=Ze Zed) (XN:=Zgh)) (Zct T.n_range (Zd 1)) (λ_ _ _ _ _=>(ZcN (ZaF cLt (Zi ZD hr (Zb (ZE ZbS (ZE ZbS (Zd 1) (ZE ZeJ (ZE ZeJ Zk (Zd 0)) (Zd 0))) (ZE ZeJ Zk (Zd 0))) (Zb Zk (Zb Zk Zf)))) Zk))) (λ_ _ _ _ _=>(Zd 0)))
  (Zj (ZaI (ZaF cLt (Zbz T.n_len (Zv 3)) (Zd 2)) (Zl (ZaK 3 Ze6.nd (Zce (Zb (Zi ZD hr (Zb (Zd 0) (Zb Zk (Zb (Zd 1) Zf)))) Zf)))) Z5)
  (Zl (Zw (Zad T.n_tuple (Zv 3))))))
theorem Zcl:Zs ["_law_cell_here","_law_many","_law_found","_law_state","_law_seed","_law_way","_law_row"] ["_law_cell_here","_law_many"] (Ze ZgE):=scM
theorem Zm0(T:Txt K mg)(ZD:Callee P w K mg base k "_law_mix" ZG)(D:Def K mg "_law_deed" ZgE ["_law_cell_here","_law_many"]):Callee P w K mg base (k+1) "_law_deed" ZbD :=
 D.ok Zcl λ_ cdv A outer s H E hr=>by
  have hu:=Zfw hr;exact(Zj (ZaK 2 Zcl.nd (Zce Zf))
  (Zj (Zcf 3 Zcl.nd rfl rfl (Zct T.n_range (Zd 1)) (Zj (ZO 4 Zcl.nd (ZE ZbS (ZE ZbS (Zd 0) (ZE ZeJ (ZE ZeJ Zk (Zd 3)) (Zd 3))) (ZE ZeJ Zk (Zd 3))))
  (Zj (ZO 5 Zcl.nd (Zi ZD hr (Zb (Zd 4) (Zb Zk (Zb Zk Zf)))))
  (Zj (ZaK 6 Zcl.nd (ZsB (Zi ZD hr (Zb (Zd 4) (Zb Zk (Zb (Zd 1) Zf)))) Za9))
  (Zj (ZaI (ZaF cLt (Zd 5) Zk) (Zl (Zie hu 6 (Zi ZD hr (Zb (Zd 4) (Zb Zk (Zb (Zd 1) Zf)))) Za9)) Z5)
  (Zj (ZdN 2 (Zad T.n_tuple (ZaC (Zif T.n_sorted rfl (Zv 6)))))
  (Zl (ZaI (ZaF (cEq hr) (Zd 5) Zk) (Zl (Zt2 2 Zu5 (ZaV Zf))) Z5))))))))
  (Zl (Zw (Zad T.n_tuple (Zv 2))))))
theorem ZbO:Zs ["_law_cell_here","_law_many","_law_left","_law_right","_law_state","_law_ahead","_law_behind","_law_slips"] ["_law_cell_here","_law_many"] (Ze ZgF):=scM
theorem Zm1(T:Txt K mg)(ZD:Callee P w K mg base k "_law_mix" ZG)(D:Def K mg "_law_walk" ZgF ["_law_cell_here","_law_many"]):Callee P w K mg base (k+1) "_law_walk" Zdo :=
 D.ok ZbO λ_ cdv A outer s H E hr=>by
  exact(Zj (ZaK 2 ZbO.nd (Zce Zf))
  (Zj (ZaK 3 ZbO.nd (Zce Zf))
  (Zj (Zcf 4 ZbO.nd rfl rfl (Zct T.n_range (Zd 1)) (Zj (ZO 5 ZbO.nd (Zu8 T.n_max rfl (ZE ZsZ (Zd 4) Zk) Zk))
  (Zj (ZO 6 ZbO.nd (Zu9 T.n_min rfl (ZE ZbS (Zd 4) Zk) (ZE ZsZ (Zd 1) Zk)))
  (Zj (ZO 7 ZbO.nd (ZdY (cEq hr) (Zi ZD hr (Zb (ZE ZbS (Zd 0) (ZE ZeJ Zk (Zd 4))) (Zb Zk (Zb Zk Zf)))) Zk))
  (Zj (ZdN 2 (Zad T.n_tuple (ZaC (ZmT T.n_sorted T.n_set rfl (ZaC (Zrc (ZaC (Zce (Zb (Zd 5) Zf))) (ZaC (Zva (ZaC (Zce (Zb (Zd 4) Zf))) (ZsA T.n_int (Zd 7))))))))))
  (Zl (ZdN 3 (ZaV (Zb (Zd 6) Zf)))))))))
  (Zl (Zw (ZaV (Zb (Zad T.n_tuple (Zv 2)) (Zb (Zad T.n_tuple (Zv 3)) Zf))))))))
abbrev Zgj:List Str:=["_law_script","_law_at","_law_cell_here","_law_many","_law_deeds","_law_k","_law_looks_here","_law_seed","_law_most","_law_begin","_law_goal"]
theorem Z1:Zs Zgj ["_law_script","_law_at"] (Ze Zee):=scM
theorem Zl7(T:Txt K mg)(Zah:Callee P w K mg base k "_law_cell" ZK)(Zeh:Callee P w K mg base k "_law_crowd" ZbK)(ZD:Callee P w K mg base k "_law_mix" ZG)(ZcQ:Callee P w K mg base k "_law_deed" ZbD)(ZgG:Callee P w K mg base k "_law_walk" Zdo)(D:Def K mg "_law_works" Zee ["_law_script","_law_at"]):Callee P w K mg base (k+1) "_law_works" ZaY :=
 D.ok Z1 λ_ cdv A outer s H E hr=>by
  exact(Zj (ZO 2 Z1.nd (Zi Zah hr (Zb (Zd 0) (Zb (Zd 1) Zf))))
  (Zj (ZO 3 Z1.nd (ZE ZbS Zk (Zi ZD hr (Zb (Zd 2) (Zb Zk (Zb Zk Zf))))))
  (Zj (ZaI (ZaF cGt (Zbz T.n_len (Zv 0)) Zk) (Zl (ZO 3 Z1.nd (ZE ZbS Zk (Zi ZD hr (Zb (Zd 2) (Zb Zk (Zb Zk Zf))))))) Z5)
  (Zj (ZaK 4 Z1.nd (Zce Zf))
  (Zj (Zcf 5 Z1.nd rfl rfl (Zct T.n_range (ZE ZbS Zk (Zi ZD hr (Zb (Zd 2) (Zb Zk (Zb Zk Zf)))))) (Zl (ZdN 4 (Zi ZcQ hr (Zb (ZE ZbS (Zi Zah hr (Zb (Zd 0) (Zb (ZE ZbS (ZE ZbS (Zd 1) Zk) (Zd 5)) Zf))) (ZE ZeJ Zk (Zd 5))) (Zb (Zd 3) Zf))))))
  (Zj (ZaI (ZaF (cEq hr) (Zi ZD hr (Zb (Zd 2) (Zb Zk (Zb Zk Zf)))) Zk) (Zl (ZaK 4 Z1.nd (Zrc (ZaC (ZlD T.n_list (ZcF (Zi ZgG hr (Zb (Zi Zah hr (Zb (Zd 0) (Zb (ZE ZbS (Zd 1) Zk) Zf))) (Zb (Zd 3) Zf)))))) (ZaC (Zvb (Zv 4) Zg8 (Zhf Zk)))))) Z5)
  (Zj (ZaK 6 Z1.nd (Zce Zf))
  (Zj (Zcf 5 Z1.nd rfl rfl (Zct T.n_range (Zi ZD hr (Zb (Zd 2) (Zb Zk (Zb Zk Zf))))) (Zj (ZO 7 Z1.nd (ZE ZbS (Zi Zah hr (Zb (Zd 0) (Zb (ZE ZbS (ZE ZbS (Zd 1) Zk) (Zd 5)) Zf))) (ZE ZeJ Zk (Zd 5))))
  (Zj (ZO 8 Z1.nd (ZE ZbS Zk (Zi ZD hr (Zb (Zd 7) (Zb Zk (Zb Zk Zf))))))
  (Zl (ZdN 6 (Zad T.n_tuple (ZaC (Zao rfl rfl (N:="_law_state" :: Zgj) (ZF (sc:=Ze Zee) (XN:=Zgj)) (Zct T.n_range (Zd 3)) (λ_ _ _ _ _=>Zbq) (λ_ _ _ _ _=>(Zi ZD hr (Zb (ZE ZbS (Zd 8) (ZE ZeJ (ZE ZeJ Zk (Zd 0)) (Zd 0))) (Zb Zk (Zb (Zd 9) Zf)))))))))))))
  (Zj (ZO 9 Z1.nd (Zi Zeh hr (Zb (Zi Zah hr (Zb (Zd 0) (Zb (ZE ZbS (Zd 1) Zk) Zf))) (Zb (Zd 3) (Zb Zk Zf)))))
  (Zj (ZaI (ZaF (cEq hr) (Zi ZD hr (Zb (Zd 2) (Zb Zk (Zb Zk Zf)))) Zk) (Zl (ZO 9 Z1.nd (Zgx T.n_tuple T.n_range rfl (Zd 3)))) Z5)
  (Zj (ZO 10 Z1.nd (Zi Zeh hr (Zb (Zi Zah hr (Zb (Zd 0) (Zb (ZE ZbS (Zd 1) Zk) Zf))) (Zb (Zd 3) (Zb Zk Zf)))))
  (Zl (Zw (ZaV (Zb (Zd 3) (Zb (Zad T.n_tuple (Zv 4)) (Zb (Zad T.n_tuple (Zv 6)) (Zb (Zd 9) (Zb (Zd 10) Zf)))))))))))))))))))
abbrev Zf4:List Str:=["_law_works_here","_law_cell_here"]
theorem Zl8:Zs Zf4 ["_law_works_here","_law_cell_here"] (Ze Zef):=scM
theorem Zl9(T:Txt K mg)(ZD:Callee P w K mg base k "_law_mix" ZG)(D:Def K mg "_law_looks" Zef ["_law_works_here","_law_cell_here"]):Callee P w K mg base (k+1) "_law_looks" Zch :=
 D.ok Zl8 λ_ cdv A outer s H E hr=>by exact(Zl (Zw (Zad T.n_tuple (ZaC (Zao rfl rfl (N:="_law_look" :: Zf4) (ZF (sc:=Ze Zef) (XN:=Zf4)) (Zct T.n_range (Zbz T.n_len (ZcF (Zan (Zv 0) Zk)))) (λ_ _ _ _ _=>(ZcN (ZaF cGt (Zi ZD hr (Zb (ZE ZbS (Zd 2) (ZE ZeJ Zk (Zd 0))) (Zb Zk (Zb Zk Zf)))) Zk))) (λ_ _ _ _ _=>(Zd 0)))))))
theorem Zma:Zs ["thing","least","most"] ["thing","least","most"] (Ze ZfH):=scM
theorem Zmb(T:Txt K mg)(D:Def K mg "is_number" ZfH ["thing","least","most"]):Callee P w K mg base (k+1) "is_number" ZaW :=
 D.ok Zma λ_ cdv A outer s H E hr=>by
  exact(Zj (ZaI (ZmP (ZmG (ZaU (ZoQ T.n_isinstance T.n_bool (Zd 0))) (Zkf (ZbH (ZaU (Zp8 T.n_isinstance T.n_int (Zd 0))))))) (Zl (Zw Za9)) Z5)
  (Zl (Zw (ZmQ cLe cLe (Zd 1) (Zd 0) (Zd 2)))))
theorem Zdw:Zs ["thing","many","least","number"] ["thing","many"] (Ze ZfI):=scM
theorem Zmc(T:Txt K mg)(Za4:Callee P w K mg base k "is_number" ZaW)(D:Def K mg "is_rising" ZfI ["thing","many"]):Callee P w K mg base (k+1) "is_rising" Z7 :=
 D.ok Zdw λ_ cdv A outer s H E hr=>by
  exact(Zj (ZaI (ZbH (ZaU (Zid T.n_isinstance T.n_tuple (Zd 0)))) (Zl (Zw Za9)) Z5)
  (Zj (ZO 2 Zdw.nd Zk)
  (Zj (Zcf 3 Zdw.nd rfl rfl (Z6 (Zd 0)) (Zj (ZaI (ZbH (ZaU (Zi Za4 hr (Zb (Zd 3) (Zb (Zd 2) (Zb (ZE ZsZ (Zd 1) Zk) Zf)))))) (Zl (Zw Za9)) Z5)
  (Zl (ZO 2 Zdw.nd (ZE ZbS (Zd 3) Zk)))))
  (Zl (Zw Za9)))))
theorem Zm2:Zs ["thing","many"] ["thing","many"] (Ze Zgz):=scM
theorem Zm3(T:Txt K mg)(Zam:Callee P w K mg base k "is_rising" Z7)(D:Def K mg "is_crowd" Zgz ["thing","many"]):Callee P w K mg base (k+1) "is_crowd" Zdn :=
 D.ok Zm2 λ_ cdv A outer s H E hr=>by exact(Zl (Zw (Zd0 (Zi Zam hr (Zb (Zd 0) (Zb (Zd 1) Zf))) (ZdZ (ZdY cGt (Zbz T.n_len (Zv 0)) Zk)))))
theorem Zqc:Zs ["thing","least","most"] ["thing","least","most"] (Ze Ziq):=scM
theorem Zqd(T:Txt K mg)(D:Def K mg "is_row" Ziq ["thing","least","most"]):Callee P w K mg base (k+1) "is_row" ZaP :=
 D.ok Zqc λ_ cdv A outer s H E hr=>by exact(Zl (Zw (Zd0 (Zid T.n_isinstance T.n_tuple (Zd 0)) (ZdZ (ZmQ cLe cLe (Zd 1) (Zbz T.n_len (Zv 0)) (Zd 2))))))
theorem ZoW:Zs ["thing","many"] ["thing","many"] (Ze Zfj):=scM
theorem ZoX(T:Txt K mg)(Zax:Callee P w K mg base k "is_row" ZaP)(Zam:Callee P w K mg base k "is_rising" Z7)(D:Def K mg "is_deed" Zfj ["thing","many"]):Callee P w K mg base (k+1) "is_deed" Zcx :=
 D.ok ZoW λ_ cdv A outer s H E hr=>by exact(Zl (Zw (Zd0 (Zi Zax hr (Zb (Zd 0) (Zb (Zd 1) (Zb (Zd 1) Zf)))) (ZdZ (ZfA T.n_all rfl (ZaC (Zao rfl rfl (N:=["crowd","thing","many"]) (ZF (sc:=Ze Zfj) (XN:=["thing","many"])) (Z6 (Zd 0)) (λ_ _ _ _ _=>Zbq) (λ_ _ _ _ _=>(Zi Zam hr (Zb (Zd 0) (Zb (Zd 2) Zf)))))))))))
theorem Zmd:Zs ["thing","many"] ["thing","many"] (Ze Zd8):=scM
theorem Zme(T:Txt K mg)(Zax:Callee P w K mg base k "is_row" ZaP)(Zhr:Callee P w K mg base k "is_deed" Zcx)(D:Def K mg "are_deeds" Zd8 ["thing","many"]):Callee P w K mg base (k+1) "are_deeds" ZcY :=
 D.ok Zmd λ_ cdv A outer s H E hr=>by exact(Zl (Zw (Zd0 (Zi Zax hr (Zb (Zd 0) (Zb Zk (Zb (ZgY T.c_MOST_DEEDS) Zf)))) (ZdZ (ZfA T.n_all rfl (ZaC (Zao rfl rfl (N:=["deed","thing","many"]) (ZF (sc:=Ze Zd8) (XN:=["thing","many"])) (Z6 (Zd 0)) (λ_ _ _ _ _=>Zbq) (λ_ _ _ _ _=>(Zi Zhr hr (Zb (Zd 0) (Zb (Zd 2) Zf)))))))))))
theorem ZoY:Zs ["thing","many"] ["thing","many"] (Ze Zfk):=scM
theorem ZoZ(T:Txt K mg)(Zax:Callee P w K mg base k "is_row" ZaP)(Za4:Callee P w K mg base k "is_number" ZaW)(D:Def K mg "is_look" Zfk ["thing","many"]):Callee P w K mg base (k+1) "is_look" Zcy :=
 D.ok ZoY λ_ cdv A outer s H E hr=>by exact(Zl (Zw (Zd0 (Zi Zax hr (Zb (Zd 0) (Zb (Zd 1) (Zb (Zd 1) Zf)))) (ZdZ (ZfA T.n_all rfl (ZaC (Zao rfl rfl (N:=["told","thing","many"]) (ZF (sc:=Ze Zfk) (XN:=["thing","many"])) (Z6 (Zd 0)) (λ_ _ _ _ _=>Zbq) (λ_ _ _ _ _=>(Zi Za4 hr (Zb (Zd 0) (Zb Zk (Zb (ZgY T.c_MOST_SEEN) Zf))))))))))))
theorem Zmf:Zs ["thing","many"] ["thing","many"] (Ze Zd9):=scM
theorem Zmg(T:Txt K mg)(Zax:Callee P w K mg base k "is_row" ZaP)(Zhs:Callee P w K mg base k "is_look" Zcy)(D:Def K mg "are_looks" Zd9 ["thing","many"]):Callee P w K mg base (k+1) "are_looks" ZcZ :=
 D.ok Zmf λ_ cdv A outer s H E hr=>by exact(Zl (Zw (Zd0 (Zi Zax hr (Zb (Zd 0) (Zb Zk (Zb (ZgY T.c_MOST_LOOKS) Zf)))) (ZdZ (ZfA T.n_all rfl (ZaC (Zao rfl rfl (N:=["look","thing","many"]) (ZF (sc:=Ze Zd9) (XN:=["thing","many"])) (Z6 (Zd 0)) (λ_ _ _ _ _=>Zbq) (λ_ _ _ _ _=>(Zi Zhs hr (Zb (Zd 0) (Zb (Zd 2) Zf)))))))))))
theorem Zh5:Zs ["thing","many"] ["thing"] (Ze ZfJ):=scM
theorem Zmh(T:Txt K mg)(ZgH:Callee P w K mg base k "is_crowd" Zdn)(Zam:Callee P w K mg base k "is_rising" Z7)(Zax:Callee P w K mg base k "is_row" ZaP)(Za4:Callee P w K mg base k "is_number" ZaW)(ZfO:Callee P w K mg base k "are_deeds" ZcY)(ZfP:Callee P w K mg base k "are_looks" ZcZ)(D:Def K mg "are_works" ZfJ ["thing"]):Callee P w K mg base (k+1) "are_works" Zc0 :=
 D.ok Zh5 λ_ cdv A outer s H E hr=>by
  exact(Zj (ZaI (ZmP (ZmG (ZbH (ZaU (Zi Zax hr (Zb (Zd 0) (Zb Zk (Zb Zk Zf)))))) (Zkf (ZbH (ZaU (Zi Za4 hr (Zb (Zan (Zv 0) Zk) (Zb Zk (Zb (ZgY T.c_MOST_STATES) Zf))))))))) (Zl (Zw Za9)) Z5)
  (Zj (ZO 1 Zh5.nd (Zan (Zv 0) Zk))
  (Zj (ZaI (ZmP (ZmG (ZbH (ZaU (Zi ZfO hr (Zb (Zan (Zv 0) Zk) (Zb (Zd 1) Zf))))) (Zkf (ZbH (ZaU (Zi ZfP hr (Zb (Zan (Zv 0) Zk) (Zb (Zd 1) Zf)))))))) (Zl (Zw Za9)) Z5)
  (Zl (Zw (Zd0 (Zi ZgH hr (Zb (Zan (Zv 0) Zk) (Zb (Zd 1) Zf))) (ZdZ (Zi Zam hr (Zb (Zan (Zv 0) Zk) (Zb (Zd 1) Zf))))))))))
theorem Zo0:Zs ["works"] ["works"] (Ze Zho):=scM
theorem Zo1(T:Txt K mg)(ZfQ:Callee P w K mg base k "are_works" Zc0)(D:Def K mg "checked" Zho ["works"]):Callee P w K mg base (k+1) "checked" ZaX :=
 D.ok Zo0 λ_ cdv A outer s H E hr=>by
  exact(Zj (ZaI (ZbH (ZaU (Zi ZfQ hr (Zb (Zd 0) Zf)))) (Zl ZmR) Z5)
  (Zl (Zw (Zd 0))))
theorem Zm4:Zs ["works"] ["works"] (Ze ZgB):=scM
theorem Zm5(T:Txt K mg)(D:Def K mg "looks_of" ZgB ["works"]):Callee P w K mg base (k+1) "looks_of" Zbm :=
 D.ok Zm4 λ_ cdv A outer s H E hr=>by exact(Zl (Zw (Zan (Zv 0) Zk)))
theorem Zjo:Zs ["works","looks"] ["works","looks"] (Ze ZdA):=scM
theorem Zjp(T:Txt K mg)(Zam:Callee P w K mg base k "is_rising" Z7)(Zbn:Callee P w K mg base k "looks_of" Zbm)(D:Def K mg "checked_looks" ZdA ["works","looks"]):Callee P w K mg base (k+1) "checked_looks" ZbJ :=
 D.ok Zjo λ_ cdv A outer s H E hr=>by
  exact(Zj (ZaI (ZbH (ZaU (Zi Zam hr (Zb (Zd 1) (Zb (Zbz T.n_len (ZcF (Zi Zbn hr (Zb (Zd 0) Zf)))) Zf))))) (Zl ZmR) Z5)
  (Zl (Zw (Zd 1))))
theorem Zm6:Zs ["works"] ["works"] (Ze ZgC):=scM
theorem Zm7(T:Txt K mg)(D:Def K mg "begin_of" ZgC ["works"]):Callee P w K mg base (k+1) "begin_of" ZcO :=
 D.ok Zm6 λ_ cdv A outer s H E hr=>by exact(Zl (Zw (Zan (Zv 0) Zk)))
theorem Zh6:Zs ["rows"] ["rows"] (Ze Zck):=scM
theorem ZkX(T:Txt K mg)(Fn:Fun K "crowds_in" "crowds_in" Zck f fd)(hm:mg "crowds_in" = Z (.ref f))(hb:Binds K fd ["rows"] []):ZdS P w K mg base (k+1) "crowds_in" ZL :=
 ZqN Fn Zh6 hm hb rfl (λr b h=>Zs0 _ _ _ r b h) λcdv A outer s H E hr=>by exact(Zao rfl rfl (N:=["row","rows"]) (ZF (sc:=Ze Zck) (XN:=["rows"])) (Z6 (Zd 0)) (λ_ _ _ _ _=>Zbq) (λ_ _ _ _ _=>(Zan (Zv 0) Zk)))
theorem Zmi(T:Txt K mg)(D:Def K mg "crowds_in" Zck ["rows"]):Callee P w K mg base (k+1) "crowds_in" ZL :=
 D.ok Zh6 λ_ cdv A outer s H E hr=>by exact(Zl (Zw (Zfi (Zao rfl rfl (N:=["row","rows"]) (ZF (sc:=Ze Zck) (XN:=["rows"])) (Z6 (Zd 0)) (λ_ _ _ _ _=>Zbq) (λ_ _ _ _ _=>(Zan (Zv 0) Zk))))))
theorem Zfh:Zs ["rows","costs","known"] ["rows","costs"] (Ze ZcA):=scM
theorem Zjq(T:Txt K mg)(Zbr:Callee P w K mg base k "crowds_in" ZL)(D:Def K mg "cost_at_worst" ZcA ["rows","costs"]):Callee P w K mg base (k+1) "cost_at_worst" Zaj :=
 D.ok Zfh λ_ cdv A outer s H E hr=>by
  have hu:=Zfw hr;exact(Zj (Zda 2 Zfh.nd rfl rfl (N:=["part","rows","costs","known"]) (ZF (sc:=Ze ZcA) (XN:=["rows","costs","known"])) (Z6 (Zi Zbr hr (Zb (Zd 0) Zf))) (λ_ _ _ _ _=>(ZcN (Zve hu (Zd 0) (Zv 2)))) (λ_ _ _ _ _=>(ZgZ hu (Zv 2) (Zd 0))))
  (Zl (Zw (ZtO (ZaF (cEq hr) (Zbz T.n_len (Zv 2)) (Zbz T.n_len (Zv 0))) (Zt3 T.n_max rfl (Zv 2)) Zc9))))
theorem Zit:Zs ["way","depths","most"] ["way","depths"] (Ze ZeT):=scM
theorem Zm8(T:Txt K mg)(Zbk:Callee P w K mg base k "cost_at_worst" Zaj)(D:Def K mg "deeds_by" ZeT ["way","depths"]):Callee P w K mg base (k+1) "deeds_by" Zdq :=
 D.ok Zit λ_ cdv A outer s H E hr=>by
  exact(Zj (ZO 2 Zit.nd (Zi Zbk hr (Zb (Zan (Zv 0) Zk) (Zb (Zd 1) Zf))))
  (Zl (Zw (ZtO (ZaF Zwy (Zd 2) Zc9) Zc9 (ZE ZbS (Zd 2) Zk)))))
theorem Zo2:Zs ["works","looks","state"] ["works","looks","state"] (Ze Zfl):=scM
theorem Zo3(T:Txt K mg)(Zbn:Callee P w K mg base k "looks_of" Zbm)(D:Def K mg "seen_in" Zfl ["works","looks","state"]):Callee P w K mg base (k+1) "seen_in" Zd3 :=
 D.ok Zo2 λ_ cdv A outer s H E hr=>by exact(Zl (Zw (Zad T.n_tuple (ZaC (Zao rfl rfl (N:=["look","works","looks","state"]) (ZF (sc:=Ze Zfl) (XN:=["works","looks","state"])) (Z6 (Zd 1)) (λ_ _ _ _ _=>Zbq) (λ_ _ _ _ _=>(Zan (ZcF (Zan (ZcF (Zi Zbn hr (Zb (Zd 1) Zf))) (Zd 0))) (Zd 3))))))))
abbrev ZiR:List Str:=["works","looks","crowd","found","state"]
theorem Zht:Zs ZiR ["works","looks","crowd"] (Ze Zgk):=scM
theorem Zqe(T:Txt K mg)(Zhu:Callee P w K mg base k "seen_in" Zd3)(D:Def K mg "parted" Zgk ["works","looks","crowd"]):Callee P w K mg base (k+1) "parted" Zba :=
 D.ok Zht λ_ cdv A outer s H E hr=>by
  have hu:=Zfw hr;exact(Zj (ZaK 3 Zht.nd Zvc)
  (Zj (Zcf 4 Zht.nd rfl rfl (Z6 (Zd 2)) (Zl (ZsD hu 3 (Zi Zhu hr (Zb (Zd 0) (Zb (Zd 1) (Zb (Zd 4) Zf)))) (Zd 4) ⟨rfl,rfl,rfl,rfl⟩)))
  (Zl (Zw (Zfi (Zao rfl rfl (N:="seen" :: ZiR) (ZF (sc:=Ze Zgk) (XN:=ZiR)) (Z6 (Zfi (Zif T.n_sorted rfl (Zv 3)))) (λ_ _ _ _ _=>Zbq) (λ_ _ _ _ _=>(ZaV (Zb (Zd 0) (Zb (Zad T.n_tuple (Zvd hu 4 (Zd 0))) Zf))))))))))
theorem Zm9:Zs ["works"] ["works"] (Ze ZgA):=scM
theorem Zna(T:Txt K mg)(D:Def K mg "deeds_of" ZgA ["works"]):Callee P w K mg base (k+1) "deeds_of" ZaM :=
 D.ok Zm9 λ_ cdv A outer s H E hr=>by exact(Zl (Zw (Zan (Zv 0) Zk)))
theorem Zgl:Zs ["works","crowd","deed","leads"] ["works","crowd","deed"] (Ze Zdd):=scM
theorem Zkj(T:Txt K mg)(ZaA:Callee P w K mg base k "deeds_of" ZaM)(D:Def K mg "can_be_done" Zdd ["works","crowd","deed"]):Callee P w K mg base (k+1) "can_be_done" Zcg :=
 D.ok Zgl λ_ cdv A outer s H E hr=>by
  exact(Zj (ZO 3 Zgl.nd (Zan (ZcF (Zi ZaA hr (Zb (Zd 0) Zf))) (Zd 2)))
  (Zl (Zw (ZfA T.n_all rfl (ZaC (Zao rfl rfl (N:=["state","works","crowd","deed","leads"]) (ZF (sc:=Ze Zdd) (XN:=["works","crowd","deed","leads"])) (Z6 (Zd 1)) (λ_ _ _ _ _=>Zbq) (λ_ _ _ _ _=>(ZdY cGt (Zbz T.n_len (ZcF (Zan (Zv 4) (Zd 0)))) Zk))))))))
theorem ZkY:Zs ["works","crowd"] ["works","crowd"] (Ze Zdv):=scM
theorem ZkZ(T:Txt K mg)(Zez:Callee P w K mg base k "can_be_done" Zcg)(ZaA:Callee P w K mg base k "deeds_of" ZaM)(D:Def K mg "deeds_with" Zdv ["works","crowd"]):Callee P w K mg base (k+1) "deeds_with" ZcG :=
 D.ok ZkY λ_ cdv A outer s H E hr=>by exact(Zl (Zw (Zfi (Zao rfl rfl (N:=["deed","works","crowd"]) (ZF (sc:=Ze Zdv) (XN:=["works","crowd"])) (Zct T.n_range (Zbz T.n_len (ZcF (Zi ZaA hr (Zb (Zd 0) Zf))))) (λ_ _ _ _ _=>(ZcN (ZaU (Zi Zez hr (Zb (Zd 1) (Zb (Zd 2) (Zb (Zd 0) Zf))))))) (λ_ _ _ _ _=>(Zd 0))))))
theorem Zei:Zs ["works","crowd","deed","leads","found","state","target"] ["works","crowd","deed"] (Ze Zir):=scM
theorem Zqf(T:Txt K mg)(ZaA:Callee P w K mg base k "deeds_of" ZaM)(D:Def K mg "led_to" Zir ["works","crowd","deed"]):Callee P w K mg base (k+1) "led_to" ZdO :=
 D.ok Zei λ_ cdv A outer s H E hr=>by
  have hu:=Zfw hr;exact(Zj (ZO 3 Zei.nd (Zan (ZcF (Zi ZaA hr (Zb (Zd 0) Zf))) (Zd 2)))
  (Zj (ZaK 4 Zei.nd ZwG)
  (Zj (Zcf 5 Zei.nd rfl rfl (Z6 (Zd 1)) (Zl (Zcf 6 Zei.nd rfl rfl (Z6 (Zan (Zv 3) (Zd 5))) (Zl (Zie hu 4 (Zd 6) Za9)))))
  (Zl (Zw (Zad T.n_tuple (ZaC (Zif T.n_sorted rfl (Zv 4)))))))))
theorem Zmj:Zs ["works","looks","crowd"] ["works","looks","crowd"] (Ze Zeb):=scM
theorem Zmk(T:Txt K mg)(Zb4:Callee P w K mg base k "parted" Zba)(Ze7:Callee P w K mg base k "deeds_with" ZcG)(Ziu:Callee P w K mg base k "led_to" ZdO)(D:Def K mg "ways_with" Zeb ["works","looks","crowd"]):Callee P w K mg base (k+1) "ways_with" ZaZ :=
 D.ok Zmj λ_ cdv A outer s H E hr=>by exact(Zl (Zw (Zfi (Zao rfl rfl (N:=["deed","works","looks","crowd"]) (ZF (sc:=Ze Zeb) (XN:=["works","looks","crowd"])) (Z6 (Zi Ze7 hr (Zb (Zd 0) (Zb (Zd 2) Zf)))) (λ_ _ _ _ _=>Zbq) (λ_ _ _ _ _=>(ZaV (Zb (Zd 0) (Zb (Zi Zb4 hr (Zb (Zd 1) (Zb (Zd 2) (Zb (Zi Ziu hr (Zb (Zd 1) (Zb (Zd 3) (Zb (Zd 0) Zf)))) Zf)))) Zf))))))))
abbrev ZcL:List Str:=["ways","costs","cost_by","told"]
theorem Zg1:Zs ZcL ["ways","costs","cost_by"] (Ze ZcJ):=scM
theorem Zk0(T:Txt K mg)(CV:ZdR P w K mg base k ap)(D:Def K mg "least_cost" ZcJ ["ways","costs","cost_by"]):Callee P w K mg base (k+1) "least_cost" (Zb0 ap) :=
 D.ok Zg1 λ_ cdv A outer s H E hr=>by
  exact(Zj (Zda 3 Zg1.nd rfl rfl (N:="way" :: ZcL) (ZF (sc:=Ze ZcJ) (XN:=ZcL)) (Z6 (Zd 0)) (λ_ _ _ _ _=>Zbq) (λ_ _ _ _ _=>(ZmW CV hr 3 (Zb (Zd 0) (Zb (Zd 2) Zf)))))
  (Zl (Zd1 3 (Zw (Zpv T.n_min rfl (ZaC (Zao rfl rfl (N:="cost" :: ZcL) (ZF (sc:=Ze ZcJ) (XN:=ZcL)) (Z6 (Zd 3)) (λ_ _ _ _ _=>(ZcN (ZaF ZkI (Zd 0) Zc9))) (λ_ _ _ _ _=>(Zd 0)))))))))
theorem Zdf:Zs ["reach","costs","cost_by","found","crowd","cost"] ["reach","costs","cost_by"] (Ze Ze4):=scM
theorem ZkW(T:Txt K mg)(Ze8:Callee P w K mg base k "least_cost" (Zb0 ap))(Fn:Fun K "next_costs" "next_costs" Ze4 f fd)(hm:mg "next_costs" = Z (.ref f))(hb:Binds K fd ["reach","costs","cost_by"] []):ZdX P w K mg base (k+1) "next_costs" (Zbc ap) :=
 ZqC Fn Zdf hm hb λcdv A outer s H E hr=>by
  have hu:=Zfw hr;exact(Zot (ZaK 3 Zdf.nd Zp9)
  (Zot (Zi5 0 (Zcf 4 Zdf.nd rfl rfl (Zi6 0) (Zl (ZaI (ZlE hu (Zd 4) (Zv 1)) (Zj (ZO 5 Zdf.nd (Zi Ze8 hr (Zb (ZgZ hu (Zv 0) (Zd 4)) (Zb (Zd 1) (Zb (Zd 2) Zf)))))
  (Zl (ZaI (ZaF ZkI (Zd 5) Zc9) (Zl (Zie hu 3 (Zd 4) (Zd 5))) Z5))) Z5))))
  (Zul 3)))
theorem Zo4:Zs ["works"] ["works"] (Ze Zhn):=scM
theorem Zo5(T:Txt K mg)(D:Def K mg "goal_of" Zhn ["works"]):Callee P w K mg base (k+1) "goal_of" Zcz :=
 D.ok Zo4 λ_ cdv A outer s H E hr=>by exact(Zl (Zw (Zan (Zv 0) Zk)))
theorem Znb:Zs ["works","crowd"] ["works","crowd"] (Ze ZeS):=scM
theorem Znc(T:Txt K mg)(Zdg:Callee P w K mg base k "goal_of" Zcz)(D:Def K mg "is_there" ZeS ["works","crowd"]):Callee P w K mg base (k+1) "is_there" ZbE :=
 D.ok Znb λ_ cdv A outer s H E hr=>by exact(Zl (Zw (ZfA T.n_all rfl (ZaC (Zao rfl rfl (N:=["state","works","crowd"]) (ZF (sc:=Ze ZeS) (XN:=["works","crowd"])) (Z6 (Zd 1)) (λ_ _ _ _ _=>Zbq) (λ_ _ _ _ _=>(Zrd (Zd 0) (ZcF (Zi Zdg hr (Zb (Zd 1) Zf))))))))))
abbrev ZeU:List Str:=["works","reach","cost_by","costs","cost","found","crowd","offered"]
theorem Zbs:Zs ZeU ["works","reach","cost_by"] (Ze ZcP):=scM
theorem Znd(T:Txt K mg)(ZgI:Callee P w K mg base k "is_there" ZbE)(Gf_next_costs:ZdX P w K mg base k "next_costs" (Zbc ap))(D:Def K mg "costs_of" ZcP ["works","reach","cost_by"]):Callee P w K mg base (k+1) "costs_of" (Zdp ap) :=
 D.ok Zbs λ_ cdv A outer s H E hr=>by
  have hu:=Zfw hr;exact(Zj (ZaK 3 Zbs.nd Zp9)
  (Zj (ZO 4 Zbs.nd Zk)
  (Zj (Zi5 1 (Zda 5 Zbs.nd rfl rfl (N:=["crowd","works","reach","cost_by","costs","cost","found"," ","offered"]) (ZF (sc:=Ze ZcP) (XN:=ZeU)) (Zi6 1) (λ_ _ _ _ _=>(ZcN (ZaU (Zi ZgI hr (Zb (Zd 1) (Zb (Zd 0) Zf)))))) (λ_ _ _ _ _=>(Zd 0))))
  (Zj (ZmU 100000 rfl (ZaF cGt (Zbz T.n_len (Zv 5)) Zk) (Zj (Zd1 5 (Zcf 6 Zbs.nd rfl rfl (Z6 (Zd 5)) (Zl (Zie hu 3 (Zd 6) (Zd 4)))))
  (Zj (ZaK 7 Zbs.nd (ZsG Gf_next_costs hr (ZmV (Zd 1) (ZsE (Zv 3) (ZmV (Zd 2) (Zvf Zf))))))
  (Zj (Zd1 7 (Zi5 7 (ZO 4 Zbs.nd (Zpv T.n_min rfl (ZaC (Zao rfl rfl (N:=["crowd","works","reach","cost_by","costs","cost","found"," ","offered"]) (ZF (sc:=Ze ZcP) (XN:=ZeU)) (Zi6 7) (λ_ _ _ _ _=>Zbq) (λ_ _ _ _ _=>(ZgZ hu (Zv 8) (Zd 0)))))))))
  (Zl (Zd1 7 (Zi5 7 (Zda 5 Zbs.nd rfl rfl (N:=["crowd","works","reach","cost_by","costs","cost","found"," ","offered"]) (ZF (sc:=Ze ZcP) (XN:=ZeU)) (Zi6 7) (λ_ _ _ _ _=>(ZcN (ZaF (cEq hr) (ZgZ hu (Zv 8) (Zd 0)) (Zd 5)))) (λ_ _ _ _ _=>(Zd 0))))))))))
  (Zl (Zd1 3 (Zw (Zd 3))))))))
theorem Zml:Zs ["works","coming"] ["works","coming"] (Ze ZfM):=scM
theorem Zmm(T:Txt K mg)(ZgJ:Callee P w K mg base k "costs_of" (Zdp ap))(Vff_deeds_by:GFn mg "deeds_by" 0)(D:Def K mg "depths_of" ZfM ["works","coming"]):Callee P w K mg base (k+1) "depths_of" (Zd7 ap) :=
 D.ok Zml λ_ cdv A outer s H E hr=>by exact(Zl (Zw (Zi ZgJ hr (Zb (Zd 0) (Zb (Zd 1) (Zb (Zvh Vff_deeds_by) Zf))))))
theorem ZbP:Zs ["crowds","ways_for","reach","waiting","crowd","way"] ["crowds","ways_for"] (Ze Zea):=scM
theorem ZjL(T:Txt K mg)(Zbr:Callee P w K mg base k "crowds_in" ZL)(ZfR:ZdS P w K mg base k "crowds_in" ZL)(CV:ZdR P w K mg base k ap)(D:Def K mg "reached_from" Zea ["crowds","ways_for"]):Callee P w K mg base (k+1) "reached_from" (Zb3 ap) :=
 D.ok ZbP λ_ cdv A outer s H E hr=>by
  have hu:=Zfw hr;exact(Zj (ZaK 2 ZbP.nd Zp9)
  (Zj (ZaK 3 ZbP.nd (ZlD T.n_list (Zv 0)))
  (Zj (ZmU 100000 rfl (ZaF cGt (Zbz T.n_len (Zv 3)) Zk) (Zj (Zvg 4 3 ZbP.nd)
  (Zl (ZaI (ZlE hu (Zd 4) (Zv 2)) (Zj (Zie hu 2 (Zd 4) (ZmW CV hr 1 (Zb (Zd 4) Zf)))
  (Zl (Zcf 5 ZbP.nd rfl rfl (Z6 (ZgZ hu (Zv 2) (Zd 4))) (Zl (Zrf 3 (ZaC (ZsF ZfR hr (Zb (Zan (Zv 5) Zk) Zf)))))))) Z5))))
  (Zl (Zd1 2 (Zw (Zd 2)))))))
theorem Zkk:Zs ["works","looks","crowd"] ["works","looks","crowd"] (Ze ZM):=scM
theorem Zvk:ZmN ["works","looks","crowd"] (Ze ZM) (Zff ZM) ["works","looks"] [0,1]=ZDC:=by decide +kernel
theorem Zkl(T:Txt K mg)(Zej:Callee P w K mg base k "reached_from" (Zb3 ap))(Zbr:Callee P w K mg base k "crowds_in" ZL)(Zb4:Callee P w K mg base k "parted" Zba)(Zc5:Callee P w K mg base k "ways_with" ZaZ)(hc:ZzI K c Tl=ZDC)(ht:(Tl,("coming_from.<locals>.<lambda>":Str))∈FX.tl)(hq:∀q,(Tl,q)∈FX.tl->q=("coming_from.<locals>.<lambda>":Str))(bm:BMod base mg)(good:∀F p cs,Clo K F p (Zq3 ZM) (Zln ZM) (Zff ZM) ["works","looks"] cs->FX.fv 1 cs F p)(Fn:ZoJ K "coming_from" "coming_from" ZM f fd c)(hm:mg "coming_from" = Z (.ref f))(hb:Binds K fd ["works","looks","crowd"] []):Callee P w K mg base (k+1) "coming_from" (Zci ap) :=
 ZkV Fn Zkk hm hb λA outer s H E hr=>by exact(Zl (Zw (Zqa Zej hr (Zon Zvk hc ht hq bm good) (Zi Zbr hr (Zb (Zi Zb4 hr (Zb (Zd 0) (Zb (Zd 1) (Zb (Zd 2) Zf)))) Zf)))))
theorem Zhv:Zs ["works","looks","begin","depths"] ["works","looks"] (Ze Zis):=scM
theorem Zqg(T:Txt K mg)(ZaN:Callee P w K mg base k "checked" ZaX)(ZdB:Callee P w K mg base k "checked_looks" ZbJ)(ZcR:Callee P w K mg base k "begin_of" ZcO)(ZfS:Callee P w K mg base k "depths_of" (Zd7 ap))(Zbk:Callee P w K mg base k "cost_at_worst" Zaj)(ZeA:Callee P w K mg base k "coming_from" (Zci ap))(Zb4:Callee P w K mg base k "parted" Zba)(D:Def K mg "fewest" Zis ["works","looks"]):Callee P w K mg base (k+1) "fewest" (Z8 ap) :=
 D.ok Zhv λ_ cdv A outer s H E hr=>by
  exact(Zj (Zi4 (Zi ZaN hr (Zb (Zd 0) Zf)))
  (Zj (Zi4 (Zi ZdB hr (Zb (Zd 0) (Zb (Zd 1) Zf))))
  (Zj (ZO 2 Zhv.nd (Zi ZcR hr (Zb (Zd 0) Zf)))
  (Zj (ZO 3 Zhv.nd (Zi ZfS hr (Zb (Zd 0) (Zb (Zi ZeA hr (Zb (Zd 0) (Zb (Zd 1) (Zb (Zd 2) Zf)))) Zf))))
  (Zl (Zw (Zi Zbk hr (Zb (Zi Zb4 hr (Zb (Zd 0) (Zb (Zd 1) (Zb (Zd 2) Zf)))) (Zb (Zd 3) Zf)))))))))
theorem Zkm:Zs ["_law_one","_law_other"] ["_law_one","_law_other"] (Ze Zey):=scM
theorem Zkn(T:Txt K mg)(D:Def K mg "_law_no_more" Zey ["_law_one","_law_other"]):Callee P w K mg base (k+1) "_law_no_more" Z0 :=
 D.ok Zkm λ_ cdv A outer s H E hr=>by
  exact(Zj (ZaI (ZaF Zwy (Zd 1) Zc9) (Zl (Zw Za9)) Z5)
  (Zl (Zw (Zd0 (ZdY ZkI (Zd 0) Zc9) (ZdZ (ZdY cLe (Zd 0) (Zd 1)))))))
theorem Zmn:Zs ["works"] ["works"] (Ze ZfK):=scM
theorem Zmo(T:Txt K mg)(D:Def K mg "states_of" ZfK ["works"]):Callee P w K mg base (k+1) "states_of" ZbI :=
 D.ok Zmn λ_ cdv A outer s H E hr=>by exact(Zl (Zw (Zan (Zv 0) Zk)))
theorem Zg2:Zs ["works","look"] ["works"] (Ze Ze5):=scM
theorem Zk1(T:Txt K mg)(ZaN:Callee P w K mg base k "checked" ZaX)(ZaJ:Callee P w K mg base k "fewest" (Z8 ap))(Zek:Callee P w K mg base k "states_of" ZbI)(ZaA:Callee P w K mg base k "deeds_of" ZaM)(ZcR:Callee P w K mg base k "begin_of" ZcO)(Zdg:Callee P w K mg base k "goal_of" Zcz)(D:Def K mg "seen_whole" Ze5 ["works"]):Callee P w K mg base (k+1) "seen_whole" (Zbb ap) :=
 D.ok Zg2 λ_ cdv A outer s H E hr=>by
  exact(Zj (Zi4 (Zi ZaN hr (Zb (Zd 0) Zf)))
  (Zj (ZO 1 Zg2.nd (Zgx T.n_tuple T.n_range rfl (Zi Zek hr (Zb (Zd 0) Zf))))
  (Zl (Zw (Zi ZaJ hr (Zb (ZaV (Zb (Zi Zek hr (Zb (Zd 0) Zf)) (Zb (Zi ZaA hr (Zb (Zd 0) Zf)) (Zb (ZaV (Zb (Zd 1) Zf)) (Zb (Zi ZcR hr (Zb (Zd 0) Zf)) (Zb (Zi Zdg hr (Zb (Zd 0) Zf)) Zf)))))) (Zb (ZaV (Zb Zk Zf)) Zf)))))))
theorem Zmp:Zs ["works"] ["works"] (Ze ZfL):=scM
theorem Zmq(T:Txt K mg)(Zbn:Callee P w K mg base k "looks_of" Zbm)(ZaN:Callee P w K mg base k "checked" ZaX)(D:Def K mg "all_looks" ZfL ["works"]):Callee P w K mg base (k+1) "all_looks" ZbM :=
 D.ok Zmp λ_ cdv A outer s H E hr=>by exact(Zl (Zw (Zgx T.n_tuple T.n_range rfl (Zbz T.n_len (ZcF (Zi Zbn hr (Zb (Zi ZaN hr (Zb (Zd 0) Zf)) Zf)))))))
theorem ZcV:Zs ["works","found","look"] ["works"] (Ze ZI):=scM
theorem Zwi:ZmN ["works","found","look"] (Ze ZI) (Zff ZI) [] []=ZDC:=by decide +kernel
theorem Zko(T:Txt K mg)(ZfT:Callee P w K mg base k "all_looks" ZbM)(hc:ZzI K c Tl=ZDC)(ht:(Tl,("all_choices.<locals>.<lambda>":Str))∈FX.tl)(hq:∀q,(Tl,q)∈FX.tl->q=("all_choices.<locals>.<lambda>":Str))(bm:BMod base mg)(good:∀F p cs,Clo K F p (Zq3 ZI) (Zln ZI) (Zff ZI) [] cs->FX.fv 8 cs F p)(hk:3<=k)(Fn:ZoJ K "all_choices" "all_choices" ZI f fd c)(hm:mg "all_choices" = Z (.ref f))(hb:Binds K fd ["works"] []):Callee P w K mg base (k+1) "all_choices" Zbj :=
 ZkV Fn ZcV hm hb λA outer s H E hr=>by
  exact(Zj (ZaK 1 ZcV.nd (Zce (Zb (ZaV Zf) Zf)))
  (Zj (Zcf 2 ZcV.nd rfl rfl (Z6 (Zi ZfT hr (Zb (Zd 0) Zf))) (Zl (Zd1 1 (ZaK 1 ZcV.nd (Zt4 (Zv 1) (ZaC (Zao rfl rfl (N:=["choice","works","found","look"]) (ZF (sc:=Ze ZI) (XN:=["works","found","look"])) (Z6 (Zd 1)) (λ_ _ _ _ _=>Zbq) (λ_ _ _ _ _=>(ZcX (Zd 0) (ZaV (Zb (Zd 3) Zf)))))))))))
  (Zl (Zw (Zfi (ZoS (k:=0) T.n_sorted rfl (hr.mono hk) (Zon Zwi hc ht hq bm good) ZwB (λ_ _ _ _ _ _=>rfl) (Zwd T) (by decide +kernel) rfl (Zv 1)))))))
theorem Zh7:Zs ["works","choice","most","deeds"] ["works","choice","most"] (Ze ZfN):=scM
theorem Zmr(T:Txt K mg)(ZaJ:Callee P w K mg base k "fewest" (Z8 ap))(D:Def K mg "is_enough" ZfN ["works","choice","most"]):Callee P w K mg base (k+1) "is_enough" (Za2 ap) :=
 D.ok Zh7 λ_ cdv A outer s H E hr=>by
  exact(Zj (ZO 3 Zh7.nd (Zi ZaJ hr (Zb (Zd 0) (Zb (Zd 1) Zf))))
  (Zl (Zw (Zd0 (ZdY ZkI (Zd 3) Zc9) (ZdZ (ZdY cLe (Zd 3) (Zd 2)))))))
theorem Zms:Zs ["fewer","more"] ["fewer","more"] (Ze Zec):=scM
theorem Zmt(T:Txt K mg)(D:Def K mg "is_within" Zec ["fewer","more"]):Callee P w K mg base (k+1) "is_within" Za1 :=
 D.ok Zms λ_ cdv A outer s H E hr=>by exact(Zl (Zw (ZfA T.n_all rfl (ZaC (Zao rfl rfl (N:=["look","fewer","more"]) (ZF (sc:=Ze Zec) (XN:=["fewer","more"])) (Z6 (Zd 0)) (λ_ _ _ _ _=>Zbq) (λ_ _ _ _ _=>(Zrd (Zd 0) (Zv 2))))))))
theorem Zel:Zs ["works","most","told","choice"] ["works","most"] (Ze Zde):=scM
theorem Zkp(T:Txt K mg)(ZeB:Callee P w K mg base k "all_choices" Zbj)(ZfU:Callee P w K mg base k "is_enough" (Za2 ap))(ZfV:Callee P w K mg base k "is_within" Za1)(D:Def K mg "weakest_for" Zde ["works","most"]):Callee P w K mg base (k+1) "weakest_for" (Zdb ap) :=
 D.ok Zel λ_ cdv A outer s H E hr=>by
  exact(Zj (ZaK 2 Zel.nd (Zce Zf))
  (Zj (Zcf 3 Zel.nd rfl rfl (Z6 (Zi ZeB hr (Zb (Zd 0) Zf))) (Zl (ZaI (Zvi 2 (ZmP (Zu6 (ZbH (ZaU (Zu7 T.n_any rfl (ZaC (Zao rfl rfl (N:=["weaker","works","most","told","choice"]) (ZF (sc:=Ze Zde) (XN:=["works","most","told","choice"])) (Z6 (Zd 2)) (λ_ _ _ _ _=>Zbq) (λ_ _ _ _ _=>(Zi ZfV hr (Zb (Zd 0) (Zb (Zd 4) Zf))))))))) (Zt1 (ZaU (Zi ZfU hr (Zb (Zd 0) (Zb (Zd 3) (Zb (Zd 1) Zf))))))))) (Zl (ZdN 2 (Zd 3))) Z5)))
  (Zl (Zd1 2 (Zw (Zd 2))))))
theorem Zo6:Zs ["works"] ["works"] (Ze Zhp):=scM
theorem Zo7(T:Txt K mg)(ZaN:Callee P w K mg base k "checked" ZaX)(ZeC:Callee P w K mg base k "weakest_for" (Zdb ap))(D:Def K mg "weakest" Zhp ["works"]):Callee P w K mg base (k+1) "weakest" (Zdc ap) :=
 D.ok Zo6 λ_ cdv A outer s H E hr=>by
  exact(Zj (Zi4 (Zi ZaN hr (Zb (Zd 0) Zf)))
  (Zl (Zw (Zi ZeC hr (Zb (Zd 0) (Zb (ZgY T.c_MOST_NUMBER) Zf))))))
abbrev ZfY:List Str:=["_law_script","_law_works_here","_law_one","_law_other","_law_both","_law_many","_law_some","_law_state","_law_more","_law_less","_law_fewer","_law_deed_here"]
theorem Zb1:Zs ZfY ["_law_script"] (Ze Zeg):=scM
theorem Zt5(T:Txt K mg)(ZfW:Callee P w K mg base k "_law_works" ZaY)(Zem:Callee P w K mg base k "_law_looks" Zch)(ZaJ:Callee P w K mg base k "fewest" (Z8 ap))(ZcQ:Callee P w K mg base k "_law_deed" ZbD)(ZaQ:Callee P w K mg base k "_law_no_more" Z0)(Zah:Callee P w K mg base k "_law_cell" ZK)(Ze9:Callee P w K mg base k "seen_whole" (Zbb ap))(Zhw:Callee P w K mg base k "weakest" (Zdc ap))(Fn:Fun K "law" "law" Zeg f fd):Zc8 P w K mg base CX0 (k+1) f fd ["_law_script"] (spD K 1 (ZfG ap)) :=
 ZpU Fn Zb1 λcdv A outer s H E hr=>by
  exact(Zj (ZO 1 Zb1.nd (Zi ZfW hr (Zb (Zd 0) (Zb Zk Zf))))
  (Zj (ZO 2 Zb1.nd (Zi Zem hr (Zb (Zd 1) (Zb (Zi Zah hr (Zb (Zd 0) (Zb Zk Zf))) Zf))))
  (Zj (ZO 3 Zb1.nd (Zi Zem hr (Zb (Zd 1) (Zb (Zi Zah hr (Zb (Zd 0) (Zb Zk Zf))) Zf))))
  (Zj (ZO 4 Zb1.nd (Zad T.n_tuple (ZaC (Zh3 T.n_sorted T.n_set rfl (ZcX (Zd 2) (Zd 3))))))
  (Zj (ZO 5 Zb1.nd (Zi ZaJ hr (Zb (Zd 1) (Zb (Zd 2) Zf))))
  (Zj (ZaI (ZmP (ZmG (ZbH (ZaU (Zi ZaQ hr (Zb (Zi ZaJ hr (Zb (Zd 1) (Zb (Zd 4) Zf))) (Zb (Zd 5) Zf))))) (Zkf (ZbH (ZaU (Zi ZaQ hr (Zb (Zd 5) (Zb (Zi ZaJ hr (Zb (Zd 1) (Zb (ZaV Zf) Zf))) Zf)))))))) (Zl (Zw Za9)) Z5)
  (Zj (ZaI (ZbH (ZaU (Zi ZaQ hr (Zb (Zi Ze9 hr (Zb (Zd 1) Zf)) (Zb (Zd 5) Zf))))) (Zl (Zw Za9)) Z5)
  (Zj (Zda 6 Zb1.nd rfl rfl (N:="_law_choice" :: ZfY) (ZF (sc:=Ze Zeg) (XN:=ZfY)) (Z6 (Zi Zhw hr (Zb (Zd 1) Zf))) (λ_ _ _ _ _=>(ZcN (ZaF (cEq hr) (Zfi (Zao rfl rfl (N:="_law_look" :: "_law_choice" :: ZfY) (ZF (XN:="_law_choice" :: ZfY) rfl rfl rfl (by kernel_rfl)) (Z6 (Zd 0)) (λ_ _ _ _ _=>(ZcN (Zre (Zd 0) (Zv 4)))) (λ_ _ _ _ _=>(Zd 0)))) (Zfi (Zce Zf))))) (λ_ _ _ _ _=>(Zd 0)))
  (Zj (Zd1 6 (ZaI (ZaF (cNe hr) (ZdY (cNe hr) (Zd 6) (Zfi (Zce Zf))) (ZdY ZkI (Zd 5) Zc9)) (Zl (Zw Za9)) Z5))
  (Zj (ZO 7 Zb1.nd (ZE oMod (Zi Zah hr (Zb (Zd 0) (Zb Zk Zf))) (Zan (Zv 1) Zk)))
  (Zj (ZO 8 Zb1.nd (ZcX (Zi7 (Zd 1) Zg8 (Zhf Zk)) (ZaV (Zb (Zad T.n_tuple (ZaC (Zh3 T.n_sorted T.n_set rfl (ZcX (Zan (Zv 1) Zk) (ZaV (Zb (Zd 7) Zf)))))) Zf))))
  (Zj (ZaI (ZbH (ZaU (Zi ZaQ hr (Zb (Zi ZaJ hr (Zb (Zd 8) (Zb (Zd 2) Zf))) (Zb (Zd 5) Zf))))) (Zl (Zw Za9)) Z5)
  (Zj (ZO 9 Zb1.nd (Zad T.n_tuple (ZaC (Zao rfl rfl (N:="_law_begin" :: ZfY) (ZF (sc:=Ze Zeg) (XN:=ZfY)) (Z6 (Zan (Zv 1) Zk)) (λ_ _ _ _ _=>(ZcN (ZaF (cNe hr) (Zd 0) (Zd 8)))) (λ_ _ _ _ _=>(Zd 0))))))
  (Zj (ZaI (ZaF (cNe hr) (Zd 9) (ZaV Zf)) (Zj (ZO 10 Zb1.nd (ZcX (ZcX (Zi7 (Zd 1) Zg8 (Zhf Zk)) (ZaV (Zb (Zd 9) Zf))) (Zi7 (Zd 1) (Zhf Zk) Zg8)))
  (Zl (ZaI (ZbH (ZaU (Zi ZaQ hr (Zb (Zi ZaJ hr (Zb (Zd 10) (Zb (Zd 2) Zf))) (Zb (Zd 5) Zf))))) (Zl (Zw Za9)) Z5))) Z5)
  (Zj (ZaI (ZaF (cEq hr) (Zbz T.n_len (ZcF (Zan (Zv 1) Zk))) Zk) (Zl (Zw Za9)) Z5)
  (Zj (ZO 11 Zb1.nd (Zi ZcQ hr (Zb (Zi Zah hr (Zb (Zd 0) (Zb Zk Zf))) (Zb (Zan (Zv 1) Zk) Zf))))
  (Zl (Zw (Zi ZaQ hr (Zb (Zi ZaJ hr (Zb (ZcX (ZaV (Zb (Zan (Zv 1) Zk) (Zb (ZcX (Zan (Zv 1) Zk) (ZaV (Zb (Zd 11) Zf))) Zf))) (Zi7 (Zd 1) (Zhf Zk) Zg8)) (Zb (Zd 2) Zf))) (Zb (Zd 5) Zf)))))))))))))))))))))
def FvI(K:Zyk)(t:Nat)(cs:List PyData)(F:Hp)(a:Addr):Prop :=
 (t=0/\cs=[]/\ZAI K Zy7 "deeds_by" = Z (Z (.ref a)))\/(t=1/\Clo K F a (Zq3 ZM) (Zln ZM) (Zff ZM) ["works","looks"] cs)\/(t=8/\Clo K F a (Zq3 ZI) (Zln ZI) (Zff ZI) [] cs)
theorem ZvI:ZeO (Zff ZM) "part" ["works","looks"]:=⟨rfl,rfl,rfl,by decide +kernel,rfl,by decide +kernel,by decide +kernel⟩
theorem Zwc(T:Txt K mg)(Zc5:Callee P w K mg base k "ways_with" ZaZ)(qual:Str)(f:Addr)(cd:Value)(clos:List (Str × Addr))(A:Around)(outer:List PySem.Env)(s:Shared)(H:Hp)(hr:ZV k (A.deeper (ZAp qual (Zff ZM) s.heap.objs.size f cd clos))) :
  XE (Zh0 P w K mg base ["part","works","looks"] qual (Zff ZM) f cd clos A outer s H) (Zln ZM) (Zh ZaZ (Za (Zc 1) (Za (Zc 2) (Za (Zc 0) Zg)))):=by
 have hu:=Zfw hr;exact(Zi Zc5 hr (Zb (Zd 1) (Zb (Zd 2) (Zb (Zd 0) Zf))))
theorem ZwI(T:Txt K mg)(V:∀t cs F a,FX.fv t cs F a->FvI K t cs F a){f0:Addr}{fd0:FuncData}(Fn0:Fun K "deeds_by" "deeds_by" ZeT f0 fd0)(hm0:mg "deeds_by" = Z (.ref f0))(hn0:∀a,ZAI K Zy7 "deeds_by" = Z (Z (.ref a))->mg "deeds_by" = Z (.ref a))(ZgK:Callee P w K mg base (k+1) "deeds_by" Zdq)(Lf_ways_with:Callee P w K mg base k "ways_with" ZaZ):ZdR P w K mg base (k+1) ap:=by
 constructor
 ·intro t cs F a h A outer s H e0 sub
  rcases V t cs F a h with⟨rfl,rfl,hn⟩ | ⟨rfl,hC⟩ | ⟨rfl,hC⟩
  ·exact Zun Fn0 hm0 (hn0 a hn) e0
  ·exact ZrJ hC e0 sub
  ·exact ZrJ hC e0 sub
 ·intro t cs F a h A outer s H e0 sub us vs ds d Q hr tb nt rv rs hap kk
  rcases V t cs F a h with⟨rfl,rfl,hn⟩ | ⟨rfl,hC⟩ | ⟨rfl,hC⟩
  ·exact ZtF ZgK (hn0 a hn) e0 sub hr tb nt rv rs hap kk
  ·exact Zpw ZvI (λ_ _ _ _ _ _=>rfl) (Zwc T Lf_ways_with) hC e0 sub hr tb nt rv rs hap kk
  ·exact absurd (show(Z_:Option PyData)=Z d from hap) (by simp)
def tlI:List (Addr × Str):=[(235,"coming_from.<locals>.<lambda>"),(263,"all_choices.<locals>.<lambda>")]
@[reducible] def fxI(K:Zyk):FX where
 tl:=tlI
 fv:=FvI K
 sw:=λhF hob h=>by
  rcases h with h | h | h
  ·exact Zzq (h)
  ·exact ZyX (Zzq (⟨h.1,h.2.sw hF hob⟩))
  ·exact ZyX (ZyX ((⟨h.1,h.2.sw hF hob⟩)))
 drop:=λh=>by
  rcases h with h | h | h
  ·exact Zzq (h)
  ·exact ZyX (Zzq (⟨h.1,h.2.drop⟩))
  ·exact ZyX (ZyX ((⟨h.1,h.2.drop⟩)))
 mono:=λh s=>by
  rcases h with h | h | h
  ·exact Zzq (h)
  ·exact ZyX (Zzq (⟨h.1,h.2.mono s⟩))
  ·exact ZyX (ZyX ((⟨h.1,h.2.mono s⟩)))
theorem Zv4{st:Stmt}{kV:Value}(X:K.In h)(G:h.Ns Zy7 mg)(a:ZAI K Zy7 x=Z (Z (.ref f)))
  (l:K.lookup f=Z ⟨oc,od,.func (ZzE x x (Zb2 st) (Zaw st) (Ze st) .none kV doc pm an cdv ct),osl⟩) (c:ZAl K cdv x=ZDC) (kp:ZzJ K (.ref f)=ZDC)
  (b:∀(kV doc pm:Value) (an:Option Addr) (cdv ct:Value) (us:List Value),us.length=ps.length->ZB9 (ZzE x x (Zb2 st) (Zaw st) (Ze st) .none kV doc pm an cdv ct) ⟨us,[]⟩=pure (ps.zip us)):Def K mg x st ps :=
 ⟨f,_,ZoC l c kp,ZBI X G a,(ZoC l c kp).binds b⟩
structure Ztc(K:Zyk)(mg:Str->Option Value)(x:Str)(st:Stmt)(ps:List Str)(c T:Addr):Prop where
 ex:∃f fd,ZoJ K x x st f fd c/\mg x=Z (.ref f)/\Binds K fd ps []/\ZzI K c T=ZDC
theorem ZuA{st:Stmt}{T:Addr}{kV:Value}(X:K.In h)(G:h.Ns Zy7 mg)(a:ZAI K Zy7 x=Z (Z (.ref f)))
  (l:K.lookup f=Z ⟨oc,od,.func (ZzE x x (Zb2 st) (Zaw st) (Ze st) .none kV doc pm an cdv ct),osl⟩) (cc:ZAl K cdv x=ZDC) (kp:ZzJ K (.ref f)=ZDC)
  (b:∀(kV doc pm:Value) (an:Option Addr) (cdv ct:Value) (us:List Value),us.length=ps.length->ZB9 (ZzE x x (Zb2 st) (Zaw st) (Ze st) .none kV doc pm an cdv ct) ⟨us,[]⟩=pure (ps.zip us)) (e:cdv=.ref c) (hc:ZzI K c T=ZDC):Ztc K mg x st ps c T:=by
 subst e;exact⟨f,_,Zur l cc kp,ZBI X G a,.all (b kV doc pm an _ ct),hc⟩
def NsV(K:Zyk)(mg:Str->Option Value)(x:Str):Prop:=(∀a,ZAI K Zy7 x=Z (Z (.ref a))->mg x=Z (.ref a))/\∃f,ZAI K Zy7 x=Z (Z (.ref f))
theorem Zvm(X:K.In h)(G:h.Ns Zy7 mg)(a:ZAI K Zy7 x=Z (Z (.ref f))):NsV K mg x:=⟨λ_ e=>ZBI X G e,f,a⟩
end
structure Ds(K:Zyk)(mg:Str->Option Value):Prop where
 Zo8:Def K mg "_law_cell" ZgD ["_law_script","_law_k"]
 Zqh:Def K mg "_law_mix" Zhq ["_law_cell_here","_law_prime","_law_many"]
 Zne:Def K mg "_law_crowd" Zed ["_law_cell_here","_law_many","_law_least"]
 Zo9:Def K mg "_law_deed" ZgE ["_law_cell_here","_law_many"]
 Zpa:Def K mg "_law_walk" ZgF ["_law_cell_here","_law_many"]
 Znf:Def K mg "_law_works" Zee ["_law_script","_law_at"]
 Zng:Def K mg "_law_looks" Zef ["_law_works_here","_law_cell_here"]
 Znh:Def K mg "is_number" ZfH ["thing","least","most"]
 Zni:Def K mg "is_rising" ZfI ["thing","many"]
 Zpb:Def K mg "is_crowd" Zgz ["thing","many"]
 Zrg:Def K mg "is_row" Ziq ["thing","least","most"]
 Zqi:Def K mg "is_deed" Zfj ["thing","many"]
 Znj:Def K mg "are_deeds" Zd8 ["thing","many"]
 Zqj:Def K mg "is_look" Zfk ["thing","many"]
 Znk:Def K mg "are_looks" Zd9 ["thing","many"]
 Znl:Def K mg "are_works" ZfJ ["thing"]
 Zqk:Def K mg "checked" Zho ["works"]
 Zpc:Def K mg "looks_of" ZgB ["works"]
 ZjM:Def K mg "checked_looks" ZdA ["works","looks"]
 Zpd:Def K mg "begin_of" ZgC ["works"]
 Ziv:Def K mg "crowds_in" Zck ["rows"]
 ZjN:Def K mg "cost_at_worst" ZcA ["rows","costs"]
 ZjB:Def K mg "deeds_by" ZeT ["way","depths"]
 Zql:Def K mg "seen_in" Zfl ["works","looks","state"]
 Zrh:Def K mg "parted" Zgk ["works","looks","crowd"]
 Zpe:Def K mg "deeds_of" ZgA ["works"]
 Zk2:Def K mg "can_be_done" Zdd ["works","crowd","deed"]
 Zmu:Def K mg "deeds_with" Zdv ["works","crowd"]
 Zri:Def K mg "led_to" Zir ["works","crowd","deed"]
 Znm:Def K mg "ways_with" Zeb ["works","looks","crowd"]
 Zmv:Def K mg "least_cost" ZcJ ["ways","costs","cost_by"]
 Zmw:Def K mg "next_costs" Ze4 ["reach","costs","cost_by"]
 Zqm:Def K mg "goal_of" Zhn ["works"]
 Zpf:Def K mg "is_there" ZeS ["works","crowd"]
 Zpg:Def K mg "costs_of" ZcP ["works","reach","cost_by"]
 Znn:Def K mg "depths_of" ZfM ["works","coming"]
 Zkq:Def K mg "reached_from" Zea ["crowds","ways_for"]
 Zk3:Ztc K mg "coming_from" ZM ["works","looks","crowd"] 239 235
 Zrj:Def K mg "fewest" Zis ["works","looks"]
 Zk4:Def K mg "_law_no_more" Zey ["_law_one","_law_other"]
 Zno:Def K mg "states_of" ZfK ["works"]
 Zmx:Def K mg "seen_whole" Ze5 ["works"]
 Znp:Def K mg "all_looks" ZfL ["works"]
 Zk5:Ztc K mg "all_choices" ZI ["works"] 265 263
 Znq:Def K mg "is_enough" ZfN ["works","choice","most"]
 Znr:Def K mg "is_within" Zec ["fewer","more"]
 Zk6:Def K mg "weakest_for" Zde ["works","most"]
 Zqn:Def K mg "weakest" Zhp ["works"]
 Nf_deeds_by:NsV K mg "deeds_by"
section
variable[FX]{P:Program}{w:World}{K:Zyk}{mg:Str->Option Value}{base:Heap}{k:Nat}
theorem ZvU(T:Txt K mg)(hV:∀t cs F a,FX.fv t cs F a↔FvI K t cs F a)(hTL:FX.tl=tlI)(Dd:Ds K mg)(bm:BMod base mg){f:Addr}{fd:FuncData}(Fn:Fun K "law" "law" Zeg f fd):Zc8 P w K mg base CX0 14 f fd ["_law_script"] (spD K 1 (ZfG ap)):=by
 have Vff_deeds_by:GFn mg "deeds_by" 0:=by obtain⟨h1,g,h2⟩:=Dd.Nf_deeds_by;exact⟨g,h1 g h2,λF=>(hV _ _ _ _).mpr (Zzq (⟨rfl,rfl,h2⟩))⟩
 have Zah:Callee P w K mg base 1 _ _:=ZmZ T Dd.Zo8;have ZD:Callee P w K mg base 1 _ _:=ZoV T Dd.Zqh;have Zeh:Callee P w K mg base 2 _ _:=Zl6 T (Cup ZD) Dd.Zne;have ZcQ:Callee P w K mg base 2 _ _:=Zm0 T (Cup ZD) Dd.Zo9;have ZgG:Callee P w K mg base 2 _ _:=Zm1 T (Cup ZD) Dd.Zpa;have ZfW:Callee P w K mg base 3 _ _:=Zl7 T (Cup Zah) (Cup Zeh) (Cup ZD) (Cup ZcQ) (Cup ZgG) Dd.Znf;have Zem:Callee P w K mg base 2 _ _:=Zl9 T (Cup ZD) Dd.Zng;have Za4:Callee P w K mg base 1 _ _:=Zmb T Dd.Znh;have Zam:Callee P w K mg base 2 _ _:=Zmc T (Cup Za4) Dd.Zni;have ZgH:Callee P w K mg base 3 _ _:=Zm3 T (Cup Zam) Dd.Zpb;have Zax:Callee P w K mg base 1 _ _:=Zqd T Dd.Zrg;have Zhr:Callee P w K mg base 3 _ _:=ZoX T (Cup Zax) (Cup Zam) Dd.Zqi;have ZfO:Callee P w K mg base 4 _ _:=Zme T (Cup Zax) (Cup Zhr) Dd.Znj;have Zhs:Callee P w K mg base 2 _ _:=ZoZ T (Cup Zax) (Cup Za4) Dd.Zqj;have ZfP:Callee P w K mg base 3 _ _:=Zmg T (Cup Zax) (Cup Zhs) Dd.Znk;have ZfQ:Callee P w K mg base 5 _ _:=Zmh T (Cup ZgH) (Cup Zam) (Cup Zax) (Cup Za4) (Cup ZfO) (Cup ZfP) Dd.Znl;have ZaN:Callee P w K mg base 6 _ _:=Zo1 T (Cup ZfQ) Dd.Zqk;have Zbn:Callee P w K mg base 1 _ _:=Zm5 T Dd.Zpc;have ZdB:Callee P w K mg base 3 _ _:=Zjp T (Cup Zam) (Cup Zbn) Dd.ZjM;have ZcR:Callee P w K mg base 1 _ _:=Zm7 T Dd.Zpd;have Zbr:Callee P w K mg base 1 _ _:=Zmi T Dd.Ziv;have ZfR:ZdS P w K mg base 1 "crowds_in" ZL:=by obtain⟨f,fd,F,m,b⟩:=Dd.Ziv.ex;exact ZkX T  F m b
 have Zbk:Callee P w K mg base 2 _ _:=Zjq T (Cup Zbr) Dd.ZjN;have ZgK:Callee P w K mg base 3 _ _:=Zm8 T (Cup Zbk) Dd.ZjB;have Zhu:Callee P w K mg base 2 _ _:=Zo3 T (Cup Zbn) Dd.Zql;have Zb4:Callee P w K mg base 3 _ _:=Zqe T (Cup Zhu) Dd.Zrh;have ZaA:Callee P w K mg base 1 _ _:=Zna T Dd.Zpe;have Zez:Callee P w K mg base 2 _ _:=Zkj T (Cup ZaA) Dd.Zk2;have Ze7:Callee P w K mg base 3 _ _:=ZkZ T (Cup Zez) (Cup ZaA) Dd.Zmu;have Ziu:Callee P w K mg base 2 _ _:=Zqf T (Cup ZaA) Dd.Zri;have Zc5:Callee P w K mg base 4 _ _:=Zmk T (Cup Zb4) (Cup Ze7) (Cup Ziu) Dd.Znm;obtain⟨f0,fd0,F0,m0,b0⟩:=Dd.ZjB.ex;have CV:ZdR P w K mg base 5 ap:=ZwI (k:=4) T (λt cs F a h=>(hV t cs F a).mp h) F0 m0 Dd.Nf_deeds_by.1 (Cup ZgK) (Cup Zc5);have Ze8:Callee P w K mg base 6 _ _:=Zk0 T (CV.mono (by decide)) Dd.Zmv;have Gf_next_costs:ZdX P w K mg base 7 "next_costs" (Zbc ap):=by obtain⟨f,fd,F,m,b⟩:=Dd.Zmw.ex;exact ZkW T (Cup Ze8) F m b
 have Zdg:Callee P w K mg base 1 _ _:=Zo5 T Dd.Zqm;have ZgI:Callee P w K mg base 2 _ _:=Znc T (Cup Zdg) Dd.Zpf;have ZgJ:Callee P w K mg base 8 _ _:=Znd T (Cup ZgI) (Gf_next_costs.mono (by decide)) Dd.Zpg;have ZfS:Callee P w K mg base 9 _ _:=Zmm T (Cup ZgJ) Vff_deeds_by Dd.Znn;have Zej:Callee P w K mg base 6 _ _:=ZjL T (Cup Zbr) (ZfR.mono (by decide)) (CV.mono (by decide)) Dd.Zkq;have ZeA:Callee P w K mg base 7 "coming_from" (Zci ap):=by obtain⟨f,fd,F,m,b,hc⟩:=Dd.Zk3.ex;exact Zkl T (Cup Zej) (Cup Zbr) (Cup Zb4) (Cup Zc5) hc (by rw[hTL]; decide) (by rw[hTL]; intro q h; simpa [tlI]using h) bm (λF p cs h=>(hV _ _ _ _).mpr (ZyX (Zzq (⟨rfl,h⟩)))) F m b
 have ZaJ:Callee P w K mg base 10 _ _:=Zqg T (Cup ZaN) (Cup ZdB) (Cup ZcR) (Cup ZfS) (Cup Zbk) (Cup ZeA) (Cup Zb4) Dd.Zrj;have ZaQ:Callee P w K mg base 1 _ _:=Zkn T Dd.Zk4;have Zek:Callee P w K mg base 1 _ _:=Zmo T Dd.Zno;have Ze9:Callee P w K mg base 11 _ _:=Zk1 T (Cup ZaN) (Cup ZaJ) (Cup Zek) (Cup ZaA) (Cup ZcR) (Cup Zdg) Dd.Zmx;have ZfT:Callee P w K mg base 7 _ _:=Zmq T (Cup Zbn) (Cup ZaN) Dd.Znp;have ZeB:Callee P w K mg base 8 "all_choices" Zbj:=by obtain⟨f,fd,F,m,b,hc⟩:=Dd.Zk5.ex;exact Zko T (Cup ZfT) hc (by rw[hTL]; decide) (by rw[hTL]; intro q h; simpa [tlI]using h) bm (λF p cs h=>(hV _ _ _ _).mpr (ZyX (ZyX ((⟨rfl,h⟩))))) (by decide) F m b
 have ZfU:Callee P w K mg base 11 _ _:=Zmr T (Cup ZaJ) Dd.Znq;have ZfV:Callee P w K mg base 1 _ _:=Zmt T Dd.Znr;have ZeC:Callee P w K mg base 12 _ _:=Zkp T (Cup ZeB) (Cup ZfU) (Cup ZfV) Dd.Zk6;have Zhw:Callee P w K mg base 13 _ _:=Zo7 T (Cup ZaN) (Cup ZeC) Dd.Zqn;exact Zt5 (k:=13) T (Cup ZfW) (Cup Zem) (Cup ZaJ) (Cup ZcQ) (Cup ZaQ) (Cup Zah) (Cup Ze9) (Cup Zhw) Fn
end
theorem all_mk{l:ZC0}{w:World}{K:Zyk}{mg:Str->Option Value}{fa f4:Addr}{od4 an4:Option Addr}{sl4:Array (Option Value)}{oc4 kV4 dc4 pm4 cd4 ct4:Value}(X:K.In h)(G:h.Ns Zy7 mg)(hfa:mg "law" = Z (.ref fa))
  (T:Txt K mg) (Dd:Ds K mg) (a4:ZAI K Zy7 "law" = Z (Z (.ref f4)))
  (l4:K.lookup f4=Z ⟨oc4,od4,.func (ZzE "law" "law" (Zb2 Zeg) (Zaw Zeg) (Ze Zeg) .none kV4 dc4 pm4 an4 cd4 ct4),sl4⟩) (c4:ZAl K cd4 "law" = ZDC) (k4:ZzJ K (.ref f4)=ZDC) :
  ∃fd:FuncData,(∀(s:Shared) (v:Value),BindsTo s fd ⟨[v],[]⟩ [("_law_script",v)])/\∀base:Heap,K.In base->base.Ns Zy7 mg->BMod base mg->Zc8 l.prog w K mg base CX0 14 fa fd ["_law_script"] (@spD (fxI K) K 1 (ZfG ap)):=by
 have e:=hfa.symm.trans (ZBI X G a4);cases e;have fx0:FX:=FX0;exact⟨_,λs v=>.of_eq rfl,λbase _ _ bm=>@ZvU (fxI K) _ _ _ _ _ T (λ_ _ _ _=>Iff.rfl) rfl Dd bm _ _ (ZoC (st:=Zeg) l4 c4 k4)⟩
theorem walk{l:ZC0}{q:Program}{loose:List Str}{XP:(Str->Option Value)->Heap->Prop}{YP:World->Heap->Prop}{d:DefRec}{K:Params->Zyk}(hn:l.most=Z 63)(hdf:d.params.defaults=[])
  (ZjT:∀ns:List Int,ns.length<=63->(ZfG ap) [.list (HM.ofInts ns)]=Z (.bool ZDC)) (hY:∀(w:World) (h:Heap),YP w h->(K w.params).In h) (hYT:∀(w:World) (h:Heap),YP w h->∀q∈([(239,235),(265,263)]:List (Addr × Addr)),h.get? q.2=Z (ZA4 #[]))
  (hT:∀(w:World),∀q∈([(239,235),(265,263)]:List (Addr × Addr)),ZzI (K w.params) q.1 q.2=ZDC/\(K w.params).lookup q.2=Z_)
  (F:∀(w:World) (mg:Str->Option Value) (fa:Addr) (h:Heap),(K w.params).In h->h.Ns Zy7 mg->mg d.name=Z (.ref fa) ->
   ∃fd:FuncData,(∀(s:Shared) (u:Value),BindsTo s fd ⟨[u],[]⟩ [("_law_script",u)])/\∀base:Heap,(K w.params).In base->base.Ns Zy7 mg->BMod base mg->Zc8 l.prog w (K w.params) mg base CX0 14 fa fd ["_law_script"] (@spD (fxI (K w.params)) (K w.params) 1 (ZfG ap))) :
  PySem.W.WalkO q loose XP YP l.row.toRowW d [] (λf vs=>PySem.call f vs) :=
 ZsL (n:=63) (k:=14) (x:="_law_script") (sp:=λw=>@spD (fxI (K w.params)) (K w.params) 1 (ZfG ap)) (tabs:=[(239,235),(265,263)]) hn (by decide) hdf ⟨rfl,by decide,by decide⟩ hY hYT hT F λw H a ns hl hO hS=>@ZvB (fxI (K w.params)) _ _ _ _ _ _ hO (λT q h=>by
  have:∀p∈tlI,p.1∈([(239,235),(265,263)]:List (Addr × Addr)).map (·.2):=by decide
  exact this _ h) hS (ZjT ns hl)
section
variable{P:Program}{w:World}{K:Zyk}{mg:Str->Option Value}{base:Heap}{k:Nat}
abbrev ZxP{K:Zyk}(_:K.In h)(mg:Str->Option Value):Prop:=Ds K mg
abbrev ZwV{K:Zyk}(_:K.In h)(mg:Str->Option Value):Prop:=Txt K mg
theorem int_mk{mg:Str->Option Value}{n:Str}{v:Value}{k:Int}(h:mg n=Z v)(e:∃t,v=.int k t):∃t,mg n=Z (.int k t):=by obtain⟨t,rfl⟩:=e;exact⟨t,h⟩
end
end HT
namespace PySem.W.Fast
theorem tw10203618713121346754:True:=⟨⟩
theorem tw11259759264943800679:True:=⟨⟩
theorem tw11734408846963116482:True:=⟨⟩
theorem tw12072233773636788014:True:=⟨⟩
theorem tw12084861299188758937:True:=⟨⟩
theorem tw13575198960421971492:True:=⟨⟩
theorem tw13631152665859111976:True:=⟨⟩
theorem tw14186484321878379284:True:=⟨⟩
theorem tw14569617472793576908:True:=⟨⟩
theorem tw15247180487843402291:True:=⟨⟩
theorem tw15493356688036974042:True:=⟨⟩
theorem tw15583434739109057315:True:=⟨⟩
theorem tw16489526281080451694:True:=⟨⟩
theorem tw185757416587400450:True:=⟨⟩
theorem tw2460616673991073383:True:=⟨⟩
theorem tw2828578333250073552:True:=⟨⟩
theorem tw4054422894907954603:True:=⟨⟩
theorem tw4146225302706758084:True:=⟨⟩
theorem tw4603166498725329579:True:=⟨⟩
theorem tw5176900942545239285:True:=⟨⟩
theorem tw5953779008547833093:True:=⟨⟩
theorem tw653208446057674549:True:=⟨⟩
theorem tw8222142301279625363:True:=⟨⟩
theorem tw9243709358246274676:True:=⟨⟩
end PySem.W.Fast
open PySem PySem.W PyProof.Rows
set_option maxRecDepth 100000 in
set_option maxHeartbeats 0 in
theorem PySem.Challenge.cw_halfseen_k17_whole_more_to_see_holds : PySem.Challenge.rw_halfseen_k17_whole_more_to_see.Holds := by
 w_on; o_law; k_head; (case hw=>w_witness2)
 k_fill
 refine HT.walk (l:=PySem.Challenge.rw_halfseen_k17_whole_more_to_see) rfl rfl HG17.ZjT (λw h Y=>PySem.W.km_in_of Y) (λw h Y q hq=>PySem.W.km_tabs_of Y _ (by clear Y; revert q; decide)) ?Tab ?F
 case Tab =>
  intro w q hq;rcases ZyH.mp hq with e | hq
  ·cases e
   exact⟨by kernel_rfl,by kernel_rfl⟩
  cases Zyt.mp hq;exact⟨by kernel_rfl,by kernel_rfl⟩
 case F =>
  intro w mg fa h KX G hmg;have fx0:HP.FX:=HP.FX0;have T:HT.ZwV KX mg:=by
   refine⟨?_,?_,?_,?_,?_,?_,?_,?_,?_,?_,?_,?_,?_,?_,?_,?_,?_,?_⟩
   all_goals first
    | (refine PySem.W.mg_none_of KX G ?z; (case z=>k_is))
    | (refine' HT.int_mk (ZBI KX G ?z) ?e; (case z=>k_is); (case e=>exact⟨_,rfl⟩))
  have Dd:HT.ZxP KX mg:=by
   refine⟨?_,?_,?_,?_,?_,?_,?_,?_,?_,?_,?_,?_,?_,?_,?_,?_,?_,?_,?_,?_,?_,?_,?_,?_,?_,?_,?_,?_,?_,?_,?_,?_,?_,?_,?_,?_,?_,?_,?_,?_,?_,?_,?_,?_,?_,?_,?_,?_,?_⟩
   all_goals first
    | (refine' HT.Zv4 KX G ?a ?l ?c ?k ?b; (case a=>k_is); (case l=>k_is); (case c=>k_is); (case k=>k_is); (case b=>first | exact λ_ _ _ _ _ _ us hl=>(match us,hl with | [_],_=>rfl) | exact λ_ _ _ _ _ _ us hl=>(match us,hl with | [_,_],_=>rfl) | exact λ_ _ _ _ _ _ us hl=>(match us,hl with | [_,_,_],_=>rfl)))
    | (refine' HT.ZuA KX G ?a ?l ?c ?k ?b ?e ?h; (case a=>k_is); (case l=>k_is); (case c=>k_is); (case k=>k_is); (case h=>kernel_rfl); (case e=>exact rfl); (case b=>first | exact λ_ _ _ _ _ _ us hl=>(match us,hl with | [_],_=>rfl) | exact λ_ _ _ _ _ _ us hl=>(match us,hl with | [_,_],_=>rfl) | exact λ_ _ _ _ _ _ us hl=>(match us,hl with | [_,_,_],_=>rfl)))
    | (refine' HT.Zvm KX G ?z; (case z=>k_is))
  refine' HT.all_mk KX G hmg T Dd ?a4 ?l4 ?c4 ?k4
  (case a4=>k_is); (case l4=>k_is); (case c4=>k_is); (case k4=>k_is)