import PyProof.Rows.All
import Wide.All
import OpenK.AllK
import Wide.FinOn
import Lean
import PyProof.EqAt
import PyProof.EqKinds
import PyProof.TupleCall
import PyProof.P3Statements
import PyProof.P3Eq
import PyProof.NeData
import PyProof.IsiPairs
import PyProof.IsiHeapPairs
import KE.LcSums
import PyProof.IsiNone
import PyProof.DictRoadsH
import PyProof.Rows.SetFrom
import PyProof.DictWalks
import PyProof.Rows.MinMaxN
import PyProof.Rows.SumAny
import PyProof.WalkInts
import PySem.Challenge.RW_halfseen_k20_whole_strengths
set_option Elab.async false
set_option linter.all false
set_option maxRecDepth 100000
open PySem renaming wpAny_bind->ZyI,wpAny_pure->ZyM,starEach->Zy0,mainGlobals->Zzr,wpAny_holding->Zzx,wpAny_newObj_type->Zzz,wpAny_call_entry->ZzF,sizeLine_eq->ZzM,bootBuiltins->ZzS,wpAny_mono->Zz4,sysModules->Zz8,codeAny_builtin->ZAe,compareOp->ZAk,mem_of_lookup->ZAl,behindInMarks->ZAw,wpAny_truthy_bool->ZAy,wpAny_typeNameOfWhole_keyiter->ZAT,codeAny_mono->ZAX,wpAny_Call_Name_kw->ZAY,wpAny_passesOwn->ZAZ,wpAny_ite_split->ZA1,plainId_quiet->ZA5,foldedSetIterable->ZA6,wpAny_typeNameOf_keyiter->ZBi,attributeBase->ZBp,swapsWith->ZBq,tupleKind_room_in1->ZBs,wpAny_dictEntries->ZBx,binaryOp->ZBG,wpAny_askSetting->ZBJ,wpAny_newList->ZBM,sliceBounds->ZBO,wpAny_setField->ZBX,wpAny_tryCatch->ZBY,wpAny_setState_of->ZB3,tupleKind->ZCe,wpAny_execs_nil->ZCg,letOwnedTupleGo->ZCh,wpAny_typeOf->ZCi,wpAny_newFunctionEnv->ZCm,wpAny_setEntries_of->ZCu,wpAny_fieldsOf->ZCy,firstArgMember->ZCz,keywordEach->ZCB,wpAny_letGo->ZCC,codeAmong->ZCF,wpAny_attempt->ZCM,wpAny_pyIter_list->ZCU,wpAny_pyIter_slot->ZCV,builtinsNs->ZCY,call_meets->ZCZ,wpAny_rule->ZC1,intKind_is->ZC2,wpAny_isInstance->ZC9,pickOrder->ZDn,wpAny_dictEpoch->ZDo,wpAny_updateSeq->ZDq,subscripted->ZDu,wpAny_of_eq->ZDv
open List renaming length_map->ZyJ,mem_cons_self->ZyO,range->ZyP,mem_cons_of_mem->ZyQ,all_eq_true->ZyR,map_cons->ZyS,mem_map->ZyU,any_eq_true->ZyV,size_toArray->ZyX,mem_singleton->ZyY,getElem?_eq_some_iff->ZyZ,getElem?_map->Zy2,length_cons->Zy3,mem_filter->Zy6,mem_range->Zy7,length_append->Zy8,getElem?_eq_getElem->Zy9,map_map->Zza,mem_cons->Zzb,mem_of_getElem?->Zzj,mem_append_right->Zzk,mem_filterMap->Zzm,getElem?_set_ne->Zzn,replicate->Zzo,mem_append->Zzp,map_append->Zzq,append_nil->Zzu,getElem?_cons_succ->Zzv,length->Zzw,nodup_cons->ZzB,getElem?_append_right->ZzE,find?_cons->ZzG,length_replicate->ZzI,pairwise_cons->ZzJ,getElem?_append_left->ZzK,getElem?_set_self->ZzL,getD->ZzP,filterMap_cons->ZzQ,all_cons->ZzV,mem_append_left->ZzY,length_set->Zz5,length_take->Zz6,map_congr_left->Zz7,length_range->ZAa,length_singleton->ZAc,min?_eq_some_iff->ZAd,filter_cons->ZAg,mem_of_find?_eq_some->ZAn,length_filter_le->ZAo,min?_eq_none_iff->ZAp,eq_nil_of_length_eq_zero->ZAq,replicate_succ->ZAA,lookup_cons->ZAF,getElem_mem->ZAG,nodup_nil->ZAI,exists_mem_of_ne_nil->ZAK,foldl_cons->ZAM,map_nil->ZAN,append_assoc->ZAQ,nodup_append->ZAR,filter_eq_nil_iff->ZAW,nil_append->ZA0,map->ZA3,flatten_cons->ZA7,length_drop->ZBd,mem_flatMap->ZBg,getElem?_replicate->ZBk,getElem?_cons_zero->ZBl,any_cons->ZBo,ne_nil_of_mem->ZBv,find?_isSome->ZBz,set_getElem_self->ZBA,mergeSort_perm->ZBP,pairwise_iff_getElem->ZBR,pairwise_mergeSort->ZB0,find?_append->ZB1,set_set->ZCj,pairwise_append->ZCn,find?_some->ZCq,all_nil->ZCr,find?_eq_some_iff_append->ZCs,getElem_of_mem->ZCt,filter_eq_self->ZCv,length_pos_iff->ZCw,exists_cons_of_ne_nil->ZCS,pairwise_map->ZCX,drop_eq_getElem_cons->ZC0,getElem?_take_of_lt->ZC4,set_eq_of_length_le->ZC6,ext_getElem->ZDe,cons_append->ZDf,length_filterMap_le->ZDh,pairwise_of_forall->ZDk,of_mem_zip->ZDl,length_nil->ZDm,pairwise_lt_range->ZDy,getElem?_eq_none->ZDz,max?_eq_some_iff->ZDE,dropLast_eq_take->ZDF,max?_eq_none_iff->ZDG,all_map->ZDU
open PySem.W renaming Frag->ZyK,fnOf->ZAb,codeHdIn->ZAf,keepIn->ZAh,nsIn->ZAv,codeIn->ZAV,envX->ZBE,tabObj->ZBF,mg_of->ZCc,kla_obj->ZCo,methodObj->ZCT,OpenLaw->ZDr,cellsFrom_some->ZDs,codeHd_of_K->ZDN,callWith_K->ZDQ,FnAt->ZDT
open Option renaming map_eq_some_iff->ZyL,isSome_iff_exists->Zzf,isSome_map->Zz9,map->ZAP,isSome->ZBN,bind_eq_some_iff->ZBZ
open PySem.Heap renaming get?_push_of_some->ZyN,lt_size->Zy1,get?_push_size->Zy4,get?_update_self->Zz2,get?_update_other->ZAi,SameBut->ZAL,get?_push_ne->ZBa,size_update->ZBh,size_push->ZBB
open Nat renaming le_refl->ZyT,ne_of_lt->Zzc,lt_of_lt_of_le->Zzh,le_trans->ZzH,zero_le->ZzN,le_of_lt->ZAB,lt_irrefl->ZAD,lt_trans->ZAO,lt_succ_of_lt->ZA9,lt_succ_self->ZBf,le_of_not_lt->ZBH,ne_of_gt->ZBS,blt_eq->ZBV,le_of_eq->ZCl
open PySem.SetTable renaming below->ZyW,insertAt->Zzg,insertAt_perm->ZAC,tooFull->ZBI,toList_insertAt->ZBT,fits->ZB9,fill->ZCa,turns->ZDA,bits->ZDJ
open Bool renaming and_eq_true->Zy5,or_eq_true->Zzt,false_ne_true->ZzA,false_eq_true->ZAs,false_or->ZB8,true_and->ZCQ,eq_iff_iff->ZDp
open PySem.Str renaming ofString->Zzd
open Array renaming length_toList->Zze,getElem?_toList->Zzy,getD->ZAE,toList_push->ZA8,getElem?_eq_getElem->ZBc,perm_iff_toList_perm->ZBL,getElem?_eq_none->ZB6
open Or renaming inr->Zzi,inl->ZzO
open PySem.PyData renaming bool->Zzl,tuple->ZzD,int->ZzR,eqv->ZAx,canLayAll0->ZBw,depthAll->ZCp,eqvAll->ZCR,dict->ZDW
open PySem.Value renaming none->Zzs,bool->ZzT,ref->ZzW,type->ZAm,int->ZAH
open List.Nodup renaming length_le_of_subset->ZzC
open Option.some renaming inj->ZzU
open Ne renaming symm->ZzX
open False renaming elim->ZzZ
open PySem.Around renaming under_plainId->Zz0,frames_deeper->ZDH
open PySem.Heap.SameBut renaming update->Zz1,refl->ZDV
open PyProof.Rows renaming slot_tuple_getitem->Zz3,entry_list_sort->ZBu,slot_list_sort->ZBC,args_list_sort->ZBD,sortedHeap->ZBK,callWith_type1->ZCD,listUpdate_at->ZCN,sortedHeap_at->ZCO,failedOf->ZDa,plain_sorted->ZDb,entry_sorted->ZDc,args_sorted1->ZDd,seqEpoch_at->ZDw,kind_sorted->ZDx
open PySem.F renaming plain_min_loop->ZAj,called_set->ZAt,plainAttrs_list->ZBm,plain_list_iadd->ZBn,entry_min_loop->ZB7,slot_dict_setdefault->ZCx,plain_proto_collect->ZCH,args_tuple_add_2->ZC5,slot_list_append->ZC7,type_list_append->ZC8,entry_tuple_add->ZDi,slot_tuple_add->ZDt,plain_set_new->ZDB,slot_set_iter->ZDC
open PySem.Builtin.Tuple renaming tupleExact->ZAr,tupleItemsOf->ZCL,tupleIsExact->ZCP
open PySem.Obj renaming data_mapFields->ZAu,mapSeq->ZBr,putSet->ZBW,isFreed_of_fields->ZCf,cls_mapFields->ZCW,mapFields->ZDK
open Sum renaming inl->ZAz,inr->ZC3
open PySem.Calls renaming call_function_entry->ZAJ,callWith_builtin->ZB5,spliced_cons->ZCE,Name_function_global->ZCJ,evalArgs_plain->ZDI
open PySem.Paired renaming length->ZAS
open Int renaming toNat_of_nonneg->ZAU,toNat_natCast->ZBy
open PyProof.Rows.KeyOrd renaming kle_of_not_klt->ZA2,kle_refl->ZBt,kle_of_klt->ZB4,kle_trans->ZCd,kle_antisymm->ZDL
open PySem.NameKind renaming free->ZA4
open PySem.Builtin.Slice renaming slicePlaces->ZBb,sliceAdjust->ZBQ,sliceApplied->ZCK
open PySem.Builtin.List renaming listTooLong->ZBe,listLengthHint->ZCG,listExtendWith->ZCI,listUpdate->ZDj
open PySem.Builtin.Range renaming rangeSize->ZBj,small->ZDM
open True renaming intro->ZBU
open PySem.SetTable.below renaming go->ZB2
open Function renaming comp->ZCb
open ForInStep renaming yield->ZCk
open PySem.Builtin.Dict_items renaming ownsTuple->ZCA
open List.Pairwise renaming imp_of_mem->ZDg
open PySem.Builtin.Dict renaming showsAll->ZDD
open PySem.SeqAt.EqAt renaming int_str->ZDO,str_int->ZDP
open PyProof.Rows.IsTup renaming new->ZDR
open PySem.Expr renaming Call->ZDS
namespace L2
open PySem PySem.Spec PyProof.Rows
abbrev Key:=Sum Int Str
def Zh2:Key->Value->Bool
 | .inl k,v=>Value.isInt k v
 | .inr x,v=>Value.isStrOf x v
def Zyh(w:World):Key->Int
 | .inl k=>hashInt k
 | .inr x=>hashStr w x
theorem Zbn:∀{k:Key} {v:Value},Zh2 k v=true->(∃i t,k=ZAz i/\v=ZAH i t)\/(∃x t,k=ZC3 x/\v=Value.str x t)
 | .inl i,v,h=>by obtain⟨t,e⟩:=Value.isInt_shape (k:=i) (v:=v) h;exact .inl ⟨i,t,rfl,e⟩
 | .inr x,v,h=>by obtain⟨t,e⟩:=Value.isStrOf_shape (x:=x) (v:=v) h;exact .inr ⟨x,t,rfl,e⟩
theorem ZsQ(i:Int)(t:Tok):Zh2 (.inl i) (.int i t)=true:=by simp[Zh2,Value.isInt]
theorem Zsw(x:Str)(t:Tok):Zh2 (.inr x) (.str x t)=true:=by simp[Zh2,Value.isStrOf]
theorem ZwH(a b:Int):decide ((ZAz a:Key)=ZAz b)=(a==b):=by
 by_cases e:a=b
 ·subst e; simp
 ·have h:¬(ZAz a:Key)=ZAz b:=λq=>e (Sum.inl.inj q)
  rw[decide_eq_false h];exact(beq_eq_false_iff_ne.mpr e).symm
theorem Zwl(a b:Str):decide ((ZC3 a:Key)=ZC3 b)=decide (a=b):=by
 by_cases e:a=b
 ·subst e; simp
 ·have h:¬(ZC3 a:Key)=ZC3 b:=λq=>e (Sum.inr.inj q)
  rw[decide_eq_false h,decide_eq_false e]
theorem ZvL(a:Int)(b:Str):decide ((ZAz a:Key)=ZC3 b)=false:=decide_eq_false (λq=>nomatch q)
theorem Zwo(a:Str)(b:Int):decide ((ZC3 a:Key)=ZAz b)=false:=decide_eq_false (λq=>nomatch q)
def ZaN(prog:Program)(w:World):PySem.KeyKind prog w Key where
 is:=Zh2
 hash:=Zyh w
 inj:=λv a b ha hb=>by
  rcases Zbn ha with⟨i,t,rfl,rfl⟩ | ⟨x,t,rfl,rfl⟩
  ·rcases Zbn hb with⟨j,u,rfl,e⟩ | ⟨y,u,rfl,e⟩
   ·injection e with e1 _; rw[e1]
   ·exact nomatch e
  ·rcases Zbn hb with⟨j,u,rfl,e⟩ | ⟨y,u,rfl,e⟩
   ·exact nomatch e
   ·injection e with e1 _; rw[e1]
 byValue:=λk v h=>by rcases Zbn h with⟨i,t,rfl,rfl⟩ | ⟨x,t,rfl,rfl⟩<;>rfl
 pyHash:=λhv h=>by
  rcases Zbn hv with⟨i,t,rfl,rfl⟩ | ⟨x,t,rfl,rfl⟩
  ·exact wpAny_pyHash_int h
  ·exact wpAny_pyHash_str h
 eqBool:=λhu hv h=>by
  rcases Zbn hu with⟨i,t,rfl,rfl⟩ | ⟨x,t,rfl,rfl⟩
  ·rcases Zbn hv with⟨j,u,rfl,rfl⟩ | ⟨y,u,rfl,rfl⟩
   ·rw[ZwH]at h; exact wpAny_eqBool_int h
   ·rw[ZvL]at h; exact ZDO i t y u _ _ _ _ h
  ·rcases Zbn hv with⟨j,u,rfl,rfl⟩ | ⟨y,u,rfl,rfl⟩
   ·rw[Zwo]at h; exact ZDP x t j u _ _ _ _ h
   ·rw[Zwl]at h; exact wpAny_eqBool_str h
 «strs»:=λk x t v h=>by
  rcases Zbn h with⟨i,u,rfl,e⟩ | ⟨y,u,rfl,e⟩
  ·exact nomatch e
  ·injection e with e1 _
   subst e1;cases v<;>rfl
theorem Zq1(prog:Program)(w:World)(k:Key)(v:Value):(ZaN prog w).is k v=Zh2 k v:=rfl
theorem ZpQ(prog:Program)(w:World)(i:Int)(t:Tok):(ZaN prog w).is (.inl i) (.int i t)=true:=ZsQ i t
theorem ZpY(prog:Program)(w:World)(x:Str)(t:Tok):(ZaN prog w).is (.inr x) (.str x t)=true:=Zsw x t
end L2
namespace L2
open PySem PySem.Spec PyProof.Rows
inductive V where
 | non | bl (b:Bool) | int (i:Int) | str (x:Str) | byt (b:Array UInt8) | flt (b:UInt64) | ref (a:Addr) | ty (n:String)
 deriving DecidableEq
def RelV:V->Value->Prop
 | .non,u=>u=Zzs
 | .bl b,u=>u=ZzT b
 | .int i,u=>∃t,u=ZAH i t
 | .str x,u=>∃t,u=Value.str x t
 | .byt b,u=>∃t,u=Value.bytes b t
 | .flt b,u=>∃t,u=Value.float b t
 | .ref a,u=>u=ZzW a
 | .ty n,u=>u=ZAm n
abbrev Vals:List V->List Value->Prop:=Paired RelV
theorem Vals.length{xs:List V}{us:List Value}(r:Vals xs us):xs.length=us.length:=ZAS r
theorem Vals.get:∀{xs:List V} {us:List Value} {i:Nat} {x:V},Vals xs us->xs[i]?=some x->∃u,us[i]?=some u/\RelV x u
 | _,_,_,_,.nil,e=>by simp at e
 | _,_,0,_,.cons r _,e=>by simp at e; subst e; exact⟨_,rfl,r⟩
 | _,_,i+1,x,.cons _ t,e=>by obtain⟨u,h1,h2⟩:=Vals.get (i:=i) (x:=x) t (by simpa using e);exact⟨u,by simpa using h1,h2⟩
theorem Vals.set{x:V}{u:Value}(r:RelV x u):∀{xs:List V} {us:List Value} (i:Nat),Vals xs us->Vals (xs.set i x) (us.set i u)
 | _,_,_,.nil=>.nil
 | _,_,0,.cons _ t=>.cons r t
 | _,_,i+1,.cons q t=>.cons q (Vals.set r i t)
theorem Vals.append:∀{xs ys:List V} {us ws:List Value},Vals xs us->Vals ys ws->Vals (xs++ys) (us++ws)
 | _,_,_,_,.nil,s=>s
 | _,_,_,_,.cons r t,s=>.cons r (Vals.append t s)
theorem Vals.take:∀{xs:List V} {us:List Value} (n:Nat),Vals xs us->Vals (xs.take n) (us.take n)
 | _,_,0,_=>.nil
 | _,_,_+1,.nil=>.nil
 | _,_,n+1,.cons r t=>.cons r (Vals.take n t)
theorem Vals.drop:∀{xs:List V} {us:List Value} (n:Nat),Vals xs us->Vals (xs.drop n) (us.drop n)
 | _,_,0,r=>r
 | _,_,_+1,.nil=>.nil
 | _,_,n+1,.cons _ t=>Vals.drop n t
def Zhh:Option V->Option Value->Prop
 | some v,some u=>RelV v u
 | none,none=>True
 | _,_=>False
def KV{κ:Type}:List (κ × V)->List (κ × Value)->Prop:=Paired λ(p:κ × V) (q:κ × Value)=>p.1=q.1/\RelV p.2 q.2
def kV:Key->V
 | .inl i=>.int i
 | .inr x=>.str x
inductive HO where
 | lst (xs:List V)
 | tup (xs:List V)
 | dK (kvs:List (Key × V)) | dT (kvs:List (List Key × V))
 | set (S:Int->Bool) (n:Nat)
 | ins (C dx:Addr) (fs:List (Str × V))
 | own (x:Addr)
 | xd (fs:List (Str × V))
 | met (f x:Addr)
 | rng (lo hi:Int)
 | frz (o:Obj) (u:HO)
 | tbl (ps:Array Value)
 | ext (φ:Heap->Prop)
abbrev Hp:=Addr->Option HO
def upd(H:Hp)(a:Addr)(o:HO):Hp:=λb=>if b=a then some o else H b
theorem ZH{H:Hp}{a:Addr}{o:HO}:upd H a o a=some o:=by unfold upd; rw[if_pos rfl]
theorem ZE{H:Hp}{a b:Addr}{o:HO}(h:b≠a):upd H a o b=H b:=by unfold upd; rw[if_neg h]
theorem Zur{H:Hp}{a b:Addr}{o u:HO}(h:H a=some o)(h':H b=some u)(d:o≠u):a≠b:=by intro e; subst e; rw[h]at h'; exact d (ZzU h')
theorem Zay{H:Hp}{a b:Addr}{o:HO}(h:H a=some o)(h':H b=none):a≠b:=by intro e; subst e; rw[h]at h'; cases h'
section
variable(P:Program)(w:World)
def Z1(H:Hp)(h:Heap)(a:Addr):HO->Prop
 | .lst xs=>xs.length<=sizeLine/\∃(its:List Value) (n:Nat),Vals xs its/\h.get? a=some { cls:=.type "list",data:=.seq its.toArray n }
 | .tup xs=>xs.length<=sizeLine/\∃its:List Value,Vals xs its/\IsTup h a its.toArray
 | .dK kvs=>kvs.length<=sizeLine/\(a==Zz8)=false/\∃vs,KV kvs vs/\h.DictOf (ZaN P w) a vs
 | .dT kvs=>kvs.length<=sizeLine/\(a==Zz8)=false/\∃xs:List (List Key × Addr × Value),
   Paired (λ(p:List Key × V) (q:List Key × Addr × Value)=>p.1=q.1/\H q.2.1=some (.tup (p.1.map kV))/\RelV p.2 q.2.2) kvs xs /\
   ∃o es ep,h.get? a=some o/\o.ExactDict/\o.data=.dict es ep/\es.toList=xs.map (entryOfKey (ZCe (ZaN P w)))/\(xs.map (·.1)).Nodup
 | .set S n=>h.SetOf (intKind P w) a S n
 | .ins C dx fs=>H dx=some (.own a)/\fs.length<=1000/\dx≠a/\h.get? a=some (PySem.W.instObj C dx) /\
   ∃mA,h.Ns1 dx mA/\(∀f,Zhh (fs.lookup f) (mA f))/\PySem.Within mA (fs.map (·.1))
 | .own _=>∃o,h.get? a=some o
 | .xd fs=>∃mA,h.Ns1 a mA/\∀f,Zhh (fs.lookup f) (mA f)
 | .rng lo hi=>∃t u v,h.get? a=some { cls:=.type "range",data:=.fields #[.int lo t,.int hi u,.int 1 v] }
 | .frz o u=>h.get? a=some o/\Z1 H h a u
 | .tbl ps=>h.get? a=some { cls:=.none,data:=.fields ps }
 | .met f x=>h.get? a=some (ZCT (.ref f) (.ref x))
 | .ext φ=>φ h/\(∃o,h.get? a=some o)/\∀h1 h2:Heap,φ h1->(∀o,h1.get? a=some o->h2.get? a=some o)->φ h2
def HOk(H:Hp)(h:Heap):Prop:=∀a o,H a=some o->Z1 P w H h a o
end
section
variable{P:Program}{w:World}{H H':Hp}{h h':Heap}{a:Addr}{o:HO}
theorem Z1.lt(x:Z1 P w H h a o):a<h.objs.size:=by
 cases o with
 | lst xs=>obtain⟨_,_,_,_,e⟩:=x; exact Zy1 e
 | tup xs=>obtain⟨_,_,_,p⟩:=x; exact p.lt
 | dK kvs=>obtain⟨_,_,_,_,o,_,_,e,_⟩:=x; exact Zy1 e
 | dT kvs=>obtain⟨_,_,_,_,o,_,_,e,_⟩:=x; exact Zy1 e
 | set S n=>obtain⟨o,_,_,_,e,_⟩:=x; exact Zy1 e
 | ins C dx fs=>obtain⟨_,_,_,e,_⟩:=x; exact Zy1 e
 | own y=>obtain⟨_,e⟩:=x; exact Zy1 e
 | xd fs=>obtain⟨_,⟨_,_,_,e,_⟩,_⟩:=x; exact Zy1 e
 | rng lo hi=>obtain⟨_,_,_,e⟩:=x; exact Zy1 e
 | frz ob u=>obtain⟨e,_⟩:=x; exact Zy1 e
 | tbl ps=>exact Zy1 (show h.get? a=some _ from x)
 | met f y=>exact Zy1 (show h.get? a=some _ from x)
 | ext φ=>obtain⟨_,⟨_,e⟩,_⟩:=x; exact Zy1 e
theorem Paired.mapP{α β:Type}{F G:α->β->Prop}:∀{l₁:List α} {l₂:List β},Paired F l₁ l₂->(∀a b,F a b->G a b)->Paired G l₁ l₂
 | _,_,.nil,_=>.nil
 | _,_,.cons r t,f=>.cons (f _ _ r) (Paired.mapP t f)
theorem Z1.stay(x:Z1 P w H h a o)(k:∀b u,(b=a\/H b=some (.own a))->h.get? b=some u->h'.get? b=some u)
  (ho:∀b,H b=some (.own a)->H' b=some (.own a)) (ht:∀b xs,H b=some (.tup xs)->H' b=some (.tup xs)):Z1 P w H' h' a o:=by
 induction o with
 | lst xs=>obtain⟨z,its,n,r,e⟩:=x; exact⟨z,its,n,r,k _ _ (.inl rfl) e⟩
 | tup xs=>obtain⟨z,its,r,ob,e,c⟩:=x; exact⟨z,its,r,ob,k _ _ (.inl rfl) e,c⟩
 | dK kvs=>obtain⟨z,y,vs,r,ob,es,ep,e,c⟩:=x; exact⟨z,y,vs,r,ob,es,ep,k _ _ (.inl rfl) e,c⟩
 | dT kvs=>obtain⟨z,y,xs,r,ob,es,ep,e,c⟩:=x;exact⟨z,y,xs,Paired.mapP r λp q z=>⟨z.1,ht _ _ z.2.1,z.2.2⟩,ob,es,ep,k _ _ (.inl rfl) e,c⟩
 | set S n=>obtain⟨ob,es,ep,t,e,c⟩:=x; exact⟨ob,es,ep,t,k _ _ (.inl rfl) e,c⟩
 | ins C dx fs=>obtain⟨d,z,ne,e,mA,⟨od,es,ep,e2,c⟩,r⟩:=x;exact⟨ho _ d,z,ne,k _ _ (.inl rfl) e,mA,⟨od,es,ep,k _ _ (.inr d) e2,c⟩,r⟩
 | own y=>obtain⟨ob,e⟩:=x; exact⟨ob,k _ _ (.inl rfl) e⟩
 | xd fs=>obtain⟨mA,⟨od,es,ep,e,c⟩,r⟩:=x; exact⟨mA,⟨od,es,ep,k _ _ (.inl rfl) e,c⟩,r⟩
 | rng lo hi=>obtain⟨t,u,v,e⟩:=x; exact⟨t,u,v,k _ _ (.inl rfl) e⟩
 | frz ob u ih=>obtain⟨e,q⟩:=x; exact⟨k _ _ (.inl rfl) e,ih q⟩
 | tbl ps=>have e:h.get? a=some { cls:=.none,data:=.fields ps }:=x;show h'.get? a=some { cls:=.none,data:=.fields ps };exact k a _ (.inl rfl) e
 | met f y=>have e:h.get? a=some (ZCT (.ref f) (.ref y)):=x;show h'.get? a=some (ZCT (.ref f) (.ref y));exact k a _ (.inl rfl) e
 | ext φ=>obtain⟨p,⟨o,e⟩,st⟩:=x; exact⟨st _ _ p λo q=>k _ _ (.inl rfl) q,⟨o,k _ _ (.inl rfl) e⟩,st⟩
theorem HOk.lt(x:HOk P w H h)(e:H a=some o):a<h.objs.size:=(x a o e).lt
theorem HOk.fresh(x:HOk P w H h)(e:h.objs.size<=a):H a=none:=by
 cases q:H a with
 | none=>rfl
 | some u=>exact absurd (Zzh (x.lt q) e) (ZAD _)
theorem HOk.kept(x:HOk P w H h)(k:∀b u,h.get? b=some u->h'.get? b=some u):HOk P w H h':=λa o e=>(x a o e).stay (λb u _ q=>k b u q) (λ_ q=>q) λ_ _ q=>q
theorem HOk.laid(x:HOk P w H h)(k:∀b u,h.get? b=some u->h'.get? b=some u)(hp:h.objs.size<=a)(new:Z1 P w (upd H a o) h' a o):HOk P w (upd H a o) h':=λb u e=>by
 have hn:=x.fresh hp
 by_cases hb:b=a
 ·subst hb; rw[ZH]at e; cases e; exact new
 ·rw[ZE hb]at e
  exact(x b u e).stay (λc v _ q=>k c v q) (λc q=>by rw[ZE (Zay q hn)]; exact q) λc xs q=>by rw[ZE (Zay q hn)]; exact q
end
def Rd(H:Hp)(a:Addr)(u:HO):Prop:=H a=some u\/∃o,H a=some (.frz o u)
theorem Rd.ok{P:Program}{w:World}{H:Hp}{h:Heap}{a:Addr}{u:HO}(r:Rd H a u)(x:HOk P w H h):Z1 P w H h a u:=by
 rcases r with r | ⟨o,r⟩
 ·exact x a u r
 ·obtain⟨_,q⟩:=x a _ r
  exact q
def Mut:Option HO->Prop
 | some (.lst _)=>True
 | some (.dK _)=>True
 | some (.dT _)=>True
 | some (.set _ _)=>True
 | some (.ins _ _ _)=>True
 | some (.ext _)=>True
 | _=>False
section
variable{P:Program}{w:World}{H:Hp}{h h':Heap}{x e:Addr}{o':HO}
theorem HOk.write(ok:HOk P w H h)(mu:Mut (H x))(he:e=x\/H e=some (.own x))(k:∀b u,b≠e->h.get? b=some u->h'.get? b=some u)(heo:∃u,h'.get? e=some u)
  (new:Z1 P w (upd H x o') h' x o'):HOk P w (upd H x o') h':=λb u q=>by
 have nown:∀c y,H c=some (.own y)->c≠x:=λc y r z=>by subst z; rw[r]at mu; exact mu
 have ntup:∀c xs,H c=some (.tup xs)->c≠x:=λc xs r z=>by subst z; rw[r]at mu; exact mu
 by_cases hb:b=x
 ·subst hb; rw[ZH]at q; cases q; exact new
 ·rw[ZE hb]at q
  by_cases hbe:b=e
  ·have q':H b=some (.own x):=by
    rcases he with z | z
    ·exact absurd (hbe.trans z) hb
    ·rw[hbe]; exact z
   rw[q]at q'; cases q';obtain⟨v,hv⟩:=heo;exact⟨v,by rw[hbe]; exact hv⟩
  ·refine(ok b u q).stay (λc v hc r=>k c v ?_ r) (λc r=>by rw[ZE (nown c b r)]; exact r) λc xs r=>by rw[ZE (ntup c xs r)]; exact r
   rcases hc with rfl | hc
   ·exact hbe
   ·rintro rfl
    rcases he with z | z
    ·exact nown c b hc z
    ·rw[hc]at z; cases z; exact hb rfl
end
structure Un(fs ex:List Addr)(H H':Hp)(h h':Heap):Prop where
 keep:∀b o,h.get? b=some o->H b=none->b ∉ fs->b ∉ ex->h'.get? b=some o
 slot:∀b o,h.get? b=some o->H b=none->b∈fs->b ∉ ex->∃sl,h'.get? b=some { o with slots:=sl }
 free:∀b o,h.get? b=some o->H b=none->b ∉ ex->H' b=none
 there:∀b o,h.get? b=some o->b ∉ ex->∃o',h'.get? b=some o'
 tups:∀b xs,H b=some (.tup xs)->H' b=some (.tup xs)
 frzs:∀b o u,H b=some (.frz o u)->H' b=some (.frz o u)
 tbls:∀b ps,H b=some (.tbl ps)->∃more,H' b=some (.tbl (ps++more))
section
variable{fs fs' ex ex':List Addr}{H H1 H2:Hp}{h h1 h2 h':Heap}{a x e:Addr}{o:HO}
theorem Un.any(u:Un fs ex H H1 h h1){b:Addr}{ob:Obj}(q:h.get? b=some ob)(n:H b=none)(hx:b ∉ ex):∃sl,h1.get? b=some { ob with slots:=sl }:=by
 by_cases hb:b∈fs
 ·exact u.slot b ob q n hb hx
 ·exact⟨ob.slots,u.keep b ob q n hb hx⟩
theorem Un.kept(k:∀b u,h.get? b=some u->h'.get? b=some u):Un fs ex H H h h' :=
 ⟨λb ob q _ _ _=>k b ob q,λb ob q _ _ _=>⟨ob.slots,k b ob q⟩,λ_ _ _ n _=>n,λb ob q _=>⟨ob,k b ob q⟩,λ_ _ q=>q,λ_ _ _ q=>q,λ_ ps q=>⟨#[],by rw[q]; simp⟩⟩
theorem Un.refl:Un fs ex H H h h:=Un.kept λ_ _ q=>q
theorem Un.laid(k:∀b u,h.get? b=some u->h'.get? b=some u)(hp:h.objs.size<=a)(hn:H a=none):Un fs ex H (upd H a o) h h' where
 keep:=λb u q _ _ _=>k b u q
 slot:=λb u q _ _ _=>⟨u.slots,k b u q⟩
 free:=λb u q n _=>by rw[ZE (Zzc (Zzh (Zy1 q) hp))]; exact n
 there:=λb u q _=>⟨u,k b u q⟩
 tups:=λb xs q=>by rw[ZE (Zay q hn)]; exact q
 frzs:=λb u xs q=>by rw[ZE (Zay q hn)]; exact q
 tbls:=λb ps q=>⟨#[],by rw[ZE (Zay q hn),q]; simp⟩
theorem Un.write(mu:Mut (H x))(he:e=x\/H e=some (.own x))(k:∀b u,b≠e->h.get? b=some u->h'.get? b=some u)(heo:∃u,h'.get? e=some u):Un fs ex H (upd H x o) h h':=by
 have hx:∀b,H b=none->b≠x:=λb n z=>by subst z; rw[n]at mu; exact mu
 have hb:∀b,H b=none->b≠e:=λb n z=>by
  subst z;rcases he with r | r
  ·exact hx b n r
  ·rw[n]at r; cases r
 have hm:∀b u,H b=some u->¬Mut (some u)->b≠x:=λb u q nm z=>by subst z; rw[q]at mu; exact nm mu
 refine⟨λb u q n _ _=>k b u (hb b n) q,λb u q n _ _=>⟨u.slots,k b u (hb b n) q⟩,λb u q n _=>by rw[ZE (hx b n)]; exact n,λb u q _=>?_,
  λb xs q=>by rw[ZE (hm b _ q λz=>z)]; exact q,λb u xs q=>by rw[ZE (hm b _ q λz=>z)]; exact q,λb ps q=>⟨#[],by rw[ZE (hm b _ q λz=>z),q]; simp⟩⟩
 by_cases hbe:b=e
 ·subst hbe; exact heo
 ·exact⟨u,k b u hbe q⟩
end
def trk(h:Heap)(H:Hp):List Addr:=(ZyP h.objs.size).filter λa=>(H a).isSome
def Zhe(h:Heap)(H:Hp):Heap:=PySem.W.hideAll h (trk h H)
theorem Zsc(h:Heap)(H:Hp):(Zhe h H).objs.size=h.objs.size:=PySem.W.hideAll_size _ _
theorem ZtT{h:Heap}{H:Hp}{b:Addr}{o:Obj}(e:h.get? b=some o)(n:H b=none):(Zhe h H).get? b=some o :=
 PySem.W.hideAll_get _ e λhm=>by have q:(H b).isSome=true:=(Zy6.mp hm).2;rw[n]at q; simp at q
theorem Zvg{h:Heap}{H:Hp}{b:Addr}{o:Obj}(e:(Zhe h H).get? b=some o):h.get? b=some o/\H b=none:=by
 have e':h.get? b=some o:=PySem.W.of_hideAll (trk h H) e;refine⟨e',?_⟩;cases q:H b with
 | none=>rfl
 | some x=>have hm:b∈trk h H:=Zy6.mpr ⟨Zy7.mpr (Zy1 e'),by simp[q]⟩;have z:(Zhe h H).get? b=none:=PySem.W.hideAll_none (trk h H) hm;rw[z]at e; cases e
end L2
namespace L2
open PySem PySem.Spec PyProof.Rows
structure Mod(K:ZyK)(mg:Str->Option Value)(base:Heap):Prop where
 kin:K.In base
 glob:base.Ns Zzr mg
 blt:∃mb,base.Ns ZCY mb/\∀x:Str,x ≠ "__name__"->mb x=ZzS x
 nolimit:base.NoLimit
structure Cx where
 prog:Program
 w:World
 K:ZyK
 mg:Str->Option Value
 base:Heap
 A:Around
 N:List Str
 s₀:Shared
 H₀:Hp
 env:Env
 outer:List Env
 stack:List Env
 ex:List Addr
 fn:Str->Bool
 calm:Bool
 pn:List (Addr × Obj)
 xe:Value->Shared->Prop
def frs(l:List Env):List Addr:=l.filterMap (·.frame)
abbrev Cx.fs(X:Cx):List Addr:=frs X.outer
def Vis(sc:Scope)(x:Str):Prop:=sc.names.lookup x=some .local\/sc.names.lookup x=some .cell\/sc.names.lookup x=some .free
def Loc(sc:Scope)(x:Str):Prop:=sc.names.lookup x=some .local\/sc.names.lookup x=some .cell
def Look(env:Env)(h:Heap)(m:Str->Option Value)(x:Str)(u:Value):Prop :=
 (env.kindOf x=some .local/\m x=some u)\/((env.kindOf x=some .cell\/env.kindOf x=some .free)/\∃c,env.cells.lookup x=some c/\h.IsCell c (some u))
structure Cx.Ok(X:Cx):Prop where
 mod:Mod X.K X.mg X.base
 kind:X.env.scope.kind=.function
 glob:X.env.globals=Zzr
 blt:X.env.builtins=ZCY
 above:X.s₀.heap.objs.size<=X.env.locals
 inj:∀x y c,X.env.cells.lookup x=some c->X.env.cells.lookup y=some c->x=y
 has:∀x,(X.env.kindOf x=some .cell\/X.env.kindOf x=some .free)->∃c,X.env.cells.lookup x=some c
 cab:∀x c,X.fn x=true->X.env.cells.lookup x=some c->X.s₀.heap.objs.size<=c
 hd:X.calm=true->X.A.handled=none
 frames:X.A.frames=some X.stack
 stk:X.stack=X.outer\/(X.stack=X.env::X.outer/\X.env.frame=some X.env.locals)
 exf:∀b∈X.ex,b≠X.env.locals/\∀x c,X.env.cells.lookup x=some c->c≠b
 bs:∀b o,X.base.get? b=some o->X.s₀.heap.get? b=some o/\X.H₀ b=none
 bsz:X.base.objs.size<=X.s₀.heap.objs.size
 noex:∀b o,X.base.get? b=some o->b ∉ X.ex
 exfs:∀b∈X.ex,b ∉ X.fs
 funs:X.s₀.heap.FunFrames X.base X.outer
 frf:∀b∈X.fs,X.H₀ b=none
structure Inv(X:Cx)(pins:List (Addr × Obj))(σ:List (Option V))(H:Hp)(s:Shared):Prop where
 ok:X.Ok
 os:s.os=X.s₀.os
 bare:AllBare s.gens
 base:Un X.fs X.ex X.H₀ H X.s₀.heap s.heap
 loc:∃m,s.heap.Ns X.env.locals m/\∀(i:Nat) (x:Str) (v:V),X.N[i]?=some x->σ[i]?=some (some v)->Vis X.env.scope x->∃u,RelV v u/\Look X.env s.heap m x u
 cell:∀x c,X.env.cells.lookup x=some c->∃v,s.heap.IsCell c v
 free:H X.env.locals=none
 freeC:∀x c,X.env.cells.lookup x=some c->H c=none
 pin:∀p∈X.pn++pins,s.heap.get? p.1=some p.2/\H p.1=none/\p.1≠X.env.locals/\p.1 ∉ X.fs/\∀v,p.2.data≠.cell v
 hok:HOk X.prog X.w H s.heap
 len:σ.length=X.N.length
section
variable{X:Cx}{pins:List (Addr × Obj)}{σ:List (Option V)}{H H':Hp}{s:Shared}{h':Heap}
theorem Cx.Ok.nofr(ok:X.Ok){b:Addr}{o:Obj}(e:X.base.get? b=some o):b ∉ X.fs:=λhb=>by have:=(ok.funs.mem hb).1;rw[e]at this; cases this
theorem Inv.bs(I:Inv X pins σ H s):∀b o,X.base.get? b=some o->s.heap.get? b=some o/\H b=none:=λb o e=>⟨I.base.keep b o (I.ok.bs b o e).1 (I.ok.bs b o e).2 (I.ok.nofr e) (I.ok.noex b o e),I.base.free b o (I.ok.bs b o e).1 (I.ok.bs b o e).2 (I.ok.noex b o e)⟩
theorem Inv.bk(I:Inv X pins σ H s):∀b o,X.base.get? b=some o->s.heap.get? b=some o:=λb o e=>(I.bs b o e).1
theorem Inv.mod(I:Inv X pins σ H s):Mod X.K X.mg X.base:=I.ok.mod
theorem Inv.kIn(I:Inv X pins σ H s):X.K.In s.heap:=I.ok.mod.kin.keeps I.bk
theorem Inv.lt(I:Inv X pins σ H s):X.env.locals<s.heap.objs.size:=let ⟨_,hn,_⟩:=I.loc; hn.lt
theorem Inv.sz(I:Inv X pins σ H s):X.s₀.heap.objs.size<=s.heap.objs.size:=ZzH I.ok.above (ZAB I.lt)
theorem Inv.nofs(I:Inv X pins σ H s){a:Addr}(h:s.heap.objs.size<=a):a ∉ X.fs:=λhb=>by obtain⟨_,o,ho,_⟩:=I.ok.funs.mem hb;exact absurd (Zzh (Zy1 ho) (ZzH I.sz h)) (ZAD _)
theorem Inv.cne(I:Inv X pins σ H s):∀x c,X.env.cells.lookup x=some c->c≠X.env.locals:=λx c e z=>by obtain⟨v,o,ho,hd⟩:=I.cell x c e;obtain⟨m,⟨o',es,ep,ho',hd',_⟩,_⟩:=I.loc;rw[z,ho']at ho; cases ho; rw[hd']at hd; cases hd
theorem Inv.funs(I:Inv X pins σ H s):s.heap.FunFrames X.base X.outer:=by
 have all:∀(l:List Env),(∀b∈frs l,b∈X.fs)->X.s₀.heap.FunFrames X.base l->s.heap.FunFrames X.base l:=by
  intro l
  induction l with
  | nil=>intro _ _; trivial
  | cons env r ih=>intro hs hl;obtain⟨hk,⟨L,o,hf,hn,ho,hd⟩,hr⟩:=hl;have hL:L∈X.fs:=hs L (by unfold frs; rw[ZzQ,hf]; exact ZyO);obtain⟨sl,e⟩:=I.base.slot L o ho (I.ok.frf L hL) hL λz=>I.ok.exfs L z hL;exact⟨hk,⟨L,_,hf,hn,e,hd⟩,ih (λb hb=>hs b (by unfold frs; rw[ZzQ,hf]; exact ZyQ _ hb)) hr⟩
 exact all X.outer (λ_ hb=>hb) I.ok.funs
theorem Inv.stack(I:Inv X pins σ H s):s.heap.FunFrames X.base X.stack:=by
 rcases I.ok.stk with e | ⟨e,hf⟩
 ·rw[e]; exact I.funs
 ·rw[e]
  obtain⟨m,hn,_⟩:=I.loc;refine .cons (by rw[I.ok.kind]; decide) hf hn ?_ I.funs;exact Heap.get?_none_of_le (ZzH I.ok.bsz I.ok.above)
theorem Inv.stkSub(I:Inv X pins σ H s):∀b∈frs X.stack,b∈X.env.locals::X.fs:=λb hb=>by
 rcases I.ok.stk with e | ⟨e,hf⟩
 ·rw[e]at hb; exact ZyQ _ hb
 ·rw[e]at hb
  unfold frs at hb;rw[ZzQ,hf]at hb;exact hb
theorem Inv.stkFree(I:Inv X pins σ H s):∀b∈frs X.stack,H b=none:=λb hb=>by
 rcases Zzb.mp (I.stkSub b hb)with e | hb
 ·rw[e]; exact I.free
 ·obtain⟨_,o,ho,_⟩:=I.ok.funs.mem hb
  exact I.base.free b o ho (I.ok.frf b hb) λz=>I.ok.exfs b z hb
theorem Inv.step{g':Array GenState}{t':Nat}{d':Drawn}{ch:List Addr}(I:Inv X pins σ H s)
  (hch:∀b∈ch,(b∈X.ex\/X.s₀.heap.objs.size<=b)/\b≠X.env.locals/\(∀x c,X.env.cells.lookup x=some c->c≠b)/\∀p∈X.pn++pins,p.1≠b)
  (keep:∀b o,b≠X.env.locals->b ∉ X.fs->b ∉ ch->s.heap.get? b=some o->H b=none->h'.get? b=some o)
  (slot:∀b o,b≠X.env.locals->b∈X.fs->b ∉ ch->s.heap.get? b=some o->H b=none->∃sl,h'.get? b=some { o with slots:=sl }) (free:∀b o,b ∉ ch->s.heap.get? b=some o->H b=none->H' b=none)
  (there:∀b o,b ∉ ch->s.heap.get? b=some o->∃o',h'.get? b=some o')
  (tups:∀b xs,H b=some (.tup xs)->H' b=some (.tup xs)) (frzs:∀b o u,H b=some (.frz o u)->H' b=some (.frz o u)) (tbls:∀b ps,H b=some (.tbl ps)->∃more,H' b=some (.tbl (ps++more)))
  (ns:∀m,s.heap.Ns X.env.locals m->h'.Ns X.env.locals m) (hok:HOk X.prog X.w H' h') (hg:AllBare g') :
  Inv X pins σ H' { s with heap:=h',gens:=g',drawn:=d',toks:=t' }:=by
 have neL:∀b o,X.s₀.heap.get? b=some o->b≠X.env.locals:=λb o e=>Zzc (Zzh (Zy1 e) I.ok.above);have neC:∀b o,X.s₀.heap.get? b=some o->b ∉ X.ex->b ∉ ch:=λb o e hx hb=>by
  rcases(hch b hb).1 with z | z
  ·exact hx z
  ·exact absurd (Zzh (Zy1 e) z) (ZAD _)
 have cellK:∀x c,X.env.cells.lookup x=some c->∀v,s.heap.IsCell c v->h'.IsCell c v:=λx c e v ⟨o,ho,hd⟩=>by
  have nch:c ∉ ch:=λz=>(hch c z).2.2.1 x c e rfl
  by_cases hc:c∈X.fs
  ·obtain⟨sl,q⟩:=slot c o (I.cne x c e) hc nch ho (I.freeC x c e)
   exact⟨_,q,hd⟩
  ·exact⟨o,keep c o (I.cne x c e) hc nch ho (I.freeC x c e),hd⟩
 refine⟨I.ok,I.os,hg,⟨λb o e n hb hx=>?_,λb o e n hb hx=>?_,λb o e n hx=>?_,λb o e hx=>?_,λb xs e=>tups b xs (I.base.tups b xs e),λb o xs e=>frzs b o xs (I.base.frzs b o xs e),λb ps e=>?_⟩,?_,λx c e=>?_,?_,λx c e=>?_,λp hp=>?_,hok,I.len⟩
 ·exact keep b o (neL b o e) hb (neC b o e hx) (I.base.keep b o e n hb hx) (I.base.free b o e n hx)
 ·obtain⟨sl,e1⟩:=I.base.slot b o e n hb hx
  obtain⟨sl',e2⟩:=slot b _ (neL b o e) hb (neC b o e hx) e1 (I.base.free b o e n hx);exact⟨sl',e2⟩
 ·obtain⟨o',e1⟩:=I.base.there b o e hx
  exact free b o' (neC b o e hx) e1 (I.base.free b o e n hx)
 ·obtain⟨o',e1⟩:=I.base.there b o e hx
  exact there b o' (neC b o e hx) e1
 ·obtain⟨m1,e1⟩:=I.base.tbls b ps e
  obtain⟨m2,e2⟩:=tbls b _ e1;exact⟨m1++m2,by rw[e2,Array.append_assoc]⟩
 ·obtain⟨m,hn,hl⟩:=I.loc
  refine⟨m,ns m hn,λi x v e1 e2 e3=>?_⟩;obtain⟨u,r,l⟩:=hl i x v e1 e2 e3;refine⟨u,r,?_⟩;rcases l with l | ⟨k,c,e,z⟩
  ·exact .inl l
  ·exact .inr ⟨k,c,e,cellK x c e _ z⟩
 ·obtain⟨v,z⟩:=I.cell x c e
  exact⟨v,cellK x c e v z⟩
 ·obtain⟨m,⟨o,_,_,ho,_⟩,_⟩:=I.loc
  exact free _ o (λz=>(hch _ z).2.1 rfl) ho I.free
 ·obtain⟨v,o,ho,hd⟩:=I.cell x c e
  exact free c o (λz=>(hch c z).2.2.1 x c e rfl) ho (I.freeC x c e)
 ·obtain⟨e,n,ne,nf,d⟩:=I.pin p hp
  have nch:p.1 ∉ ch:=λz=>(hch p.1 z).2.2.2 p hp rfl;exact⟨keep p.1 p.2 ne nf nch e n,free p.1 p.2 nch e n,ne,nf,d⟩
theorem Inv.un{t':Nat}(I:Inv X pins σ H s)(u:Un X.fs [] H H' s.heap h')(hok:HOk X.prog X.w H' h'):Inv X pins σ H' { s with heap:=h',toks:=t' }:=by obtain⟨m,⟨o,es,ep,ho,r⟩,_⟩:=id I.loc;obtain⟨sl,hL⟩:=u.any ho I.free (by simp);exact I.step (g':=s.gens) (d':=s.drawn) (ch:=[]) (λ_ z=>nomatch z) (λb o _ hb _ e n=>u.keep b o e n hb (by simp)) (λb o _ hb _ e n=>u.slot b o e n hb (by simp)) (λb o _ e n=>u.free b o e n (by simp)) (λb o _ e=>u.there b o e (by simp)) u.tups u.frzs u.tbls (λm' hm=>by obtain⟨o',es',ep',ho',r'⟩:=hm;rw[ho]at ho'; cases ho';exact⟨_,es',ep',hL,r'⟩) hok I.bare
theorem Inv.call{g':Array GenState}{t':Nat}{d':Drawn}{ch:List Addr}(I:Inv X pins σ H s)(u:Un (frs X.stack) ch H H' s.heap h')(hok:HOk X.prog X.w H' h')(hg:AllBare g')
  (hch:∀b∈ch,(b∈X.ex\/X.s₀.heap.objs.size<=b)/\b≠X.env.locals/\(∀x c,X.env.cells.lookup x=some c->c≠b)/\∀p∈X.pn++pins,p.1≠b) :
  Inv X pins σ H' { s with heap:=h',gens:=g',drawn:=d',toks:=t' }:=by
 obtain⟨m,⟨o,es,ep,ho,r⟩,_⟩:=id I.loc;obtain⟨sl,hL⟩:=u.any ho I.free λz=>(hch _ z).2.1 rfl;exact I.step (ch:=ch) hch (λb o hL hb hc e n=>u.keep b o e n (λz=>(Zzb.mp (I.stkSub b z)).elim hL hb) hc) (λb o _ _ hc e n=>u.any e n hc) (λb o hc e n=>u.free b o e n hc) (λb o hc e=>u.there b o e hc) u.tups u.frzs u.tbls (λm' hm=>by obtain⟨o',es',ep',ho',r'⟩:=hm;rw[ho]at ho'; cases ho';exact⟨_,es',ep',hL,r'⟩) hok hg
theorem Inv.turned{t':Nat}{it:Addr}(I:Inv X pins σ H s)(k:∀b o,b≠it->s.heap.get? b=some o->h'.get? b=some o)(hn:H it=none)(hL:it≠X.env.locals)
  (h1:it∈X.ex\/X.s₀.heap.objs.size<=it) (h2:∀x c,X.env.cells.lookup x=some c->c≠it) (h3:∀p∈X.pn++pins,p.1≠it):Inv X pins σ H { s with heap:=h',toks:=t' }:=by
 have nit:∀b u,H b=some u->b≠it:=λb u e z=>by rw[z,hn]at e; cases e
 refine I.step (g':=s.gens) (d':=s.drawn) (ch:=[it]) (λb hb=>?_) (λb o _ _ hc e _=>k b o (λz=>hc (by simp[z])) e) (λb o _ _ hc e _=>⟨o.slots,k b o (λz=>hc (by simp[z])) e⟩) (λ_ _ _ _ n=>n)
  (λb o hc e=>⟨o,k b o (λz=>hc (by simp[z])) e⟩) (λ_ _ e=>e) (λ_ _ _ e=>e) (λb ps e=>⟨#[],by rw[e]; simp⟩) (λm hm=>?_) (λb u e=>?_) I.bare
 ·have e:b=it:=by simpa using hb
  subst e;exact⟨h1,hL,h2,h3⟩
 ·obtain⟨o,es,ep,ho,r⟩:=hm
  exact⟨o,es,ep,k _ o (ZzX hL) ho,r⟩
 ·refine(I.hok b u e).stay (λc v hc q=>k c v ?_ q) (λ_ q=>q) λ_ _ q=>q
  rcases hc with z | z
  ·rw[z]; exact nit b u e
  ·exact nit c _ z
theorem Inv.tok(I:Inv X pins σ H s)(t:Nat):Inv X pins σ H { s with toks:=t }:=I.un (h':=s.heap) (t':=t) Un.refl I.hok
theorem Inv.kept{t':Nat}(I:Inv X pins σ H s)(k:∀b u,s.heap.get? b=some u->h'.get? b=some u):Inv X pins σ H { s with heap:=h',toks:=t' }:=I.un (Un.kept k) (I.hok.kept k)
theorem Inv.laid{a:Addr}{o:HO}{t':Nat}(I:Inv X pins σ H s)(k:∀b u,s.heap.get? b=some u->h'.get? b=some u)(hp:s.heap.objs.size<=a)(new:Z1 X.prog X.w (upd H a o) h' a o) :
  Inv X pins σ (upd H a o) { s with heap:=h',toks:=t' }:=I.un (Un.laid k hp (I.hok.fresh hp)) (I.hok.laid k hp new)
theorem Inv.write{x e:Addr}{o:HO}{t':Nat}(I:Inv X pins σ H s)(mu:Mut (H x))(he:e=x\/H e=some (.own x))(k:∀b u,b≠e->s.heap.get? b=some u->h'.get? b=some u)(heo:∃u,h'.get? e=some u)
  (new:Z1 X.prog X.w (upd H x o) h' x o):Inv X pins σ (upd H x o) { s with heap:=h',toks:=t' }:=I.un (Un.write mu he k heo) (I.hok.write mu he k heo new)
theorem Inv.weak{σ':List (Option V)}(I:Inv X pins σ H s)(hl:σ'.length=σ.length)(w:∀(i:Nat) v,σ'[i]?=some (some v)->σ[i]?=some (some v)):Inv X pins σ' H s :=
 ⟨I.ok,I.os,I.bare,I.base,let ⟨m,hn,hl'⟩:=I.loc; ⟨m,hn,λi x v e1 e2 e3=>hl' i x v e1 (w i v e2) e3⟩,I.cell,I.free,I.freeC,I.pin,I.hok,hl.trans I.len⟩
theorem Inv.pins_of{pins':List (Addr × Obj)}(I:Inv X pins σ H s)(h:∀p∈pins',s.heap.get? p.1=some p.2/\H p.1=none/\p.1≠X.env.locals/\p.1 ∉ X.fs/\∀v,p.2.data≠.cell v):Inv X pins' σ H s :=
 ⟨I.ok,I.os,I.bare,I.base,I.loc,I.cell,I.free,I.freeC,λp hp=>(Zzp.mp hp).elim (λz=>I.pin p (ZzY _ z)) (h p),I.hok,I.len⟩
theorem Zpg{N:List Str}(hN:N.Nodup){i j:Nat}{x:Str}(a:N[i]?=some x)(b:N[j]?=some x):i=j:=by obtain⟨h1,e1⟩:=ZyZ.mp a;obtain⟨h2,e2⟩:=ZyZ.mp b;exact(List.getElem_inj hN).mp (e1.trans e2.symm)
theorem Zmv{M:Model}{A:Around}{E:Value->Shared->Prop}{i:Nat}{x:Str}{v:V}{u:Value}{Q:Unit->Shared->Prop}(I:Inv X pins σ H s)(hN:X.N.Nodup)(hi:X.N[i]?=some x)(hx:Loc X.env.scope x)(r:RelV v u)
  (h:∀s',Inv X pins (σ.set i (some v)) H s'->(∃a,ZAL a s.heap s'.heap/\(a=X.env.locals\/X.env.cells.lookup x=some a))->Q () s') (hf:X.fn x=true\/X.env.scope.names.lookup x=some .local:=by first | exact .inl rfl | exact .inr rfl | assumption):wpAny M A (storeName X.env x u) Q E s:=by
 obtain⟨m,hn,hl⟩:=id I.loc;have hcls:(X.env.scope.kind==.class||(X.env.scope.kind==.module&&X.env.locals != X.env.globals))=false:=by rw[I.ok.kind]; rfl
 have hiσ:i<σ.length:=by rw[I.len]; exact(ZyZ.mp hi).1
 have cne:=I.cne;have tracked:∀{a:Addr} {h':Heap},(∃o,s.heap.get? a=some o/\H a=none)->ZAL a s.heap h'->HOk X.prog X.w H h':=λ{a h'} ha hs b ob e=>by
  obtain⟨_,_,hfree⟩:=ha;refine(I.hok b ob e).stay (λc w' hc q=>(hs.2 c ?_).trans q) (λ_ q=>q) λ_ _ q=>q
  rintro rfl
  rcases hc with rfl | hc
  ·rw[hfree]at e; cases e
  ·rw[hfree]at hc; cases hc
 rcases hx with hk | hk
 ·refine wpAny_storeName_local hk hn (λh' hn' hs=>?_) hcls
  obtain⟨oL,_,_,hoL,_⟩:=id hn;refine h _ ⟨I.ok,I.os,I.bare,⟨λb o e n hb hx=>?_,λb o e n hb hx=>?_,I.base.free,λb o e hx=>?_,I.base.tups,I.base.frzs,I.base.tbls⟩,⟨_,hn',λj y v' e1 e2 e3=>?_⟩,λy c e=>?_,I.free,I.freeC,λp hp=>?_,tracked ⟨oL,hoL,I.free⟩ hs,by simpa using I.len⟩ ⟨_,hs,.inl rfl⟩
  ·exact(hs.2 b (Zzc (Zzh (Zy1 e) I.ok.above))).trans (I.base.keep b o e n hb hx)
  ·obtain⟨sl,e1⟩:=I.base.slot b o e n hb hx
   exact⟨sl,(hs.2 b (Zzc (Zzh (Zy1 e) I.ok.above))).trans e1⟩
  ·obtain⟨o',e1⟩:=I.base.there b o e hx
   exact⟨o',(hs.2 b (Zzc (Zzh (Zy1 e) I.ok.above))).trans e1⟩
  ·by_cases hj:j=i
   ·subst hj
    rw[hi]at e1; cases e1;rw[ZzL hiσ]at e2;cases e2;exact⟨u,r,.inl ⟨hk,by simp⟩⟩
   ·rw[Zzn (ZzX hj)]at e2
    obtain⟨u',r',q⟩:=hl j y v' e1 e2 e3;refine⟨u',r',?_⟩;rcases q with⟨k,e⟩ | ⟨k,c,e,z⟩
    ·refine .inl ⟨k,?_⟩
     have:y≠x:=λe=>hj (Zpg hN e1 (e▸hi));simp[this,e]
    ·exact .inr ⟨k,c,e,z.sameBut hs (cne y c e)⟩
  ·obtain⟨w',z⟩:=I.cell y c e
   exact⟨w',z.sameBut hs (cne y c e)⟩
  ·obtain⟨e,n,ne,nf,d⟩:=I.pin p hp
   exact⟨(hs.2 p.1 ne).trans e,n,ne,nf,d⟩
 ·have hfn:X.fn x=true:=by
   rcases hf with z | z
   ·exact z
   ·rw[z]at hk; cases hk
  obtain⟨c,hc⟩:=I.ok.has x (.inl hk);obtain⟨w',z⟩:=I.cell x c hc;refine wpAny_storeName_cell I.ok.kind hk hc z (λh' hc' hs=>?_);obtain⟨oc,hoc,hocd⟩:=id z;refine h { s with heap:=h' } ⟨I.ok,I.os,I.bare,⟨λb o e n hb hx=>?_,λb o e n hb hx=>?_,I.base.free,λb o e hx=>?_,I.base.tups,I.base.frzs,I.base.tbls⟩,⟨m,hn.sameBut hs (ZzX (cne x c hc)),λj y v' e1 e2 e3=>?_⟩,λy c' e=>?_,I.free,I.freeC,λp hp=>?_,tracked ⟨oc,hoc,I.freeC x c hc⟩ hs,by simpa using I.len⟩ ⟨c,hs,.inr hc⟩
  ·exact(hs.2 b (Zzc (Zzh (Zy1 e) (I.ok.cab x c hfn hc)))).trans (I.base.keep b o e n hb hx)
  ·obtain⟨sl,e1⟩:=I.base.slot b o e n hb hx
   exact⟨sl,(hs.2 b (Zzc (Zzh (Zy1 e) (I.ok.cab x c hfn hc)))).trans e1⟩
  ·obtain⟨o',e1⟩:=I.base.there b o e hx
   exact⟨o',(hs.2 b (Zzc (Zzh (Zy1 e) (I.ok.cab x c hfn hc)))).trans e1⟩
  ·by_cases hj:j=i
   ·subst hj
    rw[hi]at e1; cases e1;rw[ZzL hiσ]at e2;cases e2;exact⟨u,r,.inr ⟨.inl hk,c,hc,hc'⟩⟩
   ·rw[Zzn (ZzX hj)]at e2
    obtain⟨u',r',q⟩:=hl j y v' e1 e2 e3;refine⟨u',r',?_⟩;rcases q with q | ⟨k,c',e,z'⟩
    ·exact .inl q
    ·refine .inr ⟨k,c',e,z'.sameBut hs ?_⟩
     rintro rfl
     exact hj (Zpg hN e1 (I.ok.inj _ _ _ e hc▸hi))
  ·by_cases hcc:c'=c
   ·subst hcc; exact⟨_,hc'⟩
   ·obtain⟨w2,z2⟩:=I.cell y c' e
    exact⟨w2,z2.sameBut hs hcc⟩
  ·obtain⟨e,n,ne,nf,d⟩:=I.pin p hp
   refine⟨(hs.2 p.1 ?_).trans e,n,ne,nf,d⟩;intro q;rw[q,hoc]at e;have q':oc=p.2:=ZzU e;exact d w' (by rw[<-q']; exact hocd)
theorem ZoU{M:Model}{A:Around}{E:Value->Shared->Prop}{i:Nat}{x:Str}{v:V}{u:Value}{Q:Unit->Shared->Prop}(I:Inv X pins σ H s)(hN:X.N.Nodup)(hi:X.N[i]?=some x)(hx:Loc X.env.scope x)(r:RelV v u)
  (h:∀s',Inv X pins (σ.set i (some v)) H s'->Q () s') (hf:X.fn x=true\/X.env.scope.names.lookup x=some .local:=by first | exact .inl rfl | exact .inr rfl | assumption):wpAny M A (storeName X.env x u) Q E s :=
 Zmv I hN hi hx r (λs' I' _=>h s' I') hf
theorem Inv.call'{s':Shared}{ch:List Addr}(I:Inv X pins σ H s)(ho:s'.os=s.os)(u:Un (frs X.stack) ch H H' s.heap s'.heap)(hok:HOk X.prog X.w H' s'.heap)(hg:AllBare s'.gens)
  (hch:∀b∈ch,(b∈X.ex\/X.s₀.heap.objs.size<=b)/\b≠X.env.locals/\(∀x c,X.env.cells.lookup x=some c->c≠b)/\∀p∈X.pn++pins,p.1≠b):Inv X pins σ H' s':=by
 obtain⟨h',g',d',t',o'⟩:=s';have e:o'=s.os:=ho;subst e;exact I.call (g':=g') (t':=t') (d':=d') u hok hg hch
end
abbrev XK:=Value->Option Addr->Hp->Prop
abbrev St:=List (Option V)
abbrev VK:=V->Hp->Prop
abbrev TE:=St->Hp->VK->Prop
abbrev TT:=St->Hp->(Bool->Hp->Prop)->Prop
abbrev TA:=St->Hp->(List V->Hp->Prop)->Prop
structure Ends where
 nx:St->Hp->Prop
 rt:VK
 bk:St->Hp->Prop:=λ_ _=>False
 ct:St->Hp->Prop:=λ_ _=>False
abbrev TS:=Ends->St->Hp->Prop
inductive EP(X:Cx)(pins:List (Addr × Obj))(σ:St)(Q:VK)(u:Value)(s':Shared):Prop
 | mk (v:V) (H':Hp) (I:Inv X pins σ H' s') (r:RelV v u) (q:Q v H'):EP X pins σ Q u s'
inductive TP(X:Cx)(pins:List (Addr × Obj))(σ:St)(Q:Bool->Hp->Prop)(b:Bool)(s':Shared):Prop
 | mk (H':Hp) (I:Inv X pins σ H' s') (q:Q b H'):TP X pins σ Q b s'
inductive AP(X:Cx)(pins:List (Addr × Obj))(σ:St)(Q:List V->Hp->Prop)(us:List Value)(s':Shared):Prop
 | mk (vs:List V) (H':Hp) (I:Inv X pins σ H' s') (r:Vals vs us) (q:Q vs H'):AP X pins σ Q us s'
inductive SPn(X:Cx)(pins:List (Addr × Obj))(N:St->Hp->Prop)(s':Shared):Prop
 | mk (σ':St) (H':Hp) (I:Inv X pins σ' H' s') (q:N σ' H'):SPn X pins N s'
inductive SPr(X:Cx)(pins:List (Addr × Obj))(R:V->Hp->Prop)(u:Value)(s':Shared):Prop
 | mk (v:V) (σ':St) (H':Hp) (I:Inv X pins σ' H' s') (r:RelV v u) (q:R v H'):SPr X pins R u s'
def SP(X:Cx)(pins:List (Addr × Obj))(D:Ends)(f:Flow)(s':Shared):Prop :=
 match f with
 | .next=>SPn X pins D.nx s'
 | .brk=>SPn X pins D.bk s'
 | .cont=>SPn X pins D.ct s'
 | .ret u=>SPr X pins D.rt u s'
def PE(X:Cx)(e:Expr)(t:TE):Prop :=
 ∀(pins:List (Addr × Obj)) (s:Shared) (σ:St) (H:Hp) (Q:VK),Inv X pins σ H s->t σ H Q->wpAny (model X.prog X.w) X.A (eval e X.env) (EP X pins σ Q) X.xe s
def PT(X:Cx)(e:Expr)(t:TT):Prop :=
 ∀(pins:List (Addr × Obj)) (s:Shared) (σ:St) (H:Hp) (Q:Bool->Hp->Prop),Inv X pins σ H s->t σ H Q->wpAny (model X.prog X.w) X.A (isTrue e X.env (eval e X.env)) (TP X pins σ Q) X.xe s
def PW(X:Cx)(e:Expr)(t:TT):Prop :=
 ∀(whole:Sem Value) (pins:List (Addr × Obj)) (s:Shared) (σ:St) (H:Hp) (Q:Bool->Hp->Prop),Inv X pins σ H s->t σ H Q->wpAny (model X.prog X.w) X.A (isTrue e X.env whole) (TP X pins σ Q) X.xe s
theorem PW.pt{X:Cx}{e:Expr}{t:TT}(h:PW X e t):PT X e t:=h _
def PA(X:Cx)(es:List Expr)(t:TA):Prop :=
 ∀(pos:Pos) (pins:List (Addr × Obj)) (s:Shared) (σ:St) (H:Hp) (Q:List V->Hp->Prop),Inv X pins σ H s->t σ H Q->wpAny (model X.prog X.w) X.A (spliced (backTo pos (Zy0 es X.env))) (AP X pins σ Q) X.xe s
def PS(X:Cx)(st:Stmt)(t:TS):Prop :=
 ∀(pins:List (Addr × Obj)) (s:Shared) (σ:St) (H:Hp) (D:Ends),Inv X pins σ H s->t D σ H->wpAny (model X.prog X.w) X.A (exec st X.env) (SP X pins D) X.xe s
def PSs(X:Cx)(st:List Stmt)(t:TS):Prop :=
 ∀(pins:List (Addr × Obj)) (s:Shared) (σ:St) (H:Hp) (D:Ends),Inv X pins σ H s->t D σ H->wpAny (model X.prog X.w) X.A (execs st X.env) (SP X pins D) X.xe s
theorem thn{α:Type}{t:Sem α}{Q Q':α->Shared->Prop}{M:Model}{A:Around}{E:Value->Shared->Prop}{s:Shared}(h:wpAny M A t Q E s)(hQ:∀a s,Q a s->Q' a s):wpAny M A t Q' E s:=Zz4 h hQ λ_ _ x=>x
end L2
namespace L2
open PySem PySem.Spec PyProof.Rows
section
variable{X:Cx}
def Zyf(i:Nat):TE:=λσ H Q=>∃v,σ[i]?=some (some v)/\Q v H
def tC(v:V):TE:=λ_ H Q=>Q v H
theorem ZcQ{i:Nat}{x:Str}{pos:Pos}(hN:X.N[i]?=some x)(hv:Vis X.env.scope x)(hd:(x==("__debug__":Str))=false:=by decide)(hcd:(x==("__classdict__":Str))=false:=by decide):PE X (.Name x pos) (Zyf i):=by
 intro pins s σ H Q I h;obtain⟨v,e,h⟩:=h;obtain⟨m,hn,hl⟩:=I.loc;obtain⟨u,r,l⟩:=hl i x v hN e hv;have fin:EP X pins σ Q u s:=⟨v,H,I,r,h⟩;rcases l with⟨hk,hm⟩ | ⟨hk,c,hc,hcell⟩
 ·exact wpAny_Name (wpAny_loadName_local I.ok.kind hk hn hm fin) hd
 ·rcases hk with hk | hk
  ·exact wpAny_Name (wpAny_loadName_cell I.ok.kind hk hc hcell fin) hd
  ·exact wpAny_Name (wpAny_loadName_free I.ok.kind hk hc hcell fin hcd) hd
theorem Zsu{i j pos}:PE X (.Constant (.int i) j pos) (tC (.int i)):=λ_ _ _ H _ I h=>wpAny_Constant_int ⟨.int i,H,I.tok _,⟨_,rfl⟩,h⟩
theorem Zxx{b j pos}:PE X (.Constant (.bool b) j pos) (tC (.bl b)):=λ_ _ _ H _ I h=>Constant_bool ⟨.bl b,H,I,rfl,h⟩
theorem ZsP{j pos}:PE X (.Constant .none j pos) (tC .non):=λ_ _ _ H _ I h=>Constant_none ⟨.non,H,I,rfl,h⟩
theorem Zwi{x j pos}:PE X (.Constant (.str x) j pos) (tC (.str x)):=λ_ _ _ H _ I h=>Calls.Constant_str ⟨.str x,H,I.tok _,⟨_,rfl⟩,h⟩
def Gl(X:Cx)(x:Str):Prop:=X.env.kindOf x=some .globalImplicit
theorem ZlJ{E:Value->Shared->Prop}{pins:List (Addr × Obj)}{s:Shared}{σ:St}{H:Hp}{x:Str}{u:Value}{pos:Pos}{Q:Value->Shared->Prop}(I:Inv X pins σ H s)(hg:Gl X x)(hm:X.mg x=some u)(h:Q u s)
  (hd:(x==("__debug__":Str))=false:=by decide):wpAny (model X.prog X.w) X.A (eval (.Name x pos) X.env) Q E s :=
 ZCJ I.ok.kind hg (Calls.loadGlobal_global (by rw[I.ok.glob]; exact I.mod.glob.keeps I.bk) hm h) hd
theorem Zjc{E:Value->Shared->Prop}{pins:List (Addr × Obj)}{s:Shared}{σ:St}{H:Hp}{x:Str}{u:Value}{pos:Pos}{Q:Value->Shared->Prop}(I:Inv X pins σ H s)(hg:Gl X x)(hm:X.mg x=none)(hv:ZzS x=some u)(h:Q u s)
  (hn:x ≠ "__name__":=by decide) (hd:(x==("__debug__":Str))=false:=by decide):wpAny (model X.prog X.w) X.A (eval (.Name x pos) X.env) Q E s:=by
 obtain⟨mb,h1,h2⟩:=I.mod.blt;exact ZCJ I.ok.kind hg (Calls.loadGlobal_builtin (by rw[I.ok.glob]; exact I.mod.glob.keeps I.bk) hm (by rw[I.ok.blt]; exact h1.keeps I.bk) ((h2 x hn).trans hv) h) hd
theorem Zqr{x:Str}{v:V}{u:Value}{pos:Pos}(hg:Gl X x)(hm:X.mg x=some u)(r:RelV v u)(hd:(x==("__debug__":Str))=false:=by decide):PE X (.Name x pos) (tC v) :=
 λ_ _ _ H _ I h=>ZlJ I hg hm ⟨v,H,I,r,h⟩ hd
theorem ZuZ{x:Str}{v:V}{u:Value}{pos:Pos}(hg:Gl X x)(hm:X.mg x=none)(hv:ZzS x=some u)(r:RelV v u)(hn:x ≠ "__name__":=by decide)(hd:(x==("__debug__":Str))=false:=by decide):PE X (.Name x pos) (tC v) :=
 λ_ _ _ H _ I h=>Zjc I hg hm hv ⟨v,H,I,r,h⟩ hn hd
variable{a b:Expr}{ta tb:TE}{pos:Pos}
def PC(X:Cx)(op:CmpOp)(a b:Expr)(t:TE):Prop :=
 ∀(pins:List (Addr × Obj)) (s:Shared) (σ:St) (H:Hp) (Q:VK),Inv X pins σ H s->t σ H Q ->
  wpAny (model X.prog X.w) X.A (eval a X.env) (λv s₁=>wpAny (model X.prog X.w) X.A (eval b X.env) (λu s₂=>wpAny (model X.prog X.w) X.A (ZAk op v u) (EP X pins σ Q) X.xe s₂) X.xe s₁) X.xe s
theorem Zib(b:Expr){op:CmpOp}(h:op≠.In)(h2:op≠.NotIn):ZAw op b=false:=by
 have e1:(op==CmpOp.In)=false:=by cases op<;>first | rfl | exact absurd rfl h
 have e2:(op==CmpOp.NotIn)=false:=by cases op<;>first | rfl | exact absurd rfl h2
 cases b<;>simp[ZAw,e1,e2]
def tB(t:TE):TT:=λσ H Q=>t σ H λx H1=>∃c,x=.bl c/\Q c H1
theorem Zwq{op:CmpOp}{t:TE}(h:PC X op a b t)(h1:ZAw op b=false:=by first | exact Zib _ (by decide) (by decide) | rfl):PE X (.Compare a [op] [b] pos) t:=λpins s σ H Q I hw=>wpAny_Compare1 (h pins s σ H Q I hw) h1
theorem ZsZ{op:CmpOp}{t:TE}(h:PC X op a b t)(h1:ZAw op b=false:=by first | exact Zib _ (by decide) (by decide) | rfl):PT X (.Compare a [op] [b] pos) (tB t):=by intro pins s σ H Q I hw;refine wpAny_isTrue_Compare1 (thn (h pins s σ H _ I hw) λv s1 h1=>thn h1 λu s2 h2=>thn h2 λc s3 ⟨x,H1,I1,r1,q1⟩=>?_) h1;obtain⟨d,rfl,q⟩:=q1;cases r1;exact ZAy ⟨H1,I1,q⟩
theorem ZwC{e:Expr}{t:TE}(h:PE X e t)(he:∀whole,isTrue e X.env whole=(do let v <-whole; standAt e.pos; holding [v] (truthy v)):=by intro _; rfl):PT X e (tB t):=by intro pins s σ H Q I hw;refine isTrue_plain (thn (h pins s σ H _ I hw) λv s1 ⟨x,H1,I1,r1,q1⟩=>?_) (he _);obtain⟨d,rfl,q⟩:=q1;cases r1;exact ZAy ⟨H1,I1,q⟩
variable{tA tB':TT}{rest:List Expr}
def Zi6(t u:TT):TT:=λσ H Q=>t σ H λc H1=>if c=true then u σ H1 Q else Q false H1
def tOr(t u:TT):TT:=λσ H Q=>t σ H λc H1=>if c=true then Q true H1 else u σ H1 Q
def Zdl(t:TT):TT:=λσ H Q=>t σ H λc H1=>Q (!c) H1
theorem Zvk(ha:PT X a tA):PW X (.BoolOp .And [a] pos) tA:=by
 intro wh pins s σ H Q I h;refine isTrue_and (thn (ha pins s σ H Q I h) λc s1 e=>?_);cases c with
 | true=>exact isTrue_and_nil e
 | false=>exact e
theorem Zwp(ha:PT X a tA):PW X (.BoolOp .Or [a] pos) tA:=by
 intro wh pins s σ H Q I h;refine isTrue_or (thn (ha pins s σ H Q I h) λc s1 e=>?_);cases c with
 | false=>exact isTrue_or_nil e
 | true=>exact e
theorem Zsy(ha:PT X a tA)(hb:PW X (.BoolOp .And (b::rest) pos) tB'):PW X (.BoolOp .And (a::b::rest) pos) (Zi6 tA tB'):=by
 intro wh pins s σ H Q I h;refine isTrue_and (thn (ha pins s σ H _ I h) λc s1 ⟨H1,I1,q1⟩=>?_);cases c with
 | true=>exact hb wh pins s1 σ H1 Q I1 q1
 | false=>exact⟨H1,I1,q1⟩
theorem Zun(ha:PT X a tA)(hb:PW X (.BoolOp .Or (b::rest) pos) tB'):PW X (.BoolOp .Or (a::b::rest) pos) (tOr tA tB'):=by
 intro wh pins s σ H Q I h;refine isTrue_or (thn (ha pins s σ H _ I h) λc s1 ⟨H1,I1,q1⟩=>?_);cases c with
 | true=>exact⟨H1,I1,q1⟩
 | false=>exact hb wh pins s1 σ H1 Q I1 q1
theorem ZwK(ha:PT X a tA):PT X (.UnaryOp .Not a pos) (Zdl tA):=by intro pins s σ H Q I h;exact isTrue_not (thn (ha pins s σ H (λc H1=>Q (!c) H1) I h) λ_ _ ⟨H',I',q'⟩=>⟨H',I',q'⟩)
def Zxh(ta tb:TE):TE:=λσ H Q=>ta σ H λx H1=>∃c,x=.bl c/\if c=true then tb σ H1 Q else Q (.bl false) H1
theorem ZvZ{op}{t:TE}(h:PE X a t):PE X (.BoolOp op [a] pos) t:=λpins s σ H Q I hw=>BoolOp_one (h pins s σ H Q I hw)
theorem Zsb(ha:PE X a ta)(hb:PE X (.BoolOp .And (b::rest) pos) tb):PE X (.BoolOp .And (a::b::rest) pos) (Zxh ta tb):=by
 intro pins s σ H Q I h;refine BoolOp_and (thn (ha pins s σ H _ I h) λv s1 ⟨x,H1,I1,r1,q1⟩=>?_);obtain⟨c,rfl,q1⟩:=q1;cases r1;refine ZAy ?_;cases c with
 | true=>exact hb pins s1 σ H1 Q I1 q1
 | false=>exact⟨.bl false,H1,I1,rfl,q1⟩
def tIf(t:TT)(ta tb:TE):TE:=λσ H Q=>t σ H λc H1=>if c=true then ta σ H1 Q else tb σ H1 Q
theorem Zo9{c:Expr}(hc:PT X c tA)(ha:PE X a ta)(hb:PE X b tb):PE X (.IfExp c a b pos) (tIf tA ta tb):=by
 intro pins s σ H Q I h;refine wpAny_IfExp (thn (hc pins s σ H _ I h) λd s1 ⟨H1,I1,q1⟩=>?_);cases d with
 | true=>exact ha pins s1 σ H1 Q I1 q1
 | false=>exact hb pins s1 σ H1 Q I1 q1
end
end L2
namespace L2
open PySem PySem.Spec PyProof.Rows
def SqL(K:ZyK)(H:Hp)(a:Addr)(xs:List V):Prop :=
 Rd H a (.lst xs) \/
  ∃(o:Obj) (its:Array Value) (n:Nat),K.lookup a=some o/\o.cls=.type "list"/\o.dict=none/\o.data=.seq its n/\its.size<=sizeLine/\Vals xs its.toList
def SqT(K:ZyK)(H:Hp)(a:Addr)(xs:List V):Prop :=
 Rd H a (.tup xs) \/
  ∃(o:Obj) (its:Array Value) (n:Nat),K.lookup a=some o/\o.cls=.type "tuple"/\o.data=.seq its n/\its.size<=sizeLine/\Vals xs its.toList
def Zx2:Value->Option V
 | .none=>some .non
 | .bool b=>some (.bl b)
 | .int i _=>some (.int i)
 | .str x _=>some (.str x)
 | .bytes b _=>some (.byt b)
 | .float b _=>some (.flt b)
 | .ref a=>some (.ref a)
 | .type n=>some (.ty n)
 | _=>none
theorem RelV.abs{x:V}{u:Value}(r:RelV x u):Zx2 u=some x:=by
 cases x with
 | non=>cases r; rfl
 | bl _=>cases r; rfl
 | int _=>obtain⟨t,rfl⟩:=r; rfl
 | str _=>obtain⟨t,rfl⟩:=r; rfl
 | byt _=>obtain⟨t,rfl⟩:=r; rfl
 | flt _=>obtain⟨t,rfl⟩:=r; rfl
 | ref _=>cases r; rfl
 | ty _=>cases r; rfl
theorem RelV.inj{x y:V}{u:Value}(r:RelV x u)(q:RelV y u):x=y:=ZzU (r.abs.symm.trans q.abs)
theorem Vals.inj:∀{xs ys:List V} {us:List Value},Vals xs us->Vals ys us->xs=ys
 | _,_,_,.nil,.nil=>rfl
 | _,_,_,.cons r t,.cons r' t'=>by rw[r.inj r',Vals.inj t t']
section
variable{X:Cx}{pins:List (Addr × Obj)}{σ:St}{H:Hp}{s:Shared}{a:Addr}{xs ys:List V}
theorem SqL.of{K:ZyK}(h:H a=some (.lst xs)):SqL K H a xs:=.inl (.inl h)
theorem SqT.of{K:ZyK}(h:H a=some (.tup xs)):SqT K H a xs:=.inl (.inl h)
theorem Inv.list(I:Inv X pins σ H s)(h:SqL X.K H a xs):∃its:List Value,Vals xs its/\PlainL s.heap a its.toArray/\xs.length<=sizeLine:=by
 rcases h with h | ⟨o,its,n,hk,hc,hd,hs,hz,r⟩
 ·obtain⟨z,its,n,r,e⟩:=h.ok I.hok
  exact⟨its,r,⟨_,n,e,rfl,rfl,rfl⟩,z⟩
 ·refine⟨its.toList,r,⟨o,n,I.kIn a o hk,hc,hd,by simpa using hs⟩,?_⟩
  have e:=r.length;simp only[Zze]at e;omega
theorem Inv.tuple(I:Inv X pins σ H s)(h:SqT X.K H a xs):∃its:List Value,Vals xs its/\IsTup s.heap a its.toArray/\xs.length<=sizeLine:=by
 rcases h with h | ⟨o,its,n,hk,hc,hs,hz,r⟩
 ·obtain⟨z,its,r,p⟩:=h.ok I.hok
  exact⟨its,r,p,z⟩
 ·refine⟨its.toList,r,⟨o,I.kIn a o hk,hc,n,by simpa using hs⟩,?_⟩
  have e:=r.length;simp only[Zze]at e;omega
theorem Inv.list_inj(I:Inv X pins σ H s)(h:SqL X.K H a xs)(h':SqL X.K H a ys):xs=ys:=by
 obtain⟨its,r,⟨o,n,e,_,_,d⟩,_⟩:=I.list h;obtain⟨its',r',⟨o',n',e',_,_,d'⟩,_⟩:=I.list h';rw[e]at e'; cases e';rw[d]at d';injection d' with d1 _
 have:its=its':=by simpa using congrArg Array.toList d1
 subst this;exact r.inj r'
theorem Inv.tuple_inj(I:Inv X pins σ H s)(h:SqT X.K H a xs)(h':SqT X.K H a ys):xs=ys:=by
 obtain⟨its,r,⟨o,e,_,n,d⟩,_⟩:=I.tuple h;obtain⟨its',r',⟨o',e',_,n',d'⟩,_⟩:=I.tuple h';rw[e]at e'; cases e';rw[d]at d';injection d' with d1 _
 have:its=its':=by simpa using congrArg Array.toList d1
 subst this;exact r.inj r'
end
abbrev Cx.wish(X:Cx)(E:Value->Shared->Prop):Cx:={ X with xe:=E }
abbrev Cx.nox(X:Cx):Cx:=X.wish λ_ _=>False
theorem Cx.Ok.wish{X:Cx}(ok:X.Ok)(E:Value->Shared->Prop):(X.wish E).Ok :=
 ⟨ok.mod,ok.kind,ok.glob,ok.blt,ok.above,ok.inj,ok.has,ok.cab,ok.hd,ok.frames,ok.stk,ok.exf,ok.bs,ok.bsz,ok.noex,ok.exfs,ok.funs,ok.frf⟩
theorem Cx.Ok.unwish{X:Cx}{E:Value->Shared->Prop}(ok:(X.wish E).Ok):X.Ok :=
 ⟨ok.mod,ok.kind,ok.glob,ok.blt,ok.above,ok.inj,ok.has,ok.cab,ok.hd,ok.frames,ok.stk,ok.exf,ok.bs,ok.bsz,ok.noex,ok.exfs,ok.funs,ok.frf⟩
section
variable{X:Cx}{pins:List (Addr × Obj)}{σ:St}{H:Hp}{s:Shared}{E:Value->Shared->Prop}
theorem Inv.wish(I:Inv X pins σ H s)(E:Value->Shared->Prop):Inv (X.wish E) pins σ H s:=⟨I.ok.wish E,I.os,I.bare,I.base,I.loc,I.cell,I.free,I.freeC,I.pin,I.hok,I.len⟩
theorem Inv.unwish(I:Inv (X.wish E) pins σ H s):Inv X pins σ H s:=⟨I.ok.unwish,I.os,I.bare,I.base,I.loc,I.cell,I.free,I.freeC,I.pin,I.hok,I.len⟩
theorem SP.unwish{D:Ends}{f:Flow}{s':Shared}(h:SP (X.wish E) pins D f s'):SP X pins D f s':=by
 cases f with
 | next=>obtain⟨σ',H',I,q⟩:=h; exact⟨σ',H',I.unwish,q⟩
 | brk=>obtain⟨σ',H',I,q⟩:=h; exact⟨σ',H',I.unwish,q⟩
 | cont=>obtain⟨σ',H',I,q⟩:=h; exact⟨σ',H',I.unwish,q⟩
 | ret u=>obtain⟨v,σ',H',I,r,q⟩:=h; exact⟨v,σ',H',I.unwish,r,q⟩
theorem PSs.nox{st:List Stmt}{t:TS}(h:PSs X.nox st t):PSs X st t:=λpins s σ H D I hw=>Zz4 (h pins s σ H D (I.wish _) hw) (λ_ _ q=>q.unwish) λ_ _ z=>ZzZ z
end
section
variable{X:Cx}{st:Stmt}{rest:List Stmt}{t u:TS}{e:Expr}{te:TE}{pos:Pos}
def Zxm:TS:=λD σ H=>D.nx σ H
def Zya(t u:TS):TS:=λD σ H=>t { D with nx:=u D } σ H
theorem ZuF:PSs X [] Zxm:=λ_ _ σ H _ I h=>ZCg ⟨σ,H,I,h⟩
theorem ZhU(h1:PS X st t)(h2:PSs X rest u):PSs X (st::rest) (Zya t u):=by
 intro pins s σ H D I h;refine wpAny_execs_cons (thn (h1 pins s σ H { D with nx:=u D } I h) λf s1 q=>?_);cases f with
 | next=>obtain⟨σ',H',I',q⟩:=q;exact h2 pins s1 σ' H' D I' q
 | ret v=>exact q
 | brk=>exact q
 | cont=>exact q
theorem Zqb(h1:PS X st t):PSs X [st] t:=by
 intro pins s σ H D I h;refine wpAny_execs_cons (thn (h1 pins s σ H D I h) λf s1 q=>?_);cases f with
 | next=>exact ZCg q
 | ret v=>exact q
 | brk=>exact q
 | cont=>exact q
theorem Inv.quiet{pins:List (Addr × Obj)}{σ:St}{H:Hp}{s:Shared}(I:Inv X pins σ H s):interactive X.env=false:=by simp[interactive,I.ok.kind]
def ZxA(te:TE):TS:=λD σ H=>te σ H λ_ H1=>D.nx σ H1
theorem ZjE(he:PE X e te)(hs:ZBq e none pos.line X.env=pure false:=by rfl):PS X (.Expr e pos) (ZxA te):=by intro pins s σ H D I h;exact wpAny_Expr_any (thn (he pins s σ H _ I h) λv s1 ⟨x,H1,I1,r1,q1⟩=>⟨σ,H1,I1,q1⟩) I.quiet hs
def Zyn(te:TE):TS:=λD σ H=>te σ H D.rt
theorem Zoz(he:PE X e te):PS X (.Return (some e) pos) (Zyn te):=by intro pins s σ H D I h;exact wpAny_Return_some (thn (he pins s σ H _ I h) λv s1 ⟨x,H1,I1,r1,q1⟩=>⟨x,σ,H1,I1,r1,q1⟩)
def Zx4(c:TT)(t u:TS):TS:=λD σ H=>c σ H λb H1=>if b=true then t D σ H1 else u D σ H1
theorem Zut{c:Expr}{a b:List Stmt}{tc:TT}(hc:PT X c tc)(ha:PSs X a t)(hb:PSs X b u):PS X (.If c a b pos) (Zx4 tc t u):=by
 intro pins s σ H D I h;refine wpAny_If (thn (hc pins s σ H _ I h) λd s1 ⟨H1,I1,q1⟩=>?_);cases d with
 | true=>exact ha pins s1 σ H1 D I1 q1
 | false=>exact hb pins s1 σ H1 D I1 q1
def ZwV:TS:=λ_ _ _=>False
theorem ZgM{sts:List Stmt}:PSs X sts ZwV:=λ_ _ _ _ _ _ h=>h.elim
end
abbrev TG:=V->St->Hp->(St->Hp->Prop)->Prop
def PG(X:Cx)(target:Expr)(t:TG):Prop :=
 ∀(pins:List (Addr × Obj)) (s:Shared) (σ:St) (H:Hp) (v:V) (u:Value) (Q:St->Hp->Prop),Inv X pins σ H s->RelV v u->t v σ H Q ->
  wpAny (model X.prog X.w) X.A (assign target X.env u) (λ_ s'=>∃σ' H',Inv X pins σ' H' s'/\Q σ' H') X.xe s
abbrev Zuh:=V->V->V->Hp->(Hp->Prop)->Prop
def Zwv(X:Cx)(t:Zuh):Prop :=
 ∀(pins:List (Addr × Obj)) (s:Shared) (σ:St) (H:Hp) (o i v:V) (ov iv u:Value) (Q:Hp->Prop),Inv X pins σ H s->RelV o ov->RelV i iv->RelV v u->t o i v H Q ->
  wpAny (model X.prog X.w) X.A (setItem ov iv u) (λ_ s'=>∃H',Inv X pins σ H' s'/\Q H') X.xe s
section
variable{X:Cx}{pos:Pos}
def Zuq(i:Nat):TG:=λv σ H Q=>Q (σ.set i (some v)) H
theorem Zqw{i:Nat}{x:Str}(hN:X.N.Nodup)(hi:X.N[i]?=some x)(hx:Loc X.env.scope x)(hf:X.fn x=true\/X.env.scope.names.lookup x=some .local:=by first | exact .inl rfl | exact .inr rfl | assumption):PG X (.Name x pos) (Zuq i):=by intro pins s σ H v u Q I r h;exact wpAny_assign_Name (ZoU I hN hi hx r (λs' I'=>⟨_,H,I',h⟩) hf)
def ZlP(to ti:TE)(t:Zuh):TG:=λv σ H Q=>to σ H λo H1=>ti σ H1 λi H2=>t o i v H2 λH3=>Q σ H3
theorem Zwc{o i:Expr}{to ti:TE}{t:Zuh}(ho:PE X o to)(hi:PE X i ti)(hs:Zwv X t)
  (ha:∀v,assign (.Subscript o i pos) X.env v=(do
   let ov <-holding [v] (eval o X.env)
   let iv <-holding [v,ov] (eval i X.env)
   standAt pos
   holding [v,ov,iv] (setItem ov iv v)
   release [v,ov,iv] []):=by intro _; rfl):PG X (.Subscript o i pos) (ZlP to ti t):=by
 intro pins s σ H v u Q I r h;rw[ha];refine ZyI (Zzx (thn (ho pins s σ H _ I h) λov s1 ⟨x,H1,I1,r1,q1⟩=>?_));refine ZyI (Zzx (thn (hi pins s1 σ H1 _ I1 q1) λiv s2 ⟨y,H2,I2,r2,q2⟩=>?_));refine ZyI (wpAny_standAt (ZyI (Zzx (thn (hs pins s2 σ H2 x y v ov iv u _ I2 r1 r2 r q2) λ_ s3 ⟨H3,I3,q3⟩=>?_))));exact wpAny_release ⟨σ,H3,I3,q3⟩
def ZvS(te:TE)(g:TG):TS:=λD σ H=>te σ H λx H1=>g x σ H1 D.nx
theorem ZvP{tg e:Expr}{te:TE}{g:TG}(he:PE X e te)(hg:PG X tg g)(hs:swapsWithSole [tg] e pos.line X.env=pure false:=by rfl)(hw:swappedStores [tg] e X.env=pure none:=by rfl)
  (h1:(assignEach [tg] X.env).map (·.2)=[assign tg X.env]:=by rfl):PS X (.Assign [tg] e pos) (ZvS te g):=by
 intro pins s σ H D I h;refine wpAny_Assign_stores (thn (he pins s σ H _ I h) λv s1 ⟨x,H1,I1,r1,q1⟩=>?_) hs hw;rw[h1];exact thn (hg pins s1 σ H1 x v _ I1 r1 q1) λ_ s2 ⟨σ',H',I',q'⟩=>⟨σ',H',I',q'⟩
theorem ZoR{i:Nat}{x:Str}{e:Expr}{te:TE}{pos':Pos}(hN:X.N.Nodup)(hi:X.N[i]?=some x)(hx:Loc X.env.scope x)(he:PE X e te)(hs:ZBq e (some (.Name x pos')) pos.line X.env=pure false:=by rfl)(hf:X.fn x=true\/X.env.scope.names.lookup x=some .local:=by first | exact .inl rfl | exact .inr rfl | assumption) :
  PS X (.Assign [.Name x pos'] e pos) (ZvS te (Zuq i)):=by
 intro pins s σ H D I h;refine wpAny_Assign_Name (thn (he pins s σ H _ I h) λv s1 ⟨y,H1,I1,r1,q1⟩=>?_) hs;exact ZoU I1 hN hi hx r1 (λs2 I2=>⟨_,H1,I2,q1⟩) hf
end
section
variable{X:Cx}{pos:Pos}
def Zv7(c:TT)(tb:TS):TS:=λD σ H=>∃W:Nat->St->Hp->Prop,(∃m,W m σ H)/\∀m σ H,W m σ H ->
 c σ H λb H1=>if b=true then ∃N:St->Hp->Prop,(∀σ' H',N σ' H'->∃m',m'<m/\W m' σ' H')/\tb { D with nx:=N,ct:=N,bk:=D.nx } σ H1 else D.nx σ H1
theorem Zt8{c:Expr}{body:List Stmt}{tc:TT}{tb:TS}(hp:PassesOwn (model X.prog X.w) X.A X.env X.xe)(hc:PT X c tc)(hb:PSs X body tb):PS X (.While c body [] pos) (Zv7 tc tb):=by
 intro pins s σ H D I h;obtain⟨W,⟨m0,w0⟩,turn⟩:=h;refine wpAny_While (codeAny_whileLoop (λn s'=>∃σ' H',Inv X pins σ' H' s'/\W n σ' H') ?_ m0 ⟨σ,H,I,w0⟩)
 rintro n s1 ⟨σ1,H1,I1,w1⟩
 refine ZAZ hp (thn (hc pins s1 σ1 H1 _ I1 (turn n σ1 H1 w1)) λb s2 ⟨H2,I2,q2⟩=>?_);cases b with
 | true =>
  obtain⟨N,hN,q2⟩:=q2;rw[if_pos rfl];refine ZAZ hp (thn (hb pins s2 σ1 H2 _ I2 q2) λf s3 q3=>?_);cases f with
  | next=>obtain⟨σ3,H3,I3,n3⟩:=q3;obtain⟨m',hm,w3⟩:=hN σ3 H3 n3;exact⟨m',hm,σ3,H3,I3,w3⟩
  | cont=>obtain⟨σ3,H3,I3,n3⟩:=q3;obtain⟨m',hm,w3⟩:=hN σ3 H3 n3;exact⟨m',hm,σ3,H3,I3,w3⟩
  | brk=>exact q3
  | ret v=>exact q3
 | false=>rw[if_neg ZzA];exact ZCg ⟨σ1,H2,I2,q2⟩
end
structure It where
 go:Nat->Hp->Prop
 yld:Nat->Hp->V->Hp->Prop
 stop:Nat->Hp->Prop
def Zgn(X:Cx)(pins:List (Addr × Obj))(H:Hp)(b:Addr):Prop :=
 H b=none/\b≠X.env.locals/\b ∉ X.fs/\(b∈X.ex\/X.s₀.heap.objs.size<=b)/\(∀x c,X.env.cells.lookup x=some c->c≠b)/\∀p∈X.pn++pins,p.1≠b
theorem Inv.fpOk{X:Cx}{pins:List (Addr × Obj)}{σ:St}{H H':Hp}{s:Shared}{b:Addr}(I:Inv X pins σ H s)(hb:s.heap.objs.size<=b)(hn:H' b=none):Zgn X pins H' b:=by
 refine⟨hn,ZBS (Zzh I.lt hb),I.nofs hb,.inr (ZzH I.sz hb),λx c e z=>?_,λp hp z=>?_⟩
 ·obtain⟨v,q⟩:=I.cell x c e
  exact absurd (Zzh q.lt (by rw[z]; exact hb)) (ZAD _)
 ·exact absurd (Zzh (Zy1 (I.pin p hp).1) (by rw[z]; exact hb)) (ZAD _)
structure Turn(P:Program)(w:World)(K:ZyK)(tg:Expr)(J:It)(fp:List Addr)(it:Addr)(tn:Nat->Heap->Prop):Prop where
 mem:it∈fp
 obj:∀i h,tn i h->∀b∈fp,∃o,h.get? b=some o/\∀v,o.data≠.cell v
 keep:∀i h h',tn i h->(∀b∈fp,∀o,h.get? b=some o->h'.get? b=some o)->tn i h'
 item:∀(X:Cx),X.prog=P->X.w=w->X.K=K->X.calm=true->∀(i:Nat) (pins:List (Addr × Obj)) (s:Shared) (σ:St) (H:Hp) (E:Value->Shared->Prop),Inv X pins σ H s->(∀b∈fp,Zgn X pins H b)->tn i s.heap->J.go i H ->
  wpAny (model P w) X.A (pyNext (.ref it)) (λr s1=>∃u,r=some u /\
   wpAny (model P w) X.A (ZCh tg (.ref it) u) (λ_ s2=>∃x H',Inv X pins σ H' s2/\RelV x u/\J.yld i H x H'/\tn (i+1) s2.heap/\∀b∈fp,H' b=none) E s1) E s
 done:∀(X:Cx),X.prog=P->X.w=w->X.K=K->X.calm=true->∀(i:Nat) (pins:List (Addr × Obj)) (s:Shared) (σ:St) (H:Hp) (E:Value->Shared->Prop),Inv X pins σ H s->(∀b∈fp,Zgn X pins H b)->tn i s.heap->J.stop i H ->
  wpAny (model P w) X.A (pyNext (.ref it)) (λr s1=>r=none/\Inv X pins σ H s1) E s
 self:∀(A:Around) (i:Nat) (s:Shared) (Q:Value->Shared->Prop) (E:Value->Shared->Prop),tn i s.heap->Q (.ref it) s->wpAny (model P w) A (pyIter (.ref it)) Q E s
abbrev TI:=St->Hp->(It->Hp->Prop)->Prop
def PIE(X:Cx)(pins:List (Addr × Obj))(σ:St)(tg:Expr)(R:It->Hp->Prop)(itv:Value)(s2:Shared):Prop :=
 ∃(it:Addr) (fp:List Addr) (tn:Nat->Heap->Prop) (J:It) (H':Hp),itv=.ref it/\Inv X pins σ H' s2/\Turn X.prog X.w X.K tg J fp it tn/\tn 0 s2.heap/\(∀b∈fp,Zgn X pins H' b)/\R J H'
def PI(X:Cx)(tg iter:Expr)(wi:TI):Prop :=
 ∀(pins:List (Addr × Obj)) (s:Shared) (σ:St) (H:Hp) (R:It->Hp->Prop),Inv X pins σ H s->wi σ H R ->
  wpAny (model X.prog X.w) X.A (eval iter X.env) (λv s1=>wpAny (model X.prog X.w) X.A (pyIter v) (PIE X pins σ tg R) X.xe s1) X.xe s
theorem Znb{M:Model}{A:Around}{E:Value->Shared->Prop}{s:Shared}{tg:Expr}{it:Addr}{u:Value}{o:Obj}{n:String}{vs:Array Value}{Q:Unit->Shared->Prop}(ho:s.heap.get? it=some o)(hc:o.cls=.type n)(hd:o.data=.fields vs)
    (hn:["enumerate","zip","dict_itemiterator","dict_reverseitemiterator","odict_iterator","itertools.zip_longest","itertools.pairwise"].contains n=false) (hQ:Q () s):wpAny M A (ZCh tg (.ref it) u) Q E s:=by
  unfold ZCh
  cases tg<;>first
    | exact ZyM hQ
    | (cases u<;>first
        | exact ZyM hQ
        | (refine ZyI (wpAny_load ho ?_)
           rw [hc, hd]
           show wpAny M A (if (["enumerate", "zip", "dict_itemiterator", "dict_reverseitemiterator", "odict_iterator", "itertools.zip_longest", "itertools.pairwise"].contains n && vs[0]? == some (rawInt _)) = true then _ else _) Q E s
           rw [if_neg (by intro h; rw [hn, Bool.false_and] at h; cases h)]
           exact ZyM hQ))
def Itl(K:ZyK)(a:Addr):It :=
 ⟨λi H=>∃xs x,SqL K H a xs/\xs[i]?=some x,λi H x H'=>H'=H/\∀xs,SqL K H a xs->xs[i]?=some x,λi H=>∃xs,SqL K H a xs/\xs.length<=i⟩
def Itt(K:ZyK)(a:Addr):It :=
 ⟨λi H=>∃xs x,SqT K H a xs/\xs[i]?=some x,λi H x H'=>H'=H/\∀xs,SqT K H a xs->xs[i]?=some x,λi H=>∃xs,SqT K H a xs/\xs.length<=i⟩
def Itr(lo:Int)(n:Nat):It:=⟨λi _=>i<n,λi H x H'=>H'=H/\x=.int (lo+i),λi _=>n<=i⟩
theorem ZsL{P:Program}{w:World}{K:ZyK}{tg:Expr}(a it:Addr):Turn P w K tg (Itl K a) [it] it (λi h=>h.IsListIter it a i) where
 mem:=by simp
 obj:=λi h st b hb=>by
  have e:b=it:=by simpa using hb
  subst e;obtain⟨o,e,c,d⟩:=st;exact⟨o,e,λv z=>by rw[d]at z; cases z⟩
 keep:=λi h h' st k=>st.at λo e=>k it (by simp) o e
 item:=by intro X hP hw hK hc i pins s σ H E I hf st hg;subst hP hw hK;obtain⟨xs,x,hq,hx⟩:=hg;obtain⟨its,rv,p,hz⟩:=I.list hq;obtain⟨u,hu,ru⟩:=rv.get hx;obtain⟨f0,f1,f2,f3,f4,f5⟩:=hf it (by simp);refine wpAny_pyNext_list_item st p.isList (x:=u) (by simpa using hu) λh' st' sb=>?_;have I1:Inv X pins σ H { s with heap:=h' }:=I.turned (t':=s.toks) (λb o hb e=>(sb.2 b hb).trans e) f0 f1 f3 f4 f5;obtain⟨o,e,c,d⟩:=id st';exact⟨u,rfl,Znb (s:={ s with heap:=h' }) e c d (by decide) ⟨x,H,I1,ru,⟨rfl,λys hy=>by rw[I.list_inj hy hq]; exact hx⟩,st',λb hb=>(hf b hb).1⟩⟩
 done:=by intro X hP hw hK hc i pins s σ H E I hf st hg;subst hP hw hK;obtain⟨xs,hq,hx⟩:=hg;obtain⟨its,rv,p,hz⟩:=I.list hq;obtain⟨f0,f1,f2,f3,f4,f5⟩:=hf it (by simp);have hl:=rv.length;exact wpAny_pyNext_list_end (I.ok.hd hc) st p.isList (by simp; omega) λh' eb=>⟨rfl,I.turned (t':=s.toks) (λb o hb e=>eb b o hb e) f0 f1 f3 f4 f5⟩
 self:=λ_ _ _ _ _ st h=>wpAny_pyIter_listiter st h
theorem Zq0{P:Program}{w:World}{K:ZyK}{tg:Expr}(a it:Addr):Turn P w K tg (Itt K a) [it] it (λi h=>h.IsTupleIter it a i) where
 mem:=by simp
 obj:=λi h st b hb=>by
  have e:b=it:=by simpa using hb
  subst e;obtain⟨o,e,c,d⟩:=st;exact⟨o,e,λv z=>by rw[d]at z; cases z⟩
 keep:=λi h h' st k=>st.at λo e=>k it (by simp) o e
 item:=by intro X hP hw hK hc i pins s σ H E I hf st hg;subst hP hw hK;obtain⟨xs,x,hq,hx⟩:=hg;obtain⟨its,rv,p,hz⟩:=I.tuple hq;obtain⟨u,hu,ru⟩:=rv.get hx;obtain⟨f0,f1,f2,f3,f4,f5⟩:=hf it (by simp);refine wpAny_pyNext_tuple_item st (show s.heap.IsTuple a its.toArray from p) (x:=u) (by simpa using hu) λh' st' sb=>?_;have I1:Inv X pins σ H { s with heap:=h' }:=I.turned (t':=s.toks) (λb o hb e=>(sb.2 b hb).trans e) f0 f1 f3 f4 f5;obtain⟨o,e,c,d⟩:=id st';exact⟨u,rfl,Znb (s:={ s with heap:=h' }) e c d (by decide) ⟨x,H,I1,ru,⟨rfl,λys hy=>by rw[I.tuple_inj hy hq]; exact hx⟩,st',λb hb=>(hf b hb).1⟩⟩
 done:=by intro X hP hw hK hc i pins s σ H E I hf st hg;subst hP hw hK;obtain⟨xs,hq,hx⟩:=hg;obtain⟨its,rv,p,hz⟩:=I.tuple hq;obtain⟨f0,f1,f2,f3,f4,f5⟩:=hf it (by simp);have hl:=rv.length;exact wpAny_pyNext_tuple_end (I.ok.hd hc) st (show s.heap.IsTuple a its.toArray from p) (by simp; omega) λh' eb=>⟨rfl,I.turned (t':=s.toks) (λb o hb e=>eb b o hb e) f0 f1 f3 f4 f5⟩
 self:=λ_ _ _ _ _ st h=>wpAny_pyIter_tupleiter st h
theorem ZqX{P:Program}{w:World}{K:ZyK}{tg:Expr}(it:Addr)(lo:Int)(n:Nat):Turn P w K tg (Itr lo n) [it] it (λi h=>IsRangeIter h it (lo+(i:Nat)*1) ((n:Int)-(i:Nat)) 1) where
 mem:=by simp
 obj:=λi h st b hb=>by
  have e:b=it:=by simpa using hb
  subst e;exact⟨_,st,λv z=>by have z':Data.fields _=Data.cell v:=z;cases z'⟩
 keep:=λi h h' st k=>k it (by simp) _ st
 item:=by intro X hP hw hK hc i pins s σ H E I hf st hg;subst hP hw hK;obtain⟨f0,f1,f2,f3,f4,f5⟩:=hf it (by simp);have W:=Walks.range (prog:=X.prog) (w:=X.w) (I.ok.hd hc) it lo 1 n;refine W.item i s _ _ hg st λv h' tk hv st' kk=>?_;obtain⟨t,rfl⟩:=hv;have I1:Inv X pins σ H { s with heap:=h',toks:=tk }:=I.turned (λb o hb e=>kk b o (by simpa using hb) e) f0 f1 f3 f4 f5;refine⟨_,rfl,Znb (s:={ s with heap:=h',toks:=tk }) (n:="range_iterator") st' rfl rfl (by decide) ⟨.int (lo+i),H,I1,⟨t,?_⟩,⟨rfl,rfl⟩,st',λb hb=>(hf b hb).1⟩⟩;rw[Int.mul_one]
 done:=by intro X hP hw hK hc i pins s σ H E I hf st hg;subst hP hw hK;obtain⟨f0,f1,f2,f3,f4,f5⟩:=hf it (by simp);exact wpAny_pyNext_range_end (I.ok.hd hc) st (by have:n<=i:=hg; omega) λh' eb=>⟨rfl,I.turned (t':=s.toks) (λb o hb e=>eb b o hb e) f0 f1 f3 f4 f5⟩
 self:=λ_ _ _ _ _ st h=>wpAny_pyIter_rangeiter st h
end L2
namespace L2
open PySem PySem.Spec PyProof.Rows
section
variable{X:Cx}{tg:Expr}
theorem ZtA{pins:List (Addr × Obj)}{σ:St}{H:Hp}{s:Shared}{R:It->Hp->Prop}{E:Value->Shared->Prop}{lo hi:Int}{t u v:Tok}{tk:Nat}(I:Inv X pins σ H s)(h1:-(2 ^ 62)<=lo)(h2:lo<2 ^ 62)(h3:-(2 ^ 62)<=hi)(h4:hi<2 ^ 62)
  (q:R (Itr lo (hi-lo).toNat) H):wpAny (model X.prog X.w) X.A (pyIter (.ref s.heap.objs.size)) (PIE X pins σ tg R) E { s with heap:=s.heap.push { cls:=.type "range",data:=.fields #[.int lo t,.int hi u,.int 1 v] },toks:=tk }:=by
 refine wpAny_pyIter_range (IsRange.new ..) (small_one h1 h2 h3 h4) ?_;have I1:Inv X pins σ H { s with heap:=s.heap.push { cls:=.type "range",data:=.fields #[.int lo t,.int hi u,.int 1 v] },toks:=tk }:=I.kept λb o e=>ZyN _ e;refine⟨(s.heap.push { cls:=.type "range",data:=.fields #[.int lo t,.int hi u,.int 1 v] }).objs.size,[(s.heap.push { cls:=.type "range",data:=.fields #[.int lo t,.int hi u,.int 1 v] }).objs.size],_,_,H,rfl,
  I1.kept (t':=tk) λb o e=>ZyN _ e,ZqX _ lo (hi-lo).toNat,?_,λb hb=>?_,q⟩
 ·have e1:lo+((0:Nat):Int)*1=lo:=by simp
  have e2:(((hi-lo).toNat:Nat):Int)-((0:Nat):Int)=ZBj lo hi 1:=by rw[rangeSize_one]; split<;>omega
  show IsRangeIter _ _ (lo+((0:Nat):Int)*1) ((((hi-lo).toNat:Nat):Int)-((0:Nat):Int)) 1;rw[e1,e2];exact Zy4 _ rfl
 ·have e:b=(s.heap.push { cls:=.type "range",data:=.fields #[.int lo t,.int hi u,.int 1 v] }).objs.size:=by simpa using hb
  subst e;exact I1.fpOk (ZyT _) (I1.hok.fresh (ZyT _))
def ZbM(ta:TA):TI:=λσ H R=>ta σ H λvs H1=>∃j:Int,vs=[.int j]/\-(2 ^ 62)<=j/\j<2 ^ 62/\R (Itr 0 j.toNat) H1
theorem Zss{a:Expr}{ta:TA}{p pos:Pos}(hg:Gl X "range")(hm:X.mg "range" = none)(ha:PA X [a] ta)(hs:Zy0 [a] X.env=[(false,eval a X.env)]:=by rfl):PI X tg (.Call (.Name "range" p) [a] [] pos) (ZbM ta):=by
 intro pins s σ H R I h;refine Call_ (Zjc I hg hm boot_range (ZCD (thn (ha pos pins s σ H _ I h) λus s1 ⟨vs,H1,I1,r1,q1⟩=>?_) hs rfl));obtain⟨j,e,q1,q2,q⟩:=q1;subst e;cases r1 with
 | cons r rr=>cases rr;obtain⟨t,rfl⟩:=r;exact call_range_1 (ZtA I1 (by omega) (by omega) q1 q2 (by simpa using q))
def Zyg(wi:TI)(g:TG)(tb:TS):TS:=λD σ H=>wi σ H λJ H1=>∃W:Nat->Nat->St->Hp->Prop,(∃m,W 0 m σ H1)/\∀i m σ H,W i m σ H ->
 (J.stop i H/\D.nx σ H)\/(J.go i H/\∃N:St->Hp->Prop,(∀σ' H',N σ' H'->∃m',m'<m/\W (i+1) m' σ' H')/\∀x H',J.yld i H x H'->g x σ H' λσ2 H2=>tb { D with nx:=N,ct:=N,bk:=D.nx } σ2 H2)
def Zja(fp:List Addr)(h:Heap):List (Addr × Obj):=fp.filterMap λb=>(h.get? b).map λo=>(b,o)
theorem ZfO{fp:List Addr}{h:Heap}{b:Addr}{o:Obj}(hb:b∈fp)(e:h.get? b=some o):(b,o)∈Zja fp h:=Zzm.mpr ⟨b,hb,by rw[e]; rfl⟩
theorem Zr8{fp:List Addr}{h:Heap}{p:Addr × Obj}(hp:p∈Zja fp h):p.1∈fp/\h.get? p.1=some p.2:=by
 obtain⟨b,hb,e⟩:=Zzm.mp hp;cases q:h.get? b with
 | none=>rw[q]at e; cases e
 | some o=>rw[q]at e;have e':(b,o)=p:=ZzU e;subst e';exact⟨hb,q⟩
theorem Inv.pinned{pins:List (Addr × Obj)}{σ:St}{H:Hp}{s:Shared}{fp:List Addr}(I:Inv X pins σ H s)(hf:∀b∈fp,Zgn X pins H b)(ho:∀b∈fp,∃o,s.heap.get? b=some o/\∀v,o.data≠.cell v):Inv X (pins++Zja fp s.heap) σ H s :=
 I.pins_of λp hp=>(Zzp.mp hp).elim (λz=>I.pin p (Zzk _ z)) λz=>by obtain⟨hb,e⟩:=Zr8 z;obtain⟨f0,f1,f2,_⟩:=hf p.1 hb;obtain⟨o,e',d⟩:=ho p.1 hb;rw[e]at e'; cases e';exact⟨e,f0,f1,f2,d⟩
theorem Inv.unpinned{pins pl:List (Addr × Obj)}{σ:St}{H:Hp}{s:Shared}(I:Inv X (pins++pl) σ H s):Inv X pins σ H s:=I.pins_of λp hp=>I.pin p (Zzk _ (ZzY _ hp))
theorem ZwR{iter:Expr}{body:List Stmt}{wi:TI}{g:TG}{tb:TS}{pos:Pos}(hp:PassesOwn (model X.prog X.w) X.A X.env X.xe)(hc:X.calm=true)(hi:PI X tg iter wi)(hg:PG X tg g)(hb:PSs X body tb)
  (hs:∀x,ZA6 iter X.env x=pure x:=by intro _; rfl):PS X (.For tg iter body [] pos) (Zyg wi g tb):=by
 intro pins s σ H D I h;refine wpAny_For (thn (hi pins s σ H _ I h) λv s1 h1=>thn h1 λitv s2 h2=>?_) hs;obtain⟨it,fp,tn,J,H2,e,I2,T,st2,f2,W,⟨m0,w0⟩,turn⟩:=h2;subst e;have stat:∀{H':Hp},(∀b∈fp,H' b=none)->∀b∈fp,Zgn X pins H' b:=λhn b hb=>⟨hn b hb,(f2 b hb).2⟩;refine codeAny_forLoop_any (λn s'=>∃i σ' H',Inv X pins σ' H' s'/\tn i s'.heap/\(∀b∈fp,H' b=none)/\W i n σ' H') ?_ m0 ⟨0,σ,H2,I2,st2,λb hb=>(f2 b hb).1,w0⟩
 rintro n s3 ⟨i,σ3,H3,I3,st3,fr3,w3⟩
 rcases turn i n σ3 H3 w3 with⟨stop,qn⟩ | ⟨go,N,hN,step⟩
 ·refine ZAZ hp (thn (T.done X rfl rfl rfl hc i pins s3 σ3 H3 X.xe I3 (stat fr3) st3 stop) λr s4 ⟨hr,I4⟩=>?_)
  subst hr;exact ZCg ⟨σ3,H3,I4,qn⟩
 ·refine ZAZ hp (thn (T.item X rfl rfl rfl hc i pins s3 σ3 H3 X.xe I3 (stat fr3) st3 go) λr s4 ⟨u,hr,h4⟩=>?_)
  subst hr;refine ZAZ hp (thn h4 λ_ s5 ⟨x,H5,I5,r5,y5,st5,fr5⟩=>?_);have I5':=I5.pinned (stat fr5) (T.obj _ _ st5);refine ZAZ hp (thn (hg _ s5 σ3 H5 x u _ I5' r5 (step x H5 y5)) λ_ s6 ⟨σ6,H6,I6,q6⟩=>?_);refine ZAZ hp (thn (hb _ s6 σ6 H6 _ I6 q6) λf s7 q7=>?_);have again:∀{σ7:St} {H7:Hp},Inv X (pins++Zja fp s5.heap) σ7 H7 s7->N σ7 H7->∃m,m<n/\∃i σ' H',Inv X pins σ' H' s7/\tn i s7.heap/\(∀b∈fp,H' b=none)/\W i m σ' H':=λ{σ7 H7} I7 n7=>by obtain⟨m',hm,w7⟩:=hN σ7 H7 n7;refine⟨m',hm,i+1,σ7,H7,I7.unpinned,T.keep _ _ _ st5 λb hb o e=>(I7.pin (b,o) (Zzk _ (Zzk _ (ZfO hb e)))).1,λb hb=>?_,w7⟩;obtain⟨o,e,d⟩:=T.obj _ _ st5 b hb;exact(I7.pin (b,o) (Zzk _ (Zzk _ (ZfO hb e)))).2.1
  cases f with
  | next=>obtain⟨σ7,H7,I7,n7⟩:=q7; exact again I7 n7
  | cont=>obtain⟨σ7,H7,I7,n7⟩:=q7; exact again I7 n7
  | brk=>obtain⟨σ7,H7,I7,q7⟩:=q7; exact⟨σ7,H7,I7.unpinned,q7⟩
  | ret v=>obtain⟨x7,σ7,H7,I7,r7,q7⟩:=q7; exact⟨x7,σ7,H7,I7.unpinned,r7,q7⟩
end
end L2
namespace L2
open PySem PySem.Spec PyProof.Rows
abbrev R2:=V->V->Hp->VK->Prop
def OpR(X:Cx)(f:Value->Value->Sem Value)(r:R2):Prop :=
 ∀(pins:List (Addr × Obj)) (s:Shared) (σ:St) (H:Hp) (x y:V) (v u:Value) (Q:VK),Inv X pins σ H s->RelV x v->RelV y u->r x y H Q ->
  wpAny (model X.prog X.w) X.A (f v u) (EP X pins σ Q) X.xe s
def ZaM(X:Cx)(f:Value)(r:List V->Hp->VK->Prop):Prop :=
 ∀(pins:List (Addr × Obj)) (s:Shared) (σ:St) (H:Hp) (xs:List V) (us:List Value) (Q:VK),Inv X pins σ H s->Vals xs us->r xs H Q ->
  wpAny (model X.prog X.w) X.A (call f us) (EP X pins σ Q) X.xe s
def tOp(r:R2)(ta tb:TE):TE:=λσ H Q=>ta σ H λx H1=>tb σ H1 λy H2=>r x y H2 Q
def rI(C:Int->Int->Prop)(g:Int->Int->V):R2:=λx y H Q=>∃i j,x=.int i/\y=.int j/\C i j/\Q (g i j) H
def rI0(g:Int->Int->V):R2:=λx y H Q=>∃i j,x=.int i/\y=.int j/\Q (g i j) H
section
variable{X:Cx}{a b c:Expr}{ta tb tc:TE}{pos:Pos}
theorem Zti(ha:PE X a ta)(hb:PE X b tb){pins:List (Addr × Obj)}{s:Shared}{σ:St}{H:Hp}{R:V->V->Hp->Prop}(I:Inv X pins σ H s)
  (h:ta σ H λx H1=>tb σ H1 λy H2=>R x y H2) {Q:Value->Shared->Prop} {f:Value->Value->Sem Value}
  (hf:∀v u s2 x y H2,Inv X pins σ H2 s2->RelV x v->RelV y u->R x y H2->wpAny (model X.prog X.w) X.A (f v u) Q X.xe s2) :
  wpAny (model X.prog X.w) X.A (eval a X.env) (λv s₁=>wpAny (model X.prog X.w) X.A (eval b X.env) (λu s₂=>wpAny (model X.prog X.w) X.A (f v u) Q X.xe s₂) X.xe s₁) X.xe s:=by
 refine thn (ha pins s σ H _ I h) λv s1 ⟨x,H1,I1,r1,q1⟩=>?_;refine thn (hb pins s1 σ H1 _ I1 q1) λu s2 ⟨y,H2,I2,r2,q2⟩=>?_;exact hf v u s2 x y H2 I2 r1 r2 q2
theorem Znh{op:Operator}{r:R2}(ho:OpR X (ZBG op) r)(ha:PE X a ta)(hb:PE X b tb):PE X (.BinOp a op b pos) (tOp r ta tb):=by intro pins s σ H Q I h;exact wpAny_BinOp (Zti ha hb I h λv u s2 x y H2 I2 rx ry q=>ho pins s2 σ H2 x y v u Q I2 rx ry q)
theorem opI{f:Value->Value->Sem Value}{C:Int->Int->Prop}{g:Int->Int->Int}
  (rule:∀(i j:Int) (t u:Tok) (s:Shared) (Q:Value->Shared->Prop) (E:Value->Shared->Prop),C i j->Q (.int (g i j) s.toks) { s with toks:=s.toks+1 }->wpAny (model X.prog X.w) X.A (f (.int i t) (.int j u)) Q E s) :
  OpR X f (rI C λi j=>.int (g i j)):=by
 intro pins s σ H x y v u Q I rx ry h;obtain⟨i,j,rfl,rfl,hc,q⟩:=h;obtain⟨t,rfl⟩:=rx;obtain⟨t',rfl⟩:=ry;exact rule i j t t' s _ _ hc ⟨.int (g i j),H,I.tok _,⟨_,rfl⟩,q⟩
theorem Zwu{f:Value->Value->Sem Value}{g:Int->Int->Int}
  (rule:∀(i j:Int) (t u:Tok) (s:Shared) (Q:Value->Shared->Prop) (E:Value->Shared->Prop),Q (.int (g i j) s.toks) { s with toks:=s.toks+1 }->wpAny (model X.prog X.w) X.A (f (.int i t) (.int j u)) Q E s) :
  OpR X f (rI0 λi j=>.int (g i j)):=by
 intro pins s σ H x y v u Q I rx ry h;obtain⟨i,j,rfl,rfl,q⟩:=h;obtain⟨t,rfl⟩:=rx;obtain⟨t',rfl⟩:=ry;exact rule i j t t' s _ _ ⟨.int (g i j),H,I.tok _,⟨_,rfl⟩,q⟩
theorem Zuk{f:Value->Value->Sem Value}{g:Int->Int->Bool}
  (rule:∀(i j:Int) (t u:Tok) (s:Shared) (Q:Value->Shared->Prop) (E:Value->Shared->Prop),Q (.bool (g i j)) s->wpAny (model X.prog X.w) X.A (f (.int i t) (.int j u)) Q E s) :
  OpR X f (rI0 λi j=>.bl (g i j)):=by
 intro pins s σ H x y v u Q I rx ry h;obtain⟨i,j,rfl,rfl,q⟩:=h;obtain⟨t,rfl⟩:=rx;obtain⟨t',rfl⟩:=ry;exact rule i j t t' s _ _ ⟨.bl (g i j),H,I,rfl,q⟩
def Zrr(i j:Int):Prop:=(-(2 ^ 64)<i/\i<2 ^ 64)\/(-(2 ^ 64)<j/\j<2 ^ 64)
theorem Zrr.ok{i j:Int}(h:Zrr i j):IntMulOk i j:=by
 rcases h with⟨h1,h2⟩ | ⟨h1,h2⟩
 ·exact .of_left (intBits_le_64 h1 h2)
 ·exact .of_right (intBits_le_64 h1 h2)
theorem Zwa:OpR X (ZBG .Add) (rI0 λi j=>.int (i+j)):=Zwu λ_ _ _ _ _ _ _ q=>add_int q
theorem Zv1:OpR X (ZBG .Sub) (rI0 λi j=>.int (i-j)):=Zwu λ_ _ _ _ _ _ _ q=>sub_int q
theorem Zv8:OpR X (ZBG .Mult) (rI Zrr λi j=>.int (i*j)):=opI λ_ _ _ _ _ _ _ hc q=>mul_int q hc.ok
theorem Zwj:OpR X (ZBG .Mod) (rI (λ_ j=>0<j) λi j=>.int (i % j)):=opI λi j _ _ _ _ _ hc q=>by have h1:(0:Int)<j:=hc;exact mod_int' (by omega) (by rw[Int.fmod_eq_emod_of_nonneg i (by omega)]; exact q)
end
section
variable{X:Cx}{a b c:Expr}{ta tb tc:TE}{pos:Pos}
theorem Zs0{pins:List (Addr × Obj)}{σ:St}{H:Hp}{s:Shared}{Q:VK}{k k':Bool}(I:Inv X pins σ H s)(q:Q (.bl k) H)(e:k=k'):EP X pins σ Q (.bool k') s:=by subst e;exact⟨.bl k,H,I,rfl,q⟩
theorem Zxp:OpR X (ZAk .Lt) (rI0 λi j=>.bl (decide (i<j))):=Zuk λ_ _ _ _ _ _ _ q=>lt_int q
theorem Zxi:OpR X (ZAk .LtE) (rI0 λi j=>.bl (decide (i<=j))):=Zuk λ_ _ _ _ _ _ _ q=>le_int q
theorem Zxr:OpR X (ZAk .Gt) (rI0 λi j=>.bl (decide (j<i))):=Zuk λ_ _ _ _ _ _ _ q=>gt_int q
theorem Zwd:OpR X (ZAk .Is) (λx y H Q=>y=.non/\Q (.bl (decide (x=.non))) H):=by
 intro pins s σ H x y v u Q I rx ry h;obtain⟨rfl,q⟩:=h;cases ry;refine is_none_gen (Zs0 I q ?_);cases x<;>first
  | (cases rx; rfl)
  | (obtain⟨t,rfl⟩:=rx; rfl)
theorem Zvj:OpR X (ZAk .IsNot) (λx y H Q=>y=.non/\Q (.bl (!decide (x=.non))) H):=by
 intro pins s σ H x y v u Q I rx ry h;obtain⟨rfl,q⟩:=h;cases ry;refine isnot_none_gen (Zs0 I q ?_);cases x<;>first
  | (cases rx; rfl)
  | (obtain⟨t,rfl⟩:=rx; rfl)
theorem Zp8{op:CmpOp}{r:R2}(ho:OpR X (ZAk op) r)(ha:PE X a ta)(hb:PE X b tb)(hm:ZAw op b=false):PE X (.Compare a [op] [b] pos) (tOp r ta tb):=by intro pins s σ H Q I h;exact wpAny_Compare1 (Zti ha hb I h λv u s2 x y H2 I2 rx ry q=>ho pins s2 σ H2 x y v u Q I2 rx ry q) hm
def Zxw(t:TE):TT:=λσ H Q=>t σ H λx H'=>∃k,x=.bl k/\Q k H'
theorem ZuC{op:CmpOp}{r:R2}(ho:OpR X (ZAk op) r)(ha:PE X a ta)(hb:PE X b tb)(hm:ZAw op b=false):PT X (.Compare a [op] [b] pos) (Zxw (tOp r ta tb)):=by intro pins s σ H Q I h;refine wpAny_isTrue_Compare1 (thn (ha pins s σ H _ I h) λv s1 ⟨x,H1,I1,r1,q1⟩=>thn (hb pins s1 σ H1 _ I1 q1) λu s2 ⟨y,H2,I2,r2,q2⟩=>thn (ho pins s2 σ H2 x y v u _ I2 r1 r2 q2) λc s3 ⟨z,H3,I3,r3,k,e,q3⟩=>?_) hm;subst e;cases r3;exact ZAy ⟨H3,I3,q3⟩
def Zw3(r r':R2)(ta tb tc:TE):TE:=λσ H Q=>ta σ H λx H1=>tb σ H1 λy H2=>r x y H2 λz H3=>∃k,z=.bl k /\
 (if k=true then tc σ H3 λw' H4=>r' y w' H4 Q else Q (.bl false) H3)
theorem Zou{op op':CmpOp}{r r':R2}(ho:OpR X (ZAk op) r)(ho':OpR X (ZAk op') r')(ha:PE X a ta)(hb:PE X b tb)(hc:PE X c tc)
  (hm:lastMarks [op,op'] [b,c]=false:=by with_unfolding_all rfl):PE X (.Compare a [op,op'] [b,c] pos) (Zw3 r r' ta tb tc):=by
 intro pins s σ H Q I h;refine Compare_chain (thn (ha pins s σ H _ I h) λv s1 ⟨x,H1,I1,r1,q1⟩=>chain_link (thn (hb pins s1 σ H1 _ I1 q1) λu s2 ⟨y,H2,I2,r2,q2⟩=>thn (ho pins s2 σ H2 x y v u _ I2 r1 r2 q2) λd s3 ⟨z,H3,I3,r3,k,e,q3⟩=>?_)) hm;subst e;cases r3;refine ZAy ?_;cases k with
 | false=>exact ite_ff ⟨.bl false,H3,I3,rfl,q3⟩
 | true=>exact ite_tt (chain_last (thn (hc pins s3 σ H3 _ I3 q3) λw' s4 ⟨z',H4,I4,r4,q4⟩=>ho' pins s4 σ H4 y z' u w' Q I4 r2 r4 q4))
theorem Zi4:(sizeLine:Nat)<2 ^ 63:=by rw[ZzM]; decide
theorem vals1{x:V}{us:List Value}(r:Vals [x] us):∃u,us=[u]/\RelV x u:=by
 cases r with
 | cons r1 r2=>cases r2; exact⟨_,rfl,r1⟩
theorem vals2{x y:V}{us:List Value}(r:Vals [x,y] us):∃u w',us=[u,w']/\RelV x u/\RelV y w':=by
 cases r with
 | cons r1 r2 =>
  cases r2 with
  | cons r3 r4=>cases r4; exact⟨_,_,rfl,r1,r3⟩
theorem Zs5(hc:X.calm=true):ZaM X (.builtin "max") (λxs H Q=>∃i j,xs=[.int i,.int j]/\Q (.int (if j > i then j else i)) H):=by
 intro pins s σ H xs us Q I r h;obtain⟨i,j,rfl,q⟩:=h;obtain⟨u,w',rfl,⟨t,rfl⟩,⟨t',rfl⟩⟩:=vals2 r;refine max_two_ints (I.ok.hd hc) λh' tk k=>⟨_,H,I.kept k,?_,q⟩
 by_cases hj:j > i
 ·rw[if_pos hj,if_pos hj]; exact⟨_,rfl⟩
 ·rw[if_neg hj,if_neg hj]; exact⟨_,rfl⟩
theorem ZsS(hc:X.calm=true):ZaM X (.builtin "min") (λxs H Q=>∃i j,xs=[.int i,.int j]/\Q (.int (if j<i then j else i)) H):=by
 intro pins s σ H xs us Q I r h;obtain⟨i,j,rfl,q⟩:=h;obtain⟨u,w',rfl,⟨t,rfl⟩,⟨t',rfl⟩⟩:=vals2 r;refine min_two_ints (I.ok.hd hc) λh' tk k=>⟨_,H,I.kept k,?_,q⟩
 by_cases hj:j<i
 ·rw[if_pos hj,if_pos hj]; exact⟨_,rfl⟩
 ·rw[if_neg hj,if_neg hj]; exact⟨_,rfl⟩
theorem Zmu:ZaM X (.type "int") (λxs H Q=>(∃i,xs=[.int i]/\Q (.int i) H)\/∃k,xs=[.bl k]/\Q (.int (if k then 1 else 0)) H):=by
 intro pins s σ H xs us Q I r h;rcases h with⟨i,rfl,q⟩ | ⟨k,rfl,q⟩
 ·obtain⟨u,rfl,t,rfl⟩:=vals1 r
  exact call_int_int ⟨.int i,H,I,⟨_,rfl⟩,q⟩
 ·obtain⟨u,rfl,r1⟩:=vals1 r
  cases r1;exact call_int_bool ⟨.int (if k then 1 else 0),H,I.tok _,⟨_,rfl⟩,q⟩
end
end L2
namespace L2
open PySem PySem.Spec PyProof.Rows
theorem Zhh.some_of{v:V}{o:Option Value}(r:Zhh (some v) o):∃u,o=some u/\RelV v u:=by
 cases o with
 | none=>exact(show False from r).elim
 | some u=>exact⟨u,rfl,r⟩
end L2
namespace L2
open PySem PySem.Spec PyProof.Rows
structure ZaE(k:Nat)(A:Around):Prop where
 hd:A.handled=none
 dp:A.depth+3*k+5<recursionLimit
 un:A.units+16*k+200<cLine
theorem ZaE.mono{j k:Nat}{A:Around}(r:ZaE k A)(h:j<=k):ZaE j A:=⟨r.hd,by have:=r.dp; omega,by have:=r.un; omega⟩
theorem ZaE.deeper{k:Nat}{A:Around}(r:ZaE (k+1) A)(env:Env):ZaE k (A.deeper env) :=
 ⟨r.hd,by have:=r.dp; show A.depth+1+3*k+5<_; omega,by have:=r.un; show A.units+3+16*k+200<_; omega⟩
theorem ZaE.depth{k:Nat}{A:Around}(r:ZaE k A):A.depth<recursionLimit:=by have:=r.dp; omega
theorem ZaE.units{k:Nat}{A:Around}(r:ZaE k A):A.units+64<cLine:=by have:=r.un; omega
def Zx6:TA:=λ_ H Q=>Q [] H
def Zxe(ta:TE)(tr:TA):TA:=λσ H Q=>ta σ H λx H1=>tr σ H1 λxs H2=>Q (x::xs) H2
section
variable{X:Cx}{e:Expr}{es:List Expr}{te:TE}{t:TA}{pos:Pos}
theorem Zcg:PA X [] Zx6:=λ_ _ _ _ H Q I h=>Calls.spliced_nil ⟨[],H,I,.nil,h⟩
theorem ZaI(ha:PE X e te)(hr:PA X es t)(hs:Zy0 (e::es) X.env=(false,eval e X.env)::Zy0 es X.env:=by rfl):PA X (e::es) (Zxe te t):=by intro pos pins s σ H Q I h;rw[hs];show wpAny _ _ (spliced ((false,eval e X.env)::backTo pos (Zy0 es X.env))) _ _ s;refine ZCE (thn (ha pins s σ H _ I h) λu s1 ⟨x,H1,I1,r1,q1⟩=>?_);exact thn (hr pos pins s1 σ H1 _ I1 q1) λus s2 ⟨xs,H2,I2,r2,q2⟩=>⟨x::xs,H2,I2,.cons r1 r2,q2⟩
def ZxT(t:TA):TE:=λσ H Q=>t σ H λxs H1=>xs.length<=sizeLine/\∀p,H1 p=none->Q (.ref p) (upd H1 p (.tup xs))
def Zx1(t:TA):TE:=λσ H Q=>t σ H λxs H1=>xs.length<=sizeLine/\∀p,H1 p=none->Q (.ref p) (upd H1 p (.lst xs))
theorem Zv6{x1}(h:PA X es t):PE X (.Tuple es x1 pos) (ZxT t):=by intro pins s σ H Q I hq;refine wpAny_Tuple_spliced (thn (h pos pins s σ H _ I hq) λus s1 ⟨xs,H1,I1,r,z,q⟩=>⟨by rw[<-r.length]; exact z,?_⟩);have hf:H1 s1.heap.objs.size=none:=I1.hok.fresh (ZyT _);refine⟨.ref s1.heap.objs.size,upd H1 s1.heap.objs.size (.tup xs),I1.laid (t':=s1.toks) (λb u e=>ZyN _ e) (ZyT _) ?_,rfl,q _ hf⟩;exact⟨z,us,r,⟨_,Zy4 _ rfl,rfl,_,rfl⟩⟩
theorem ZwL(h:PA X es t):PE X (.List es pos) (Zx1 t):=by intro pins s σ H Q I hq;refine wpAny_List_spliced (thn (h pos pins s σ H _ I hq) λus s1 ⟨xs,H1,I1,r,z,q⟩=>⟨by rw[<-r.length]; exact z,?_⟩);have hf:H1 s1.heap.objs.size=none:=I1.hok.fresh (ZyT _);refine⟨.ref s1.heap.objs.size,upd H1 s1.heap.objs.size (.lst xs),I1.laid (t':=s1.toks) (λb u e=>ZyN _ e) (ZyT _) ?_,rfl,q _ hf⟩;exact⟨z,us,0,r,Zy4 _ rfl⟩
end
abbrev Sp:=List V->Hp->VK->XK->Prop
abbrev CXT:=List Env->Hp->Shared->XK->Value->Shared->Prop
structure Ze4(P:Program)(w:World)(K:ZyK)(mg:Str->Option Value)(base:Heap)(A:Around)(outer:List Env)(s:Shared)(H:Hp):Prop where
 frames:A.frames=some outer
 mod:Mod K mg base
 bs:∀b o,base.get? b=some o->s.heap.get? b=some o/\H b=none
 bsz:base.objs.size<=s.heap.objs.size
 funs:s.heap.FunFrames base outer
 frf:∀b∈frs outer,H b=none
 hok:HOk P w H s.heap
 bare:AllBare s.gens
def CE(outer:List Env)(P:Program)(w:World)(H:Hp)(s:Shared)(Q:VK)(u:Value)(s':Shared):Prop :=
 ∃v H',s'.os=s.os/\AllBare s'.gens/\Un (frs outer) [] H H' s.heap s'.heap/\HOk P w H' s'.heap/\RelV v u/\Q v H'
def CR(CX:CXT)(outer:List Env)(P:Program)(w:World)(H:Hp)(s:Shared)(Q:VK)(E:XK)(r:Result)(s':Shared):Prop :=
 match r with
 | .ok (.ret u)=>CE outer P w H s Q u s'
 | .ok _=>False
 | .error e=>CX outer H s E e s'
structure ZdB(P:Program)(w:World)(K:ZyK)(mg:Str->Option Value)(base:Heap)(CX:CXT)(k:Nat)(f:Addr)(fd:FuncData)(ps:List Str)(sp:Sp):Prop where
 len:∀vs H Q E,sp vs H Q E->vs.length=ps.length
 run:∀(A:Around) (outer:List Env) (s:Shared) (H:Hp) (args:Args) (us:List Value) (vs:List V) (Q:VK) (E:XK),ZaE k A->Ze4 P w K mg base A outer s H->BindsTo s fd args (ps.zip us)->Vals vs us->sp vs H Q E ->
  codeAny (model P w) A (.call (.ref f) args) (CR CX outer P w H s Q E) s
theorem ZdB.mono{P:Program}{w:World}{K:ZyK}{mg:Str->Option Value}{base:Heap}{CX:CXT}{j k:Nat}{f:Addr}{fd:FuncData}{ps:List Str}{sp:Sp}(F:ZdB P w K mg base CX j f fd ps sp)(h:j<=k) :
  ZdB P w K mg base CX k f fd ps sp:=⟨F.len,λA outer s H args us vs Q E hr=>F.run A outer s H args us vs Q E (hr.mono h)⟩
section
variable{X:Cx}{pins:List (Addr × Obj)}{σ:St}{H:Hp}{s s':Shared}
theorem Inv.env0(I:Inv X pins σ H s):Ze4 X.prog X.w X.K X.mg X.base X.A X.stack s H :=
 ⟨I.ok.frames,I.ok.mod,I.bs,ZzH I.ok.bsz I.sz,I.stack,I.stkFree,I.hok,I.bare⟩
theorem Inv.after{Q:VK}{u:Value}(I:Inv X pins σ H s)(h:CE X.stack X.prog X.w H s Q u s'):EP X pins σ Q u s':=by obtain⟨v,H',os,bare,un,hok,r,q⟩:=h;obtain⟨hh,g,d,t,os'⟩:=s';obtain rfl:os'=s.os:=os;exact⟨v,H',I.call (h':=hh) (g':=g) (d':=d) (t':=t) (ch:=[]) un hok bare (λb z=>absurd z (by simp)),r,q⟩
end
def Zxn(sp:Sp)(dvs:List V)(E:XK)(t:TA):TE:=λσ H Q=>t σ H λvs H1=>sp (vs++dvs) H1 Q E
def Binds(K:ZyK)(fd:FuncData)(ps:List Str)(ds:List Value):Prop :=
 ∀(s:Shared) (us:List Value),K.In s.heap->(us++ds).length=ps.length->BindsTo s fd ⟨us,[]⟩ (ps.zip (us++ds))
theorem Binds.all{K:ZyK}{fd:FuncData}{ps:List Str}(h:∀us:List Value,us.length=ps.length->bindArgs fd ⟨us,[]⟩=pure (ps.zip us)):Binds K fd ps []:=λs us _ hl=>by rw[Zzu]at hl ⊢;exact .of_eq (h us hl)
def Passes(CX:CXT)(X:Cx)(E:XK):Prop:=∀(pins:List (Addr × Obj)) (σ:St) (H:Hp) (s:Shared) (e:Value) (s':Shared),Inv X pins σ H s->CX X.stack H s E e s'->X.xe e s'
section
variable{X:Cx}{CX:CXT}{k:Nat}{f C:Addr}{fd:FuncData}{ps:List Str}{sp:Sp}{dvs:List V}{ds:List Value}{E:XK}{x m:Str}{p pos apos:Pos}{e o:Expr}{es:List Expr}{ta:TE}{t:TA}
theorem Zv2{pins:List (Addr × Obj)}{σ:St}{H:Hp}{s:Shared}{Q:VK}{us:List Value}{vs:List V}(F:ZdB X.prog X.w X.K X.mg X.base CX k f fd ps sp)(hr:ZaE k X.A)(hb:Binds X.K fd ps ds)(hd:Vals dvs ds)(hx:Passes CX X E)
  (I:Inv X pins σ H s) (r:Vals vs us) (h:sp (vs++dvs) H Q E):wpAny (model X.prog X.w) X.A (call (.ref f) us) (EP X pins σ Q) X.xe s:=by
 have r2:Vals (vs++dvs) (us++ds):=r.append hd;have hl:(us++ds).length=ps.length:=by rw[<-r2.length]; exact F.len _ _ _ _ h
 refine wpAny_call (ZAX (F.run X.A X.stack s H ⟨us,[]⟩ (us++ds) (vs++dvs) Q E hr I.env0 (hb s us I.kIn hl) r2 h) λr s' hq=>?_);cases r with
 | error e=>exact hx pins σ H s e s' I hq
 | ok fl =>
  cases fl with
  | ret u=>exact I.after hq
  | next=>exact ZzZ hq
  | brk=>exact ZzZ hq
  | cont=>exact ZzZ hq
theorem ZlO(F:ZdB X.prog X.w X.K X.mg X.base CX k f fd ps sp)(hr:ZaE k X.A)(hg:Gl X x)(hm:X.mg x=some (.ref f))(hk:ZAh X.K (.ref f)=true)(hb:Binds X.K fd ps ds)(hd:Vals dvs ds)(hx:Passes CX X E)
  (ha:PA X (e::es) t) (hdb:(x==("__debug__":Str))=false:=by decide) (he:Zy0 (e::es) X.env=(false,eval e X.env)::Zy0 es X.env:=by rfl) (hpl:(backTo pos (Zy0 es X.env)).any (·.1)=false:=by rfl) :
  PE X (.Call (.Name x p) (e::es) [] pos) (Zxn sp dvs E t):=by
 intro pins s σ H Q I h;refine ZAY (ZlJ I hg hm ?_ hdb);refine ZDQ (h₀:=X.base) I.ok.mod.kin hk (thn (ha pos pins s σ H _ I h) λus s1 ⟨vs,H1,I1,r,q⟩=>⟨I1.kIn,?_⟩) he hpl;exact Zv2 F hr hb hd hx I1 r q
end
structure Zz(N P:List Str)(sc:Scope):Prop where
 kind:sc.kind=.function
 co:sc.isCoroutine=false
 gen:sc.isGenerator=false
 nd:N.Nodup
 pre:N.take P.length=P
 par:∀x∈P,sc.names.lookup x=some .local\/sc.names.lookup x=some .cell
 nofree:∀y∈sc.names,y.2≠.free
theorem Zmo{kindOf:Str->Option NameKind}{x:Str}:∀{binds:List (Str × Value)} {m:Str->Option Value},(∀v,(x,v) ∉ binds)->bindL kindOf binds m x=m x
 | [],_,_=>rfl
 | (n,v)::r,m,h=>by
  unfold bindL;rw[Zmo λw hw=>h w (ZyQ _ hw)];split
  ·have:x≠n:=by rintro rfl; exact h v ZyO
   simp[this]
  ·rfl
theorem Zmr{kindOf:Str->Option NameKind}{x:Str}:∀{binds:List (Str × Value)} {m:Str->Option Value},(∀v,(x,v) ∉ binds)->bindC kindOf binds m x=m x
 | [],_,_=>rfl
 | (n,v)::r,m,h=>by
  unfold bindC;rw[Zmr λw hw=>h w (ZyQ _ hw)];split
  ·rfl
  ·have:x≠n:=by rintro rfl; exact h v ZyO
   simp[this]
theorem Zmw{kindOf:Str->Option NameKind}{x:Str}{v:Value}:∀{P:List Str} {vs:List Value} {i:Nat} {m:Str->Option Value},P.Nodup->P[i]?=some x->vs[i]?=some v->kindOf x=some .local ->
  bindL kindOf (P.zip vs) m x=some v
 | [],_,_,_,_,h,_,_=>by simp at h
 | _::_,[],_,_,_,_,h,_=>by simp at h
 | p::P,w::vs,0,m,nd,h1,h2,hk=>by simp at h1 h2; subst h1; subst h2;show bindL kindOf ((p,w)::P.zip vs) m p=_;unfold bindL;rw[Zmo λv hv=>(ZzB.mp nd).1 (ZDl hv).1,if_pos hk];simp
 | p::P,w::vs,i+1,m,nd,h1,h2,hk=>by show bindL kindOf ((p,w)::P.zip vs) m x=_;unfold bindL;exact Zmw (i:=i) (ZzB.mp nd).2 (by simpa using h1) (by simpa using h2) hk
theorem Zme{kindOf:Str->Option NameKind}{x:Str}{v:Value}:∀{P:List Str} {vs:List Value} {i:Nat} {m:Str->Option Value},P.Nodup->P[i]?=some x->vs[i]?=some v->kindOf x≠some .local ->
  bindC kindOf (P.zip vs) m x=some v
 | [],_,_,_,_,h,_,_=>by simp at h
 | _::_,[],_,_,_,_,h,_=>by simp at h
 | p::P,w::vs,0,m,nd,h1,h2,hk=>by simp at h1 h2; subst h1; subst h2;show bindC kindOf ((p,w)::P.zip vs) m p=_;unfold bindC;rw[Zmr λv hv=>(ZzB.mp nd).1 (ZDl hv).1,if_neg hk];simp
 | p::P,w::vs,i+1,m,nd,h1,h2,hk=>by show bindC kindOf ((p,w)::P.zip vs) m x=_;unfold bindC;exact Zme (i:=i) (ZzB.mp nd).2 (by simpa using h1) (by simpa using h2) hk
def start(N:List Str)(vs:List V):St:=vs.map some++Zzo (N.length-vs.length) none
def Zgq(CX:CXT)(P:Program)(w:World)(K:ZyK)(mg:Str->Option Value)(base:Heap)(N:List Str)(qual:Str)(scope:Scope)(f:Addr)(cd:Value)(A:Around)(outer:List Env)(s:Shared)(H:Hp)(E:XK):Cx where
 prog:=P
 w:=w
 K:=K
 mg:=mg
 base:=base
 A:=A.deeper (envOfC qual scope s.heap.objs.size f cd)
 N:=N
 s₀:=s
 H₀:=H
 env:=envOfC qual scope s.heap.objs.size f cd
 outer:=outer
 stack:=envOfC qual scope s.heap.objs.size f cd::outer
 ex:=[]
 calm:=true
 fn:=λ_=>true
 pn:=[]
 xe:=λe s'=>wpAny (model P w) (A.deeper (envOfC qual scope s.heap.objs.size f cd)) (leaving (envOfC qual scope s.heap.objs.size f cd) e) (λ_ s''=>CX outer H s E e s'') (λe' s''=>CX outer H s E e' s'') s'
theorem ZoL{sc:Scope}{n:Nat}{x:Str}(h:sc.names.lookup x=some .cell):∃c,(cellsFrom n sc.names []).lookup x=some c:=by have q:=ZDs sc.names n [] (.inl h);exact Zzf.mp q
theorem Zsf{CX:CXT}{P:Program}{w:World}{K:ZyK}{mg:Str->Option Value}{base:Heap}{N ps:List Str}{qual:Str}{scope:Scope}{f:Addr}{cd:Value}{A:Around}{outer:List Env}{s s1:Shared}{H:Hp}{E:XK}{us:List Value}{vs:List V}
  (S:Zz N ps scope) (hd:A.handled=none) (e0:Ze4 P w K mg base A outer s H) (hl:vs.length=ps.length) (r:Vals vs us)
  (x:InCallC s s.heap.objs.size (bindL (envOfC qual scope s.heap.objs.size f cd).kindOf (ps.zip us) λ_=>none) (cellsFrom (s.heap.objs.size+1) scope.names []) (bindC (envOfC qual scope s.heap.objs.size f cd).kindOf (ps.zip us) λ_=>none) s1) :
  Inv (Zgq CX P w K mg base N qual scope f cd A outer s H E) [] (start N vs) H s1:=by
 have hpl:ps.length<=N.length:=by have:=congrArg Zzw S.pre; rw[Zz6]at this; omega
 obtain⟨h1,tk,rfl,hk⟩:=x.done;have noA:∀b:Addr,b ∉ (Zgq CX P w K mg base N qual scope f cd A outer s H E).ex:=λb z=>absurd (show b∈([]:List Addr) from z) (by simp);refine⟨⟨e0.mod,S.kind,rfl,rfl,ZyT _,λy z c h1 h2=>?_,λy hy=>?_,λy c _ h=>?_,λ_=>hd,ZDH e0.frames,.inr ⟨rfl,rfl⟩,λb z=>absurd z (noA b),e0.bs,e0.bsz,λb _ _=>noA b,λb z=>absurd z (noA b),e0.funs,e0.frf⟩,
  rfl,e0.bare,Un.kept hk,⟨_,x.toInCall.ns,λi y v h1 h2 h3=>?_⟩,λy c h=>⟨_,x.cell y c h⟩,e0.hok.fresh (ZyT _),λy c h=>?_,λp hp=>absurd (show p∈([]:List (Addr × Obj)) from hp) (by simp),e0.hok.kept hk,?_⟩
 ·exact name_of_addr x.apart (ZAl h1) (ZAl h2)
 ·have hy:scope.names.lookup y=some .cell\/scope.names.lookup y=some .free:=hy
  rcases hy with hy | hy
  ·exact ZoL hy
  ·exact absurd rfl (S.nofree _ (ZAl hy))
 ·exact ZAB (x.above y c (ZAl h))
 ·have hi:i<vs.length:=by
   unfold start at h2
   by_cases hi:i<vs.length
   ·exact hi
   ·rw[ZzE (by simpa using hi)]at h2
    rw[ZBk]at h2;split at h2<;>cases h2
  have ha:vs[i]?=some v:=by
   unfold start at h2;rw[ZzK (by simpa using hi),Zy2]at h2;cases e:vs[i]? with
   | none=>rw[e]at h2; cases h2
   | some a=>rw[e]at h2; cases h2; rfl
  obtain⟨u,hu,rv⟩:=r.get ha;have hp:ps[i]?=some y:=by rw[<-S.pre,ZC4 (by omega)]; exact h1
  have ndP:ps.Nodup:=by rw[<-S.pre]; exact S.nd.sublist (List.take_sublist _ _)
  refine⟨u,rv,?_⟩;rcases S.par y (Zzj hp)with k | k
  ·exact .inl ⟨k,Zmw ndP hp hu k⟩
  ·obtain⟨c,e⟩:=ZoL (n:=s.heap.objs.size+1) k
   refine .inr ⟨.inl k,c,e,?_⟩;have q:=x.cell y c e;rw[Zme ndP hp hu (by show scope.names.lookup y≠_; rw[k]; decide)]at q;exact q
 ·exact e0.hok.fresh (ZAB (x.above y c (ZAl h)))
 ·unfold start
  show _=N.length;rw[Zy8,ZyJ,ZzI];omega
theorem Zum{CX:CXT}{P:Program}{w:World}{K:ZyK}{mg:Str->Option Value}{base:Heap}{k:Nat}{f:Addr}{name qual:Str}{params:Arguments}{body:List Stmt}{scope:Scope}{dV kV doc pm cdv ct oc:Value}{an od:Option Addr}
  {osl:Array (Option Value)} {N ps:List Str} {sp:Sp} (lk:K.lookup f=some ⟨oc,od,.func (ZAb name qual params body scope dV kV doc pm an cdv ct),osl⟩) (hcd:ZAV K cdv qual=true) (S:Zz N ps scope)
  (len:∀vs H Q E,sp vs H Q E->vs.length=ps.length)
  (hbody:∀(A:Around) (outer:List Env) (s:Shared) (H:Hp) (vs:List V) (Q:VK) (E:XK),ZaE k (A.deeper (envOfC qual scope s.heap.objs.size f cdv))->sp vs H Q E ->
   ∃t,PSs (Zgq CX P w K mg base N qual scope f cdv A outer s H E) body t/\t { nx:=λ_ H'=>Q .non H',rt:=Q } (start N vs) H) :
  ZdB P w K mg base CX (k+1) f (ZAb name qual params body scope dV kV doc pm an cdv ct) ps sp:=by
 refine⟨len,λA outer s H args us vs Q E hr e0 hb r hsp=>?_⟩;have hl:=len _ _ _ _ hsp;have KX:K.In s.heap:=e0.mod.kin.keeps λb o e=>(e0.bs b o e).1;have lim:s.heap.NoLimit:=e0.mod.nolimit.keeps λb o e=>(e0.bs b o e).1;have hkind:∀y∈ps.zip us,scope.names.lookup y.1=some .local\/(scope.names.lookup y.1=some .cell/\((cellsFrom (s.heap.objs.size+1) scope.names []).lookup y.1).isSome=true):=λ⟨n,v⟩ hy=>by
  rcases S.par n (ZDl hy).1 with q | q
  ·exact .inl q
  ·exact .inr ⟨q,ZDs _ _ _ (.inl q)⟩
 refine codeAny_call_function hr.depth (KX _ _ lk) rfl S.co S.gen rfl (PySem.W.codeRec_of KX hcd) (hb _ _ _ _ ?_);refine wpAny_newFunctionEnv_cells S.kind hkind λenv he s1 x=>?_;subst he;refine⟨lim.keeps x.toInCall.keep,codeAny_func ?_⟩;obtain⟨t,ht,hq⟩:=hbody A outer s H vs Q E (hr.deeper _) hsp;have I:Inv (Zgq CX P w K mg base N qual scope f cdv A outer s H E) [] (start N vs) H s1:=Zsf S hr.hd e0 hl r x;refine Zz4 (ht [] s1 (start N vs) H _ I hq) (λfl s' hs=>?_) λe s' hs=>hs;have fin:∀{σ':St} {H':Hp} {v:V} {u:Value},Inv (Zgq CX P w K mg base N qual scope f cdv A outer s H E) [] σ' H' s'->RelV v u->Q v H'->CE outer P w H s Q u s' :=
  λ{σ' H' v u} J rv q=>⟨v,H',J.os,J.bare,J.base,J.hok,rv,q⟩
 cases fl with
 | ret u=>obtain⟨v,σ',H',J,rv,q⟩:=hs;exact fin J rv q
 | next=>obtain⟨σ',H',J,q⟩:=hs;exact fin (v:=V.non) (u:=Zzs) J rfl q
 | brk=>obtain⟨_,_,_,q⟩:=hs;exact ZzZ q
 | cont=>obtain⟨_,_,_,q⟩:=hs;exact ZzZ q
end L2
namespace L2
open PySem PySem.Spec PyProof.Rows
section
variable{X:Cx}{x:Str}{p pos:Pos}{e:Expr}{es:List Expr}{t:TA}{id T:String}{r:List V->Hp->VK->Prop}
def tCB(r:List V->Hp->VK->Prop)(t:TA):TE:=λσ H Q=>t σ H λvs H1=>r vs H1 Q
theorem Zcf(hc:ZaM X (.builtin id) r)(hg:Gl X x)(hm:X.mg x=none)(hv:ZzS x=some (.builtin id))(ha:PA X (e::es) t)(hn:x ≠ "__name__":=by decide)(hdb:(x==("__debug__":Str))=false:=by decide)
  (he:Zy0 (e::es) X.env=(false,eval e X.env)::Zy0 es X.env:=by rfl) (hpl:(backTo pos (Zy0 es X.env)).any (·.1)=false:=by rfl):PE X (.Call (.Name x p) (e::es) [] pos) (tCB r t):=by
 intro pins s σ H Q I h;refine ZAY (Zjc I hg hm hv ?_ hn hdb);exact PyProof.Rows.callWith_builtin1 (thn (ha pos pins s σ H _ I h) λus s1 ⟨vs,H1,I1,r1,q1⟩=>hc pins s1 σ H1 vs us Q I1 r1 q1) he hpl
theorem ZdF(hc:ZaM X (.type T) r)(hg:Gl X x)(hm:X.mg x=none)(hv:ZzS x=some (.type T))(ha:PA X (e::es) t)(hn:x ≠ "__name__":=by decide)(hdb:(x==("__debug__":Str))=false:=by decide)
  (he:Zy0 (e::es) X.env=(false,eval e X.env)::Zy0 es X.env:=by rfl) (hpl:(backTo pos (Zy0 es X.env)).any (·.1)=false:=by rfl):PE X (.Call (.Name x p) (e::es) [] pos) (tCB r t):=by
 intro pins s σ H Q I h;refine ZAY (Zjc I hg hm hv ?_ hn hdb);exact ZCD (thn (ha pos pins s σ H _ I h) λus s1 ⟨vs,H1,I1,r1,q1⟩=>hc pins s1 σ H1 vs us Q I1 r1 q1) he hpl
end
end L2
namespace HT
set_option maxHeartbeats 8000000
open PySem PyProof.Rows
section
open PySem.SeqAt
open PySem.AutoSeq1 (wpAny_loadPart')
open PySem.MeetsSeq PySem.MeetsSeq2 PySem.MeetsSeq3
end
section
variable{prog:Program}{w:World}{A:Around}{E:Value->Shared->Prop}{s:Shared}
theorem ZuJ{t b:Addr}{vs ws:List Value}{Q:Value->Shared->Prop}(ht:IsTup s.heap t vs.toArray)(hb:IsTup s.heap b ws.toArray)(hv:vs≠[])
  (h1:ws=[]->Q (.ref t) s) (h2:ws≠[]->Q (.ref s.heap.objs.size) { s with heap:=s.heap.push { cls:=.type "tuple",data:=.seq (vs++ws).toArray } })
  (hsz:vs.length+ws.length<=sizeLine):wpAny (model prog w) A (ZBG .Add (.ref t) (.ref b)) Q E s:=by
 obtain⟨⟨cls,dd,data,sl⟩,ho,hc,n,hd⟩:=id ht;obtain⟨⟨cls2,dd2,data2,sl2⟩,ho2,hc2,n2,hd2⟩:=id hb;simp only at hc hd hc2 hd2;subst hc hd hc2 hd2;have e:vs.toArray++ws.toArray=(vs++ws).toArray:=by simp
 by_cases hw:ws=[]
 ·exact concat_meets ⟨_,ho,rfl⟩ ⟨_,ho2,rfl⟩ noFill_tuple_add seq_tuple_add ZDt ZDi (ZC5 _ _)
   (tuple_addW1 t b vs.toArray ws.toArray n n2 dd dd2 sl sl2 (by simpa using hv) (by simp[hw])) ⟨ho,ho2,h1 hw⟩
 ·refine concat_meets ⟨_,ho,rfl⟩ ⟨_,ho2,rfl⟩ noFill_tuple_add seq_tuple_add ZDt ZDi (ZC5 _ _)
   (tuple_addW2 t b vs.toArray ws.toArray n n2 dd dd2 sl sl2 (by simpa using hv) (by simpa using hw) (by rw[ZyX,ZyX]; exact hsz)) ⟨ho,ho2,?_⟩
  rw[e];exact h2 hw
def sIx(n d:Nat):Option Int->Nat
 | none=>d
 | some v=>if v<0 then(v+(n:Int)).toNat else min v.toNat n
theorem ZsA(n d:Nat)(hd:d<=n)(o:Option Int):sIx n d o<=n:=by
 cases o with
 | none=>exact hd
 | some v =>
  show(if v<0 then(v+(n:Int)).toNat else min v.toNat n)<=n
  by_cases hv:v<0
  ·rw[if_pos hv]; omega
  ·rw[if_neg hv]; exact Nat.min_le_right _ _
theorem Zp7(v:Int)(n d:Nat):(if v<0 then max (v+(n:Int)) 0 else min v (n:Int))=((sIx n d (some v):Nat):Int):=by
 show(if v<0 then max (v+(n:Int)) 0 else min v (n:Int))=(((if v<0 then(v+(n:Int)).toNat else min v.toNat n):Nat):Int)
 by_cases hv:v<0
 ·simp only[if_pos hv]; omega
 ·simp only[if_neg hv]; omega
theorem Zru(lo hi:Option Int)(n:Nat):ZBQ lo hi 1 (n:Int)=(((sIx n 0 lo:Nat):Int),((sIx n n hi:Nat):Int)):=by
 have h1:¬((1:Int)<0):=by omega
 unfold ZBQ;simp only[h1,if_false];refine Prod.ext ?_ ?_
 ·cases lo with
  | none=>rfl
  | some v=>exact Zp7 v n 0
 ·cases hi with
  | none=>rfl
  | some v=>exact Zp7 v n n
theorem ZrE(i j:Nat):ZBb (i:Int) (j:Int) 1=j-i:=by
 unfold ZBb;have h1:(1:Int) > 0:=by omega
 simp only[h1,if_true,Int.ediv_one];split<;>omega
theorem ZkT{v:Value}{o:Option Int}{Q:Option Int->Shared->Prop}(p:IsPart v o)(h:Q o s):wpAny (model prog w) A (Builtin.Slice.slicePartIndex v) Q E s:=by
 cases p with
 | none=>exact slicePart_none h
 | int i t=>exact slicePart_int h
theorem Zgp{sl:Addr}{vl vu:Value}{lo hi:Option Int}{n:Nat}{Q:Int × Int × Nat->Shared->Prop}(hs:s.heap.IsSliceOf sl vl vu .none)(pl:IsPart vl lo)(pu:IsPart vu hi)
  (h:Q (((sIx n 0 lo:Nat):Int),1,sIx n n hi-sIx n 0 lo) s):wpAny (model prog w) A (ZCK (.ref sl) (pure (n:Int))) Q E s:=by
 obtain⟨os,hos,hcs,hds⟩:=id hs;unfold ZCK Builtin.Slice.sliceFields;refine ZyI (ZyI (wpAny_field hos hds (x:=vl) rfl (ZyI (wpAny_field hos hds (x:=vu) rfl (ZyI (wpAny_field hos hds (x:=.none) rfl (ZyM ?_)))))));refine ZyI (slicePart_none ?_);show wpAny _ _ (if((1:Int)==0)=true then _ else _) _ _ s;rw[if_neg (by decide)];refine ZyI (ZkT pl (ZyI (ZkT pu (ZyI (ZyM ?_)))));show wpAny _ _ (match ZBQ lo hi 1 (n:Int)with | (lo,hi)=>pure (lo,(1:Int),ZBb lo hi 1)) _ _ s;rw[Zru lo hi n];show wpAny _ _ (pure (((sIx n 0 lo:Nat):Int),(1:Int),ZBb ((sIx n 0 lo:Nat):Int) ((sIx n n hi:Nat):Int) 1)) _ _ s;rw[ZrE];exact ZyM h
theorem ZtV(xs:Array Value)(i k:Nat):((ZyP k).filterMap λ(m:Nat)=>xs[((i:Int)+(m:Int)*1).toNat]?).toArray=((xs.toList.drop i).take k).toArray:=by
 have e:(λ(m:Nat)=>xs[((i:Int)+(m:Int)*1).toNat]?)=λm=>xs[i+m]?:=by
  funext m
  have:((i:Int)+(m:Int)*1).toNat=i+m:=by omega
  rw[this]
 rw[e];have:=pick_run xs i k;rw[List.filterMap_map]at this;have e2:((λx=>xs[x]?)∘λx=>i+x)=λm=>xs[i+m]?:=rfl;rw[e2]at this;rw[this]
theorem ZjS{t sl:Addr}{items:Array Value}{vl vu:Value}{lo hi:Option Int}{Q:Value->Shared->Prop}(ht:IsTup s.heap t items)(hs:s.heap.IsSliceOf sl vl vu .none)(pl:IsPart vl lo)(pu:IsPart vu hi)
  (hw:¬(sIx items.size 0 lo=0/\sIx items.size items.size hi=items.size))
  (h:Q (.ref s.heap.objs.size) { s with heap:=s.heap.push { cls:=.type "tuple",data:=.seq ((items.toList.drop (sIx items.size 0 lo)).take (sIx items.size items.size hi-sIx items.size 0 lo)).toArray } })
  (hsz:items.size<=sizeLine):wpAny (model prog w) A (getItem (.ref t) (.ref sl)) Q E s:=by
 have htake:sizeOk (.seq ((items.toList.drop (sIx items.size 0 lo)).take (sIx items.size items.size hi-sIx items.size 0 lo)).toArray):=by show((items.toList.drop (sIx items.size 0 lo)).take (sIx items.size items.size hi-sIx items.size 0 lo)).toArray.size<=sizeLine;rw[ZyX,Zz6,ZBd,Zze];omega
 have hj:sIx items.size items.size hi<=items.size:=ZsA _ _ (ZyT _) hi;obtain⟨os,hos,hcs,hds⟩:=id hs;have hTs:s.TypeIs (.ref sl) "slice":=⟨os,hos,hcs⟩;unfold getItem
 try with_reducible refine Zzx ?_
 first | refine ZyI (ZyM ?_) | skip
 refine ZyI (wpAny_sequenceKey ht.typeIs (by decide) ?_);refine ZyI (wpAny_callSpecial?_slot (name:=Zzd "__getitem__") ht.typeIs Zz3
  (ZzF Zz3 ht.typeIs entry_tuple_getitem ?_ (args_tuple_getitem _ _)))
 show wpAny _ _ (ZCL (.ref t) >>= _) _ _ s;refine ZyI (tupleItemsOf_ ht ?_);refine ZyI (ZCi hTs ?_);rw[if_pos (by decide)];refine ZyI (Zgp hs pl pu ?_);have hno:¬((((sIx items.size 0 lo:Nat):Int)==0&&(1:Int)==1&&(sIx items.size items.size hi-sIx items.size 0 lo)==items.size)=true):=by intro q;rw[Zy5,Zy5]at q;have q1:((sIx items.size 0 lo:Nat):Int)=0:=eq_of_beq q.1.1;have q2:sIx items.size items.size hi-sIx items.size 0 lo=items.size:=eq_of_beq q.2;exact hw ⟨by omega,by omega⟩
 show wpAny _ _ (if(((sIx items.size 0 lo:Nat):Int)==0&&(1:Int)==1&&(sIx items.size items.size hi-sIx items.size 0 lo)==items.size)=true then _ else _) _ _ s;rw[if_neg hno,ZtV]
 first
  | exact ZyI (m:=ZAr _) (Zzz (ZyM ⟨_,rfl,ZyM h⟩) htake)
  | exact ZyI (m:=ZAr _) (Zzz (ZyI (ZyM (ZyM ⟨_,rfl,ZyM h⟩))) htake)
  | exact ZyI (ZyI (m:=ZAr _) (Zzz (ZyM (ZyM ⟨_,rfl,ZyM h⟩)) htake))
  | exact ZyI (ZyI (m:=ZAr _) (Zzz (ZyM ⟨_,rfl,ZyM h⟩) htake))
end
end HT
namespace L2
open PySem PySem.Spec PyProof.Rows
abbrev TO:=St->Hp->(Option Int->Hp->Prop)->Prop
def PO(X:Cx)(e:Option Expr)(t:TO):Prop :=
 ∀(pins:List (Addr × Obj)) (s:Shared) (σ:St) (H:Hp) (Q:Option Int->Hp->Prop),Inv X pins σ H s->t σ H Q ->
  wpAny (model X.prog X.w) X.A (evalPart e X.env) (λu s'=>∃o H',Inv X pins σ H' s'/\IsPart u o/\Q o H') X.xe s
def ZuH:TO:=λ_ H Q=>Q none H
def Zxf(t:TE):TO:=λσ H Q=>t σ H λx H1=>∃i,x=.int i/\Q (some i) H1
section
variable{X:Cx}{e:Expr}{te:TE}{lo hi:Option Expr}{tl th:TO}{pos p2:Pos}
theorem ZuB:PO X none ZuH:=by intro pins s σ H Q I h;rw[evalPart_none];exact ZyM ⟨none,H,I,.none,h⟩
theorem Zvs(h:PE X e te):PO X (some e) (Zxf te):=by intro pins s σ H Q I hw;rw[evalPart_some];refine thn (h pins s σ H _ I hw) λu s1 ⟨x,H1,I1,r1,q1⟩=>?_;obtain⟨i,rfl,q⟩:=q1;obtain⟨t,rfl⟩:=r1;exact⟨some i,H1,I1,.int i t,q⟩
def SlR(X:Cx)(r:V->Option Int->Option Int->Hp->VK->Prop):Prop :=
 ∀(pins:List (Addr × Obj)) (s:Shared) (σ:St) (H:Hp) (x:V) (v vl vu:Value) (lo hi:Option Int) (sl:Addr) (Q:VK),Inv X pins σ H s->RelV x v->s.heap.IsSliceOf sl vl vu .none->IsPart vl lo->IsPart vu hi->r x lo hi H Q ->
  ∃T id,typeLookup (.type T) "__getitem__" = pure (some (.builtin id))/\s.TypeIs v T/\wpAny (model X.prog X.w) X.A (getItem v (.ref sl)) (EP X pins σ Q) X.xe s
theorem SlR.or{r r':V->Option Int->Option Int->Hp->VK->Prop}(h:SlR X r)(h':SlR X r'):SlR X (λx lo hi H Q=>r x lo hi H Q\/r' x lo hi H Q):=by
 intro pins s σ H x v vl vu lo hi sl Q I rx hs pl pu q;rcases q with q | q
 ·exact h pins s σ H x v vl vu lo hi sl Q I rx hs pl pu q
 ·exact h' pins s σ H x v vl vu lo hi sl Q I rx hs pl pu q
def tSl(r:V->Option Int->Option Int->Hp->VK->Prop)(te:TE)(tl th:TO):TE:=λσ H Q=>te σ H λx H1=>tl σ H1 λl H2=>th σ H2 λu H3=>r x l u H3 Q
theorem Zof{r:V->Option Int->Option Int->Hp->VK->Prop}(hr:SlR X r)(he:PE X e te)(hl:PO X lo tl)(hu:PO X hi th):PE X (.Subscript e (.Slice lo hi none p2) pos) (tSl r te tl th):=by intro pins s σ H Q I h;refine Subscript_ (thn (he pins s σ H _ I h) λv s1 ⟨x,H1,I1,r1,q1⟩=>?_);refine wpAny_Slice (thn (hl pins s1 σ H1 _ I1 q1) λvl s2 ⟨l,H2,I2,pl,q2⟩=>thn (hu pins s2 σ H2 _ I2 q2) λvu s3 ⟨u,H3,I3,pu,q3⟩=>?_);rw[evalPart_none];refine ZyM ?_;have I4:Inv X pins σ H3 { s3 with heap:=s3.heap.push { cls:=.type "slice",data:=.fields #[vl,vu,.none] } }:=I3.kept (t':=s3.toks) λb ob q=>ZyN _ q;obtain⟨T,id,hT,ht,hg⟩:=hr pins { s3 with heap:=s3.heap.push { cls:=.type "slice",data:=.fields #[vl,vu,.none] } } σ H3 x v vl vu l u s3.heap.objs.size Q I4 r1 (Heap.IsSliceOf.new ..) pl pu q3;show wpAny (model X.prog X.w) X.A (subscriptTail e (.Slice lo hi none p2) v (.ref s3.heap.objs.size)) (EP X pins σ Q) X.xe { s3 with heap:=s3.heap.push { cls:=.type "slice",data:=.fields #[vl,vu,.none] } };exact tail_any (ops:=[.ref s3.heap.objs.size,v]) ht hT hg (by with_unfolding_all rfl)
def Zhl(xs:List V)(lo hi:Option Int):List V:=(xs.drop (HT.sIx xs.length 0 lo)).take (HT.sIx xs.length xs.length hi-HT.sIx xs.length 0 lo)
theorem Zj9(xs:List V)(lo hi:Option Int):(Zhl xs lo hi).length<=xs.length:=by unfold Zhl;rw[Zz6,ZBd];omega
def Zyj(K:ZyK):V->Option Int->Option Int->Hp->VK->Prop:=λx lo hi H Q=>∃a xs,x=.ref a/\SqT K H a xs /\
 ¬(HT.sIx xs.length 0 lo=0/\HT.sIx xs.length xs.length hi=xs.length)/\∀p,H p=none->Q (.ref p) (upd H p (.tup (Zhl xs lo hi)))
theorem ZwQ:SlR X (Zyj X.K):=by
 intro pins s σ H x v vl vu lo hi sl Q I rx hs pl pu h;obtain⟨a,xs,rfl,hx,hw,q⟩:=h;cases rx;obtain⟨its,r,ht,hz⟩:=I.tuple hx;have hlen:its.toArray.size=xs.length:=by rw[ZyX]; exact r.length.symm
 refine⟨"tuple",_,Zz3.lookup,ht.typeIs,?_⟩;refine HT.ZjS ht hs pl pu (by rw[hlen]; exact hw) ?_ (by rw[hlen]; exact hz);rw[hlen];refine⟨.ref s.heap.objs.size,_,I.laid (t':=s.toks) (o:=.tup (Zhl xs lo hi)) (λb ob q=>ZyN _ q) (ZyT _) ?_,rfl,q _ (I.hok.fresh (ZyT _))⟩;exact⟨ZzH (Zj9 xs lo hi) hz,_,(r.drop (HT.sIx xs.length 0 lo)).take (HT.sIx xs.length xs.length hi-HT.sIx xs.length 0 lo),ZDR _ _⟩
def Zxl(K:ZyK):R2:=λx y H Q=>∃a b xs ys,x=.ref a/\y=.ref b/\SqT K H a xs/\SqT K H b ys/\xs≠[]/\xs.length+ys.length<=sizeLine /\
 (ys=[]->Q (.ref a) H)/\(ys≠[]->∀p,H p=none->Q (.ref p) (upd H p (.tup (xs++ys))))
theorem Vals.nil_iff{xs:List V}{us:List Value}(r:Vals xs us):us=[]↔xs=[]:=by
 cases r with
 | nil=>simp
 | cons _ _=>simp
theorem Zvd:OpR X (ZBG .Add) (Zxl X.K):=by intro pins s σ H x y v u Q I rx ry h;obtain⟨a,b,xs,ys,rfl,rfl,ha,hb,hx,hz,q1,q2⟩:=h;cases rx;cases ry;obtain⟨its,r1,p1,_⟩:=I.tuple ha;obtain⟨its2,r2,p2,_⟩:=I.tuple hb;refine HT.ZuJ p1 p2 (λz=>hx (r1.nil_iff.mp z)) (λz=>⟨.ref a,H,I,rfl,q1 (r2.nil_iff.mp z)⟩) (λz=>?_) (by rw[<-r1.length,<-r2.length]; exact hz);refine⟨.ref s.heap.objs.size,_,I.laid (t':=s.toks) (o:=.tup (xs++ys)) (λb ob q=>ZyN _ q) (ZyT _) ?_,rfl,q2 (λw=>z (r2.nil_iff.mpr w)) _ (I.hok.fresh (ZyT _))⟩;exact⟨by rw[Zy8]; exact hz,_,r1.append r2,ZDR _ _⟩
end
end L2
namespace L2
open PySem PySem.Spec PyProof.Rows
def ixN(n:Nat)(i:Int):Option Nat:=if 0<=i then(if i<n then some i.toNat else none)else if -(n:Int)<=i then some (i+n).toNat else none
def atI{α:Type}(xs:List α)(i:Int):Option α:=(ixN xs.length i).bind λj=>xs[j]?
theorem Zqf{n:Nat}{i:Int}{j:Nat}(h:ixN n i=some j):seqIndex? i n=some j/\j<n/\-(n:Int)<=i/\i<n:=by
 unfold ixN at h
 by_cases h0:0<=i
 ·rw[if_pos h0]at h
  by_cases h1:i<n
  ·rw[if_pos h1]at h
   have e:i.toNat=j:=ZzU h;exact⟨by rw[seqIndex_of h0 h1,e],by omega,by omega,h1⟩
  ·rw[if_neg h1]at h; cases h
 ·rw[if_neg h0]at h
  by_cases h1:-(n:Int)<=i
  ·rw[if_pos h1]at h
   have e:(i+n).toNat=j:=ZzU h;exact⟨by rw[seqIndex_neg (by omega) h1,e],by omega,h1,by omega⟩
  ·rw[if_neg h1]at h; cases h
theorem Zl6{α:Type}{xs:List α}{i:Int}{v:α}(h:atI xs i=some v):∃j,seqIndex? i xs.length=some j/\xs[j]?=some v/\j<xs.length/\-(xs.length:Int)<=i/\i<xs.length:=by
 unfold atI at h;cases e:ixN xs.length i with
 | none=>rw[e]at h; cases h
 | some j=>rw[e]at h;obtain⟨h1,h2,h3,h4⟩:=Zqf e;exact⟨j,h1,h,h2,h3,h4⟩
def Zp1(b:Expr):Prop:=∀o i,ZDu b false o i=operate [o,i] (getItem o i)
def IxR(X:Cx)(r:R2):Prop :=
 ∀(value slice:Expr) (pins:List (Addr × Obj)) (s:Shared) (σ:St) (H:Hp) (x y:V) (v u:Value) (Q:VK),Inv X pins σ H s->RelV x v->RelV y u->r x y H Q ->
  ZDu slice false v u=operate [v,u] (getItem v u)->wpAny (model X.prog X.w) X.A (subscriptTail value slice v u) (EP X pins σ Q) X.xe s
def MtR(X:Cx)(id:String)(r:V->List V->Hp->VK->Prop):Prop :=
 ∀(pins:List (Addr × Obj)) (s:Shared) (σ:St) (H:Hp) (x:V) (xs:List V) (v:Value) (us:List Value) (Q:VK),Inv X pins σ H s->RelV x v->Vals xs us->r x xs H Q ->
  wpAny (model X.prog X.w) X.A (call (.builtin id) (v::us)) (EP X pins σ Q) X.xe s
section
variable{X:Cx}{a b:Expr}{ta tb:TE}{pos:Pos}
theorem IxR.or{r r':R2}(h:IxR X r)(h':IxR X r'):IxR X (λx y H Q=>r x y H Q\/r' x y H Q):=by
 intro value slice pins s σ H x y v u Q I rx ry q hs;rcases q with q | q
 ·exact h value slice pins s σ H x y v u Q I rx ry q hs
 ·exact h' value slice pins s σ H x y v u Q I rx ry q hs
theorem Zxc{r:R2}(hr:IxR X r)(ha:PE X a ta)(hb:PE X b tb)(hs:Zp1 b):PE X (.Subscript a b pos) (tOp r ta tb):=by intro pins s σ H Q I h;exact Subscript_ (Zti ha hb I h λv u s2 x y H2 I2 rx ry q=>hr a b pins s2 σ H2 x y v u Q I2 rx ry q (hs _ _))
def ZwX(K:ZyK):R2:=λx y H Q=>∃p xs i v,x=.ref p/\y=.int i/\SqL K H p xs/\atI xs i=some v/\Q v H
def Zwx(K:ZyK):R2:=λx y H Q=>∃p xs i v,x=.ref p/\y=.int i/\SqT K H p xs/\atI xs i=some v/\Q v H
def ZwB:R2:=λx y H Q=>∃z i c,x=.str z/\y=.int i/\z.length<=sizeLine/\atI z.cps.toList i=some c/\Q (.str ⟨#[c]⟩) H
theorem Zvy:IxR X (ZwX X.K):=by
 intro value slice pins s σ H x y v u Q I rx ry h hs;obtain⟨p,xs,i,z,rfl,rfl,hq,he,q⟩:=h;cases rx;obtain⟨t,rfl⟩:=ry;obtain⟨its,r,pl,hz⟩:=I.list hq;obtain⟨j,h1,h2,h3,h4,h5⟩:=Zl6 he;obtain⟨w,ew,rw'⟩:=r.get h2;have hl:=r.length;have hn:=Zi4;have fin:EP X pins σ Q w s:=⟨z,H,I,rw',q⟩
 by_cases h0:0<=i
 ·have hj:i.toNat=j:=by
   rw[seqIndex_of h0 h5]at h1;exact ZzU h1
  exact item_listR pl.isList h0 (by omega) (by rw[hj]; simpa using ew) fin hs
 ·have hj:(i+(its.toArray.size:Int)).toNat=j:=by
   rw[seqIndex_neg (by omega) h4]at h1;rw[ZyX,<-hl];exact ZzU h1
  exact subscriptTail_builtinR (x:=w) pl.isList.typeIs slot_list_getitem.lookup
   (wpAny_getItem_list_neg (Q:=λr s'=>r=w/\EP X pins σ Q r s') pl.isList (by omega) (by rw[ZyX]<;>omega) (by omega) (by rw[hj]; simpa using ew) ⟨rfl,fin⟩) hs
theorem ZwP:IxR X (Zwx X.K):=by
 intro value slice pins s σ H x y v u Q I rx ry h hs;obtain⟨p,xs,i,z,rfl,rfl,hq,he,q⟩:=h;cases rx;obtain⟨t,rfl⟩:=ry;obtain⟨its,r,pl,hz⟩:=I.tuple hq;obtain⟨j,h1,h2,h3,h4,h5⟩:=Zl6 he;obtain⟨w,ew,rw'⟩:=r.get h2;have hl:=r.length;have hn:=Zi4;have fin:EP X pins σ Q w s:=⟨z,H,I,rw',q⟩;exact subscriptTail_builtinR (x:=w) pl.typeIs slot_tuple_getitem.lookup
  (getItem_tuple (j:=j) (Q:=λr s'=>r=w/\EP X pins σ Q r s') pl (by omega) (by omega) (by rw[ZyX,<-hl]; exact h1) (by simpa using ew) ⟨rfl,fin⟩) hs
theorem ZwD:IxR X ZwB:=by
 intro value slice pins s σ H x y v u Q I rx ry h hs;obtain⟨z,i,c,rfl,rfl,hz,he,q⟩:=h;obtain⟨t,rfl⟩:=rx;obtain⟨t',rfl⟩:=ry;obtain⟨j,h1,h2,h3,h4,h5⟩:=Zl6 he;have hl:z.cps.toList.length=z.length:=by simp[Str.length]
 rw[hl]at h1 h4 h5;have hn:=Zi4;exact tail_any (typeIs_str s z t) slot_str_getitem.lookup (getItem_str (c:=c) (by have e1:decide (i < -(2 ^ 63:Int))=false:=decide_eq_false (by omega);have e2:decide (i ≥ 2 ^ 63)=false:=decide_eq_false (by omega);rw[e1,e2,Bool.or_false]) (by rw[h1]; simpa using h2) ⟨.str ⟨#[c]⟩,H,I.tok _,⟨_,rfl⟩,q⟩) hs
def rIx(K:ZyK):R2:=λx y H Q=>ZwX K x y H Q\/Zwx K x y H Q\/ZwB x y H Q
theorem Zw0:IxR X (rIx X.K):=Zvy.or (ZwP.or ZwD)
theorem ZrD(its:List Value)(n j:Nat)(u:Value):ZBr (·.setIfInBounds j u) { cls:=.type "list",data:=.seq its.toArray n }={ cls:=.type "list",data:=.seq (its.set j u).toArray n }:=by simp[ZBr]
theorem Inv.lst{pins:List (Addr × Obj)}{σ:St}{H:Hp}{s:Shared}{p:Addr}{xs:List V}(I:Inv X pins σ H s)(h:H p=some (.lst xs)) :
  ∃(its:List Value) (n:Nat),Vals xs its/\s.heap.get? p=some { cls:=.type "list",data:=.seq its.toArray n }/\xs.length<=sizeLine:=by
 obtain⟨z,its,n,r,e⟩:=I.hok p _ h;exact⟨its,n,r,e,z⟩
theorem Inv.lstUpd{pins:List (Addr × Obj)}{σ:St}{H:Hp}{s:Shared}{p:Addr}{xs ys:List V}{its its':List Value}{n n':Nat}{f:Obj->Obj}(I:Inv X pins σ H s)(h:H p=some (.lst xs))
  (ho:s.heap.get? p=some { cls:=.type "list",data:=.seq its.toArray n }) (hf:f { cls:=.type "list",data:=.seq its.toArray n }={ cls:=.type "list",data:=.seq its'.toArray n' }) (r:Vals ys its') (hz:ys.length<=sizeLine) (t:Nat) :
  Inv X pins σ (upd H p (.lst ys)) { s with heap:=s.heap.update p f,toks:=t }:=by
 have e:(s.heap.update p f).get? p=some { cls:=.type "list",data:=.seq its'.toArray n' }:=by rw[Zz2 f ho (by rw[hf]<;>rfl),hf]
 refine I.write (x:=p) (e:=p) (by rw[h]; trivial) (.inl rfl) (λb u hb q=>(ZAi _ _ (ZzX hb)).trans q) ⟨_,e⟩ ?_;exact⟨hz,its',n',r,e⟩
def Zw9:V->V->V->Hp->(Hp->Prop)->Prop:=λo i v H Q=>∃p xs k j,o=.ref p/\i=.int k/\H p=some (.lst xs)/\ixN xs.length k=some j/\Q (upd H p (.lst (xs.set j v)))
theorem set_list:Zwv X Zw9:=by
 intro pins s σ H o i v ov iv u Q I ro ri rv h;obtain⟨p,xs,k,j,rfl,rfl,hp,hj,q⟩:=h;cases ro;obtain⟨t,rfl⟩:=ri;obtain⟨its,n,r,ho,hz⟩:=I.lst hp;obtain⟨h1,h2,h3,h4⟩:=Zqf hj;have hl:=r.length;have hn:=Zi4;have I':Inv X pins σ (upd H p (.lst (xs.set j v))) { s with heap:=s.heap.update p (ZBr (·.setIfInBounds j u)) } :=
  I.lstUpd hp ho (ZrD its n j u) (r.set rv j) (by rw[Zz5]; exact hz) s.toks
 by_cases h0:0<=k
 ·have hk:k.toNat=j:=by
   rw[seqIndex_of h0 h4]at h1;exact ZzU h1
  exact PySem.W.ki_setAt ho h0 (by omega) (by rw[ZyX,<-hl]; exact h4) (by rw[hk]; exact⟨_,I',q⟩)
 ·have hk:(k+(its.toArray.size:Int)).toNat=j:=by
   rw[seqIndex_neg (by omega) h3]at h1;rw[ZyX,<-hl];exact ZzU h1
  exact PySem.W.ki_setBack ho (by omega) (by rw[ZyX,<-hl]; exact h3) (by omega) (by rw[hk]; exact⟨_,I',q⟩)
theorem ZoD(lo hi:Option Int)(n:Nat):(ZBO lo hi none n).1=((HT.sIx n 0 lo:Nat):Int)/\(ZBO lo hi none n).2.1=((HT.sIx n n hi:Nat):Int)/\(ZBO lo hi none n).2.2=1:=by
 refine⟨?_,?_,rfl⟩
 ·cases lo with
  | none=>simp[ZBO,HT.sIx]
  | some i =>
   simp only[ZBO,HT.sIx,Option.getD_none,show(1:Int) > 0 by decide,if_true]
   by_cases h:i<0
   ·simp only[h,if_true]<;>omega
   ·simp only[h,if_false]<;>omega
 ·cases hi with
  | none=>simp[ZBO,HT.sIx]
  | some i =>
   simp only[ZBO,HT.sIx,Option.getD_none,show(1:Int) > 0 by decide,if_true]
   by_cases h:i<0
   ·simp only[h,if_true]<;>omega
   ·simp only[h,if_false]<;>omega
theorem Zm6(its:List Value)(lo hi:Option Int):slicePick its.toArray lo hi none=((its.drop (HT.sIx its.length 0 lo)).take (HT.sIx its.length its.length hi-HT.sIx its.length 0 lo)).toArray:=by obtain⟨h1,h2,h3⟩:=ZoD lo hi its.toArray.size;unfold slicePick;rw[h1,h2,h3];simp only[sliceRange_one,pick_run,ZyX]<;>rfl
def Zx0(K:ZyK):V->Option Int->Option Int->Hp->VK->Prop:=λx lo hi H Q=>∃a xs,x=.ref a/\SqL K H a xs/\∀p,H p=none->Q (.ref p) (upd H p (.lst (Zhl xs lo hi)))
theorem ZuE:SlR X (Zx0 X.K):=by intro pins s σ H x v vl vu lo hi sl Q I rx hs pl pu h;obtain⟨a,xs,rfl,hx,q⟩:=h;cases rx;obtain⟨its,r,ht,hz⟩:=I.list hx;have hlen:=r.length;refine⟨"list",_,slot_list_getitem.lookup,ht.isList.typeIs,?_⟩;refine wpAny_getItem_list_slice ht.isList hs pl pu .none (by simp) ?_ (by rw[ZyX]<;>omega);rw[Zm6,<-hlen];refine⟨.ref s.heap.objs.size,_,I.laid (t':=s.toks) (o:=.lst (Zhl xs lo hi)) (λb ob q=>ZyN _ q) (ZyT _) ?_,rfl,q _ (I.hok.fresh (ZyT _))⟩;exact⟨ZzH (Zj9 xs lo hi) hz,_,0,(r.drop (HT.sIx xs.length 0 lo)).take (HT.sIx xs.length xs.length hi-HT.sIx xs.length 0 lo),Zy4 _ rfl⟩
def ZbT:V->Bool
 | .non=>true
 | .bl _=>true
 | .int _=>true
 | .str _=>true
 | _=>false
def eqV:V->V->Bool
 | .non,.non=>true
 | .bl a,.bl b=>a==b
 | .bl a,.int b=>(if a then 1 else 0)==b
 | .int a,.bl b=>a==(if b then 1 else 0)
 | .int a,.int b=>a==b
 | .str a,.str b=>a==b
 | _,_=>false
theorem Zv3{A:Around}{s:Shared}{y x:V}{u v:Value}(ry:RelV y u)(rx:RelV x v)(fy:ZbT y=true)(fx:ZbT x=true):SeqAt.EqAt A s u v (eqV y x):=by
 cases y with
 | non =>
  cases ry;cases x with
  | non=>cases rx; exact SeqAt.EqAt.same _
  | bl b=>cases rx; exact SeqAt.EqAt.none_bool b
  | int b=>obtain⟨t,rfl⟩:=rx; exact SeqAt.EqAt.none_int b t
  | str b=>obtain⟨t,rfl⟩:=rx; exact SeqAt.EqAt.none_str b t
  | _=>exact absurd (show false=true from fx) ZzA
 | bl a =>
  cases ry;cases x with
  | non=>cases rx; exact SeqAt.EqAt.bool_none a
  | bl b=>cases rx; exact SeqAt.EqAt.bool_bool a b
  | int b=>obtain⟨t,rfl⟩:=rx; exact SeqAt.EqAt.bool_int a b t
  | str b=>obtain⟨t,rfl⟩:=rx; exact SeqAt.EqAt.bool_str a b t
  | _=>exact absurd (show false=true from fx) ZzA
 | int a =>
  obtain⟨t',rfl⟩:=ry;cases x with
  | non=>cases rx; exact SeqAt.EqAt.int_none a t'
  | bl b=>cases rx; exact SeqAt.EqAt.int_bool a t' b
  | int b=>obtain⟨t,rfl⟩:=rx; exact SeqAt.EqAt.int_int a t' b t
  | str b=>obtain⟨t,rfl⟩:=rx; exact ZDO a t' b t
  | _=>exact absurd (show false=true from fx) ZzA
 | str a =>
  obtain⟨t',rfl⟩:=ry;cases x with
  | non=>cases rx; exact SeqAt.EqAt.str_none a t'
  | bl b=>cases rx; exact SeqAt.EqAt.str_bool a t' b
  | int b=>obtain⟨t,rfl⟩:=rx; exact ZDP a t' b t
  | str b=>obtain⟨t,rfl⟩:=rx; exact SeqAt.EqAt.str_str a t' b t
  | _=>exact absurd (show false=true from fx) ZzA
 | _=>exact absurd (show false=true from fy) ZzA
def eqU(x:V)(u:Value):Bool:=match u with
 | .none=>eqV .non x
 | .bool b=>eqV (.bl b) x
 | .int i _=>eqV (.int i) x
 | .str z _=>eqV (.str z) x
 | _=>false
theorem Zsn{x y:V}{u:Value}(r:RelV y u)(f:ZbT y=true):eqU x u=eqV y x:=by
 cases y with
 | non=>cases r; rfl
 | bl b=>cases r; rfl
 | int i=>obtain⟨t,rfl⟩:=r; rfl
 | str z=>obtain⟨t,rfl⟩:=r; rfl
 | _=>exact absurd (show false=true from f) ZzA
theorem ZlL{x:V}:∀{xs:List V} {us:List Value},Vals xs us->xs.all ZbT=true->us.any (eqU x)=xs.any λy=>eqV y x
 | _,_,.nil,_=>rfl
 | y::xs,u::us,.cons r t,f=>by rw[ZzV,Zy5]at f;rw[ZBo,ZBo,Zsn r f.1,ZlL t f.2]
theorem Zkv{A:Around}{s:Shared}{x:V}{v:Value}(rx:RelV x v)(fx:ZbT x=true):∀{xs:List V} {us:List Value},Vals xs us->xs.all ZbT=true->∀u∈us,SeqAt.EqAt A s u v (eqU x u)
 | _,_,.nil,_=>λu hu=>by cases hu
 | y::xs,u::us,.cons r t,f=>λu' hu=>by
  rw[ZzV,Zy5]at f;rcases Zzb.mp hu with rfl | hu
  ·rw[Zsn r f.1]; exact Zv3 r rx f.1 fx
  ·exact Zkv rx fx t f.2 u' hu
def inV(x:V)(xs:List V):Bool:=xs.any λy=>eqV y x
def rIn(K:ZyK)(neg:Bool):R2:=λx y H Q=>∃p xs,y=.ref p/\(SqL K H p xs\/SqT K H p xs)/\ZbT x=true/\xs.all ZbT=true/\Q (.bl (if neg then !inV x xs else inV x xs)) H
theorem ZsU:OpR X (ZAk .In) (rIn X.K false):=by
 intro pins s σ H x y v u Q I rx ry h;obtain⟨p,xs,rfl,hq,fx,fs,q⟩:=h;cases ry;rcases hq with hq | hq
 ·obtain⟨its,r,pl,hz⟩:=I.list hq
  refine SeqAt.in_listAt (eqU x) pl.isList (λw hw=>Zkv rx fx r fs w (by simpa using hw)) ⟨.bl _,H,I,rfl,?_⟩;rw[show its.toArray.any (eqU x)=its.any (eqU x) by simp,ZlL r fs];exact q
 ·obtain⟨its,r,pl,hz⟩:=I.tuple hq
  refine SeqAt.in_tupleAt (eqU x) pl (λw hw=>Zkv rx fx r fs w (by simpa using hw)) ⟨.bl _,H,I,rfl,?_⟩;rw[show its.toArray.any (eqU x)=its.any (eqU x) by simp,ZlL r fs];exact q
theorem Zn9:ZaM X (.builtin "len") (λxs H Q=>∃p ys,xs=[.ref p]/\(SqL X.K H p ys\/SqT X.K H p ys)/\Q (.int ys.length) H):=by
 intro pins s σ H xs us Q I r h;obtain⟨p,ys,rfl,hq,q⟩:=h;obtain⟨u,rfl,rx⟩:=vals1 r;cases rx;have hn:=Zi4;rcases hq with hq | hq
 ·obtain⟨its,r',pl,hz⟩:=I.list hq
  have hlen:=r'.length;exact Calls.call_len_list pl.isList (by simp only[ZyX]<;>omega) ⟨.int ys.length,H,I.tok _,⟨s.toks+1,by rw[ZyX,hlen]⟩,q⟩
 ·obtain⟨its,r',pl,hz⟩:=I.tuple hq
  have hlen:=r'.length;exact len_tuple pl (by simp only[ZyX]<;>omega) ⟨.int ys.length,H,I.tok _,⟨s.toks+1,by rw[ZyX,hlen]⟩,q⟩
theorem ZaM.or{f:Value}{r r':List V->Hp->VK->Prop}(h:ZaM X f r)(h':ZaM X f r'):ZaM X f (λxs H Q=>r xs H Q\/r' xs H Q):=by
 intro pins s σ H xs us Q I rs q;rcases q with q | q
 ·exact h pins s σ H xs us Q I rs q
 ·exact h' pins s σ H xs us Q I rs q
theorem Zos:ZaM X (.type "list") (λxs H Q=>∃p ys,xs=[.ref p]/\(SqL X.K H p ys\/SqT X.K H p ys)/\∀l,H l=none->Q (.ref l) (upd H l (.lst ys))):=by
 intro pins s σ H xs us Q I r h;obtain⟨p,ys,rfl,hq,q⟩:=h;obtain⟨u,rfl,rx⟩:=vals1 r;cases rx;have fin:∀(its:List Value),Vals ys its->ys.length<=sizeLine->∀(h':Heap) (c':Nat),(∀b o',s.heap.get? b=some o'->h'.get? b=some o') ->
   h'.get? s.heap.objs.size=some { cls:=.type "list",dict:=none,data:=.seq its.toArray c',slots:=#[] }->EP X pins σ Q (.ref s.heap.objs.size) { s with heap:=h' }:=λits r' hz h' c' kp e =>
  ⟨.ref s.heap.objs.size,_,I.laid (t':=s.toks) kp (ZyT _) (show Z1 X.prog X.w _ h' _ (.lst ys) from⟨hz,its,c',r',e⟩),rfl,q _ (I.hok.fresh (ZyT _))⟩
 rcases hq with hq | hq
 ·obtain⟨its,r',pl,hz⟩:=I.list hq
  have hlen:=r'.length;obtain⟨o,ho,hc,n,hd⟩:=pl.isList;exact call_list_seq p (.inl rfl) ho hc hd (λh' c' kp e=>fin its r' hz h' c' kp e) (by simp only[ZyX]<;>omega)
 ·obtain⟨its,r',pl,hz⟩:=I.tuple hq
  have hlen:=r'.length;obtain⟨o,ho,hc,n,hd⟩:=pl;exact call_list_seq p (.inr rfl) ho hc hd (λh' c' kp e=>fin its r' hz h' c' kp e) (by simp only[ZyX]<;>omega)
theorem Zm4:ZaM X (.type "tuple") (λxs H Q=>∃p ys,xs=[.ref p]/\((SqL X.K H p ys/\∀l,H l=none->Q (.ref l) (upd H l (.tup ys)))\/(SqT X.K H p ys/\Q (.ref p) H))):=by
 intro pins s σ H xs us Q I r h;obtain⟨p,ys,rfl,h⟩:=h;obtain⟨u,rfl,rx⟩:=vals1 r;cases rx;rcases h with⟨hq,q⟩ | ⟨hq,q⟩
 ·obtain⟨its,r',pl,hz⟩:=I.list hq
  have hlen:=r'.length;refine call_tuple_list pl.isList (λh' kp=>?_) (by simp only[ZyX]<;>omega);have I1:Inv X pins σ H { s with heap:=h' }:=I.kept (t':=s.toks) kp;have I2:Inv X pins σ (upd H h'.objs.size (.tup ys)) { s with heap:=h'.push { cls:=.type "tuple",data:=.seq its.toArray } } :=
   I1.laid (t':=s.toks) (λb o e=>ZyN _ e) (ZyT _) (show Z1 X.prog X.w _ _ _ (.tup ys) from⟨hz,its,r',ZDR _ _⟩)
  exact⟨.ref h'.objs.size,_,I2,rfl,q _ (I1.hok.fresh (ZyT _))⟩
 ·obtain⟨its,r',pl,hz⟩:=I.tuple hq
  exact call_tuple_same pl ⟨.ref p,H,I,rfl,q⟩
def tyV(K:ZyK)(T:String)(x:V)(H:Hp):Prop:=match x with
 | .str _=>T = "str"
 | .int _=>T = "int"
 | .ref p=>(T = "list"/\∃xs,SqL K H p xs)\/(T = "tuple"/\∃o,K.lookup p=some o/\o.cls=.type "tuple"/\o.dict=none) \/
   (T = "dict"/\((∃kvs,H p=some (.dK kvs))\/∃kvs,H p=some (.dT kvs)))\/(T = "set"/\∃S n,H p=some (.set S n))
 | _=>False
theorem ZrQ{pins:List (Addr × Obj)}{σ:St}{H:Hp}{s:Shared}{T:String}{x:V}{v:Value}(I:Inv X pins σ H s)(r:RelV x v)(ty:tyV X.K T x H) :
  s.TypeIs v T/\∀a,v=.ref a->∃ob,s.heap.get? a=some ob/\ob.dict=none:=by
 cases x with
 | str z=>obtain⟨t,rfl⟩:=r;cases(show T = "str" from ty);exact⟨typeIs_str s z t,λ_ e=>nomatch e⟩
 | int i=>obtain⟨t,rfl⟩:=r;cases(show T = "int" from ty);exact⟨typeIs_int s i t,λ_ e=>nomatch e⟩
 | ref p =>
  cases r;rcases ty with⟨rfl,xs,hq⟩ | ⟨rfl,o,hk,hc,hd⟩ | ⟨rfl,hk⟩ | ⟨rfl,S,n,hk⟩
  ·obtain⟨its,_,pl,_⟩:=I.list hq
   refine⟨pl.isList.typeIs,λa e=>?_⟩;cases e;obtain⟨o,n,e,c,hd,_⟩:=pl;exact⟨o,e,hd⟩
  ·refine⟨⟨o,I.kIn p o hk,hc⟩,λa e=>?_⟩
   cases e;exact⟨o,I.kIn _ o hk,hd⟩
  ·have z:∃o,s.heap.get? p=some o/\o.ExactDict:=by
    rcases hk with⟨kvs,hk⟩ | ⟨kvs,hk⟩
    ·obtain⟨_,_,_,_,o,_,_,e,ex,_⟩:=I.hok p _ hk
     exact⟨o,e,ex⟩
    ·obtain⟨_,_,_,_,o,_,_,e,ex,_⟩:=I.hok p _ hk
     exact⟨o,e,ex⟩
   obtain⟨o,e,ex⟩:=z;refine⟨⟨o,e,ex.1⟩,λa e2=>?_⟩;cases e2;exact⟨o,e,ex.2.1⟩
  ·obtain⟨o,_,_,_,e,ex,_⟩:=I.hok p _ hk
   refine⟨⟨o,e,ex.1⟩,λa e2=>?_⟩;cases e2;exact⟨o,e,ex.2.1⟩
 | _=>exact ZzZ ty
def Zx5(K:ZyK)(T:String)(r:V->List V->Hp->VK->Prop)(to:TE):TE:=λσ H Q=>to σ H λx H1=>tyV K T x H1/\r x [] H1 Q
def tBM(K:ZyK)(T:String)(r:V->List V->Hp->VK->Prop)(to:TE)(t:TA):TE:=λσ H Q=>to σ H λx H1=>tyV K T x H1/\t σ H1 λxs H2=>r x xs H2 Q
variable{o e:Expr}{es:List Expr}{to:TE}{t:TA}{name:Str}{apos cpos:Pos}{T id:String}{r:V->List V->Hp->VK->Prop}
theorem ZwE(pa:PlainAttrs T)(slot:Slot T name id)(hty:typeOf (.builtin id)=pure (.type "method_descriptor"))(hm:MtR X id r)(ho:PE X o to)
  (hbase:ZBp o name X.env (eval o X.env)=eval o X.env:=by rfl) (hline:(apos.endLine==cpos.line)=true:=by rfl):PE X (.Call (.Attribute o name apos) [] [] cpos) (Zx5 X.K T r to):=by
 intro pins s σ H Q I h;refine wpAny_Call_method0_late hbase hline (thn (ho pins s σ H _ I h) λv s1 ⟨x,H1,I1,r1,ty,q1⟩=>?_);obtain⟨h1,h2⟩:=ZrQ I1 r1 ty;exact⟨T,id,pa,slot,hty,h1,h2,ZB5 rfl (PySem.evalArgs_none (hm pins s1 σ H1 x [] v [] Q I1 r1 .nil q1))⟩
theorem Zrv(pa:PlainAttrs T)(slot:Slot T name id)(hty:typeOf (.builtin id)=pure (.type "method_descriptor"))(hm:MtR X id r)(ho:PE X o to)(ha:PA X (e::es) t)
  (hbase:ZBp o name X.env (eval o X.env)=eval o X.env:=by rfl)
  (hfew:((backTo cpos (Zy0 (e::es) X.env)).all (λx=>!x.1)&&(backToKw cpos (ZCB [] X.env)).all (λx=>x.1.isSome)
   && decide ((e::es).length+([]:List Keyword).length+(if([]:List Keyword).isEmpty then 0 else 1)<30))=true:=by rfl)
  (hline:(apos.endLine==cpos.line)=true:=by rfl) (hs:Zy0 (e::es) X.env=(false,eval e X.env)::Zy0 es X.env:=by rfl) (hplain:(backTo cpos (Zy0 es X.env)).any (·.1)=false:=by rfl) :
  PE X (.Call (.Attribute o name apos) (e::es) [] cpos) (tBM X.K T r to t):=by
 intro pins s σ H Q I h;refine wpAny_Call_method_late hbase hfew hline rfl (thn (ho pins s σ H _ I h) λv s1 ⟨x,H1,I1,r1,ty,q1⟩=>?_);obtain⟨h1,h2⟩:=ZrQ I1 r1 ty;refine⟨T,id,pa,slot,hty,h1,h2,?_⟩;have hA:=ha cpos pins s1 σ H1 _ I1 q1;rw[hs]at hA ⊢;refine ZB5 (by show(false||(backTo cpos (Zy0 es X.env)).any (·.1))=false; rw[hplain]<;>rfl) (ZDI ?_);exact thn hA λus s2 ⟨vs,H2,I2,r2,q2⟩=>hm pins s2 σ H2 x vs v us Q I2 r1 r2 q2
end
end L2
namespace L2
open PySem PySem.Spec PyProof.Rows
def MtM(X:Cx)(id:String)(r:V->List V->Hp->VK->Prop):Prop :=
 ∀(pins:List (Addr × Obj)) (s:Shared) (σ:St) (H:Hp) (x:V) (xs:List V) (v:Value) (us:List Value) (Q:VK),Inv X pins σ H s->RelV x v->Vals xs us->r x xs H Q ->
  wpAny (model X.prog X.w) X.A (call (.builtin id) (v::us)) (EP X pins σ Q) X.xe s
theorem Vals.one:∀{x:V} {us:List Value},Vals [x] us->∃u,us=[u]/\RelV x u
 | _,_,.cons r .nil=>⟨_,rfl,r⟩
theorem Vals.zero:∀{us:List Value},Vals [] us->us=[]
 | _,.nil=>rfl
theorem Vals.dropLast{xs:List V}{us:List Value}(h:Vals xs us):Vals xs.dropLast us.dropLast:=by
 induction h with
 | nil=>exact .nil
 | cons r t ih =>
  cases t with
  | nil=>exact .nil
  | cons q t'=>exact .cons r ih
theorem Vals.rep{xs:List V}{us:List Value}(h:Vals xs us):∀k:Nat,Vals (Zzo k xs).flatten (Zzo k us).flatten
 | 0=>.nil
 | k+1=>by rw[ZAA,ZAA,ZA7,ZA7];exact Vals.append h (Vals.rep h k)
theorem Zrt{α:Type}(l:List α):l.eraseIdx (l.length-1)=l.dropLast:=by
 induction l with
 | nil=>rfl
 | cons a r ih =>
  cases r with
  | nil=>rfl
  | cons b r =>
   have e:(a::b::r).length-1=((b::r).length-1)+1:=by have h1:(a::b::r).length=r.length+2:=rfl;have h2:(b::r).length=r.length+1:=rfl;omega
   rw[e,List.eraseIdx_cons_succ,ih]
   all_goals rfl
theorem foldl_rep(its:List Value):∀(k:Nat) (acc:List Value),
  List.foldl (λx1 x2=>x1++x2) acc.toArray (Zzo k its.toArray)=(acc++(Zzo k its).flatten).toArray
 | 0,acc=>by simp
 | k+1,acc=>by
  have e:acc.toArray++its.toArray=(acc++its).toArray:=by simp
  have e2:(acc++its)++(Zzo k its).flatten=acc++(Zzo (k+1) its).flatten:=by rw[ZAA,ZA7,ZAQ]
  rw[<-e2,<-foldl_rep its k (acc++its),<-e,ZAA,ZAM]
section
variable{X:Cx}{pins:List (Addr × Obj)}{σ:St}{H:Hp}{s:Shared}{l b:Addr}{xs ys zs:List V}
theorem Inv.lset{its its':List Value}{n:Nat}{f:Array Value->Array Value}{t':Nat}(I:Inv X pins σ H s)(hH:H l=some (.lst xs))
  (e:s.heap.get? l=some { cls:=.type "list",data:=.seq its.toArray n }) (hf:f its.toArray=its'.toArray) (hv:Vals ys its') (hz:ys.length<=sizeLine) :
  Inv X pins σ (upd H l (.lst ys)) { s with heap:=s.heap.update l (ZBr f),toks:=t' }:=by
 have q:=PySem.IsL.update e f;rw[hf]at q;refine I.write (x:=l) (e:=l) (by rw[hH]; exact trivial) (.inl rfl) (λb' u hb hu=>(ZAi s.heap (ZBr f) (ZzX hb)).trans hu) ⟨_,q⟩ ?_;exact⟨hz,its',_,hv,q⟩
theorem Inv.lnew{its:List Value}{t':Nat}(I:Inv X pins σ H s)(hv:Vals ys its)(hz:ys.length<=sizeLine) :
  Inv X pins σ (upd H s.heap.objs.size (.lst ys)) { s with heap:=s.heap.push { cls:=.type "list",data:=.seq its.toArray },toks:=t' } :=
 I.laid (λ_ _ q=>ZyN _ q) (ZyT _) ⟨hz,its,0,hv,Zy4 _ rfl⟩
theorem Inv.fresh(I:Inv X pins σ H s):H s.heap.objs.size=none:=I.hok.fresh (ZyT _)
theorem Inv.lstM(I:Inv X pins σ H s)(hH:H l=some (.lst xs)):xs.length<=sizeLine/\∃(its:List Value) (n:Nat),Vals xs its/\xs.length=its.length/\s.heap.get? l=some { cls:=.type "list",data:=.seq its.toArray n }:=by obtain⟨z,its,n,r,e⟩:=I.hok l _ hH;exact⟨z,its,n,r,r.length,e⟩
theorem Zok{n:Nat}(h:n<=sizeLine):ZBe n=false:=by unfold ZBe;exact decide_eq_false (by omega)
end
section
variable{X:Cx}
def Zqh:V->List V->Hp->VK->Prop:=λx vs H Q=>∃l xs y,x=.ref l/\vs=[y]/\H l=some (.lst xs)/\xs.length<sizeLine/\Q .non (upd H l (.lst (xs++[y])))
theorem Zi8:MtM X "list.append" Zqh:=by intro pins s σ H x vs v us Q I rx rv h;obtain⟨l,xs,y,rfl,rfl,hH,hz,q⟩:=h;cases rx;obtain⟨u,rfl,ru⟩:=rv.one;obtain⟨z,its,n,r,hl,e⟩:=I.lstM hH;refine ZCZ F.slot_list_append ⟨_,e,rfl⟩ F.entry_list_append (F.args_list_append_2 _ _) (PySem.list_append l its.toArray n u (by rw[ZyX]; omega)) ⟨e,?_⟩;refine⟨.non,_,I.lset (its':=its++[u]) hH e (by simp) (r.append (.cons ru .nil)) ?_,rfl,q⟩;rw[Zy8,ZAc];omega
def Zvn:V->List V->Hp->VK->Prop:=λx vs H Q=>∃l b xs zs,x=.ref l/\vs=[.ref b]/\H l=some (.lst xs)/\H b=some (.lst zs)/\xs.length+zs.length<=sizeLine/\Q .non (upd H l (.lst (xs++zs)))
theorem Zs2:MtM X "list.extend" Zvn:=by
 intro pins s σ H x vs v us Q I rx rv h;obtain⟨l,b,xs,zs,rfl,rfl,hH,hB,hz,q⟩:=h;cases rx;obtain⟨u,rfl,ru⟩:=rv.one;cases ru;obtain⟨z,its,n,r,hl,e⟩:=I.lstM hH;obtain⟨z2,its2,n2,r2,hl2,e2⟩:=I.lstM hB;have hsz:its.toArray.size+its2.toArray.size<=sizeLine:=by rw[ZyX,ZyX]; omega
 have hlong:¬(!its.toArray.isEmpty&&ZBe (its.toArray.size+its2.toArray.size))=true:=by rw[Zok hsz,Bool.and_false];exact ZzA
 refine ZCZ F.slot_list_extend ⟨_,e,rfl⟩ F.entry_list_extend (F.args_list_extend_2 _ _)
  (AutoSeq1.list_extend_list_list_0 l its.toArray n b its2.toArray n2 hlong (by rw[ZyX]; omega) (by omega)) ⟨e,e2,?_⟩
 refine⟨.non,_,I.lset (its':=its++its2) hH e (by simp) (r.append r2) ?_,rfl,q⟩;rw[Zy8];omega
def Zyl:V->List V->Hp->VK->Prop:=λx vs H Q=>∃l xs y,x=.ref l/\vs=[]/\H l=some (.lst xs)/\xs[xs.length-1]?=some y/\Q y (upd H l (.lst xs.dropLast))
theorem ZwJ:MtM X "list.pop" Zyl:=by
 intro pins s σ H x vs v us Q I rx rv h;obtain⟨l,xs,y,rfl,rfl,hH,hy,q⟩:=h;cases rx;have hus:=rv.zero;subst hus;obtain⟨z,its,n,r,hl,e⟩:=I.lstM hH;obtain⟨u,hu,ru⟩:=r.get hy;have hy':its.toArray[its.toArray.size-1]?=some u:=by show its.toArray[its.length-1]?=some u;rw[<-Zzy,<-hl];exact hu
 refine ZCZ F.slot_list_pop ⟨_,e,rfl⟩ F.entry_list_pop (F.args_list_pop_1 _) (MeetsSeq.list_pop_last l its.toArray n u hy' (by rw[ZyX]; omega)) ⟨e,?_⟩;refine⟨y,_,I.lset (its':=its.dropLast) hH e ?_ r.dropLast ?_,ru,q⟩
 ·show its.toArray.eraseIdxIfInBounds (its.toArray.size-1)=its.dropLast.toArray
  rw[ZyX,List.eraseIdxIfInBounds_toArray,Zrt]
 ·rw[List.length_dropLast]
  omega
def Zym:R2:=λx y H Q=>∃l b xs zs,x=.ref l/\y=.ref b/\H l=some (.lst xs)/\H b=some (.lst zs)/\xs.length+zs.length<=sizeLine/\∀p,H p=none->Q (.ref p) (upd H p (.lst (xs++zs)))
theorem ZvO:OpR X (ZBG .Add) Zym:=by
 intro pins s σ H x y v u Q I rx ry h;obtain⟨l,b,xs,zs,rfl,rfl,hH,hB,hz,q⟩:=h;cases rx;cases ry;obtain⟨z,its,n,r,hl,e⟩:=I.lstM hH;obtain⟨z2,its2,n2,r2,hl2,e2⟩:=I.lstM hB;refine PySem.P.add_list e e2 ?_ (by rw[ZyX,ZyX]; omega);have ea:its.toArray++its2.toArray=(its++its2).toArray:=by simp
 rw[ea];exact⟨.ref _,_,I.lnew (t':=s.toks) (r.append r2) (by rw[Zy8]; omega),rfl,q _ I.fresh⟩
def Zyd:R2:=λx y H Q=>∃l k xs,x=.ref l/\y=.int k/\H l=some (.lst xs)/\-(2 ^ 63)<=k/\k<2 ^ 63/\xs.length*k.toNat<=sizeLine /\
 ∀p,H p=none->Q (.ref p) (upd H p (.lst (Zzo k.toNat xs).flatten))
theorem len_rep{α:Type}(xs:List α)(k:Nat):(Zzo k xs).flatten.length=k*xs.length:=by
 induction k with
 | zero=>simp
 | succ k ih=>rw[ZAA,ZA7,Zy8,ih,Nat.succ_mul,Nat.add_comm]
theorem ZwY:OpR X (ZBG .Mult) Zyd:=by
 intro pins s σ H x y v u Q I rx ry h;obtain⟨l,k,xs,rfl,rfl,hH,h1,h2,hz,q⟩:=h;cases rx;obtain⟨t,rfl⟩:=ry;obtain⟨z,its,n,r,hl,e⟩:=I.lstM hH;have hlen:its.toArray.size*k.toNat<=sizeLine:=by rw[ZyX,<-hl]; exact hz
 have hcap:¬its.toArray.size*k.toNat > (2 ^ 63-1) / 8:=by
  have:(sizeLine:Nat)<=(2 ^ 63-1) / 8:=by decide
  omega
 have hfit:¬(!Builtin.List.listFitsIndex k)=true:=by rw[fitsIndex_both h1 h2];exact ZzA
 have hlong:¬ZBe (its.toArray.size*k.toNat)=true:=by rw[Zok hlen];exact ZzA
 have hnew:List.foldl (λx1 x2=>x1++x2) #[] (Zzo (if its.toArray.isEmpty=true then 0 else k.toNat) its.toArray)=(Zzo k.toNat its).flatten.toArray:=by
  have f0:∀m:Nat,List.foldl (λx1 x2=>x1++x2) #[] (Zzo m its.toArray)=(Zzo m its).flatten.toArray:=λm=>by have:=foldl_rep its m [];rw[ZA0]at this;exact this
  rw[f0];cases its with
  | nil=>simp
  | cons a r'=>rw[if_neg (by simp)]
 refine wpAny_binaryOp_repeat_ref (T:="list") (U:="int") (by decide) ⟨_,e,rfl⟩ (λs'=>typeIs_int s' k t) noFill_list_mul F.fills_int_mul F.slot_int_rmul repeat_list F.slot_int_index.lookup
  (ZCZ F.slot_int_rmul (typeIs_int s k t) F.entry_int_rmul (F.args_int_rmul_2 _ _) (int___rmul___int_list k t l its.toArray n)
   ⟨e,rfl,⟨_,e,rfl⟩,ZCZ F.slot_list_mul ⟨_,e,rfl⟩ F.entry_list_mul (F.args_list_mul_2 _ _) (AutoListH.list___mul___list_int_3 l its.toArray n k t hfit hcap hlong) ⟨e,?_⟩⟩)
 rw[hnew];exact⟨.ref _,_,I.lnew (t':=s.toks) (r.rep k.toNat) (by rw[len_rep,Nat.mul_comm]; exact hz),rfl,q _ I.fresh⟩
end
end L2
namespace L2
open PySem PySem.Spec PyProof.Rows
section
variable{κ:Type}[DecidableEq κ]
def ZaR(kvs:List (κ × V))(k:κ):Option V:=(kvs.find? λkv=>decide (kv.1=k)).map (·.2)
def putK(kvs:List (κ × V))(k:κ)(v:V):List (κ × V) :=
 if(kvs.any λkv=>decide (kv.1=k))=true then kvs.map (λkv=>if kv.1=k then(kv.1,v)else kv)else kvs++[(k,v)]
theorem Zeh{p:κ × V}{r:List (κ × V)}{k:κ}(e:p.1=k):ZaR (p::r) k=some p.2:=by simp[ZaR,ZzG,e]
theorem Zee{p:κ × V}{r:List (κ × V)}{k:κ}(e:¬p.1=k):ZaR (p::r) k=ZaR r k:=by simp[ZaR,ZzG,e]
theorem Zkn(k:κ):∀kvs:List (κ × V),(kvs.any λkv=>decide (kv.1=k))=(ZaR kvs k).isSome
 | []=>rfl
 | p::r=>by
  rw[ZBo]
  by_cases e:p.1=k
  ·simp only[Zeh e,decide_eq_true e,Bool.true_or,Option.isSome_some]
  ·rw[Zee e,decide_eq_false e,ZB8]; exact Zkn k r
theorem Zhd(kvs:List (κ × V))(k:κ)(v:V):(putK kvs k v).length<=kvs.length+1:=by
 unfold putK;split
 ·rw[ZyJ]; omega
 ·rw[Zy8,Zy3,ZDm]; omega
theorem Zhh.isSome_eq{o:Option V}{u:Option Value}(r:Zhh o u):o.isSome=u.isSome:=by
 cases o with
 | none=>cases u with
  | none=>rfl
  | some _=>exact(show False from r).elim
 | some _=>cases u with
  | none=>exact(show False from r).elim
  | some _=>rfl
theorem KV.val{kvs:List (κ × V)}{vs:List (κ × Value)}(r:KV kvs vs)(k:κ):Zhh (ZaR kvs k) (valueAt vs k):=by
 unfold KV at r
 induction r with
 | nil=>exact ZBU
 | @cons p q ps qs h t ih =>
  obtain⟨h1,h2⟩:=h
  by_cases e:p.1=k
  ·have e':q.1=k:=h1.symm.trans e
   have b:valueAt (q::qs) k=some q.2:=by simp[valueAt,ZzG,e']
   rw[Zeh e,b]; exact h2
  ·have e':¬q.1=k:=λz=>e (h1.trans z)
   have b:valueAt (q::qs) k=valueAt qs k:=by simp[valueAt,ZzG,e']
   rw[Zee e,b]; exact ih
theorem KV.any{kvs:List (κ × V)}{vs:List (κ × Value)}(r:KV kvs vs)(k:κ):(kvs.any λkv=>decide (kv.1=k))=vs.any λkv=>decide (kv.1=k):=by
 unfold KV at r
 induction r with
 | nil=>rfl
 | cons h t ih=>rw[ZBo,ZBo,ih,h.1]
theorem KV.repl{kvs:List (κ × V)}{vs:List (κ × Value)}(r:KV kvs vs)(k:κ){y:V}{u:Value}(ry:RelV y u) :
  KV (kvs.map λkv=>if kv.1=k then(kv.1,y)else kv) (vs.map λkv=>if kv.1=k then(kv.1,u)else kv):=by
 unfold KV at r ⊢
 induction r with
 | nil=>exact .nil
 | @cons p q ps qs h t ih =>
  rw[ZyS,ZyS];refine .cons ?_ ih;obtain⟨h1,h2⟩:=h
  by_cases e:p.1=k
  ·rw[if_pos e,if_pos (h1.symm.trans e)]; exact⟨h1,ry⟩
  ·rw[if_neg e,if_neg (λz=>e (h1.trans z))]; exact⟨h1,h2⟩
theorem KV.put{kvs:List (κ × V)}{vs:List (κ × Value)}(r:KV kvs vs)(k:κ){y:V}{u:Value}(ry:RelV y u):KV (putK kvs k y) (stored vs k u):=by
 unfold putK stored;rw[r.any k]
 by_cases e:(vs.any λkv=>decide (kv.1=k))=true
 ·rw[if_pos e,if_pos e]; exact r.repl k ry
 ·rw[if_neg e,if_neg e]; exact Paired.snoc r ⟨rfl,ry⟩
theorem KV.length{kvs:List (κ × V)}{vs:List (κ × Value)}(r:KV kvs vs):kvs.length=vs.length:=ZAS r
end
theorem ZjC{P:Program}{w:World}{k:Key}{u:Value}(r:RelV (kV k) u):(ZaN P w).is k u=true:=by
 cases k with
 | inl i=>obtain⟨t,e⟩:=(show ∃t,u=ZAH i t from r); subst e; exact ZpQ P w i t
 | inr x=>obtain⟨t,e⟩:=(show ∃t,u=Value.str x t from r); subst e; exact ZpY P w x t
theorem Zmh{P:Program}{w:World}:∀{ks:List Key} {us:List Value},Vals (ks.map kV) us->ItemsAre (ZaN P w) ks us
 | [],_,r=>by rw[ZAN]at r; cases r; exact .nil
 | k::ks,_,r=>by
  rw[ZyS]at r;cases r with
  | cons h t=>exact .cons (ZjC h) (Zmh t)
abbrev KT(H:Hp):List (List Key × V)->List (List Key × Addr × Value)->Prop:=Paired λp q=>p.1=q.1/\H q.2.1=some (.tup (p.1.map kV))/\RelV p.2 q.2.2
theorem KT.val{H:Hp}{kvs:List (List Key × V)}{xs:List (List Key × Addr × Value)}(r:KT H kvs xs)(k:List Key):Zhh (ZaR kvs k) ((atKey xs k).map (·.2)):=by
 induction r with
 | nil=>exact ZBU
 | @cons p q ps qs h t ih =>
  obtain⟨h1,_,h2⟩:=h
  by_cases e:p.1=k
  ·have e':q.1=k:=h1.symm.trans e
   have b:atKey (q::qs) k=some q.2:=by simp[atKey,ZzG,e']
   rw[Zeh e,b]; exact h2
  ·have e':¬q.1=k:=λz=>e (h1.trans z)
   have b:atKey (q::qs) k=atKey qs k:=by simp[atKey,ZzG,e']
   rw[Zee e,b]; exact ih
theorem KT.repl{H:Hp}{kvs:List (List Key × V)}{xs:List (List Key × Addr × Value)}(r:KT H kvs xs)(k:List Key){y:V}{u:Value}(ry:RelV y u) :
  KT H (kvs.map λkv=>if kv.1=k then(kv.1,y)else kv) (xs.map (putAt k u)):=by
 induction r with
 | nil=>exact .nil
 | @cons p q ps qs h t ih =>
  rw[ZyS,ZyS];refine .cons ?_ ih;obtain⟨h1,h2,h3⟩:=h;unfold putAt
  by_cases e:p.1=k
  ·rw[if_pos e,if_pos (h1.symm.trans e)]; exact⟨h1,h2,ry⟩
  ·rw[if_neg e,if_neg (λz=>e (h1.trans z))]; exact⟨h1,h2,h3⟩
theorem KT.put{H:Hp}{kvs:List (List Key × V)}{xs:List (List Key × Addr × Value)}(r:KT H kvs xs)(k:List Key){b:Addr}{y:V}{u:Value}(hb:H b=some (.tup (k.map kV)))(ry:RelV y u) :
  KT H (putK kvs k y) (storedH xs k b u):=by
 have e:(kvs.any λkv=>decide (kv.1=k))=(atKey xs k).isSome:=by rw[Zkn,(r.val k).isSome_eq,Zz9]
 unfold putK storedH;rw[e]
 by_cases q:(atKey xs k).isSome=true
 ·rw[if_pos q,if_pos q]; exact r.repl k ry
 ·rw[if_neg q,if_neg q]; exact Paired.snoc r ⟨rfl,hb,ry⟩
theorem KT.keeps{H H':Hp}{kvs:List (List Key × V)}{xs:List (List Key × Addr × Value)}(r:KT H kvs xs)(ht:∀b ys,H b=some (.tup ys)->H' b=some (.tup ys)):KT H' kvs xs :=
 Paired.mapP r λ_ _ z=>⟨z.1,ht _ _ z.2.1,z.2.2⟩
section
variable{P:Program}{w:World}{H:Hp}{h:Heap}{a:Addr}
theorem Zlj{u:HO}(ok:HOk P w H h)(e:Rd H a u):Z1 P w H h a u:=e.ok ok
theorem Zii{kvs:List (Key × V)}(ok:HOk P w H h)(e:Rd H a (.dK kvs)):kvs.length<=sizeLine/\(a==Zz8)=false/\∃vs,KV kvs vs/\h.DictOf (ZaN P w) a vs :=
 show Z1 P w H h a (.dK kvs) from Zlj ok e
theorem Zrj{kvs:List (Key × V)}(ok:HOk P w H h)(e:H a=some (.dK kvs)):kvs.length<=sizeLine/\(a==Zz8)=false/\∃vs,KV kvs vs/\h.DictOf (ZaN P w) a vs:=Zii ok (.inl e)
theorem Zhz{ks:List Key}(ok:HOk P w H h)(e:H a=some (.tup (ks.map kV))):(ZCe (ZaN P w)).is h ks a:=by obtain⟨_,its,r,o,h1,h2,n,h3⟩:=(show Z1 P w H h a (.tup (ks.map kV)) from ok a _ e);exact⟨o,its.toArray,n,h1,h2,h3,by simpa using Zmh r⟩
theorem Zjr{kvs:List (List Key × V)}(ok:HOk P w H h)(e:Rd H a (.dT kvs)):kvs.length<=sizeLine/\(a==Zz8)=false /\
  ∃xs,KT H kvs xs/\h.DictOfH (ZCe (ZaN P w)) a xs:=by
 obtain⟨z,y,xs,r,o,es,ep,h1,h2,h3,h4,h5⟩:=(show Z1 P w H h a (.dT kvs) from Zlj ok e);refine⟨z,y,xs,r,o,es,ep,h1,h2,h3,h4,λx hx=>?_,h5⟩;have all:∀{l:List (List Key × V)} {m:List (List Key × Addr × Value)},KT H l m->∀x∈m,(ZCe (ZaN P w)).is h x.1 x.2.1:=by
  intro l m q
  induction q with
  | nil=>intro x hx; exact nomatch hx
  | @cons p q ps qs hq t ih =>
   intro x hx;rcases Zzb.mp hx with e | hx
   ·subst e
    exact Zhz ok (by rw[<-hq.1]; exact hq.2.1)
   ·exact ih x hx
 exact all r x hx
theorem Zuo{kvs:List (List Key × V)}(ok:HOk P w H h)(e:H a=some (.dT kvs)):kvs.length<=sizeLine/\(a==Zz8)=false /\
  ∃xs,KT H kvs xs/\h.DictOfH (ZCe (ZaN P w)) a xs:=Zjr ok (.inl e)
end
def Zei(H:Hp)(a:Addr)(y:V)(r:Option V):Prop :=
 (∃kvs k,Rd H a (.dK kvs)/\y=kV k/\r=ZaR kvs k)\/∃kvs k b,Rd H a (.dT kvs)/\y=.ref b/\H b=some (.tup (k.map kV))/\r=ZaR kvs k
def Zje(H:Hp)(a:Addr)(y v:V)(H':Hp):Prop :=
 (∃kvs k,H a=some (.dK kvs)/\y=kV k/\kvs.length<sizeLine/\H'=upd H a (.dK (putK kvs k v))) \/
 ∃kvs k b,H a=some (.dT kvs)/\y=.ref b/\H b=some (.tup (k.map kV))/\kvs.length<sizeLine/\H'=upd H a (.dT (putK kvs k v))
theorem Zei.k{H:Hp}{a:Addr}{kvs:List (Key × V)}{k:Key}(e:H a=some (.dK kvs)):Zei H a (kV k) (ZaR kvs k):=.inl ⟨kvs,k,.inl e,rfl,rfl⟩
theorem Zei.t{H:Hp}{a b:Addr}{kvs:List (List Key × V)}{k:List Key}(e:H a=some (.dT kvs))(eb:H b=some (.tup (k.map kV))):Zei H a (.ref b) (ZaR kvs k):=.inr ⟨kvs,k,b,.inl e,rfl,eb,rfl⟩
theorem Zje.k{H:Hp}{a:Addr}{kvs:List (Key × V)}{k:Key}{v:V}(e:H a=some (.dK kvs))(hl:kvs.length<sizeLine):Zje H a (kV k) v (upd H a (.dK (putK kvs k v))):=.inl ⟨kvs,k,e,rfl,hl,rfl⟩
theorem Zje.t{H:Hp}{a b:Addr}{kvs:List (List Key × V)}{k:List Key}{v:V}(e:H a=some (.dT kvs))(eb:H b=some (.tup (k.map kV)))(hl:kvs.length<sizeLine) :
  Zje H a (.ref b) v (upd H a (.dT (putK kvs k v))):=.inr ⟨kvs,k,b,e,rfl,eb,hl,rfl⟩
section
variable{X:Cx}{pins:List (Addr × Obj)}{σ:St}{H:Hp}{s:Shared}{a:Addr}{y v:V}{u r:Value}{o:Option V}{A:Around}{E:Value->Shared->Prop}
theorem Inv.big(I:Inv X pins σ H s):Zz8<s.heap.objs.size:=by have h:Zzr<s.heap.objs.size:=(I.mod.glob.keeps I.bk).lt;exact ZAO (by decide) h
theorem Zsg{Q:Value->Shared->Prop}(hu:A.units+1<cLine)(I:Inv X pins σ H s)(g:Zei H a y (some v))(ry:RelV y u)(h:∀w' s',Inv X pins σ H s'->RelV v w'->Q w' s') :
  wpAny (model X.prog X.w) A (getItem (.ref a) u) Q E s:=by
 rcases g with⟨kvs,k,e,ey,l⟩ | ⟨kvs,k,b,e,ey,eb,l⟩
 ·subst ey
  obtain⟨z,hd,vs,rel,dd⟩:=Zii I.hok e;obtain⟨w',hw,rw'⟩:=Zhh.some_of (v:=v) (o:=valueAt vs k) (by rw[l]; exact rel.val k);exact wpAny_getItem_of (ZjC ry) dd.mapOf hw (h w' _ (I.tok _) rw')
 ·subst ey
  cases(show u=ZzW b from ry);obtain⟨z,hd,xs,rel,dd⟩:=Zjr I.hok e;obtain⟨w',hw,rw'⟩:=Zhh.some_of (v:=v) (o:=(atKey xs k).map (·.2)) (by rw[l]; exact rel.val k);obtain⟨p,hp,hp2⟩:=ZyL.mp hw;refine wpAny_getItem_heap (ZBs hu) (Zhz I.hok eb) dd hp ?_;rw[hp2];exact h w' _ (I.tok _) rw'
theorem ZxX{Q:Value->Shared->Prop}(hu:A.units+1<cLine)(I:Inv X pins σ H s)(g:Zei H a y o)(ry:RelV y u)(h:∀s',Inv X pins σ H s'->Q (.bool o.isSome) s') :
  wpAny (model X.prog X.w) A (ZAk .In u (.ref a)) Q E s:=by
 rcases g with⟨kvs,k,e,ey,l⟩ | ⟨kvs,k,b,e,ey,eb,l⟩
 ·subst ey
  obtain⟨z,hd,vs,rel,dd⟩:=Zii I.hok e;refine wpAny_in_of (ZjC ry) hd dd.mapOf ?_;rw[<-(rel.val k).isSome_eq,<-l];exact h _ (I.tok _)
 ·subst ey
  cases(show u=ZzW b from ry);obtain⟨z,hd,xs,rel,dd⟩:=Zjr I.hok e;refine wpAny_in_heap (ZBs hu) (Zhz I.hok eb) hd dd ?_;have q:=(rel.val k).isSome_eq;rw[Zz9]at q;rw[<-q,<-l];exact h _ (I.tok _)
theorem ZuN{Q:Value->Shared->Prop}(hu:A.units+1<cLine)(I:Inv X pins σ H s)(g:Zei H a y o)(ry:RelV y u)(h:∀s',Inv X pins σ H s'->Q (.bool (!o.isSome)) s') :
  wpAny (model X.prog X.w) A (ZAk .NotIn u (.ref a)) Q E s:=by
 rcases g with⟨kvs,k,e,ey,l⟩ | ⟨kvs,k,b,e,ey,eb,l⟩
 ·subst ey
  obtain⟨z,hd,vs,rel,dd⟩:=Zii I.hok e;refine wpAny_notIn_of (ZjC ry) hd dd.mapOf ?_;rw[<-(rel.val k).isSome_eq,<-l];exact h _ (I.tok _)
 ·subst ey
  cases(show u=ZzW b from ry);obtain⟨z,hd,xs,rel,dd⟩:=Zjr I.hok e;refine wpAny_notIn_heap (ZBs hu) (Zhz I.hok eb) hd dd ?_;have q:=(rel.val k).isSome_eq;rw[Zz9]at q;rw[<-q,<-l];exact h _ (I.tok _)
theorem ZjH{h':Heap}{t':Nat}{ob:HO}(I:Inv X pins σ H s)(mu:Mut (H a))(hs:ZAL a s.heap h')(he:∃q,h'.get? a=some q)(new:Z1 X.prog X.w (upd H a ob) h' a ob) :
  Inv X pins σ (upd H a ob) { s with heap:=h',toks:=t' } :=
 I.write (x:=a) (e:=a) mu (.inl rfl) (λb q hb z=>(hs.2 b hb).trans z) he new
theorem ZsD{P:Program}{w:World}{H':Hp}{h':Heap}{kvs:List (Key × V)}{vs:List (Key × Value)}(z:kvs.length<=sizeLine)(hd:(a==Zz8)=false)(rel:KV kvs vs)(dd:h'.DictOf (ZaN P w) a vs) :
  Z1 P w H' h' a (.dK kvs):=⟨z,hd,vs,rel,dd⟩
theorem Zsk{H':Hp}{Q:Unit->Shared->Prop}(hu:A.units+1<cLine)(I:Inv X pins σ H s)(g:Zje H a y v H')(ry:RelV y u)(rv:RelV v r)(h:∀s',Inv X pins σ H' s'->Q () s') :
  wpAny (model X.prog X.w) A (setItem (.ref a) u r) Q E s:=by
 rcases g with⟨kvs,k,e,ey,l,eH⟩ | ⟨kvs,k,b,e,ey,eb,l,eH⟩
 ·subst ey eH
  obtain⟨z,hd,vs,rel,dd⟩:=Zrj I.hok e;have hz:vs.length<=sizeLine:=by rw[<-rel.length]; exact z
  have hl:(putK kvs k v).length<=sizeLine:=by have:=Zhd kvs k v; omega
  refine wpAny_setItem_pairs (hsz:=hz) (ZjC ry) dd λh' dd' hs=>h _ ?_;have he:∃q,h'.get? a=some q:=let ⟨q,_,_,hq,_⟩:=dd'; ⟨q,hq⟩
  exact ZjH I (by rw[e]; exact ZBU) hs he (ZsD hl hd (rel.put k rv) dd')
 ·subst ey eH
  cases(show u=ZzW b from ry);obtain⟨z,hd,xs,rel,dd⟩:=Zuo I.hok e;have hz:xs.length<=sizeLine:=by rw[<-ZAS rel]; exact z
  have hl:(putK kvs k v).length<=sizeLine:=by have:=Zhd kvs k v; omega
  refine wpAny_setItem_heap (hsz:=hz) (ZBs hu) (Zhz I.hok eb) dd λh' dd' hs=>h _ ?_;obtain⟨q,es,ep,hq,h2,h3,h4,_,h5⟩:=dd';refine ZjH I (by rw[e]; exact ZBU) hs ⟨q,hq⟩ ⟨hl,hd,_,(rel.put k eb rv).keeps λc ys ec=>?_,q,es,ep,hq,h2,h3,h4,h5⟩;rw[ZE (Zur ec e (λz=>nomatch z))];exact ec
end
section
variable{X:Cx}{pins:List (Addr × Obj)}{σ:St}{H:Hp}{s:Shared}{a:Addr}{kvs:List (Key × V)}{k:Key}{u:Value}{A:Around}{E:Value->Shared->Prop}
theorem Zxt{Q:Value->Shared->Prop}(I:Inv X pins σ H s)(e:Rd H a (.dK kvs))(h:∀t s',Inv X pins σ H s'->Q (.int kvs.length t) s'):wpAny (model X.prog X.w) A (call (.builtin "len") [.ref a]) Q E s:=by obtain⟨z,hd,vs,rel,dd⟩:=Zii I.hok e;refine call_len_dict hd dd (by rw[<-rel.length]; rw[ZzM]at z; omega) ?_;rw[<-rel.length];exact h _ _ (I.tok _)
end
def Zrf(i:Expr):Prop:=∀ov iv,ZDu i false ov iv=operate [ov,iv] (getItem ov iv)
theorem ZuX{prog:Program}{w:World}{A:Around}{E:Value->Shared->Prop}{s:Shared}{env:Env}{value slice:Expr}{pos:Pos}{T id:String}{Q:Value->Shared->Prop}
  (hl:typeLookup (.type T) "__getitem__" = pure (some (.builtin id))) (hs:Zrf slice)
  (h:wpAny (model prog w) A (eval value env) (λo s₁=>wpAny (model prog w) A (eval slice env) (λi s₂=>s₂.TypeIs o T/\wpAny (model prog w) A (getItem o i) Q E s₂) E s₁) E s) :
  wpAny (model prog w) A (eval (.Subscript value slice pos) env) Q E s:=by
 refine Subscript_ (Zz4 h (λo s₁ h₁=>Zz4 h₁ (λi s₂ h₂=>?_) λ_ _ x=>x) λ_ _ x=>x);obtain⟨hT,h₂⟩:=h₂;unfold subscriptTail;refine ZyI ?_;rw[getitemInPython_of_ne hT.not_modules];refine ZyI (wpAny_specialOf hT hl ?_);have fin:wpAny (model prog w) A (ZDu slice false o i) (λr s₃=>wpAny (model prog w) A (letTemporaryGo value o r >>= λ_=>pure r) Q E s₃) E s₂:=by rw[hs o i];exact wpAny_operating (Zz4 h₂ (λr s₃ h₃=>ZyI (wpAny_letTemporaryGo (ZyM h₃))) λ_ _ x=>x)
 first
  | exact ZyM (ZyI fin)
  | exact ZyI (ZyM (ZyI fin))
  | exact ZyI fin
theorem ZpU{X:Cx}{pins:List (Addr × Obj)}{σ:St}{H:Hp}{s:Shared}{a:Addr}{y:V}{o:Option V}(I:Inv X pins σ H s)(g:Zei H a y o):s.TypeIs (.ref a) "dict":=by
 rcases g with⟨kvs,k,e,_,_⟩ | ⟨kvs,k,b,e,_,_,_⟩
 ·obtain⟨_,_,vs,_,dd⟩:=Zii I.hok e
  exact dd.typeIs
 ·obtain⟨_,_,xs,_,dd⟩:=Zjr I.hok e
  exact dd.typeIs
def Zxk(td ty:TE):TE:=λσ H Q=>td σ H λx H1=>ty σ H1 λy H2=>∃a v,x=.ref a/\Zei H2 a y (some v)/\Q v H2
def Zx3(ty td:TE):TE:=λσ H Q=>ty σ H λy H1=>td σ H1 λx H2=>∃a o,x=.ref a/\Zei H2 a y o/\Q (.bl o.isSome) H2
def ZuY(ty td:TE):TE:=λσ H Q=>ty σ H λy H1=>td σ H1 λx H2=>∃a o,x=.ref a/\Zei H2 a y o/\Q (.bl (!o.isSome)) H2
def Zxg(td ty tv:TE):TS:=λD σ H=>tv σ H λv H1=>td σ H1 λx H2=>ty σ H2 λy H3=>∃a H4,x=.ref a/\Zje H3 a y v H4/\D.nx σ H4
section
variable{X:Cx}{o i e value:Expr}{pos pos' tpos:Pos}{td ty tv:TE}
theorem Zp6(hu:X.A.units+1<cLine)(ho:PE X o td)(hi:PE X i ty)(hs:Zrf i):PE X (.Subscript o i pos) (Zxk td ty):=by intro pins s σ H Q I h;refine ZuX PySem.F.slot_dict_getitem.lookup hs (thn (ho pins s σ H _ I h) λu s1 ⟨x,H1,I1,rx,q1⟩=>thn (hi pins s1 σ H1 _ I1 q1) λiv s2 ⟨y,H2,I2,ry,a,v,ex,g,q2⟩=>?_);subst ex;obtain rfl:u=ZzW a:=rx;exact⟨ZpU I2 g,Zsg hu I2 g ry λw' s3 I3 rw'=>⟨v,H2,I3,rw',q2⟩⟩
theorem ZsF(hu:X.A.units+1<cLine)(hi:PE X i ty)(ho:PE X o td):PC X .In i o (Zx3 ty td):=by intro pins s σ H Q I h;refine thn (hi pins s σ H _ I h) λiv s1 ⟨y,H1,I1,ry,q1⟩=>thn (ho pins s1 σ H1 _ I1 q1) λu s2 ⟨x,H2,I2,rx,a,ov,ex,g,q2⟩=>?_;subst ex;obtain rfl:u=ZzW a:=rx;exact ZxX hu I2 g ry λs3 I3=>⟨.bl ov.isSome,H2,I3,rfl,q2⟩
theorem Zr0(hu:X.A.units+1<cLine)(hi:PE X i ty)(ho:PE X o td):PC X .NotIn i o (ZuY ty td):=by intro pins s σ H Q I h;refine thn (hi pins s σ H _ I h) λiv s1 ⟨y,H1,I1,ry,q1⟩=>thn (ho pins s1 σ H1 _ I1 q1) λu s2 ⟨x,H2,I2,rx,a,ov,ex,g,q2⟩=>?_;subst ex;obtain rfl:u=ZzW a:=rx;exact ZuN hu I2 g ry λs3 I3=>⟨.bl (!ov.isSome),H2,I3,rfl,q2⟩
theorem Zqi(hu:X.A.units+1<cLine)(ho:PE X o td)(hi:PE X i ty)(hv:PE X value tv)(hs:ZBq value (some (.Subscript o i pos')) pos.line X.env=pure false) :
  PS X (.Assign [.Subscript o i pos'] value pos) (Zxg td ty tv):=by
 intro pins s σ H D I h;refine wpAny_Assign_Subscript (thn (hv pins s σ H _ I h) λr s1 ⟨v,H1,I1,rv,q1⟩=>thn (ho pins s1 σ H1 _ I1 q1) λu s2 ⟨x,H2,I2,rx,q2⟩=>thn (hi pins s2 σ H2 _ I2 q2) λiv s3 ⟨y,H3,I3,ry,a,H4,ex,g,q3⟩=>?_) hs;subst ex;obtain rfl:u=ZzW a:=rx;exact Zsk hu I3 g ry rv λs4 I4=>⟨σ,H4,I4,q3⟩
end
theorem ZoN{P:Program}{w:World}{H:Hp}(h:Heap)(hb:Zz8<h.objs.size):Z1 P w H (h.push { cls:=.type "dict",data:=.dict #[] }) h.objs.size (.dK []) :=
 ⟨ZzN _,beq_eq_false_iff_ne.mpr (ZzX (Zzc hb)),[],.nil,Heap.DictOf.new h⟩
theorem Zts{P:Program}{w:World}{H:Hp}(h:Heap)(hb:Zz8<h.objs.size):Z1 P w H (h.push { cls:=.type "dict",data:=.dict #[] }) h.objs.size (.dT []) :=
 ⟨ZzN _,beq_eq_false_iff_ne.mpr (ZzX (Zzc hb)),[],.nil,_,#[],0,Zy4 _ rfl,⟨rfl,rfl,rfl⟩,rfl,rfl,ZAI⟩
def ZvV:TE:=λ_ H Q=>∀p,H p=none->Q (.ref p) (upd H p (.dK []))
def ZwT:TE:=λ_ H Q=>∀p,H p=none->Q (.ref p) (upd H p (.dT []))
section
variable{X:Cx}{pos:Pos}
theorem Ztz:PE X (.Dict [] [] pos) ZvV:=λpins s σ H Q I h=>wpAny_Dict_empty ⟨.ref s.heap.objs.size,_,I.laid (a:=s.heap.objs.size) (o:=.dK []) (t':=s.toks) (λ_ _ q=>ZyN _ q) (ZyT _) (ZoN s.heap I.big),rfl,h _ (I.hok.fresh (ZyT _))⟩
theorem Zo4:PE X (.Dict [] [] pos) ZwT:=λpins s σ H Q I h=>wpAny_Dict_empty ⟨.ref s.heap.objs.size,_,I.laid (a:=s.heap.objs.size) (o:=.dT []) (t':=s.toks) (λ_ _ q=>ZyN _ q) (ZyT _) (Zts s.heap I.big),rfl,h _ (I.hok.fresh (ZyT _))⟩
end
def Zn3:List (TE × TE)->St->Hp->(List (V × V)->Hp->Prop)->Prop
 | [],_,H,Q=>Q [] H
 | (tk,tv)::r,σ,H,Q=>tk σ H λx H1=>tv σ H1 λy H2=>Zn3 r σ H2 λps H3=>Q ((x,y)::ps) H3
abbrev VV:List (V × V)->List (Value × Value)->Prop:=Paired λp q=>RelV p.1 q.1/\RelV p.2 q.2
def PPs(X:Cx)(pos:Pos)(keys:List (Option Expr))(values:List Expr)(trs:List (TE × TE)):Prop :=
 ∀(pins:List (Addr × Obj)) (s:Shared) (σ:St) (H:Hp) (Q:List (V × V)->Hp->Prop),Inv X pins σ H s->Zn3 trs σ H Q ->
  wpAny (model X.prog X.w) X.A (evalPairs (pairTrees keys values X.env pos)) (λvs s'=>∃ps H',Inv X pins σ H' s'/\VV ps vs/\Q ps H') X.xe s
theorem Zve{X:Cx}{pos:Pos}:PPs X pos [] [] []:=λpins s σ H Q I h=>pairTrees_nil_walk ⟨[],H,I,.nil,h⟩
theorem Zub{X:Cx}{pos:Pos}{k v:Expr}{ks:List (Option Expr)}{vs:List Expr}{tk tv:TE}{trs:List (TE × TE)}(hk:PE X k tk)(hv:PE X v tv)(hr:PPs X pos ks vs trs) :
  PPs X pos (some k::ks) (v::vs) ((tk,tv)::trs):=λpins s σ H Q I h =>
 pairTrees_cons_walk (thn (hk pins s σ H _ I h) λu s1 ⟨x,H1,I1,rx,q1⟩=>thn (hv pins s1 σ H1 _ I1 q1) λw2 s2 ⟨y,H2,I2,ry,q2⟩=>thn (hr pins s2 σ H2 _ I2 q2) λws s3 ⟨ps,H3,I3,rel,q3⟩=>⟨(x,y)::ps,H3,I3,.cons ⟨rx,ry⟩ rel,q3⟩)
def Zhu(kvs more:List (Key × V)):List (Key × V):=more.foldl (λacc kv=>putK acc kv.1 kv.2) kvs
theorem KV.merge:∀{more:List (Key × V)} {rs:List (Key × Value)} {kvs:List (Key × V)} {vs:List (Key × Value)},KV more rs->KV kvs vs->KV (Zhu kvs more) (merged vs rs):=by
 intro more rs kvs vs r;unfold KV at r
 induction r generalizing kvs vs with
 | nil=>intro q; exact q
 | @cons p q ps qs h t ih =>
  intro r0;have e:KV (putK kvs p.1 p.2) (stored vs q.1 q.2):=by have:=r0.put p.1 h.2;rw[<-h.1]; exact this
  exact ih e
theorem Zit:∀(more kvs:List (Key × V)),(Zhu kvs more).length<=kvs.length+more.length
 | [],kvs=>by show kvs.length<=kvs.length+0; omega
 | p::r,kvs=>by have h1:=Zit r (putK kvs p.1 p.2);have h2:=Zhd kvs p.1 p.2;show(Zhu (putK kvs p.1 p.2) r).length<=_;rw[Zy3]; omega
theorem Zlh{P:Program}{w:World}:∀{kvs:List (Key × V)} {ws:List (Value × Value)},VV (kvs.map λkv=>(kV kv.1,kv.2)) ws->∃rs,Carries (ZaN P w) ws rs/\KV kvs rs
 | [],_,r=>by rw[ZAN]at r; cases r; exact⟨[],ZBU,.nil⟩
 | p::kvs,_,r=>by
  rw[ZyS]at r;cases r with
  | @cons a b as bs h t=>obtain⟨rs,c,q⟩:=Zlh (P:=P) (w:=w) t;obtain⟨b1,b2⟩:=b;exact⟨(p.1,b2)::rs,⟨ZjC h.1,rfl,c⟩,.cons ⟨rfl,h.2⟩ q⟩
def Zxu(trs:List (TE × TE)):TE:=λσ H Q=>∀p,H p=none->Zn3 trs σ (upd H p (.dK [])) λps H2=>H2 p=some (.dK [])/\∃kvs:List (Key × V),ps=kvs.map (λkv=>(kV kv.1,kv.2))/\kvs.length<=15/\Q (.ref p) (upd H2 p (.dK (Zhu [] kvs)))
theorem Zu8{X:Cx}{pos:Pos}{keys:List (Option Expr)}{values:List Expr}{trs:List (TE × TE)}(h:PPs X pos keys values trs)(hall:keys.all (·.isSome)=true)(hl:keys.length=values.length)(h0:keys≠[])
  (h15:keys.length<=15):PE X (.Dict keys values pos) (Zxu trs):=by
 intro pins s σ H Q I q;have hn:=I.hok.fresh (ZyT s.heap.objs.size);have I1:=I.laid (a:=s.heap.objs.size) (o:=.dK []) (h':=s.heap.push { cls:=.type "dict",data:=.dict #[] }) (t':=s.toks) (λ_ _ q=>ZyN _ q) (ZyT _) (ZoN s.heap I.big);refine wpAny_Dict_walk (knd:=ZaN X.prog X.w) hall hl h0 h15 (thn (h pins _ σ _ _ I1 (q _ hn)) λws s2 ⟨ps,H2,I2,rel,e,kvs,ep,lk,q2⟩=>?_);subst ep;obtain⟨rs,c,rk⟩:=Zlh (P:=X.prog) (w:=X.w) rel;obtain⟨z,hd,vs0,r0,dd⟩:=Zrj I2.hok e;cases r0;refine⟨rs,c,dd,λh' dd' hs=>⟨.ref s.heap.objs.size,_,?_,rfl,q2⟩⟩;have hz:(Zhu [] kvs).length<=sizeLine:=by have h1:=Zit kvs [];rw[ZDm]at h1;rw[ZzM]; omega
 have he:∃q,h'.get? s.heap.objs.size=some q:=let ⟨q,_,_,hq,_⟩:=dd'; ⟨q,hq⟩
 exact ZjH I2 (by rw[e]; exact ZBU) hs he (ZsD hz hd (rk.merge .nil) dd')
structure M2(X:Cx)(o:Expr)(m:Str)(apos:Pos)(e f:Expr)(cpos:Pos):Prop where
 base:ZBp o m X.env (eval o X.env)=eval o X.env
 few:((backTo cpos (Zy0 [e,f] X.env)).all (λx=>!x.1)&&(backToKw cpos (ZCB [] X.env)).all (λx=>x.1.isSome)
  && decide (([e,f]:List Expr).length+([]:List Keyword).length+(if([]:List Keyword).isEmpty then 0 else 1)<30))=true
 line:(apos.endLine==cpos.line)=true
 trees:backTo cpos (Zy0 [e,f] X.env)=[(false,eval e X.env),(false,eval f X.env)]
def IsD(H:Hp)(a:Addr):Prop:=(∃kvs,Rd H a (.dK kvs))\/∃kvs,Rd H a (.dT kvs)
theorem ZvN{X:Cx}{pins:List (Addr × Obj)}{σ:St}{H:Hp}{s:Shared}{a:Addr}(I:Inv X pins σ H s)(d:IsD H a) :
  s.TypeIs (.ref a) "dict"/\(∀b,ZzW a=.ref b->∃ob,s.heap.get? b=some ob/\ob.dict=none)/\(a==Zz8)=false:=by
 rcases d with⟨kvs,e⟩ | ⟨kvs,e⟩
 ·obtain⟨_,hd,vs,_,dd⟩:=Zii I.hok e
  refine⟨dd.typeIs,λb q=>?_,hd⟩;cases q;obtain⟨ob,_,_,h1,h2,_⟩:=dd;exact⟨ob,h1,h2.2.1⟩
 ·obtain⟨_,hd,xs,_,dd⟩:=Zjr I.hok e
  refine⟨dd.typeIs,λb q=>?_,hd⟩;cases q;obtain⟨ob,_,_,h1,h2,_⟩:=dd;exact⟨ob,h1,h2.2.1⟩
end L2
namespace Att
open PySem PySem.W PySem.Calls PyProof.Rows
theorem Zk9{P:Params}{h:Heap}:∀(ns:List Int) (vs:List Value),WellAll P h vs (ns.map WData.int)->IntsAre vs ns:=by
 intro ns
 induction ns with
 | nil=>intro vs w;rw[ZAN]at w;cases w;exact .nil
 | cons n ns ih =>
  intro vs w;rw[ZyS]at w;cases w with
  | cons a b=>cases a;exact .cons _ _ (ih _ b)
theorem Zs7{l:OpenLaw}{n:Nat}(hn:l.most=some n){P:Params}{h:Heap}{args:List WData}{vals:List Value}
  (hpre:l.row.toRowW.claim.pre args=true) (hwl:WellAll P h vals args) :
  ∃a vs ns,vals=[ZzW a]/\args=[WData.list (ns.map WData.int)]/\h.get? a=some { cls:=.type "list",data:=.seq vs.toArray }/\IntsAre vs ns/\ns.length<=n:=by
 have hsh:WShape.hasAll [] args [.list .int]=true:=(pre_splitW hpre).1;have hc:l.pre.holds [] { args:=args }=true:=(pre_splitW hpre).2;obtain⟨d,r,rfl,h1,h2⟩:=hasAllW_cons hsh;obtain rfl:=hasAllW_nil h2;obtain⟨xs,rfl,h3⟩:=hasW_list h1;obtain⟨ns,rfl⟩:=items_int h3;have hlen:ns.length<=n:=by
  unfold OpenLaw.pre at hc;have h4:(WTm.not (.lt (.lit (.int (n:Int))) (.len (.arg 0)))).holds [] { args:=[.list (ns.map .int)] }=true:=by have h4:=(holds_andW hc).1;rw[hn]at h4;exact h4
  have h5:=condW_of h4 (w_not (w_lt w_lit (w_len_list (w_arg rfl))));rw[ZyJ]at h5;refine ZBH λq=>?_;have q':(n:Int)<((ns.length:Nat):Int):=by omega
  first
   | (rw[decide_eq_true q']at h5; exact absurd h5 (by decide))
   | (simp at h5; omega)
 cases hwl with
 | cons w1 w2 =>
  cases w2;cases w1 with
  | list ho hall=>exact⟨_,_,ns,rfl,rfl,ho,Zk9 ns _ hall,hlen⟩
theorem ZsC(l:OpenLaw)(args:List WData):l.row.toRowW.claim.post args (.bool true) args=true :=
 postW_of (r:=l.row.toRowW) (X:=(true==true))
  (show WShape.has [] (.bool true) .bool=true by first | rfl | decide | simp[WShape.has,WShape.arms,WShape.armsAll])
  (show(WTm.eq .res (.lit (.bool true))).value [] { args:=args,res:=some (.bool true),after:=args }=some (.bool (true==true)) from w_eq_bool (w_res rfl) w_lit) rfl
theorem ZpO{l:OpenLaw}{n:Nat}{q:Program}{loose:List Str}{XP:(Str->Option Value)->Heap->Prop}{YP:World->Heap->Prop}{d:DefRec}
  (hn:l.most=some n) (hdf:d.params.defaults=[])
  (call:∀(w:World) (s₀ s₁:Shared) (mg mb:Str->Option Value) (fa:Addr) (o:Obj) (pm cd doc:Value) (a:Addr) (vs:List Value) (ns:List Int),
   Ground q loose [] XP w s₀ mg mb s₁.heap->YP w s₁.heap ->
   s₁.heap.get? fa=some o->o.data=.func (docDef d.name d.params d.body d.scope pm cd doc)->s₁.heap.CodeRec cd d.name->mg d.name=some (.ref fa) ->
   s₁.heap.get? a=some { cls:=.type "list",data:=.seq vs.toArray }->IntsAre vs ns->ns.length<=n->s₁.gens=#[] ->
   codeAny (model l.prog w) callerA (.call (.ref fa) ⟨[.ref a],[]⟩) (λr s'=>r=.ok (.ret (.bool true))/\OldK s₁.heap s'.heap/\s'.os=s₁.os/\AllBare s'.gens) s₁) :
  WalkO q loose XP YP l.row.toRowW d [] (λf vs=>PySem.call f vs):=by
 intro w s₀ s₁ mg mb G Y fa o pm cd doc dV kV ho hd hcd hD hmg hg args vals as hpre hlay hrd hwl hlo;obtain rfl:dV=.none:=Dflts.none hD hdf;obtain rfl:kV=.none:=Dflts.noKw hD;obtain⟨a,vs,ns,rfl,rfl,hobj,hints,hlen⟩:=Zs7 hn hpre hwl;refine enter_call (ZAX (call w s₀ s₁ mg mb fa o pm cd doc a vs ns G Y ho (fd_plain hd) hcd hmg hobj hints hlen hg) λr s' hq=>?_);obtain⟨rfl,h2,h3,h4⟩:=hq;exact⟨.inl ⟨.bool true,.bool true,[],rfl,λ_=>rfl,.bool true,ZsC l _,λ_=>⟨List.Pairwise.nil,λ_ hm=>(nomatch hm)⟩⟩,h2,h3,h4⟩
end Att
namespace L2
open PySem PySem.Spec PyProof.Rows
theorem Zmx:∀{vs:List Value} {ns:List Int},IntsAre vs ns->Vals (ns.map V.int) vs
 | _,_,.nil=>.nil
 | _,_,.cons n t h=>.cons ⟨t,rfl⟩ (Zmx h)
end L2
namespace L2
open PySem PySem.Spec PyProof.Rows
end L2
namespace L2
open PySem PySem.Spec PyProof.Rows
def Zcn(s:Stmt):Arguments:=match s with
 | .FunctionDef _ a _ _ _ _ _ _ _ _=>a
 | _=>{ posonlyargs:=[],args:=[],vararg:=none,kwonlyargs:=[],kw_defaults:=[],kwarg:=none,defaults:=[] }
def ZaY(s:Stmt):List Stmt:=match s with
 | .FunctionDef _ _ b _ _ _ _ _ _ _=>b
 | _=>[]
def Zh(s:Stmt):Scope:=match s with
 | .FunctionDef _ _ _ _ _ _ sc _ _ _=>sc
 | _=>{ kind:=.function,names:=[],isGenerator:=false,isCoroutine:=false }
abbrev CX0:CXT:=λ_ _ _ _ _ _=>False
abbrev E0:XK:=λ_ _ _=>False
theorem ZrG{X:Cx}:Passes CX0 X E0:=λ_ _ _ _ _ _ _ h=>h.elim
structure Fun(K:ZyK)(x qual:Str)(st:Stmt)(f:Addr)(fd:FuncData):Prop where
 ex:∃(oc:Value) (od:Option Addr) (kV doc pm:Value) (an:Option Addr) (cdv ct:Value) (osl:Array (Option Value)),
  fd=ZAb x qual (Zcn st) (ZaY st) (Zh st) .none kV doc pm an cdv ct/\K.lookup f=some ⟨oc,od,.func fd,osl⟩/\ZAV K cdv qual=true
 kp:ZAh K (.ref f)=true
section
variable{P:Program}{w:World}{K:ZyK}{mg:Str->Option Value}{base:Heap}
theorem Fun.ok{x qual:Str}{st:Stmt}{f:Addr}{fd:FuncData}{N ps:List Str}{k:Nat}{sp:Sp}(F:Fun K x qual st f fd)(S:Zz N ps (Zh st))(len:∀vs H Q E,sp vs H Q E->vs.length=ps.length)
  (hbody:∀(cdv:Value) (A:Around) (outer:List Env) (s:Shared) (H:Hp) (vs:List V) (Q:VK) (E:XK),ZaE k (A.deeper (envOfC qual (Zh st) s.heap.objs.size f cdv))->sp vs H Q E ->
   ∃t,PSs (Zgq CX0 P w K mg base N qual (Zh st) f cdv A outer s H E).nox (ZaY st) t/\t { nx:=λ_ H'=>Q .non H',rt:=Q } (start N vs) H):ZdB P w K mg base CX0 (k+1) f fd ps sp:=by
 obtain⟨oc,od,kV,doc,pm,an,cdv,ct,osl,rfl,lk,hcd⟩:=F.ex;refine Zum lk hcd S len λA outer s H vs Q E hr hsp=>?_;obtain⟨t,h,q⟩:=hbody cdv A outer s H vs Q E hr hsp;exact⟨t,h.nox,q⟩
theorem Fun.binds{x qual:Str}{st:Stmt}{f:Addr}{fd:FuncData}{ps:List Str}(F:Fun K x qual st f fd)
  (h:∀(kV doc pm:Value) (an:Option Addr) (cdv ct:Value) (us:List Value),us.length=ps.length->bindArgs (ZAb x qual (Zcn st) (ZaY st) (Zh st) .none kV doc pm an cdv ct) ⟨us,[]⟩=pure (ps.zip us)):Binds K fd ps []:=by
 obtain⟨oc,od,kV,doc,pm,an,cdv,ct,osl,rfl,lk,hcd⟩:=F.ex;exact .all (h kV doc pm an cdv ct)
theorem ZnW{x qual:Str}{st:Stmt}{f:Addr}{oc:Value}{od an:Option Addr}{osl:Array (Option Value)}{kV doc pm cdv ct:Value}(l:K.lookup f=some ⟨oc,od,.func (ZAb x qual (Zcn st) (ZaY st) (Zh st) .none kV doc pm an cdv ct),osl⟩)
  (c:ZAV K cdv qual=true) (k:ZAh K (.ref f)=true):Fun K x qual st f (ZAb x qual (Zcn st) (ZaY st) (Zh st) .none kV doc pm an cdv ct):=⟨⟨oc,od,kV,doc,pm,an,cdv,ct,osl,rfl,l,c⟩,k⟩
end
theorem ZL{A:Around}{k:Nat}(hr:ZaE k A):A.units+1<cLine:=Nat.lt_of_le_of_lt (Nat.add_le_add_left (by decide:1<=64) _) hr.units
theorem ZlY{A B:Prop}(h:B):if false=true then A else B:=by rw[if_neg ZzA];exact h
theorem ZlQ{A B:Prop}(h:A):if true=true then A else B:=by rw[if_pos rfl];exact h
def Zr(H H':Hp):Prop:=∀b o,H b=some o->H' b=some o
theorem Zr.refl(H:Hp):Zr H H:=λ_ _ h=>h
theorem Zr.trans{H H1 H2:Hp}(a:Zr H H1)(b:Zr H1 H2):Zr H H2:=λc o h=>b c o (a c o h)
theorem Zr.free{H H':Hp}(e:Zr H H'){l:Addr}(h:H' l=Option.none):H l=Option.none:=by
 cases q:H l with
 | none=>rfl
 | some o=>rw[e l o q]at h;cases h
theorem Zr.seq{K:ZyK}{H H':Hp}{a:Addr}{xs:List V}(e:Zr H H')(h:SqL K H a xs):SqL K H' a xs:=by
 rcases h with(h | ⟨o,h⟩) | h
 ·exact .inl (.inl (e _ _ h))
 ·exact .inl (.inr ⟨o,e _ _ h⟩)
 ·exact .inr h
end L2
namespace L2
open PySem PySem.Spec PyProof.Rows
section
variable{X:Cx}
theorem Zs3:ZaM X (.builtin "len") (λxs H Q=>∃a kvs,xs=[V.ref a]/\H a=some (.dK kvs)/\Q (.int kvs.length) H):=by intro pins s σ H xs us Q I r h;obtain⟨a,kvs,rfl,ha,q⟩:=h;obtain⟨u,rfl,ru⟩:=vals1 r;cases ru;exact Zxt I (.inl ha) λt s' I'=>⟨.int kvs.length,H,I',⟨t,rfl⟩,q⟩
end
end L2
namespace HM
open PySem
abbrev D:=PyData
abbrev Ky:=Sum Int Str
inductive B where
 | pl (d:D)
 | ol (ds:List D)
 | ok (kvs:List (Ky × D))
 | ot (kvs:List (List Ky × D))
 | otl (kvs:List (List Ky × List D))
 | hd (es:List (D × D))
abbrev Env:=List (Option B)
inductive Out where
 | nx (r:Env)
 | rt (d:D)
 | bk (r:Env)
 | ct (r:Env)
abbrev EF:=Env->Option D
abbrev BF:=Env->Option B
abbrev TF:=Env->Option Bool
abbrev IF:=Env->Option (List D)
abbrev AF:=Env->Option (List D)
abbrev SF:=Env->Option Out
@[simp] def big:Nat:=1000000
@[simp] def Zb(i:Nat):EF:=λr=>match r[i]? with
 | some (some (.pl d))=>some d
 | _=>none
@[simp] def Zn(i:Nat):BF:=λr=>match r[i]? with
 | some (some b)=>some b
 | _=>none
@[simp] def bOf(f:EF):BF:=λr=>(f r).map B.pl
def Zao:Ky->D
 | .inl i=>.int i
 | .inr x=>.str x
def Ze(kvs:List (List Ky × D)):List (D × D):=kvs.map λp=>(.tuple (p.1.map Zao),p.2)
@[simp] def frz:B->Option D
 | .pl d=>some d
 | .ol ds=>some (.list ds)
 | .ot kvs=>some (.dict (Ze kvs))
 | .hd es=>some (.dict es)
 | _=>none
@[simp] def eOf(f:BF):EF:=λr=>(f r).bind frz
@[simp] def eC(d:D):EF:=λ_=>some d
@[simp] def op2(g:D->D->Option D)(a b:EF):EF:=λr=>match a r with
 | some x=>match b r with
  | some y=>g x y
  | none=>none
 | none=>none
@[simp] def ZfD(g:Int->Int->Option D):D->D->Option D
 | .int i,.int j=>g i j
 | _,_=>none
def Z2(i:Int):Bool:=Nat.blt i.natAbs 18446744073709551616
@[simp] def ZbH(x y:D):Option D:=ZfD (λi j=>some (.int (i+j))) x y
@[simp] def ZlP(x y:D):Option D:=ZfD (λi j=>some (.int (i-j))) x y
@[simp] def Zdk(x y:D):Option D:=ZfD (λi j=>if Z2 i||Z2 j then some (.int (i*j))else none) x y
@[simp] def Ztu(x y:D):Option D:=ZfD (λi j=>if 0<j then some (.int (i % j))else none) x y
@[simp] def gLt(x y:D):Option D:=ZfD (λi j=>some (.bool (decide (i<j)))) x y
@[simp] def gLe(x y:D):Option D:=ZfD (λi j=>some (.bool (decide (i<=j)))) x y
@[simp] def gGt(x y:D):Option D:=ZfD (λi j=>some (.bool (decide (j<i)))) x y
def Za0(d:D):Bool:=d.canLay0&&decide (d.depth<=60)
@[simp] def gEq(a b:D):Option D:=if Za0 a&&Za0 b then some (.bool (ZAx a b))else none
@[simp] def gNe(a b:D):Option D:=if Za0 a&&Za0 b then some (.bool (!PyData.eqv a b))else none
@[simp] def ZgA(a b:D):Option D:=match b with
 | .none=>match a with
  | .none=>some (.bool true)
  | _=>some (.bool false)
 | _=>none
@[simp] def Zbx(a b:D):Option D:=match b with
 | .none=>match a with
  | .none=>some (.bool false)
  | _=>some (.bool true)
 | _=>none
@[simp] def Zla(g g':D->D->Option D)(a b c:EF):EF:=λr=>match a r with
 | some x=>match b r with
  | some y=>match g x y with
   | some (.bool true)=>match c r with
    | some z=>g' y z
    | none=>none
   | some (.bool false)=>some (.bool false)
   | _=>none
  | none=>none
 | none=>none
@[simp] def Zim(a b:EF):EF:=λr=>match a r with
 | some (.bool true)=>b r
 | some (.bool false)=>some (.bool false)
 | _=>none
@[simp] def tV(a:EF):TF:=λr=>match a r with
 | some (.bool b)=>some b
 | _=>none
@[simp] def Zdl(a:TF):TF:=λr=>(a r).map (!·)
@[simp] def Zi6(a b:TF):TF:=λr=>match a r with
 | some true=>b r
 | some false=>some false
 | none=>none
@[simp] def tOr(a b:TF):TF:=λr=>match a r with
 | some true=>some true
 | some false=>b r
 | none=>none
@[simp] def eIf(c:TF)(a b:EF):EF:=λr=>match c r with
 | some true=>a r
 | some false=>b r
 | none=>none
@[simp] def ZfC:B->Option (List D)
 | .pl (.tuple ds)=>some ds
 | .pl (.list ds)=>some ds
 | .ol ds=>some ds
 | _=>none
def ixN(n:Nat)(i:Int):Option Nat :=
 if 0<=i then(if i<n then some i.toNat else none)else(if -(n:Int)<=i then some (i+n).toNat else none)
def atD(ds:List D)(i:Int):Option D:=match ixN ds.length i with
 | some j=>ds[j]?
 | none=>none
@[simp] def eIx(a:BF)(b:EF):EF:=λr=>match a r with
 | some x=>match ZfC x with
  | some ds=>match b r with
   | some (.int i)=>atD ds i
   | _=>none
  | none=>none
 | none=>none
@[simp] def Zx8:B->Option Nat
 | .pl (.tuple ds)=>some ds.length
 | .pl (.list ds)=>some ds.length
 | .ol ds=>some ds.length
 | .ok kvs=>some kvs.length
 | _=>none
@[simp] def ZaS(a:BF):EF:=λr=>match a r with
 | some x=>(Zx8 x).map λ(n:Nat)=>ZzR (n:Int)
 | none=>none
@[simp] def Zam(a:BF):EF:=λr=>match a r with
 | some x=>(ZfC x).map λds=>.tuple ds
 | none=>none
@[simp] def Zjv(a:BF):BF:=λr=>match a r with
 | some x=>(ZfC x).map λds=>.ol ds
 | none=>none
def ZbQ:List D->Option (List Bool)
 | []=>some []
 | .bool b::r=>(ZbQ r).map (b::·)
 | _::_=>none
@[simp] def ZlH:B->Option (List D)
 | .pl (.list ds)=>some ds
 | .ol ds=>some ds
 | _=>none
@[simp] def ZcM(a:BF):EF:=λr=>match a r with
 | some x=>match ZlH x with
  | some ds=>(ZbQ ds).map λbs=>.bool (bs.all id)
  | none=>none
 | none=>none
@[simp] def Zg:AF:=λ_=>some []
@[simp] def Za(a:EF)(b:AF):AF:=λr=>match a r with
 | some x=>(b r).map (x::·)
 | none=>none
@[simp] def ZbW(a:AF):EF:=λr=>(a r).map λds=>.tuple ds
@[simp] def ZeV(a:AF):BF:=λr=>(a r).map λds=>.ol ds
inductive Ty where
 | bool | int | str | tuple | list | dict
@[simp] def Zi3:Ty->D->Bool
 | .bool,.bool _=>true
 | .int,.int _=>true
 | .int,.bool _=>true
 | .str,.str _=>true
 | .tuple,.tuple _=>true
 | .list,.list _=>true
 | .dict,.dict _=>true
 | _,_=>false
@[simp] def Zh5(a:EF)(t:Ty):EF:=λr=>match a r with
 | some (.dict _)=>none
 | some d=>some (.bool (Zi3 t d))
 | none=>none
@[simp] def ZwZ(x y:D):Option D:=ZfD (λi j=>some (.int (if j > i then j else i))) x y
@[simp] def ZvT(x y:D):Option D:=ZfD (λi j=>some (.int (if j<i then j else i))) x y
@[simp] def Zn5(a:EF):EF:=λr=>match a r with
 | some (.int i)=>some (.int i)
 | some (.bool b)=>some (.int (if b then 1 else 0))
 | _=>none
@[simp] def ZrA(a b:BF):BF:=λr=>match a r with
 | some (.ol xs)=>match b r with
  | some (.ol ys)=>if xs.length+ys.length<big then some (.ol (xs++ys))else none
  | _=>none
 | _=>none
@[simp] def Ztk(a:BF)(b:EF):BF:=λr=>match a r with
 | some (.ol xs)=>match b r with
  | some (.int k)=>if decide (k.natAbs<1000)&&decide (xs.length<1000)then some (.ol (Zzo k.toNat xs).flatten)else none
  | _=>none
 | _=>none
def sIx(n d:Nat):Option Int->Nat
 | none=>d
 | some v=>if v<0 then(v+(n:Int)).toNat else min v.toNat n
def cutD(xs:List D)(lo hi:Option Int):List D:=(xs.drop (sIx xs.length 0 lo)).take (sIx xs.length xs.length hi-sIx xs.length 0 lo)
@[simp] def Zlz(a:Option EF)(r:Env):Option (Option Int):=match a with
 | none=>some none
 | some f=>match f r with
  | some (.int i)=>some (some i)
  | _=>none
@[simp] def ZtF(a:BF)(lo hi:Option EF):BF:=λr=>match a r with
 | some x=>match ZlH x with
  | some xs=>match Zlz lo r with
   | some l=>match Zlz hi r with
    | some h=>some (.ol (cutD xs l h))
    | none=>none
   | none=>none
  | none=>none
 | none=>none
def Za5:List D->Option (List Int)
 | []=>some []
 | .int i::r=>(Za5 r).map (i::·)
 | _::_=>none
def Zjt:List D->Option (List (List Int))
 | []=>some []
 | .tuple ds::r=>match Za5 ds with
  | some ns=>(Zjt r).map (ns::·)
  | none=>none
 | _::_=>none
def lexLt:List Int->List Int->Bool
 | [],[]=>false
 | [],_::_=>true
 | _::_,[]=>false
 | a::r,b::q=>if a=b then lexLt r q else decide (a<b)
def sortI(ns:List Int):List Int:=ns.mergeSort λa b=>decide (a<=b)
def Zdp(ts:List (List Int)):List (List Int):=ts.mergeSort λa b=>!lexLt b a
def ofInts(ns:List Int):List D:=ns.map λi=>ZzR i
def ZcP(ts:List (List Int)):List D:=ts.map λt=>ZzD (ofInts t)
def ZcX(ds:List D):Option (List D) :=
 if ds.length<64 then match Za5 ds with
  | some ns=>some (ofInts (sortI ns))
  | none=>match Zjt ds with
   | some ts=>if ds.length<2||ts.all (λt=>!t.isEmpty)then some (ZcP (Zdp ts))else none
   | none=>none
 else none
@[simp] def Zrd:B->Option (List D)
 | .pl (.tuple ds)=>some ds
 | .pl (.list ds)=>some ds
 | .ol ds=>some ds
 | .ok kvs=>some (kvs.map λp=>Zao p.1)
 | .ot kvs=>some (kvs.map λp=>.tuple (p.1.map Zao))
 | .otl kvs=>some (kvs.map λp=>.tuple (p.1.map Zao))
 | _=>none
@[simp] def Zhw(a:BF):BF:=λr=>match a r with
 | some x=>match Zrd x with
  | some ds=>(ZcX ds).map λds=>.ol ds
  | none=>none
 | none=>none
def dedup:List Int->List Int->List Int
 | acc,[]=>acc
 | acc,i::r=>if acc.contains i then dedup acc r else dedup (acc++[i]) r
def Ztp(ns:List Int):Bool:=ns.all λn=>decide (0<=n)&&decide (n<8)
@[simp] def Zia(a:BF):BF:=λr=>match a r with
 | some x=>match ZlH x with
  | some ds=>match Za5 ds with
   | some ns=>if Ztp ns then some (.ol (ofInts (sortI (dedup [] ns))))else none
   | none=>none
  | none=>none
 | none=>none
@[simp] def Zf(m:List D->Option D)(a:AF):EF:=λr=>match a r with
 | some ds=>m ds
 | none=>none
@[simp] def ZN(a:BF):IF:=λr=>match a r with
 | some x=>ZfC x
 | none=>none
def ZcT(lo:Int)(n:Nat):List D:=(ZyP n).map λ(k:Nat)=>ZzR (lo+(k:Int))
def okR(j:Int):Bool:=Nat.blt j.natAbs 1000000
@[simp] def ZbM(a:EF):IF:=λr=>match a r with
 | some (.int j)=>if okR j then some (ZcT 0 j.toNat)else none
 | _=>none
@[simp] def ZcZ(i:IF):EF:=λr=>match i r with
 | some ds=>if ds.length<big then some (.tuple ds)else none
 | none=>none
def Zaq(c:TF)(e:EF)(r:Env):List D->Option (List D)
 | []=>some []
 | x::xs=>match c (some (.pl x)::r)with
  | some true=>match e (some (.pl x)::r)with
   | some y=>(Zaq c e r xs).map (y::·)
   | none=>none
  | some false=>Zaq c e r xs
  | none=>none
@[simp] def ZU:TF:=λ_=>some true
@[simp] def ZC(i:IF)(c:TF)(e:EF):BF:=λr=>match i r with
 | some xs=>if xs.length<big then(Zaq c e r xs).map λys=>.ol ys else none
 | none=>none
@[simp] def Zt(a b:SF):SF:=λr=>match a r with
 | some (.nx r')=>b r'
 | some (.rt d)=>some (.rt d)
 | some (.bk r')=>some (.bk r')
 | some (.ct r')=>some (.ct r')
 | none=>none
@[simp] def ZaL:SF:=λr=>some (.nx r)
@[simp] def Zn4:SF:=λ_=>none
@[simp] def ZG(a:EF):SF:=λr=>(a r).map Out.rt
@[simp] def ZW(i:Nat)(a:EF):SF:=λr=>(a r).map λd=>.nx (r.set i (some (.pl d)))
@[simp] def Zaa(i:Nat)(a:BF):SF:=λr=>(a r).map λb=>.nx (r.set i (some b))
@[simp] def Zlb(i:Nat)(r:Env):Env:=match r[i]? with
 | some (some (.ol ds))=>r.set i (some (.pl (.list ds)))
 | some (some (.ot kvs))=>r.set i (some (.pl (.dict (Ze kvs))))
 | _=>r
@[simp] def Zgv(i:Nat):SF->SF:=λa r=>a (Zlb i r)
@[simp] def Zh0(a:EF):SF:=λr=>(a r).map λ_=>.nx r
@[simp] def sIf(c:TF)(a b:SF):SF:=λr=>match c r with
 | some true=>a r
 | some false=>b r
 | none=>none
def Zbc(i:Nat)(body:SF):List D->Env->Option Out
 | [],r=>some (.nx r)
 | x::xs,r=>match body (r.set i (some (.pl x)))with
  | some (.nx r')=>Zbc i body xs r'
  | some (.ct r')=>Zbc i body xs r'
  | some (.bk r')=>some (.nx r')
  | some (.rt d)=>some (.rt d)
  | none=>none
@[simp] def ZbG(i:Nat)(it:IF)(body:SF):SF:=λr=>match it r with
 | some xs=>if xs.length<big then Zbc i body xs r else none
 | none=>none
def Zbh(c:TF)(body:SF):Nat->Env->Option Out
 | 0,_=>none
 | n+1,r=>match c r with
  | some true=>match body r with
   | some (.nx r')=>Zbh c body n r'
   | some (.ct r')=>Zbh c body n r'
   | some (.bk r')=>some (.nx r')
   | some (.rt d)=>some (.rt d)
   | none=>none
  | some false=>some (.nx r)
  | none=>none
@[simp] def ZdP(i:Nat)(a:EF):SF:=λr=>match r[i]? with
 | some (some (.ol ds))=>match a r with
  | some d=>if ds.length<big then some (.nx (r.set i (some (.ol (ds++[d])))))else none
  | none=>none
 | _=>none
@[simp] def Zq3(i:Nat)(k v:EF):SF:=λr=>match v r with
 | some d=>match r[i]? with
  | some (some (.ol ds))=>match k r with
   | some (.int n)=>match ixN ds.length n with
    | some j=>some (.nx (r.set i (some (.ol (ds.set j d)))))
    | none=>none
   | _=>none
  | _=>none
 | none=>none
def putD{k v:Type}[DecidableEq k](kvs:List (k × v))(x:k)(y:v):List (k × v) :=
 if(kvs.any λp=>decide (p.1=x))=true then kvs.map (λp=>if p.1=x then(p.1,y)else p)else kvs++[(x,y)]
def Zm{k v:Type}[DecidableEq k](kvs:List (k × v))(x:k):Option v:=(kvs.find? λp=>decide (p.1=x)).map (·.2)
@[simp] def Zjg:D->Option Ky
 | .int i=>some (.inl i)
 | .str x=>some (.inr x)
 | _=>none
def ZgQ:List D->Option (List Ky)
 | []=>some []
 | d::r=>match Zjg d with
  | some k=>(ZgQ r).map (k::·)
  | none=>none
def tkL:D->Option (List Ky)
 | .tuple ds=>ZgQ ds
 | _=>none
def ZlU:List D->Option (List Ky)
 | []=>some []
 | .int i::r=>(ZlU r).map (ZAz i::·)
 | _::_=>none
def Zbe:D->Option (List Ky)
 | .tuple ds=>ZlU ds
 | _=>none
@[simp] def ZhV(i:Nat)(k v:EF):SF:=λr=>match v r with
 | some d=>match k r with
  | some x=>match r[i]? with
   | some (some (.ok kvs))=>match Zjg x with
    | some y=>if kvs.length<big then some (.nx (r.set i (some (.ok (putD kvs y d)))))else none
    | none=>none
   | some (some (.ot kvs))=>match Zbe x with
    | some y=>if kvs.length<big then some (.nx (r.set i (some (.ot (putD kvs y d)))))else none
    | none=>none
   | _=>none
  | none=>none
 | none=>none
@[simp] def fDk:BF:=λ_=>some (.ok [])
@[simp] def fDt:BF:=λ_=>some (.ot [])
@[simp] def Zwy:BF:=λ_=>some (.otl [])
@[simp] def Zol(k v:EF):BF:=λr=>match k r with
 | some x=>match v r with
  | some d=>match Zjg x with
   | some y=>some (.ok [(y,d)])
   | none=>none
  | none=>none
 | none=>none
def ZcL{k v:Type}[DecidableEq k](kvs:List (k × List v))(x:k):List (k × List v):=match Zm kvs x with
 | some _=>kvs
 | none=>kvs++[(x,[])]
def ZdY{k v:Type}[DecidableEq k]:List (k × List v)->k->v->List (k × List v)
 | [],_,_=>[]
 | (x,ds)::r,y,d=>if x=y then(x,ds++[d])::r else(x,ds)::ZdY r y d
@[simp] def Zoj(i:Nat)(k v:EF):SF:=λr=>match k r with
 | some x=>match r[i]? with
  | some (some (.otl kvs))=>match Zbe x with
   | some y=>if kvs.length<big then
     match v (r.set i (some (.otl (ZcL kvs y))))with
     | some d=>match Zm (ZcL kvs y) y with
      | some ds=>if ds.length<big then some (.nx (r.set i (some (.otl (ZdY (ZcL kvs y) y d)))))else none
      | none=>none
     | none=>none
    else none
   | none=>none
  | _=>none
 | none=>none
@[simp] def Zrq(i:Nat)(k:EF):BF:=λr=>match k r with
 | some x=>match r[i]? with
  | some (some (.ok kvs))=>match Zjg x with
   | some y=>(Zm kvs y).map B.pl
   | none=>none
  | some (some (.ot kvs))=>match Zbe x with
   | some y=>(Zm kvs y).map B.pl
   | none=>none
  | some (some (.otl kvs))=>match Zbe x with
   | some y=>(Zm kvs y).map B.ol
   | none=>none
  | _=>none
 | none=>none
abbrev fnD(t:Nat)(cs:List D):D:=.dict [(.none,.int (Int.ofNat t)),(.none,.list cs)]
@[simp] def ZeU(n:Nat)(ds:List D):Env:=ds.map (λd=>some (B.pl d))++Zzo (n-ds.length) none
@[simp] def fnOf(k n:Nat)(m:SF):List D->Option D:=λds =>
 if ds.length=k then match m (ZeU n ds)with
  | some (.nx _)=>some .none
  | some (.rt d)=>some d
  | _=>none
 else none
end HM
namespace HM
open PySem
def ZwS(ds:List D)(i:Int):Option Bool:=(Za5 ds).map λns=>ns.contains i
@[simp] def Zog(k:EF)(a:BF):EF:=λr=>match k r with
 | some (.int i)=>match a r with
  | some b=>match ZfC b with
   | some ds=>(ZwS ds i).map λc=>.bool c
   | none=>none
  | none=>none
 | _=>none
end HM
namespace HM
open PySem
@[simp] def Zk7(n:Nat)(c:TF)(body:SF):SF:=λr=>Zbh c body n r
end HM
namespace HM
open PySem
end HM
namespace HM
open PySem
def ZdV:List (D × D)->Option (List (List Ky × D))
 | []=>some []
 | (k,v)::r=>match tkL k with
  | some ks=>(ZdV r).map ((ks,v)::·)
  | none=>none
@[simp] def ZlC:B->Option (List (List Ky × D))
 | .ot kvs=>some kvs
 | .pl (.dict es)=>ZdV es
 | .hd es=>ZdV es
 | _=>none
@[simp] def ZbV(k:EF)(a:BF):EF:=λr=>match k r with
 | some x=>match a r with
  | some b=>match ZlC b with
   | some kvs=>(Zbe x).map λy=>.bool (Zm kvs y).isSome
   | none=>none
  | none=>none
 | none=>none
@[simp] def Zep(k:EF)(a:BF):EF:=λr=>match k r with
 | some x=>match a r with
  | some b=>match ZlC b with
   | some kvs=>(Zbe x).map λy=>.bool (!(Zm kvs y).isSome)
   | none=>none
  | none=>none
 | none=>none
@[simp] def ZT(a:BF)(k:EF):EF:=λr=>match a r with
 | some b=>match ZlC b with
  | some kvs=>match k r with
   | some x=>match Zbe x with
    | some y=>Zm kvs y
    | none=>none
   | none=>none
  | none=>none
 | none=>none
@[simp] def Zln:D->Bool
 | .none=>true
 | .bool _=>true
 | .int _=>true
 | .str _=>true
 | _=>false
@[simp] def ZrB(f:BF):EF:=λr=>(f r).bind frz
theorem ZuI(ks:List Ky):tkL (.tuple (ks.map Zao))=some ks:=by
 show ZgQ (ks.map Zao)=some ks
 induction ks with
 | nil=>rfl
 | cons k ks ih=>show(match Zjg (Zao k)with | some q=>(ZgQ (ks.map Zao)).map (q::·) | none=>none)=_;rw[ih];cases k<;>rfl
theorem dec_enc(kvs:List (List Ky × D)):ZdV (Ze kvs)=some kvs:=by
 induction kvs with
 | nil=>rfl
 | cons p kvs ih=>obtain⟨k,d⟩:=p;show(match tkL (.tuple (k.map Zao))with | some ks=>(ZdV (Ze kvs)).map ((ks,d)::·) | none=>none)=_;rw[ZuI,ih];rfl
end HM
namespace HM
open PySem
@[simp] def ZkP(a:BF):EF:=λr=>match a r with
 | some x=>match ZlH x with
  | some ds=>match Za5 ds with
   | some ns=>ns.max?.map λi=>ZzR i
   | none=>none
  | none=>none
 | none=>none
end HM
namespace HM
open PySem
end HM
namespace HM
open PySem
@[simp] def ZjD(i:Nat)(f:BF):SF:=λr=>match r[i]? with
 | some (some (.ol ds))=>match f r with
  | some (.ol es)=>if ds.length+es.length<big then some (.nx (r.set i (some (.ol (ds++es)))))else none
  | _=>none
 | _=>none
@[simp] def ZtM(i j:Nat):SF:=λr=>match r[j]? with
 | some (some (.ol ds))=>match ds[ds.length-1]? with
  | some d=>some (.nx ((r.set j (some (.ol ds.dropLast))).set i (some (.pl d))))
  | none=>none
 | _=>none
@[simp] def ZiX(m:List D->Option D)(a:AF):BF:=λr=>match a r with
 | some ds=>match m ds with
  | some (.list ys)=>some (.ol ys)
  | _=>none
 | none=>none
def Za9:Option B->Bool
 | some (.hd _)=>true
 | _=>false
@[simp] def ZeO(i:Nat)(g:SF):SF:=λr=>match r[i]? with
 | some (some (.pl (.dict es)))=>if r.all (λq=>!Za9 q)then match g (r.set i (some (.hd es)))with
   | some (.nx r')=>match r'[i]? with
    | some (some (.hd es'))=>if(r'.set i none).all (λq=>!Za9 q)then some (.nx (r'.set i (some (.pl (.dict es')))))else none
    | _=>none
   | some (.rt d)=>some (.rt d)
   | _=>none
  else none
 | _=>g r
@[simp] def ZaP(i:Nat):IF:=λr=>match r[i]? with
 | some (some (.pl (.tuple ds)))=>some ds
 | some (some (.pl (.list ds)))=>some ds
 | some (some (.hd es))=>(ZdV es).map λkvs=>kvs.map λp=>.tuple (p.1.map Zao)
 | _=>none
end HM
namespace HM
open PySem
@[simp] def Zna(a b:EF):EF:=λr=>match a r with
 | some (.tuple xs)=>match b r with
  | some (.tuple ys)=>if xs.isEmpty||ys.isEmpty||decide (big<=xs.length+ys.length)then none else some (.tuple (xs++ys))
  | _=>none
 | _=>none
end HM
namespace HM
open PySem
end HM
namespace HM
open PySem
abbrev AP:=Nat->List D->List D->Option D
def Zko:D->Option (Nat × List D)
 | .dict [(.none,.int (Int.ofNat t)),(.none,.list cs)]=>some (t,cs)
 | _=>none
@[simp] def Zdb(ap:AP)(i:Nat)(a:AF):EF:=λr=>match r[i]? with
 | some (some (.pl d))=>match Zko d with
  | some (t,cs)=>match a r with
   | some ds=>ap t cs ds
   | none=>none
  | none=>none
 | _=>none
def noF:Nat->D->Bool
 | _,.none=>true
 | _,.bool _=>true
 | _,.int _=>true
 | _,.str _=>true
 | n+1,.tuple ds=>ds.all (noF n)
 | n+1,.list ds=>ds.all (noF n)
 | n+1,.dict es=>es.all λp=>(match p.1 with | .none=>false | _=>true)&&noF n p.2
 | _,_=>false
def ZkU:List Nat->Env->Option (List D)
 | [],_=>some []
 | i::is,r=>match r[i]? with
  | some (some (.pl d))=>(ZkU is r).map (d::·)
  | _=>none
@[simp] def Zej(m:List D->Option D)(t:Nat)(is:List Nat)(a:EF):EF:=λr=>match a r with
 | some d1=>match ZkU is r with
  | some cs=>if cs.all (noF 20)then match m [d1,fnD t cs]with
    | some d=>if noF 20 d then some d else none
    | none=>none
   else none
  | none=>none
 | none=>none
def ZfN(n m:Nat)(e:EF):List D->List D->Option D:=λcs ds=>if ds.length=n/\cs.length=m/\ds.all (noF 20)=true then e ((ds++cs).map λd=>some (B.pl d))else none
@[simp] def ZdQ(a:BF):EF:=λr=>match a r with
 | some x=>match ZlH x with
  | some ds=>match Za5 ds with
   | some ns=>some (match ns.min? with | some i=>.int i | none=>.none)
   | none=>none
  | none=>none
 | none=>none
abbrev NF:=Env->Option (List (List Ky × D))
@[simp] def ZkB(a:SF)(m:NF):NF:=λr=>match a r with
 | some (.nx r')=>m r'
 | _=>none
@[simp] def Zoe(j:Nat):NF:=λr=>match r[j]? with
 | some (some (.ot kvs))=>some kvs
 | _=>none
def newOf(k n:Nat)(m:NF):List D->Option (List (List Ky × D)):=λds=>if ds.length=k then m (ZeU n ds)else none
@[simp] def ZiW(m:List D->Option (List (List Ky × D)))(a:AF):BF:=λr=>match a r with
 | some ds=>match m ds with
  | some kvs=>if kvs.all (λp=>Zln p.2)then some (.ot kvs)else none
  | none=>none
 | none=>none
end HM
namespace HM
open PySem
end HM
namespace HM
open PySem
end HM
namespace HM
open PySem
def ZdO(bs:List Bool):List Bool:=bs.filter (λb=>!b)++bs.filter λb=>b
@[simp] def Zky(a:BF):BF:=λr=>match a r with
 | some x=>match Zrd x with
  | some ds=>match ZbQ ds with
   | some bs=>if ds.length<64 then some (.ol ((ZdO bs).map Zzl))else none
   | none=>none
  | none=>none
 | none=>none
end HM
namespace HM
open PySem
@[simp] def Zed(a:BF):BF:=λr=>match a r with
 | some (.pl (.dict es))=>match ZdV es with
  | some kvs=>(ZcX (kvs.map λp=>.tuple (p.1.map Zao))).map λds=>.ol ds
  | none=>none
 | _=>none
end HM
namespace HM
open PySem
@[simp] def Zfl(a:BF):EF:=λr=>match a r with
 | some (.pl (.dict es))=>match ZdV es with
  | some kvs=>some (.int (kvs.length:Int))
  | none=>none
 | _=>none
end HM
namespace HM
open PySem
@[simp] def ZeP(a:EF)(lo hi:Option EF):EF:=λr=>match a r with
 | some (.tuple xs)=>match Zlz lo r with
  | some l=>match Zlz hi r with
   | some h=>some (.tuple (cutD xs l h))
   | none=>none
  | none=>none
 | _=>none
end HM
namespace HP
open PySem PySem.Spec PyProof.Rows L2
@[reducible] def Zdq(H':Hp)(b:Addr):HO->Prop
 | .tbl _=>∃ps',H' b=some (.tbl ps')
 | o=>H' b=some o
def ZaF(H H':Hp):Prop:=∀b o,H b=some o->Zdq H' b o
theorem Zdq.of{H':Hp}{b:Addr}{o:HO}(h:H' b=some o):Zdq H' b o:=by cases o<;>first | exact h | exact⟨_,h⟩
theorem Zdq.ex{H':Hp}{b:Addr}{o:HO}(h:Zdq H' b o):∃u,H' b=some u:=by cases o<;>first | exact⟨_,h⟩ | (obtain⟨ps,e⟩:=h; exact⟨_,e⟩)
theorem Zdq.no{H':Hp}{b:Addr}{o:HO}(h:Zdq H' b o)(n:∀ps,o≠.tbl ps):H' b=some o:=by cases o<;>first | exact h | exact absurd rfl (n _)
theorem ZaF.of{H H':Hp}(s:Zr H H'):ZaF H H':=λb o h=>.of (s b o h)
theorem ZaF.refl(H:Hp):ZaF H H:=.of (.refl H)
theorem ZaF.trans{H H1 H2:Hp}(a:ZaF H H1)(b:ZaF H1 H2):ZaF H H2:=λc o h=>by have h1:=a c o h;cases o<;>first | exact b c _ h1 | (obtain⟨ps,e⟩:=h1; exact(show ∃ps',H2 c=some (.tbl ps') from b c _ e))
theorem ZaF.free{H H':Hp}(e:ZaF H H'){l:Addr}(h:H' l=none):H l=none:=by
 cases q:H l with
 | none=>rfl
 | some o=>obtain⟨u,z⟩:=(e l o q).ex;rw[h]at z; cases z
theorem ZaF.back{H H':Hp}(e:ZaF H H'){l:Addr}{o u:HO}(h:H l=some o)(h':H' l=some u)(n:∀ps,u≠.tbl ps):o=u:=by have z:=e l o h;cases o<;>first | (obtain⟨ps,q⟩:=z; rw[h']at q; cases q; exact absurd rfl (n _)) | (have z:H' l=some _:=z; rw[h']at z; cases z; rfl)
def Zc4(H:Hp):Hp:=λb=>match H b with
 | some (.tbl _)=>none
 | x=>x
def nt:HO->Bool
 | .tbl _=>false
 | _=>true
def NoT(F:Hp):Prop:=∀b o,F b=some o->nt o=true
theorem Zcy{H:Hp}{b:Addr}{o:HO}(h:H b=some o)(n:nt o=true):Zc4 H b=some o:=by unfold Zc4; rw[h];cases o<;>first | rfl | cases n
theorem ZgP{H:Hp}{b:Addr}{o:HO}(h:Zc4 H b=some o):H b=some o/\nt o=true:=by
 unfold Zc4 at h;split at h
 ·cases h
 ·rename_i n
  refine⟨h,?_⟩;cases o<;>first | rfl | exact absurd h (n _)
theorem Zmt{H:Hp}:Zr (Zc4 H) H:=λb o h=>(ZgP h).1
theorem NoT.drop{H:Hp}:NoT (Zc4 H):=λb o h=>(ZgP h).2
theorem NoT.sub{F H:Hp}(n:NoT F)(s:Zr F H):Zr F (Zc4 H):=λb o h=>Zcy (s b o h) (n b o h)
theorem NoT.upd{F:Hp}{p:Addr}{o:HO}(n:NoT F)(h:nt o=true):NoT (upd F p o):=λb u z=>by
 by_cases hb:b=p
 ·subst hb; rw[ZH]at z; cases z; exact h
 ·rw[ZE hb]at z; exact n b u z
theorem ZaF.ntb{H H':Hp}(s:ZaF H H'){b:Addr}{o:HO}(h:H b=some o)(n:nt o=true):H' b=some o:=(s b o h).no λps z=>by subst z; cases n
def Dk(vvs:List (List Key × V))(u:HO):Prop:=u=.dT vvs\/∃o,u=.frz o (.dT vvs)
def sw(a:Addr)(ob:HO)(G:Hp):Hp:=λb=>if b=a then(G a).map (λ_=>ob)else G b
class FX where
 tl:List (Addr × Str)
 fv:Nat->List PyData->Hp->Addr->Prop
 sw:∀{t:Nat} {cs:List PyData} {F:Hp} {a b:Addr} {ob:HO} {vvs:List (List Key × V)},(∀u,F a=some u->Dk vvs u)->Dk vvs ob->fv t cs F b->fv t cs (sw a ob F) b
 drop:∀{t:Nat} {cs:List PyData} {F:Hp} {a:Addr},fv t cs F a->fv t cs (Zc4 F) a
 mono:∀{t:Nat} {cs:List PyData} {F F':Hp} {a:Addr},fv t cs F a->Zr F F'->fv t cs F' a
variable[FX]
def Zbq(a:Addr)(o:Obj):HO:=.ext λh=>h.get? a=some o
def Zl5(o:Obj)(q:Str):Prop:=∃vs t,o.data=.fields vs/\vs[1]?=some (.str q t)
def Tb(H:Hp):Prop:=∀P q,(P,q)∈FX.tl->∃ps,H P=some (.tbl ps)/\TriplesOk ps.toList/\∀pos c,ZCF pos ps.toList=some c->∃a o,c=.ref a/\H a=some (Zbq a o)/\Zl5 o q
def ZlB:HO->Bool
 | .lst _=>true
 | .dK _=>true
 | .dT _=>true
 | _=>false
def te:HO->Bool
 | .tbl _=>true
 | .ext _=>true
 | _=>false
theorem Zsr{o:HO}(h:ZlB o=true)(h':te o=true):False:=by cases o<;>simp_all [ZlB,te]
theorem Tb.keep{H H':Hp}(t:Tb H)(k:∀a o,H a=some o->te o=true->H' a=some o):Tb H':=λP q hP=>by obtain⟨ps,h1,h2,h3⟩:=t P q hP;refine⟨ps,k _ _ h1 rfl,h2,λpos c hc=>?_⟩;obtain⟨a,o,e1,e2,e3⟩:=h3 pos c hc;exact⟨a,o,e1,k _ _ e2 rfl,e3⟩
theorem Dk.te{vvs:List (List Key × V)}{u:HO}(h:Dk vvs u):te u=false:=by rcases h with h | ⟨o,h⟩<;>subst h<;>rfl
theorem Dk.ntt{vvs:List (List Key × V)}{u:HO}(h:Dk vvs u):nt u=true:=by rcases h with h | ⟨o,h⟩<;>subst h<;>rfl
theorem Tb.sw{G:Hp}{a:Addr}{ob:HO}{vvs:List (List Key × V)}(hG:∀u,G a=some u->Dk vvs u)(t:Tb G):Tb (HP.sw a ob G):=t.keep λb o z ht=>by
 have hb:b≠a:=λe=>by subst e; rw[(hG o z).te]at ht; cases ht
 unfold HP.sw; rw[if_neg hb]; exact z
theorem Tb.unsw{G:Hp}{a:Addr}{ob:HO}{vvs:List (List Key × V)}(hob:Dk vvs ob)(t:Tb (HP.sw a ob G)):Tb G:=t.keep λb o z ht=>by
 unfold HP.sw at z;split at z
 ·obtain⟨u,_,e⟩:=ZyL.mp z
  subst e; rw[hob.te]at ht; cases ht
 ·exact z
theorem Zdq.cong{H H':Hp}{b:Addr}{o:HO}(e:H' b=H b)(h:Zdq H b o):Zdq H' b o:=by unfold Zdq at h ⊢; rw[e]; exact h
theorem ZaF.sw{H0 H:Hp}{a:Addr}{ob:HO}(s:ZaF H0 H):ZaF (HP.sw a ob H0) (HP.sw a ob H):=λb o z=>by
 by_cases hb:b=a
 ·subst hb
  unfold HP.sw at z;rw[if_pos rfl]at z;obtain⟨u,h1,h2⟩:=ZyL.mp z;obtain⟨w,hw⟩:=(s _ _ h1).ex;refine .of ?_;unfold HP.sw;rw[if_pos rfl,hw,h2.symm]; rfl
 ·unfold HP.sw at z
  rw[if_neg hb]at z;refine(s b o z).cong ?_;unfold HP.sw; rw[if_neg hb]
theorem Tb.same{H H':Hp}(t:Tb H)(s:Zr H H'):Tb H':=t.keep λa o h _=>s a o h
theorem ZhB{F F':Hp}{a:Addr}{u:HO}(r:Rd F a u)(s:Zr F F'):Rd F' a u:=r.imp (λh=>s _ _ h) λ⟨o,h⟩=>⟨o,s _ _ h⟩
def Zyb(K:ZyK)(a:Addr)(vs:List V):Prop:=∃(o:Obj) (its:Array Value) (n:Nat),K.lookup a=some o/\o.cls=.type "tuple"/\o.data=.seq its n/\its.size<=sizeLine/\Vals vs its.toList
theorem Zgu{K:ZyK}{F F':Hp}{a:Addr}{vs:List V}(h:SqT K F a vs)(s:Zr F F'):SqT K F' a vs:=h.imp (λh=>ZhB h s) id
inductive Rep(K:ZyK)(F:Hp):PyData->V->Prop where
 | non:Rep K F .none .non
 | bl (b:Bool):Rep K F (.bool b) (.bl b)
 | int (i:Int):Rep K F (.int i) (.int i)
 | str (x:Str):Rep K F (.str x) (.str x)
 | tupk {a:Addr} {x:Str} (h:Zyb K a [.str x]):Rep K F (.tuple [.str x]) (.ref a)
 | tup {a:Addr} {ds:List PyData} {vs:List V} (h:F a=some (.tup vs)) (hl:ds.length=vs.length) (hr:∀(i:Nat) (d:PyData) (v:V),ds[i]?=some d->vs[i]?=some v->Rep K F d v):Rep K F (.tuple ds) (.ref a)
 | lst {a:Addr} {ds:List PyData} {vs:List V} (h:SqL K F a vs) (hl:ds.length=vs.length) (hr:∀(i:Nat) (d:PyData) (v:V),ds[i]?=some d->vs[i]?=some v->Rep K F d v):Rep K F (.list ds) (.ref a)
 | dct {a:Addr} {es:List (PyData × PyData)} {kvs:List (List Key × PyData)} {vvs:List (List Key × V)} (h:Rd F a (.dT vvs)) (he:es=HM.Ze kvs) (hk:kvs.map (·.1)=vvs.map (·.1)) (hr:∀(i:Nat) (d:PyData) (v:V),(kvs.map (·.2))[i]?=some d->(vvs.map (·.2))[i]?=some v->Rep K F d v):Rep K F (.dict es) (.ref a)
 | fn {a:Addr} {t:Nat} {cs:List PyData} (h:FX.fv t cs F a):Rep K F (.dict [(.none,.int (Int.ofNat t)),(.none,.list cs)]) (.ref a)
def Zs(K:ZyK)(F:Hp)(ds:List PyData)(vs:List V):Prop:=ds.length=vs.length/\∀(i:Nat) (d:PyData) (v:V),ds[i]?=some d->vs[i]?=some v->Rep K F d v
section
variable{K:ZyK}{F F':Hp}{d:PyData}{v:V}{ds es:List PyData}{vs us:List V}
theorem Rep.mono(r:Rep K F d v)(s:Zr F F'):Rep K F' d v:=by
 induction r with
 | non=>exact .non
 | bl b=>exact .bl b
 | int i=>exact .int i
 | str x=>exact .str x
 | tup h hl _ ih=>exact .tup (s _ _ h) hl ih
 | tupk h=>exact .tupk h
 | lst h hl _ ih=>exact .lst (s.seq h) hl ih
 | dct h he hk _ ih=>exact .dct (ZhB h s) he hk ih
 | fn h=>exact .fn (FX.mono h s)
theorem Rep.drop(r:Rep K F d v):Rep K (Zc4 F) d v:=by
 induction r with
 | non=>exact .non
 | bl b=>exact .bl b
 | int i=>exact .int i
 | str x=>exact .str x
 | tup h hl _ ih=>exact .tup (Zcy h rfl) hl ih
 | tupk h=>exact .tupk h
 | lst h hl _ ih =>
  refine .lst ?_ hl ih;rcases h with(h | ⟨o,h⟩) | h
  ·exact .inl (.inl (Zcy h rfl))
  ·exact .inl (.inr ⟨o,Zcy h rfl⟩)
  ·exact .inr h
 | dct h he hk _ ih =>
  refine .dct ?_ he hk ih;rcases h with h | ⟨o,h⟩
  ·exact .inl (Zcy h rfl)
  ·exact .inr ⟨o,Zcy h rfl⟩
 | fn h=>exact .fn (FX.drop h)
theorem Zs.drop'(r:Zs K F ds vs):Zs K (Zc4 F) ds vs:=⟨r.1,λi d v h1 h2=>(r.2 i d v h1 h2).drop⟩
theorem ZaF.dr{H H':Hp}(s:ZaF H H'):Zr (Zc4 H) H':=λb o h=>s.ntb (ZgP h).1 (ZgP h).2
theorem Rep.monoT{H H':Hp}(r:Rep K H d v)(s:ZaF H H'):Rep K H' d v:=r.drop.mono s.dr
theorem Zs.mono(r:Zs K F ds vs)(s:Zr F F'):Zs K F' ds vs:=⟨r.1,λi d v h1 h2=>(r.2 i d v h1 h2).mono s⟩
theorem Zs.nil:Zs K F [] []:=⟨rfl,λi d v h=>by simp at h⟩
theorem Zs.cons(r:Rep K F d v)(q:Zs K F ds vs):Zs K F (d::ds) (v::vs) :=
 ⟨by rw[Zy3,Zy3,q.1],λi e u h1 h2=>by
  cases i with
  | zero=>rw[ZBl]at h1 h2;cases h1; cases h2; exact r
  | succ i=>rw[Zzv]at h1 h2;exact q.2 i e u h1 h2⟩
theorem Zs.nil_inv(r:Zs K F [] vs):vs=[]:=ZAq r.1.symm
theorem Zs.cons_inv(r:Zs K F (d::ds) vs):∃v us,vs=v::us/\Rep K F d v/\Zs K F ds us:=by
 cases vs with
 | nil=>exact absurd r.1 (by simp)
 | cons v us =>
  refine⟨v,us,rfl,r.2 0 d v rfl rfl,?_,λi e u h1 h2=>r.2 (i+1) e u ?_ ?_⟩
  ·have:=r.1
   rw[Zy3,Zy3]at this;omega
  ·rw[Zzv]; exact h1
  ·rw[Zzv]; exact h2
theorem Zs.append(r:Zs K F ds vs)(q:Zs K F es us):Zs K F (ds++es) (vs++us):=by
 refine⟨by rw[Zy8,Zy8,r.1,q.1],λi e u h1 h2=>?_⟩
 by_cases hi:i<ds.length
 ·rw[ZzK hi]at h1
  rw[ZzK (by rw[<-r.1]; exact hi)]at h2;exact r.2 i e u h1 h2
 ·rw[ZzE (by omega)]at h1
  rw[ZzE (by have:=r.1; omega),<-r.1]at h2;exact q.2 _ e u h1 h2
theorem Zs.get(r:Zs K F ds vs){i:Nat}(h:ds[i]?=some d):∃v,vs[i]?=some v/\Rep K F d v:=by
 have hi:i<vs.length:=by rw[<-r.1]; exact(ZyZ.mp h).1
 exact⟨vs[i],Zy9 hi,r.2 i d _ h (Zy9 hi)⟩
theorem Zs.drop(r:Zs K F ds vs)(n:Nat):Zs K F (ds.drop n) (vs.drop n) :=
 ⟨by rw[ZBd,ZBd,r.1],λi e u h1 h2=>by rw[List.getElem?_drop]at h1 h2;exact r.2 _ e u h1 h2⟩
theorem Zs.take(r:Zs K F ds vs)(n:Nat):Zs K F (ds.take n) (vs.take n) :=
 ⟨by rw[Zz6,Zz6,r.1],λi e u h1 h2=>by
  by_cases hi:i<n
  ·rw[ZC4 hi]at h1 h2
   exact r.2 _ e u h1 h2
  ·rw[List.getElem?_take_eq_none (by omega)]at h1
   cases h1⟩
theorem Zs.set(r:Zs K F ds vs)(q:Rep K F d v)(j:Nat):Zs K F (ds.set j d) (vs.set j v):=by
 refine⟨by rw[Zz5,Zz5,r.1],λi e u h1 h2=>?_⟩;have hi:i<ds.length:=by have:=(ZyZ.mp h1).1; rwa [Zz5]at this
 by_cases e1:j=i
 ·subst e1
  rw[ZzL hi]at h1;rw[ZzL (by rw[<-r.1]; exact hi)]at h2;cases h1; cases h2; exact q
 ·rw[Zzn e1]at h1 h2
  exact r.2 i e u h1 h2
theorem Zs.rep(r:Zs K F ds vs)(k:Nat):Zs K F (Zzo k ds).flatten (Zzo k vs).flatten:=by
 induction k with
 | zero=>exact Zs.nil
 | succ k ih=>rw[ZAA,ZAA,ZA7,ZA7]; exact r.append ih
theorem Zs.one(r:Rep K F d v):Zs K F [d] [v]:=.cons r .nil
end
def Fre(H:Hp)(a:Addr)(o:HO):Prop:=H a=none\/∃xs,o=.tup xs/\H a=some (.tup xs)
theorem Fre.back{H H':Hp}{a:Addr}{o:HO}(s:ZaF H H')(f:Fre H' a o):Fre H a o:=by
 rcases f with f | ⟨xs,e,f⟩
 ·exact .inl (s.free f)
 ·cases q:H a with
  | none=>exact .inl q
  | some u =>
   have:=s.back q f λ_ z=>by cases z
   subst this;exact .inr ⟨xs,e,q⟩
theorem Fre.no{H:Hp}{a:Addr}{o u:HO}(f:Fre H a o)(h:H a=some u)(n:∀xs,u≠.tup xs):False:=by
 rcases f with f | ⟨xs,_,f⟩
 ·rw[h]at f; cases f
 ·rw[h]at f; cases f; exact n xs rfl
structure Ext(F H F' H':Hp):Prop where
 ff:Zr F F'
 hh:ZaF H H'
 sub:Zr F' H'
 new:∀a o,F' a=some o->F a=some o\/Fre H a o
 tab:Tb H->Tb H'
 nts:NoT F->NoT F'
theorem Ext.refl{F H:Hp}(s:Zr F H):Ext F H F H:=⟨Zr.refl F,ZaF.refl H,s,λ_ _ h=>.inl h,id,id⟩
theorem Ext.trans{F H F1 H1 F2 H2:Hp}(a:Ext F H F1 H1)(b:Ext F1 H1 F2 H2):Ext F H F2 H2 :=
 ⟨a.ff.trans b.ff,a.hh.trans b.hh,b.sub,λx o h=>by
  rcases b.new x o h with q | q
  ·exact a.new x o q
  ·exact .inr (q.back a.hh),λt=>b.tab (a.tab t),λt=>b.nts (a.nts t)⟩
theorem Zkq{F:Hp}{p:Addr}{o:HO}(h:F p=none):Zr F (upd F p o):=λb q z=>by rw[ZE (Zay z h)]; exact z
theorem Ext.lay{F H F' H':Hp}(e:Ext F H F' H'){p:Addr}{o:HO}(h:H' p=none)(no:nt o=true:=by rfl):Ext F H (upd F' p o) (upd H' p o):=by
 have hF:F' p=none:=e.sub.free h;refine⟨λb q z=>?_,e.hh.trans (.of (Zkq h)),λb q z=>?_,λb q z=>?_,λt=>(e.tab t).same (Zkq h),λt=>(e.nts t).upd no⟩
 ·rw[ZE (Zay (e.ff b q z) hF)]; exact e.ff b q z
 ·by_cases hb:b=p
  ·subst hb; rw[ZH]at z ⊢; exact z
  ·rw[ZE hb]at z ⊢; exact e.sub b q z
 ·by_cases hb:b=p
  ·subst hb; exact .inr (.inl (e.hh.free h))
  ·rw[ZE hb]at z; exact e.new b q z
theorem Ext.lay'{F H F' H':Hp}(e:Ext F H F' H'){p:Addr}{o:HO}(h:H' p=none):Ext F H F' (upd H' p o):=by refine⟨e.ff,e.hh.trans (.of (Zkq h)),λb q z=>?_,e.new,λt=>(e.tab t).same (Zkq h),e.nts⟩;rw[ZE (Zay (e.sub b q z) h)]; exact e.sub b q z
theorem Zr.upd'{F:Hp}{p:Addr}{o:HO}(h:F p=none):Zr F (upd F p o):=λb q z=>by rw[ZE (Zay z h)]; exact z
def Zbw(F H:Hp):Hp:=λa=>match H a with
 | some (.tup xs)=>some (.tup xs)
 | _=>F a
theorem Zkk{F H:Hp}{a:Addr}{xs:List V}(h:H a=some (.tup xs)):Zbw F H a=some (.tup xs):=by unfold Zbw; rw[h]
theorem ZdS{F H:Hp}(s:Zr F H):Zr F (Zbw F H):=λa o h=>by
 have:=s a o h;unfold Zbw;split
 ·rename_i xs q
  rw[q]at this;exact this
 ·exact h
theorem Ext.tups{F H F' H':Hp}(e:Ext F H F' H'):Ext F H (Zbw F' H') H':=by
 have key:Ext F' H' (Zbw F' H') H':=by
  refine⟨ZdS e.sub,ZaF.refl H',λa o h=>?_,λa o h=>?_,id,λn a o h=>?_⟩
  ·unfold Zbw at h
   split at h
   ·rename_i xs q; rw[q]; exact h
   ·exact e.sub a o h
  ·unfold Zbw at h
   split at h
   ·rename_i xs q
    cases h;exact .inr (.inr ⟨xs,rfl,q⟩)
   ·exact .inl h
  ·unfold Zbw at h
   split at h
   ·cases h; rfl
   ·exact n a o h
 exact e.trans key
inductive Zan(K:ZyK)(F H:Hp):HM.B->V->List Addr->Prop where
 | pl {d:PyData} {v:V} (r:Rep K F d v):Zan K F H (.pl d) v []
 | ol {a:Addr} {ds:List PyData} {vs:List V} (h:H a=some (.lst vs)) (r:Zs K F ds vs):Zan K F H (.ol ds) (.ref a) [a]
 | ok {a:Addr} {kvs:List (Key × PyData)} {vvs:List (Key × V)} (h:H a=some (.dK vvs)) (hk:kvs.map (·.1)=vvs.map (·.1)) (r:Zs K F (kvs.map (·.2)) (vvs.map (·.2))):Zan K F H (.ok kvs) (.ref a) [a]
 | ot {a:Addr} {kvs:List (List Key × PyData)} {vvs:List (List Key × V)} (h:H a=some (.dT vvs)) (hk:kvs.map (·.1)=vvs.map (·.1)) (r:Zs K F (kvs.map (·.2)) (vvs.map (·.2))):Zan K F H (.ot kvs) (.ref a) [a]
 | otl {a:Addr} {kvs:List (List Key × List PyData)} {vvs:List (List Key × V)} {ls:List Addr} (h:H a=some (.dT vvs)) (hk:kvs.map (·.1)=vvs.map (·.1)) (hv:vvs.map (·.2)=ls.map V.ref)
   (r:∀(i:Nat) (ds:List PyData) (l:Addr),(kvs.map (·.2))[i]?=some ds->ls[i]?=some l->∃vs,H l=some (.lst vs)/\Zs K F ds vs):Zan K F H (.otl kvs) (.ref a) (a::ls)
 | hd {a:Addr} {o:Obj} {es:List (PyData × PyData)} {kvs:List (List Key × PyData)} {vvs:List (List Key × V)} (h:F a=some (.frz o (.dT vvs))) (he:es=HM.Ze kvs) (hk:kvs.map (·.1)=vvs.map (·.1)) (r:Zs K F (kvs.map (·.2)) (vvs.map (·.2))):Zan K F H (.hd es) (.ref a) []
 | hf {a:Addr} {t:Nat} {cs:List PyData} (h:FX.fv t cs F a):Zan K F H (.hd [(.none,.int (Int.ofNat t)),(.none,.list cs)]) (.ref a) []
section
variable{K:ZyK}{F F' H H':Hp}{b:HM.B}{v:V}{fp:List Addr}
theorem Zan.mono(r:Zan K F H b v fp)(s:Zr F F')(k:∀a∈fp,∀o,H a=some o->Zdq H' a o):Zan K F' H' b v fp:=by
 cases r with
 | pl r=>exact .pl (r.mono s)
 | ol h r=>exact .ol (k _ (by simp) _ h) (r.mono s)
 | ok h hk r=>exact .ok (k _ (by simp) _ h) hk (r.mono s)
 | ot h hk r=>exact .ot (k _ (by simp) _ h) hk (r.mono s)
 | hd h he hk r=>exact .hd (s _ _ h) he hk (r.mono s)
 | hf h=>exact .hf (FX.mono h s)
 | otl h hk hv r=>refine .otl (k _ (by simp) _ h) hk hv λi ds l h1 h2=>?_;obtain⟨vs,q1,q2⟩:=r i ds l h1 h2;exact⟨vs,k l (ZyQ _ (Zzj h2)) _ q1,q2.mono s⟩
theorem Zan.there2(r:Zan K F H b v fp){a:Addr}(h:a∈fp):∃o,H a=some o/\ZlB o=true:=by
 cases r with
 | pl r=>simp at h
 | hd _ _ _ _=>simp at h
 | hf _=>simp at h
 | ol q r=>simp at h; subst h; exact⟨_,q,rfl⟩
 | ok q hk r=>simp at h; subst h; exact⟨_,q,rfl⟩
 | ot q hk r=>simp at h; subst h; exact⟨_,q,rfl⟩
 | @otl a' kvs vvs ls q hk hv r =>
  rcases Zzb.mp h with e | e
  ·subst e; exact⟨_,q,rfl⟩
  ·obtain⟨i,hi⟩:=List.getElem?_of_mem e
   have hl:kvs.length=ls.length:=by have e1:=congrArg Zzw hk;have e2:=congrArg Zzw hv;rw[ZyJ,ZyJ]at e1 e2;omega
   have hi':i<kvs.length:=by rw[hl]; exact(ZyZ.mp hi).1
   obtain⟨vs,q1,_⟩:=r i (kvs[i].2) a (by simp[hi']) hi;exact⟨_,q1,rfl⟩
theorem Zan.there'(r:Zan K F H b v fp){a:Addr}(h:a∈fp):∃o,H a=some o/\∀xs,o≠.tup xs:=by
 cases r with
 | pl r=>simp at h
 | hd _ _ _ _=>simp at h
 | hf _=>simp at h
 | ol q r=>simp at h; subst h; exact⟨_,q,λ_ z=>by cases z⟩
 | ok q hk r=>simp at h; subst h; exact⟨_,q,λ_ z=>by cases z⟩
 | ot q hk r=>simp at h; subst h; exact⟨_,q,λ_ z=>by cases z⟩
 | @otl a' kvs vvs ls q hk hv r =>
  rcases Zzb.mp h with e | e
  ·subst e; exact⟨_,q,λ_ z=>by cases z⟩
  ·obtain⟨i,hi⟩:=List.getElem?_of_mem e
   have hl:kvs.length=ls.length:=by have e1:=congrArg Zzw hk;have e2:=congrArg Zzw hv;rw[ZyJ,ZyJ]at e1 e2;omega
   have hi':i<kvs.length:=by rw[hl]; exact(ZyZ.mp hi).1
   obtain⟨vs,q1,_⟩:=r i (kvs[i].2) a (by simp[hi']) hi;exact⟨_,q1,λ_ z=>by cases z⟩
theorem Zan.there(r:Zan K F H b v fp){a:Addr}(h:a∈fp):∃o,H a=some o:=let ⟨o,q,_⟩:=r.there' h; ⟨o,q⟩
end
structure Zbr(K:ZyK)(F0 H0 F H:Hp)(r:HM.Env)(σ:L2.St)(fp:Nat->List Addr):Prop where
 ext:Ext F0 H0 F H
 len:r.length=σ.length
 at_:∀(i:Nat) (b:HM.B),r[i]?=some (some b)->∃v,σ[i]?=some (some v)/\Zan K F H b v (fp i)
 emp:∀(i:Nat),(∀b,r[i]?≠some (some b))->fp i=[]
 own:∀(i:Nat) (a:Addr),a∈fp i->F a=none/\H0 a=none
 nd:∀i,(fp i).Nodup
 dis:∀(i j:Nat) (a:Addr),i≠j->a∈fp i->¬a∈fp j
 tb:Tb H0
 nt:NoT F0
def At(K:ZyK)(F0 H0 F H:Hp)(r:HM.Env)(σ:L2.St):Prop:=∃fp,Zbr K F0 H0 F H r σ fp
section
variable{K:ZyK}{F0 H0 F H F' H':Hp}{r:HM.Env}{σ:L2.St}{fp:Nat->List Addr}{i:Nat}{b:HM.B}{v:V}{d:PyData}
theorem Zbr.bound(e:Zbr K F0 H0 F H r σ fp){a:Addr}(h:a∈fp i):∃b,r[i]?=some (some b):=by
 cases q:r[i]? with
 | none=>rw[e.emp i (λb z=>by rw[q]at z; cases z)]at h; simp at h
 | some x =>
  cases x with
  | none=>rw[e.emp i (λb z=>by rw[q]at z; cases z)]at h; simp at h
  | some b=>exact⟨b,rfl⟩
theorem Zbr.there'(e:Zbr K F0 H0 F H r σ fp){a:Addr}(h:a∈fp i):∃o,H a=some o/\∀xs,o≠.tup xs:=by obtain⟨b,hb⟩:=e.bound h;obtain⟨v,_,q⟩:=e.at_ i b hb;exact q.there' h
theorem Zbr.there2(e:Zbr K F0 H0 F H r σ fp){a:Addr}(h:a∈fp i):∃o,H a=some o/\ZlB o=true:=by obtain⟨b,hb⟩:=e.bound h;obtain⟨v,_,q⟩:=e.at_ i b hb;exact q.there2 h
theorem Zbr.there(e:Zbr K F0 H0 F H r σ fp){a:Addr}(h:a∈fp i):∃o,H a=some o:=let ⟨o,q,_⟩:=e.there' h; ⟨o,q⟩
theorem Zbr.sub(e:Zbr K F0 H0 F H r σ fp):Zr F H:=e.ext.sub
theorem Zbr.grow(e:Zbr K F0 H0 F H r σ fp)(x:Ext F H F' H'):Zbr K F0 H0 F' H' r σ fp:=by
 refine⟨e.ext.trans x,e.len,λi b h=>?_,e.emp,λi a h=>⟨?_,(e.own i a h).2⟩,e.nd,e.dis,e.tb,e.nt⟩
 ·obtain⟨v,h1,h2⟩:=e.at_ i b h
  exact⟨v,h1,h2.mono x.ff λa _ o q=>x.hh a o q⟩
 ·cases q:F' a with
  | none=>rfl
  | some o =>
   rcases x.new a o q with z | z
   ·rw[(e.own i a h).1]at z; cases z
   ·obtain⟨o',h',hn⟩:=e.there' h
    exact(z.no h' hn).elim
theorem At.grow(e:At K F0 H0 F H r σ)(x:Ext F H F' H'):At K F0 H0 F' H' r σ:=let ⟨fp,e⟩:=e; ⟨fp,e.grow x⟩
theorem At.tb(e:At K F0 H0 F H r σ):Tb H:=let ⟨_,e⟩:=e; e.ext.tab e.tb
theorem At.tbx(e:At K F0 H0 F H r σ)(x:Ext F H F' H'):Tb H':=x.tab e.tb
theorem At.nt(e:At K F0 H0 F H r σ):NoT F:=let ⟨_,e⟩:=e; e.ext.nts e.nt
theorem At.ntx(e:At K F0 H0 F H r σ)(x:Ext F H F' H'):NoT F':=x.nts e.nt
theorem At.nt0(e:At K F0 H0 F H r σ):NoT F0:=let ⟨_,e⟩:=e; e.nt
theorem At.sub(e:At K F0 H0 F H r σ):Zr F H:=let ⟨_,e⟩:=e; e.ext.sub
theorem At.ext(e:At K F0 H0 F H r σ):Ext F0 H0 F H:=let ⟨_,e⟩:=e; e.ext
theorem At.refl(e:At K F0 H0 F H r σ):Ext F H F H:=.refl e.sub
theorem At.plain(e:At K F0 H0 F H r σ)(h:r[i]?=some (some (.pl d))):∃v,σ[i]?=some (some v)/\Rep K F d v:=by
 obtain⟨fp,e⟩:=e;obtain⟨v,h1,h2⟩:=e.at_ i _ h;generalize fp i=f at h2;cases h2 with
 | pl q=>exact⟨v,h1,q⟩
theorem At.any(e:At K F0 H0 F H r σ)(h:r[i]?=some (some b)):∃v fp,σ[i]?=some (some v)/\Zan K F H b v fp:=by obtain⟨fp,e⟩:=e;obtain⟨v,h1,h2⟩:=e.at_ i _ h;exact⟨v,_,h1,h2⟩
theorem At.store(e:At K F0 H0 F H r σ){fp':List Addr}(q:Zan K F H b v fp')(nd:fp'.Nodup)(h1:∀a∈fp',F a=none/\H0 a=none)(h2:∀fp,Zbr K F0 H0 F H r σ fp->∀j a,j≠i->a∈fp j->¬a∈fp') :
  At K F0 H0 F H (r.set i (some b)) (σ.set i (some v)):=by
 obtain⟨fp,e⟩:=e;have h2:=h2 fp e
 by_cases hi:i<r.length
 ·refine⟨λj=>if j=i then fp' else fp j,e.ext,by rw[Zz5,Zz5,e.len],λj c h=>?_,λj h=>?_,λj a h=>?_,λj=>?_,λj k a hjk h=>?_,e.tb,e.nt⟩
  ·by_cases hj:j=i
   ·subst hj
    rw[ZzL hi]at h;cases h;refine⟨v,ZzL (by rw[<-e.len]; exact hi),?_⟩;rw[if_pos rfl]; exact q
   ·rw[Zzn (ZzX hj)]at h
    obtain⟨u,q1,q2⟩:=e.at_ j c h;refine⟨u,by rw[Zzn (ZzX hj)]; exact q1,?_⟩;rw[if_neg hj]; exact q2
  ·by_cases hj:j=i
   ·subst hj
    exact absurd (ZzL hi) (h b)
   ·show(if j=i then fp' else fp j)=[]
    rw[if_neg hj];exact e.emp j λc z=>h c (by rw[Zzn (ZzX hj)]; exact z)
  ·by_cases hj:j=i
   ·rw[if_pos hj]at h; exact h1 a h
   ·rw[if_neg hj]at h; exact e.own j a h
  ·show(if j=i then fp' else fp j).Nodup
   by_cases hj:j=i
   ·rw[if_pos hj]; exact nd
   ·rw[if_neg hj]; exact e.nd j
  ·show ¬a∈(if k=i then fp' else fp k)
   by_cases hj:j=i
   ·rw[if_pos hj]at h
    by_cases hk:k=i
    ·exact absurd (hj.trans hk.symm) hjk
    ·rw[if_neg hk]; exact λz=>h2 k a hk z h
   ·rw[if_neg hj]at h
    by_cases hk:k=i
    ·rw[if_pos hk]; exact h2 j a hj h
    ·rw[if_neg hk]; exact e.dis j k a hjk h
 ·have e1:r.set i (some b)=r:=ZC6 (by omega)
  have e2:σ.set i (some v)=σ:=ZC6 (by have:=e.len; omega);rw[e1,e2];exact⟨fp,e⟩
theorem At.set(e:At K F0 H0 F H r σ)(q:Rep K F d v):At K F0 H0 F H (r.set i (some (.pl d))) (σ.set i (some v)) :=
 e.store (.pl q) ZAI (λa h=>by simp at h) λ_ _ _ _ _ _ h=>by simp at h
theorem Zbr.changeW(e:Zbr K F0 H0 F H r σ fp)(hv:σ[i]?=some (some v)){fp':List Addr}(q:Zan K F H' b v fp')(nd:fp'.Nodup)(h1:∀a∈fp',a∈fp i\/(F a=none/\H0 a=none/\∀j,a ∉ fp j))
  (h2:∀a o,H a=some o->¬a∈fp i->H' a=some o):At K F0 H0 F H' (r.set i (some b)) σ:=by
 have sF:Zr F H':=λa o z=>h2 a o (e.sub a o z) λm=>by rw[(e.own i a m).1]at z; cases z
 have sH:ZaF H0 H':=λa o z=>by
  have nm:¬a∈fp i:=λm=>by rw[(e.own i a m).2]at z; cases z
  have y:=e.ext.hh a o z;cases o<;>first | exact h2 a _ y nm | (obtain⟨ps,q⟩:=y; exact⟨ps,h2 a _ q nm⟩)
 have sT:Tb H0->Tb H':=λt=>(e.ext.tab t).keep λa o z ho=>h2 a o z λm=>by obtain⟨o',q1,q2⟩:=e.there2 m;rw[z]at q1; cases q1; exact Zsr q2 ho
 have e':Zbr K F0 H0 F H' (r.set i none) (σ.set i none) (λj=>if j=i then[]else fp j):=by
  refine⟨⟨e.ext.ff,sH,sF,e.ext.new,sT,e.ext.nts⟩,by rw[Zz5,Zz5,e.len],λj c h=>?_,λj h=>?_,λj a h=>?_,λj=>?_,λj k a hjk h=>?_,e.tb,e.nt⟩
  ·by_cases hj:j=i
   ·subst hj
    by_cases hi:j<r.length
    ·rw[ZzL hi]at h; cases h
    ·rw[ZDz (by rw[Zz5]; omega)]at h; cases h
   ·rw[Zzn (ZzX hj)]at h
    obtain⟨u,q1,q2⟩:=e.at_ j c h;refine⟨u,by rw[Zzn (ZzX hj)]; exact q1,?_⟩;rw[if_neg hj];exact q2.mono (Zr.refl F) λa ha o z=>.of (h2 a o z (e.dis j i a hj ha))
  ·show(if j=i then[]else fp j)=[]
   by_cases hj:j=i
   ·rw[if_pos hj]
   ·rw[if_neg hj]
    exact e.emp j λc z=>h c (by rw[Zzn (ZzX hj)]; exact z)
  ·by_cases hj:j=i
   ·rw[if_pos hj]at h; simp at h
   ·rw[if_neg hj]at h; exact e.own j a h
  ·show(if j=i then[]else fp j).Nodup
   by_cases hj:j=i
   ·rw[if_pos hj]; exact ZAI
   ·rw[if_neg hj]; exact e.nd j
  ·show ¬a∈(if k=i then[]else fp k)
   by_cases hj:j=i
   ·rw[if_pos hj]at h; simp at h
   ·rw[if_neg hj]at h
    by_cases hk:k=i
    ·rw[if_pos hk]; simp
    ·rw[if_neg hk]; exact e.dis j k a hjk h
 have hF:∀a∈fp',F a=none/\H0 a=none:=λa ha=>by
  rcases h1 a ha with z | z
  ·exact e.own i a z
  ·exact⟨z.1,z.2.1⟩
 have e2:=At.store (i:=i) ⟨_,e'⟩ q nd hF λfq eq j a hj ha z=>by
  obtain⟨c,hc⟩:=eq.bound ha;rw[Zzn (ZzX hj)]at hc;obtain⟨u1,s1,r1⟩:=eq.at_ j c (by rw[Zzn (ZzX hj)]; exact hc);obtain⟨u2,s2,r2⟩:=e.at_ j c hc;rw[Zzn (ZzX hj),s2]at s1;cases s1;have hm:a∈fp j:=by
   have r2':=r2.mono (H':=H') (Zr.refl F) λa ha o z=>.of (h2 a o z (e.dis j i a hj ha))
   clear r2
   generalize fq j=f1 at r1 ha;generalize fp j=f2 at r2' ⊢;cases r1 with
   | pl _=>simp at ha
   | hd _ _ _ _=>simp at ha
   | hf _=>simp at ha
   | ol _ _=>cases r2' with | ol _ _=>exact ha
   | ok _ _ _=>cases r2' with | ok _ _ _=>exact ha
   | ot _ _ _=>cases r2' with | ot _ _ _=>exact ha
   | otl a1 _ v1 _ =>
    cases r2' with
    | otl a2 _ v2 _ =>
     rw[a1]at a2;cases a2;rw[v1]at v2;have:∀{l l':List Addr},l.map V.ref=l'.map V.ref->l=l':=by
      intro l
      induction l with
      | nil=>intro l' h; cases l' with | nil=>rfl | cons _ _=>simp at h
      | cons x xs ih =>
       intro l' h;cases l' with
       | nil=>simp at h
       | cons y ys =>
        rw[ZyS,ZyS]at h;injection h with h1 h2
        injection h1 with h1
        rw[h1,ih h2]
     rw[<-this v2]; exact ha
  rcases h1 a z with w | w
  ·exact e.dis j i a hj hm w
  ·exact w.2.2 j hm
 rw[ZCj,ZCj]at e2;have es:σ.set i (some v)=σ:=by have hi:i<σ.length:=(ZyZ.mp hv).1;have hq:σ[i]=some v:=(ZyZ.mp hv).2;rw[<-hq];exact ZBA hi
 rwa [es]at e2
theorem Zbr.change(e:Zbr K F0 H0 F H r σ fp)(hv:σ[i]?=some (some v)){fp':List Addr}(q:Zan K F H' b v fp')(nd:fp'.Nodup)(h1:∀a∈fp',a∈fp i\/H a=none)
  (h2:∀a o,H a=some o->¬a∈fp i->H' a=some o):At K F0 H0 F H' (r.set i (some b)) σ :=
 e.changeW hv q nd (λa ha=>(h1 a ha).imp id λz=>⟨e.sub.free z,e.ext.hh.free z,λj hj=>by obtain⟨o,ho⟩:=e.there hj;rw[z]at ho; cases ho⟩) h2
theorem At.storeNew{Hb:Hp}(e:At K F0 H0 F H r σ)(hb:At K F0 H0 F' Hb r σ)(sb:ZaF Hb H){fp':List Addr}(q:Zan K F H b v fp')(nd:fp'.Nodup)(h1:∀a∈fp',F a=none/\Hb a=none) :
  At K F0 H0 F H (r.set i (some b)) (σ.set i (some v)):=by
 refine e.store q nd (λa h=>⟨(h1 a h).1,hb.ext.hh.free (h1 a h).2⟩) λfp e1 j a hj ha z=>?_;obtain⟨fq,eb⟩:=hb;obtain⟨c,hc⟩:=e1.bound ha;obtain⟨u1,s1,r1⟩:=e1.at_ j c hc;obtain⟨u2,s2,r2⟩:=eb.at_ j c hc;rw[s2]at s1;cases s1;have hn:=(h1 a z).2;have old:∀{x:Addr} {o o':HO},Hb x=some o->H x=some o'->(∀ps,o'≠.tbl ps)->o=o':=λ{x o o'} h1 h2 n=>sb.back h1 h2 n;generalize fp j=f1 at r1 ha;generalize fq j=f2 at r2;cases r1 with
 | pl _=>simp at ha
 | hd _ _ _ _=>simp at ha
 | hf _=>simp at ha
 | ol k _=>cases r2 with | ol k' _=>simp at ha; subst ha; rw[hn]at k'; cases k'
 | ok k _ _=>cases r2 with | ok k' _ _=>simp at ha; subst ha; rw[hn]at k'; cases k'
 | ot k _ _=>cases r2 with | ot k' _ _=>simp at ha; subst ha; rw[hn]at k'; cases k'
 | otl k _ v1 _ =>
  cases r2 with
  | otl k' hk' v2 r2' =>
   have eo:=old k' k λ_ z=>by cases z
   injection eo with eo
   subst eo;have v2':=v2;rw[v1]at v2;rcases Zzb.mp ha with z2 | z2
   ·subst z2; rw[hn]at k'; cases k'
   ·have:V.ref a∈ZA3 V.ref _:=ZyU.mpr ⟨a,z2,rfl⟩
    rw[v2]at this;obtain⟨a',m1,m2⟩:=ZyU.mp this;injection m2 with m2
    subst m2;obtain⟨o,ho⟩:=Zan.there (Zan.otl k' hk' v2' r2') (ZyQ _ m1);rw[hn]at ho; cases ho
theorem At.rebase(e:At K F0 H0 F H r σ):At K F H0 F H r σ:=by obtain⟨fp,e⟩:=e;exact⟨fp,⟨Zr.refl F,e.ext.hh,e.ext.sub,λ_ _ z=>.inl z,e.ext.tab,id⟩,e.len,e.at_,e.emp,e.own,e.nd,e.dis,e.tb,e.ext.nts e.nt⟩
theorem Ext.unbase{F1 H1:Hp}(x:Ext F0 H0 F1 H1)(y:Ext F1 H0 F H):Ext F0 H0 F H :=
 ⟨x.ff.trans y.ff,y.hh,y.sub,λa o z=>(y.new a o z).elim (λq=>x.new a o q) .inr,y.tab,λt=>y.nts (x.nts t)⟩
theorem At.unbase{F1 H1:Hp}(x:Ext F0 H0 F1 H1)(n:NoT F0)(e:At K F1 H0 F H r σ):At K F0 H0 F H r σ:=by obtain⟨fp,e⟩:=e;exact⟨fp,x.unbase e.ext,e.len,e.at_,e.emp,e.own,e.nd,e.dis,e.tb,n⟩
theorem Zbr.freeze{fp:Nat->List Addr}(e:Zbr K F0 H0 F H r σ fp)(i:Nat){b:HM.B}{a:Addr}{ob:HO}{d:PyData}(hb:r[i]?=some (some b))(h1:σ[i]?=some (some (.ref a)))(hfp:fp i=[a])(ha:H a=some ob)(hr:Zr F (upd F a ob)->Rep K (upd F a ob) d (.ref a))(no:HP.nt ob=true:=by rfl) :
  ∃F',Ext F0 H0 F' H/\Zr F F'/\At K F0 H0 F' H (r.set i (some (.pl d))) σ:=by
 have hF:F a=none:=(e.own i a (by rw[hfp]; simp)).1;have s:Zr F (upd F a ob):=Zr.upd' hF;have x:Ext F0 H0 (upd F a ob) H:=by
  refine⟨e.ext.ff.trans s,e.ext.hh,λc o z=>?_,λc o z=>?_,e.ext.tab,λt=>(e.ext.nts t).upd no⟩
  ·by_cases hc:c=a
   ·subst hc; rw[ZH]at z; cases z; exact ha
   ·rw[ZE hc]at z; exact e.sub c o z
  ·by_cases hc:c=a
   ·subst hc; exact .inr (.inl (e.own i c (by rw[hfp]; simp)).2)
   ·rw[ZE hc]at z; exact e.ext.new c o z
 refine⟨_,x,s,?_⟩;have e1:Zbr K F0 H0 (upd F a ob) H (r.set i none) (σ.set i none) (λj=>if j=i then[]else fp j):=by
  refine⟨x,by rw[Zz5,Zz5,e.len],λj c h=>?_,λj h=>?_,λj c h=>?_,λj=>?_,λj k c hjk h=>?_,e.tb,e.nt⟩
  ·by_cases hj:j=i
   ·subst hj
    rw[ZzL (ZyZ.mp hb).1]at h; cases h
   ·rw[Zzn (ZzX hj)]at h
    obtain⟨u,q1,q2⟩:=e.at_ j c h;refine⟨u,by rw[Zzn (ZzX hj)]; exact q1,?_⟩;rw[if_neg hj]; exact q2.mono s λ_ _ _ z=>.of z
  ·show(if j=i then[]else fp j)=[]
   by_cases hj:j=i
   ·rw[if_pos hj]
   ·rw[if_neg hj]
    exact e.emp j λc z=>h c (by rw[Zzn (ZzX hj)]; exact z)
  ·by_cases hj:j=i
   ·rw[if_pos hj]at h; simp at h
   ·rw[if_neg hj]at h
    have hca:c≠a:=λz=>e.dis j i c hj h (by rw[hfp,z]; simp);exact⟨by rw[ZE hca]; exact(e.own j c h).1,(e.own j c h).2⟩
  ·show(if j=i then[]else fp j).Nodup
   by_cases hj:j=i
   ·rw[if_pos hj]; exact ZAI
   ·rw[if_neg hj]; exact e.nd j
  ·show ¬c∈(if k=i then[]else fp k)
   by_cases hj:j=i
   ·rw[if_pos hj]at h; simp at h
   ·rw[if_neg hj]at h
    by_cases hk:k=i
    ·rw[if_pos hk]; simp
    ·rw[if_neg hk]; exact e.dis j k c hjk h
 have rp:=hr s;have e2:=At.set (i:=i) ⟨_,e1⟩ rp;rw[ZCj,ZCj]at e2;have es:σ.set i (some (.ref a))=σ:=by have hi:i<σ.length:=(ZyZ.mp h1).1;have hq:σ[i]=some (.ref a):=(ZyZ.mp h1).2;rw[<-hq];exact ZBA hi
 rwa [es]at e2
theorem At.freeze(e:At K F0 H0 F H r σ)(i:Nat):∃F',Ext F0 H0 F' H/\Zr F F'/\At K F0 H0 F' H (HM.Zlb i r) σ:=by
 unfold HM.Zlb;split
 ·rename_i ds hb
  obtain⟨fp,e⟩:=e;obtain⟨v,h1,h2⟩:=e.at_ i _ hb;generalize hfp:fp i=f at h2;cases h2 with
  | @ol a _ vs ha q=>exact e.freeze i hb h1 hfp ha λs=>.lst (.of ZH) q.1 (q.mono s).2
 ·rename_i kvs hb
  obtain⟨fp,e⟩:=e;obtain⟨v,h1,h2⟩:=e.at_ i _ hb;generalize hfp:fp i=f at h2;cases h2 with
  | @ot a _ vvs ha hk q=>exact e.freeze i hb h1 hfp ha λs=>.dct (.inl ZH) rfl hk (q.mono s).2
 ·exact⟨F,e.ext,Zr.refl F,e⟩
end
inductive Now(K:ZyK)(r:HM.Env)(σ:L2.St)(H:Hp)(C:Hp->Hp->Hp->Prop):Prop
 | mk (F0 H0 F:Hp) (at_:At K F0 H0 F H r σ) (k:C F0 H0 F):Now K r σ H C
end HP
namespace HP
open PySem PySem.Spec PyProof.Rows L2
variable[FX]
def tAt(K:ZyK)(r:HM.Env)(P:Hp->Hp->Hp->V->Prop):TE:=λσ H Q=>Now K r σ H λF0 H0 F=>∀v F' H',Ext F H F' H'->P H F' H' v->Q v H'
def XE(X:Cx)(e:Expr)(f:HM.EF):Prop:=∀r d,f r=some d->PE X e (tAt X.K r λ_ F' _ v=>Rep X.K F' d v)
def XB(X:Cx)(e:Expr)(f:HM.BF):Prop:=∀r b,f r=some b->PE X e (tAt X.K r λ_ F' H' v=>∃fp,Zan X.K F' H' b v fp)
def XF(X:Cx)(e:Expr)(f:HM.BF):Prop:=∀r b,f r=some b->PE X e (tAt X.K r λH F' H' v=>∃fp,Zan X.K F' H' b v fp/\fp.Nodup/\∀a∈fp,F' a=none/\H a=none)
def XT(X:Cx)(e:Expr)(f:HM.TF):Prop:=∀r c,f r=some c->PT X e λσ H Q=>Now X.K r σ H λF0 H0 F=>∀F' H',Ext F H F' H'->Q c H'
def XW(X:Cx)(e:Expr)(f:HM.TF):Prop:=∀r c,f r=some c->PW X e λσ H Q=>Now X.K r σ H λF0 H0 F=>∀F' H',Ext F H F' H'->Q c H'
structure XA(X:Cx)(es:List Expr)(f:HM.AF):Prop where
 len:∀r ds,f r=some ds->ds.length=es.length
 pa:∀r ds,f r=some ds->PA X es λσ H Q=>Now X.K r σ H λF0 H0 F=>∀vs F' H',Ext F H F' H'->Zs X.K F' ds vs->Q vs H'
def ItD(K:ZyK)(J:It)(ds:List PyData)(F:Hp):Prop:=∀F' H,Zr F F'->Zr F' H ->
 (∀(i:Nat) (d:PyData),ds[i]?=some d->J.go i H/\∀x H',J.yld i H x H'->H'=H/\Rep K (Zbw F' H) d x)/\J.stop ds.length H
def XI(X:Cx)(tg e:Expr)(f:HM.IF):Prop:=∀r ds,f r=some ds->PI X tg e λσ H R=>Now X.K r σ H λF0 H0 F=>∀J F' H',Ext F H F' H'->ItD X.K J ds F'->R J H'
def ZxW(K:ZyK)(F0 H0:Hp)(o:HM.Out)(E:Ends):Prop:=match o with
 | .nx r=>∀σ F H,At K F0 H0 F H r σ->E.nx σ H
 | .rt d=>∀v F H,Ext F0 H0 F H->Rep K F d v->E.rt v H
 | .bk r=>∀σ F H,At K F0 H0 F H r σ->E.bk σ H
 | .ct r=>∀σ F H,At K F0 H0 F H r σ->E.ct σ H
def tSt(K:ZyK)(r:HM.Env)(o:HM.Out):TS:=λE σ H=>Now K r σ H λF0 H0 F=>ZxW K F0 H0 o E
def XS(X:Cx)(st:Stmt)(g:HM.SF):Prop:=∀r o,g r=some o->PS X st (tSt X.K r o)
def XSs(X:Cx)(sts:List Stmt)(g:HM.SF):Prop:=∀r o,g r=some o->PSs X sts (tSt X.K r o)
theorem PE.imp{X:Cx}{e:Expr}{t u:TE}(h:PE X e t)(hi:∀σ H Q,u σ H Q->t σ H Q):PE X e u:=λpins s σ H Q I q=>h pins s σ H Q I (hi σ H Q q)
theorem PT.imp{X:Cx}{e:Expr}{t u:TT}(h:PT X e t)(hi:∀σ H Q,u σ H Q->t σ H Q):PT X e u:=λpins s σ H Q I q=>h pins s σ H Q I (hi σ H Q q)
theorem PW.imp{X:Cx}{e:Expr}{t u:TT}(h:PW X e t)(hi:∀σ H Q,u σ H Q->t σ H Q):PW X e u:=λwh pins s σ H Q I q=>h wh pins s σ H Q I (hi σ H Q q)
theorem PA.imp{X:Cx}{es:List Expr}{t u:TA}(h:PA X es t)(hi:∀σ H Q,u σ H Q->t σ H Q):PA X es u:=λp pins s σ H Q I q=>h p pins s σ H Q I (hi σ H Q q)
theorem PS.imp{X:Cx}{st:Stmt}{t u:TS}(h:PS X st t)(hi:∀E σ H,u E σ H->t E σ H):PS X st u:=λpins s σ H E I q=>h pins s σ H E I (hi E σ H q)
theorem PSs.imp{X:Cx}{sts:List Stmt}{t u:TS}(h:PSs X sts t)(hi:∀E σ H,u E σ H->t E σ H):PSs X sts u:=λpins s σ H E I q=>h pins s σ H E I (hi E σ H q)
section
variable{X:Cx}{a b c e:Expr}{fa fb fc:HM.EF}{pos p:Pos}
theorem Ztq{i:Nat}{r:HM.Env}{d:PyData}(h:HM.Zb i r=some d):r[i]?=some (some (.pl d)):=by
 unfold HM.Zb at h;split at h
 ·rename_i q; cases h; exact q
 ·cases h
theorem ZtK{i:Nat}{r:HM.Env}{d:HM.B}(h:HM.Zn i r=some d):r[i]?=some (some d):=by
 unfold HM.Zn at h;split at h
 ·rename_i q; cases h; exact q
 ·cases h
theorem Zd(i:Nat){x:Str}{pos:Pos}(hN:X.N[i]?=some x:=by rfl)(hv:Vis X.env.scope x:=by first | exact ZzO rfl | exact Zzi (ZzO rfl) | exact Zzi (Zzi rfl))(hd:(x==("__debug__":Str))=false:=by decide)
  (hcd:(x==("__classdict__":Str))=false:=by decide):XE X (.Name x pos) (HM.Zb i):=by
 intro r d h;refine PE.imp (ZcQ hN hv hd hcd) λσ H Q ⟨F0,H0,F,at_,k⟩=>?_;obtain⟨v,h1,h2⟩:=at_.plain (Ztq h);exact⟨v,h1,k v F H at_.refl h2⟩
theorem Zx(i:Nat){x:Str}{pos:Pos}(hN:X.N[i]?=some x:=by rfl)(hv:Vis X.env.scope x:=by first | exact ZzO rfl | exact Zzi (ZzO rfl) | exact Zzi (Zzi rfl))(hd:(x==("__debug__":Str))=false:=by decide)
  (hcd:(x==("__classdict__":Str))=false:=by decide):XB X (.Name x pos) (HM.Zn i):=by
 intro r d h;refine PE.imp (ZcQ hN hv hd hcd) λσ H Q ⟨F0,H0,F,at_,k⟩=>?_;obtain⟨v,fp,h1,h2⟩:=at_.any (ZtK h);exact⟨v,h1,k v F H at_.refl ⟨fp,h2⟩⟩
theorem ZeW{v:V}{d:PyData}(h:PE X e (tC v))(r:∀F,Rep X.K F d v):XE X e (HM.eC d):=by intro r' d' h';cases h';exact PE.imp h λσ H Q ⟨F0,H0,F,at_,k⟩=>k v F H at_.refl (r F)
theorem Zo{i:Int}{j:Nat}:XE X (.Constant (.int i) j pos) (HM.eC (.int i)):=ZeW Zsu λ_=>.int i
theorem ZbR{q:Bool}{j:Nat}:XE X (.Constant (.bool q) j pos) (HM.eC (.bool q)):=ZeW Zxx λ_=>.bl q
theorem Zbg{j:Nat}:XE X (.Constant .none j pos) (HM.eC .none):=ZeW ZsP λ_=>.non
theorem Zc6{x:Str}{j:Nat}:XE X (.Constant (.str x) j pos) (HM.eC (.str x)):=ZeW Zwi λ_=>.str x
theorem Zjo{x:Str}{i:Int}(hm:∃t,X.mg x=some (.int i t))(hg:Gl X x:=by rfl)(hd:(x==("__debug__":Str))=false:=by decide):XE X (.Name x pos) (HM.eC (.int i)):=by obtain⟨t,hm⟩:=hm;exact ZeW (Zqr hg hm (v:=.int i) ⟨t,rfl⟩ hd) λ_=>.int i
theorem Zvz{i:Int}{j:Nat}{p':Pos}:XE X (.UnaryOp .USub (.Constant (.int i) j p') pos) (HM.eC (.int (-i))):=by intro r d h;cases h;intro pins s σ H Q I q;obtain⟨F0,H0,F,at_,k⟩:=q;refine UnaryOp_ (thn (Zsu pins s σ H (λv H'=>v=.int i/\H'=H) I ⟨rfl,rfl⟩) λu s1 ⟨x,H1,I1,r1,e1,e2⟩=>?_);subst e1 e2;obtain⟨t,rfl⟩:=r1;exact neg_int ⟨.int (-i),H1,I1.tok _,⟨_,rfl⟩,k _ F H1 at_.refl (.int _)⟩
theorem Zco(h:XE X e fa):XB X e (HM.bOf fa):=by intro r b hb;obtain⟨d,h1,h2⟩:=ZyL.mp hb;subst h2;exact PE.imp (h r d h1) λσ H Q ⟨F0,H0,F,at_,k⟩=>⟨F0,H0,F,at_,λv F' H' x q=>k v F' H' x ⟨[],.pl q⟩⟩
theorem ZaO{f:HM.BF}(h:XF X e f):XB X e f:=λr b hb=>PE.imp (h r b hb) λσ H Q ⟨F0,H0,F,at_,k⟩=>⟨F0,H0,F,at_,λv F' H' x ⟨fp,q,_⟩=>k v F' H' x ⟨fp,q⟩⟩
theorem Zes{f:HM.BF}(h:XF X e f):XE X e (HM.eOf f):=by
 intro r d hd;unfold HM.eOf at hd;obtain⟨b,h1,h2⟩:=ZBZ.mp hd;refine PE.imp (h r b h1) λσ H Q ⟨F0,H0,F,at_,k⟩=>⟨F0,H0,F,at_,λv F' H' x ⟨fp,q,_,hn⟩=>?_⟩;cases q with
 | pl q=>cases h2;exact k v F' H' x q
 | @ol l ds vs hl q =>
  cases h2;have hF:F' l=none:=(hn l (by simp)).1;have s:Zr F' (upd F' l (.lst vs)):=Zr.upd' hF;refine k _ (upd F' l (.lst vs)) H' ⟨x.ff.trans s,x.hh,λc o z=>?_,λc o z=>?_,x.tab,λt=>(x.nts t).upd rfl⟩ (.lst (.of ZH) q.1 (q.mono s).2)
  ·by_cases hc:c=l
   ·subst hc; rw[ZH]at z; cases z; exact hl
   ·rw[ZE hc]at z; exact x.sub c o z
  ·by_cases hc:c=l
   ·subst hc; exact .inr (.inl (hn c (by simp)).2)
   ·rw[ZE hc]at z; exact x.new c o z
 | @ot l kvs vvs hl hk q =>
  cases h2;have hF:F' l=none:=(hn l (by simp)).1;have s:Zr F' (upd F' l (.dT vvs)):=Zr.upd' hF;refine k _ (upd F' l (.dT vvs)) H' ⟨x.ff.trans s,x.hh,λc o z=>?_,λc o z=>?_,x.tab,λt=>(x.nts t).upd rfl⟩ (.dct (.inl ZH) rfl hk (q.mono s).2)
  ·by_cases hc:c=l
   ·subst hc; rw[ZH]at z; cases z; exact hl
   ·rw[ZE hc]at z; exact x.sub c o z
  ·by_cases hc:c=l
   ·subst hc; exact .inr (.inl (hn c (by simp)).2)
   ·rw[ZE hc]at z; exact x.new c o z
 | ok _ _ _=>cases h2
 | hd h3 h4 h5 h6=>cases h2; exact k _ F' H' x (.dct (.inr ⟨_,h3⟩) h4 h5 h6.2)
 | hf h3=>cases h2; exact k _ F' H' x (.fn h3)
 | otl _ _ _ _=>cases h2
def Bin(K:ZyK)(r:R2)(g:PyData->PyData->Option PyData):Prop:=∀(F H:Hp) (x y z:PyData) (v w:V) (Q:VK),Zr F H->g x y=some z->Rep K F x v->Rep K F y w->(∀u,Rep K F z u->Q u H)->r v w H Q
structure ZoS(X:Cx)(op:Operator)(g:PyData->PyData->Option PyData):Prop where
 ex:∃r,OpR X (ZBG op) r/\Bin X.K r g
structure Zgt(X:Cx)(op:CmpOp)(g:PyData->PyData->Option PyData):Prop where
 ex:∃r,OpR X (ZAk op) r/\Bin X.K r g
 n1:op≠.In
 n2:op≠.NotIn
theorem ZhA{g:PyData->PyData->Option PyData}{r:HM.Env}{d:PyData}(h:HM.op2 g fa fb r=some d):∃x y,fa r=some x/\fb r=some y/\g x y=some d:=by
 unfold HM.op2 at h;split at h
 ·split at h
  ·exact⟨_,_,by assumption,by assumption,h⟩
  ·cases h
 ·cases h
theorem two{K:ZyK}{r:HM.Env}{x y:PyData}{P:Hp->Hp->Hp->V->Prop}{σ:L2.St}{H:Hp}{Q:VK}{R:V->V->Hp->VK->Prop}(h:tAt K r P σ H Q)
  (hk:∀H F2 H2 v w,Zr F2 H2->Rep K F2 x v->Rep K F2 y w->(∀u F3 H3,Ext F2 H2 F3 H3->P H F3 H3 u->Q u H3)->ZaF H H2->R v w H2 Q) :
  tOp R (tAt K r λ_ F' _ v=>Rep K F' x v) (tAt K r λ_ F' _ v=>Rep K F' y v) σ H Q:=by
 obtain⟨F0,H0,F,at_,k⟩:=h;refine⟨F0,H0,F,at_,λv F1 H1 x1 r1=>⟨F0,H0,F1,at_.grow x1,λw F2 H2 x2 r2=>?_⟩⟩;exact hk H F2 H2 v w x2.sub (r1.mono x2.ff) r2 (λu F3 H3 x3 q=>k u F3 H3 ((x1.trans x2).trans x3) q) (x1.hh.trans x2.hh)
theorem ZR{op:Operator}{g:PyData->PyData->Option PyData}(o:ZoS X op g)(ha:XE X a fa)(hb:XE X b fb):XE X (.BinOp a op b pos) (HM.op2 g fa fb):=by intro r d h;obtain⟨x,y,h1,h2,h3⟩:=ZhA h;obtain⟨R,o1,o2⟩:=o.ex;refine PE.imp (Znh o1 (ha r x h1) (hb r y h2)) λσ H Q q=>?_;exact two q λ_ F2 H2 v w s r1 r2 k _=>o2 F2 H2 x y d v w Q s h3 r1 r2 λu ru=>k u F2 H2 (.refl s) ru
theorem Zet{op:CmpOp}{g:PyData->PyData->Option PyData}(o:Zgt X op g)(ha:XE X a fa)(hb:XE X b fb):XE X (.Compare a [op] [b] pos) (HM.op2 g fa fb):=by intro r d h;obtain⟨x,y,h1,h2,h3⟩:=ZhA h;obtain⟨R,o1,o2⟩:=o.ex;refine PE.imp (Zp8 o1 (ha r x h1) (hb r y h2) (Zib _ o.n1 o.n2)) λσ H Q q=>?_;exact two q λ_ F2 H2 v w s r1 r2 k _=>o2 F2 H2 x y d v w Q s h3 r1 r2 λu ru=>k u F2 H2 (.refl s) ru
theorem Zlk{r:HM.Env}{c:Bool}(h:HM.tV fa r=some c):fa r=some (.bool c):=by
 unfold HM.tV at h;split at h
 ·rename_i q; cases h; exact q
 ·cases h
theorem Rep.bool_inv{K:ZyK}{F:Hp}{c:Bool}{v:V}(h:Rep K F (.bool c) v):v=.bl c:=by cases h; rfl
theorem Rep.int_inv{K:ZyK}{F:Hp}{i:Int}{v:V}(h:Rep K F (.int i) v):v=.int i:=by cases h; rfl
theorem Rep.none_inv{K:ZyK}{F:Hp}{v:V}(h:Rep K F .none v):v=.non:=by cases h; rfl
theorem Z8{op:CmpOp}{g:PyData->PyData->Option PyData}(o:Zgt X op g)(ha:XE X a fa)(hb:XE X b fb):XT X (.Compare a [op] [b] pos) (HM.tV (HM.op2 g fa fb)):=by intro r d h;obtain⟨x,y,h1,h2,h3⟩:=ZhA (Zlk h);obtain⟨R,o1,o2⟩:=o.ex;refine PT.imp (ZuC o1 (ha r x h1) (hb r y h2) (Zib _ o.n1 o.n2)) λσ H Q ⟨F0,H0,F,at_,k⟩=>?_;refine⟨F0,H0,F,at_,λv F1 H1 x1 r1=>⟨F0,H0,F1,at_.grow x1,λw F2 H2 x2 r2=>?_⟩⟩;refine o2 F2 H2 x y _ v w _ x2.sub h3 (r1.mono x2.ff) r2 λu ru=>?_;exact⟨d,ru.bool_inv,k F2 H2 (x1.trans x2)⟩
theorem Zb9(h:XE X e fa)(he:∀whole,isTrue e X.env whole=(do let v <-whole; standAt e.pos; holding [v] (truthy v)):=by intro _; rfl):XT X e (HM.tV fa):=by intro r c hc;refine PT.imp (ZwC (h r _ (Zlk hc)) he) λσ H Q ⟨F0,H0,F,at_,k⟩=>?_;exact⟨F0,H0,F,at_,λv F1 H1 x1 r1=>⟨c,r1.bool_inv,k F1 H1 x1⟩⟩
theorem ZdZ{t:HM.TF}(h:XT X a t):XT X (.UnaryOp .Not a pos) (HM.Zdl t):=by intro r c hc;obtain⟨d,h1,h2⟩:=ZyL.mp hc;subst h2;refine PT.imp (ZwK (h r d h1)) λσ H Q ⟨F0,H0,F,at_,k⟩=>?_;exact⟨F0,H0,F,at_,λF1 H1 x1=>k F1 H1 x1⟩
theorem Znj{t:HM.TF}(h:XW X e t):XT X e t:=λr c hc=>(h r c hc).pt
theorem ZpZ{t:HM.TF}(h:XT X a t):XW X (.BoolOp .And [a] pos) t:=λr c hc=>Zvk (h r c hc)
theorem Znk{t:HM.TF}(h:XT X a t):XW X (.BoolOp .Or [a] pos) t:=λr c hc=>Zwp (h r c hc)
theorem Zpj{e:Expr}:PW X e λ_ _ _=>False:=λ_ _ _ _ _ _ _ h=>h.elim
theorem Zij{e:Expr}:PE X e λ_ _ _=>False:=λ_ _ _ _ _ _ h=>h.elim
theorem ZrH{t u:HM.TF}{rest:List Expr}(ha:XT X a t)(hb:XW X (.BoolOp .And (b::rest) pos) u):XW X (.BoolOp .And (a::b::rest) pos) (HM.Zi6 t u):=by
 intro r c hc;unfold HM.Zi6 at hc;split at hc
 ·rename_i q
  refine PW.imp (Zsy (ha r true q) (hb r c hc)) λσ H Q ⟨F0,H0,F,at_,k⟩=>?_;exact⟨F0,H0,F,at_,λF1 H1 x1=>ZlQ ⟨F0,H0,F1,at_.grow x1,λF2 H2 x2=>k F2 H2 (x1.trans x2)⟩⟩
 ·rename_i q
  cases hc;refine PW.imp (Zsy (ha r false q) Zpj) λσ H Q ⟨F0,H0,F,at_,k⟩=>?_;exact⟨F0,H0,F,at_,λF1 H1 x1=>ZlY (k F1 H1 x1)⟩
 ·cases hc
theorem Zqz{t u:HM.TF}{rest:List Expr}(ha:XT X a t)(hb:XW X (.BoolOp .Or (b::rest) pos) u):XW X (.BoolOp .Or (a::b::rest) pos) (HM.tOr t u):=by
 intro r c hc;unfold HM.tOr at hc;split at hc
 ·rename_i q
  cases hc;refine PW.imp (Zun (ha r true q) Zpj) λσ H Q ⟨F0,H0,F,at_,k⟩=>?_;exact⟨F0,H0,F,at_,λF1 H1 x1=>ZlQ (k F1 H1 x1)⟩
 ·rename_i q
  refine PW.imp (Zun (ha r false q) (hb r c hc)) λσ H Q ⟨F0,H0,F,at_,k⟩=>?_;exact⟨F0,H0,F,at_,λF1 H1 x1=>ZlY ⟨F0,H0,F1,at_.grow x1,λF2 H2 x2=>k F2 H2 (x1.trans x2)⟩⟩
 ·cases hc
theorem ZfZ{op:BoolOp}(h:XE X a fa):XE X (.BoolOp op [a] pos) fa:=λr d hd=>ZvZ (h r d hd)
theorem Zf0{rest:List Expr}(ha:XE X a fa)(hb:XE X (.BoolOp .And (b::rest) pos) fb):XE X (.BoolOp .And (a::b::rest) pos) (HM.Zim fa fb):=by
 intro r d hd;unfold HM.Zim at hd;split at hd
 ·rename_i q
  refine PE.imp (Zsb (ha r _ q) (hb r d hd)) λσ H Q ⟨F0,H0,F,at_,k⟩=>?_;exact⟨F0,H0,F,at_,λv F1 H1 x1 r1=>⟨true,r1.bool_inv,ZlQ ⟨F0,H0,F1,at_.grow x1,λw F2 H2 x2 r2=>k w F2 H2 (x1.trans x2) r2⟩⟩⟩
 ·rename_i q
  cases hd;refine PE.imp (Zsb (ha r _ q) Zij) λσ H Q ⟨F0,H0,F,at_,k⟩=>?_;exact⟨F0,H0,F,at_,λv F1 H1 x1 r1=>⟨false,r1.bool_inv,ZlY (k _ F1 H1 x1 (.bl false))⟩⟩
 ·cases hd
theorem ZkF{t:HM.TF}(hc:XT X c t)(ha:XE X a fa)(hb:XE X b fb):XE X (.IfExp c a b pos) (HM.eIf t fa fb):=by
 intro r d hd;unfold HM.eIf at hd;split at hd
 ·rename_i q
  refine PE.imp (Zo9 (hc r _ q) (ha r d hd) Zij) λσ H Q ⟨F0,H0,F,at_,k⟩=>?_;exact⟨F0,H0,F,at_,λF1 H1 x1=>ZlQ ⟨F0,H0,F1,at_.grow x1,λw F2 H2 x2 r2=>k w F2 H2 (x1.trans x2) r2⟩⟩
 ·rename_i q
  refine PE.imp (Zo9 (hc r _ q) Zij (hb r d hd)) λσ H Q ⟨F0,H0,F,at_,k⟩=>?_;exact⟨F0,H0,F,at_,λF1 H1 x1=>ZlY ⟨F0,H0,F1,at_.grow x1,λw F2 H2 x2 r2=>k w F2 H2 (x1.trans x2) r2⟩⟩
 ·cases hd
theorem Znl{op op':CmpOp}{g g':PyData->PyData->Option PyData}(o:Zgt X op g)(o':Zgt X op' g')(ha:XE X a fa)(hb:XE X b fb)(hc:XE X c fc)
  (hm:lastMarks [op,op'] [b,c]=false:=by with_unfolding_all rfl):XE X (.Compare a [op,op'] [b,c] pos) (HM.Zla g g' fa fb fc):=by
 intro r d hd;unfold HM.Zla at hd;obtain⟨R,o1,o2⟩:=o.ex;obtain⟨R',o1',o2'⟩:=o'.ex;split at hd
 ·rename_i x hx
  split at hd
  ·rename_i y hy
   split at hd
   ·rename_i hg
    split at hd
    ·rename_i z hz
     refine PE.imp (Zou o1 o1' (ha r x hx) (hb r y hy) (hc r z hz) hm) λσ H Q ⟨F0,H0,F,at_,k⟩=>?_;refine⟨F0,H0,F,at_,λv F1 H1 x1 r1=>⟨F0,H0,F1,at_.grow x1,λw F2 H2 x2 r2=>?_⟩⟩;refine o2 F2 H2 x y _ v w _ x2.sub hg (r1.mono x2.ff) r2 λu ru=>?_;refine⟨true,ru.bool_inv,ZlQ ⟨F0,H0,F2,(at_.grow x1).grow x2,λw' F3 H3 x3 r3=>?_⟩⟩;exact o2' F3 H3 y z d w w' Q x3.sub hd (r2.mono x3.ff) r3 λu' ru'=>k u' F3 H3 ((x1.trans x2).trans x3) ru'
    ·cases hd
   ·rename_i hg
    cases hd;refine PE.imp (Zou o1 o1' (ha r x hx) (hb r y hy) Zij hm) λσ H Q ⟨F0,H0,F,at_,k⟩=>?_;refine⟨F0,H0,F,at_,λv F1 H1 x1 r1=>⟨F0,H0,F1,at_.grow x1,λw F2 H2 x2 r2=>?_⟩⟩;refine o2 F2 H2 x y _ v w _ x2.sub hg (r1.mono x2.ff) r2 λu ru=>?_;exact⟨false,ru.bool_inv,ZlY (k _ F2 H2 (x1.trans x2) (.bl false))⟩
   ·cases hd
  ·cases hd
 ·cases hd
theorem Zi:XA X [] HM.Zg:=by refine⟨λr ds h=>by cases h; rfl,λr ds h=>?_⟩;cases h;exact PA.imp Zcg λσ H Q ⟨F0,H0,F,at_,k⟩=>k [] F H at_.refl .nil
theorem Zc{es:List Expr}{f:HM.AF}(ha:XE X e fa)(hr:XA X es f)(hs:Zy0 (e::es) X.env=(false,eval e X.env)::Zy0 es X.env:=by rfl):XA X (e::es) (HM.Za fa f):=by
 refine⟨λr ds h=>?_,λr ds h=>?_⟩
 ·unfold HM.Za at h
  split at h
  ·obtain⟨xs,h1,h2⟩:=ZyL.mp h
   subst h2;rw[Zy3,Zy3,hr.len r xs h1]
  ·cases h
 unfold HM.Za at h;split at h
 ·rename_i x hx
  obtain⟨xs,h1,h2⟩:=ZyL.mp h;subst h2;refine PA.imp (ZaI (ha r x hx) (hr.pa r xs h1) hs) λσ H Q ⟨F0,H0,F,at_,k⟩=>?_;exact⟨F0,H0,F,at_,λv F1 H1 x1 r1=>⟨F0,H0,F1,at_.grow x1,λvs F2 H2 x2 r2=>k (v::vs) F2 H2 (x1.trans x2) (.cons (r1.mono x2.ff) r2)⟩⟩
 ·cases h
theorem Zc7{es:List Expr}{f:HM.AF}{x1:Nat}(h:XA X es f)(hl:es.length<=100:=by exact Nat.le_of_ble_eq_true rfl):XE X (.Tuple es x1 pos) (HM.ZbW f):=by
 intro r d hd;obtain⟨ds,h1,h2⟩:=ZyL.mp hd;subst h2;refine PE.imp (Zv6 (h.pa r ds h1)) λσ H Q ⟨F0,H0,F,at_,k⟩=>⟨F0,H0,F,at_,λvs F1 H1 x1 r1=>⟨?_,λp hp=>?_⟩⟩
 ·have e1:=h.len r ds h1
  have e2:=r1.1;have e3:(100:Nat)<=sizeLine:=by decide
  omega
 ·have hF:F1 p=none:=x1.sub.free hp
  exact k _ (upd F1 p (.tup vs)) _ (x1.lay hp) (.tup ZH r1.1 (r1.mono (Zr.upd' hF)).2)
theorem Zcp{es:List Expr}{f:HM.AF}(h:XA X es f)(hl:es.length<=100:=by exact Nat.le_of_ble_eq_true rfl):XF X (.List es pos) (HM.ZeV f):=by
 intro r d hd;obtain⟨ds,h1,h2⟩:=ZyL.mp hd;subst h2;refine PE.imp (ZwL (h.pa r ds h1)) λσ H Q ⟨F0,H0,F,at_,k⟩=>⟨F0,H0,F,at_,λvs F1 H1 x1 r1=>⟨?_,λp hp=>?_⟩⟩
 ·have e1:=h.len r ds h1
  have e2:=r1.1;have e3:(100:Nat)<=sizeLine:=by decide
  omega
 ·have hF:F1 p=none:=x1.sub.free hp
  refine k _ F1 _ (x1.lay' hp) ⟨[p],.ol ZH r1,by simp,λa ha=>?_⟩;have:a=p:=by simpa using ha
  subst this;exact⟨hF,x1.hh.free hp⟩
end
end HP
namespace HP
open PySem PySem.Spec PyProof.Rows L2
variable[FX]
section
variable{X:Cx}{a b c e:Expr}{fa fb fc:HM.EF}{pos p:Pos}{st:Stmt}{rest:List Stmt}{g u:HM.SF}
theorem Zmf(h:X.xe=λ_ _=>False):PassesOwn (model X.prog X.w) X.A X.env X.xe:=by rw[h]; exact PassesOwn.never
theorem Zab:XSs X [] HM.ZaL:=by intro r o h;cases h;exact PSs.imp ZuF λE σ H ⟨F0,H0,F,at_,k⟩=>k σ F H at_
theorem Zp(h:XS X st g):XSs X [st] g:=λr o ho=>Zqb (h r o ho)
theorem Zj(h1:XS X st g)(h2:XSs X rest u):XSs X (st::rest) (HM.Zt g u):=by
  intro r o h
  unfold HM.Zt at h
  split at h
  · rename_i r' q
    refine PSs.imp (ZhU (h1 r _ q) (h2 r' o h)) λE σ H ⟨F0,H0,F,at_,k⟩=>?_
    exact⟨F0,H0,F,at_,λσ' F' H' at'=>⟨F0,H0,F',at',k⟩⟩
  all_goals first
    | cases h
      rename_i q
      refine PSs.imp (ZhU (h1 r _ q) ZgM) λE σ H ⟨F0,H0,F,at_,k⟩=>?_
      exact⟨F0,H0,F,at_,k⟩
    | cases h
theorem Znm:XS X st HM.Zn4:=λr o h=>nomatch h
theorem ZA(h:XE X e fa):XS X (.Return (some e) pos) (HM.ZG fa):=by intro r o ho;obtain⟨d,h1,h2⟩:=ZyL.mp ho;subst h2;refine PS.imp (Zoz (h r d h1)) λE σ H ⟨F0,H0,F,at_,k⟩=>?_;exact⟨F0,H0,F,at_,λv F' H' x q=>k v F' H' (at_.ext.trans x) q⟩
theorem ZfX(h:XE X e fa)(hs:ZBq e none pos.line X.env=pure false:=by rfl):XS X (.Expr e pos) (HM.Zh0 fa):=by intro r o ho;obtain⟨d,h1,h2⟩:=ZyL.mp ho;subst h2;refine PS.imp (ZjE (h r d h1) hs) λE σ H ⟨F0,H0,F,at_,k⟩=>?_;exact⟨F0,H0,F,at_,λv F' H' x q=>k σ F' H' (at_.grow x)⟩
theorem Za3{t:HM.TF}{sa sb:List Stmt}(hc:XT X c t)(ha:XSs X sa g)(hb:XSs X sb u):XS X (.If c sa sb pos) (HM.sIf t g u):=by
 intro r o ho;unfold HM.sIf at ho;split at ho
 ·rename_i q
  refine PS.imp (Zut (hc r _ q) (ha r o ho) ZgM) λE σ H ⟨F0,H0,F,at_,k⟩=>?_;exact⟨F0,H0,F,at_,λF' H' x=>ZlQ ⟨F0,H0,F',at_.grow x,k⟩⟩
 ·rename_i q
  refine PS.imp (Zut (hc r _ q) ZgM (hb r o ho)) λE σ H ⟨F0,H0,F,at_,k⟩=>?_;exact⟨F0,H0,F,at_,λF' H' x=>ZlY ⟨F0,H0,F',at_.grow x,k⟩⟩
 ·cases ho
theorem Zeu(i:Nat)(h:XS X st g):XS X st (HM.Zgv i g):=by intro r o ho;refine PS.imp (h (HM.Zlb i r) o ho) λE σ H ⟨F0,H0,F,at_,k⟩=>?_;obtain⟨F',_,_,a'⟩:=at_.freeze i;exact⟨F0,H0,F',a',k⟩
theorem ZV(i:Nat){x:Str}{p':Pos}(hN:X.N.Nodup)(h:XE X e fa)(hi:X.N[i]?=some x:=by rfl)(hx:Loc X.env.scope x:=by first | exact ZzO rfl | exact Zzi rfl)
  (hs:ZBq e (some (.Name x p')) pos.line X.env=pure false:=by rfl) (hf:X.fn x=true\/X.env.scope.names.lookup x=some .local:=by first | exact .inl rfl | exact .inr rfl) :
  XS X (.Assign [.Name x p'] e pos) (HM.ZW i fa):=by
 intro r o ho;obtain⟨d,h1,h2⟩:=ZyL.mp ho;subst h2;refine PS.imp (ZoR hN hi hx (h r d h1) hs hf) λE σ H ⟨F0,H0,F,at_,k⟩=>?_;exact⟨F0,H0,F,at_,λv F' H' x q=>k _ F' H' ((at_.grow x).set q)⟩
theorem ZaV(i:Nat){x:Str}{p':Pos}{f:HM.BF}(hN:X.N.Nodup)(h:XF X e f)(hi:X.N[i]?=some x:=by rfl)(hx:Loc X.env.scope x:=by first | exact ZzO rfl | exact Zzi rfl)
  (hs:ZBq e (some (.Name x p')) pos.line X.env=pure false:=by rfl) (hf:X.fn x=true\/X.env.scope.names.lookup x=some .local:=by first | exact .inl rfl | exact .inr rfl) :
  XS X (.Assign [.Name x p'] e pos) (HM.Zaa i f):=by
 intro r o ho;obtain⟨d,h1,h2⟩:=ZyL.mp ho;subst h2;refine PS.imp (ZoR hN hi hx (h r d h1) hs hf) λE σ H ⟨F0,H0,F,at_,k⟩=>?_;exact⟨F0,H0,F,at_,λv F' H' x ⟨fp,q,nd,hn⟩=>k _ F' H' ((at_.grow x).storeNew at_ x.hh q nd hn)⟩
theorem ZcC(i:Nat){x:Str}{p':Pos}{iter:Expr}{body:List Stmt}{fi:HM.IF}(hN:X.N.Nodup)(hxe:X.xe=λ_ _=>False)(hc:X.calm=true)(hi:XI X (.Name x p') iter fi)(hb:XSs X body g)(hix:X.N[i]?=some x:=by rfl)
  (hx:Loc X.env.scope x:=by first | exact ZzO rfl | exact Zzi rfl) (hf:X.fn x=true\/X.env.scope.names.lookup x=some .local:=by first | exact .inl rfl | exact .inr rfl)
  (hs:∀x,ZA6 iter X.env x=pure x:=by intro _; rfl):XS X (.For (.Name x p') iter body [] pos) (HM.ZbG i fi g):=by
 intro r o ho;unfold HM.ZbG at ho;split at ho
 ·rename_i ds hds
  split at ho
  ·rename_i hbig
   have pb:PSs X body (λE σ H=>∃r o,g r=some o/\tSt X.K r o E σ H):=λpins s σ H E I ⟨r,o,h1,h2⟩=>hb r o h1 pins s σ H E I h2;refine PS.imp (ZwR (Zmf hxe) hc (hi r ds hds) (Zqw hN hix hx hf) pb hs) λE σ H ⟨F0,H0,F,at_,k⟩=>?_;refine⟨F0,H0,F,at_,λJ F1 H1 x1 it=>?_⟩;refine⟨λn m σ H=>∃F r,At X.K F0 H0 F H r σ/\Zr F1 F/\n+m=ds.length/\HM.Zbc i g (ds.drop n) r=some o,⟨ds.length,F1,r,at_.grow x1,Zr.refl _,by omega,ho⟩,?_⟩
   rintro n m σ H ⟨F2,r2,at2,s2,hn,go⟩
   obtain⟨it1,it2⟩:=it F2 H s2 at2.sub;cases m with
   | zero =>
    have e:n=ds.length:=by omega
    subst e;rw[List.drop_length]at go;cases go;exact .inl ⟨it2,k σ F2 H at2⟩
   | succ m =>
    have hlt:n<ds.length:=by omega
    rw[ZC0 hlt]at go;obtain⟨j1,j2⟩:=it1 n ds[n] (Zy9 hlt);refine .inr ⟨j1,λσ' H'=>∃F r,At X.K F0 H0 F H' r σ'/\Zr F1 F/\HM.Zbc i g (ds.drop (n+1)) r=some o,λσ' H' ⟨F,r,a1,a2,a3⟩=>⟨m,by omega,F,r,a1,a2,by omega,a3⟩,λy H' hy=>?_⟩;obtain⟨e1,ry⟩:=j2 y H' hy;subst e1;obtain⟨F3,at3,s3,ry⟩:∃F3,At X.K F0 H0 F3 H' r2 σ/\Zr F1 F3/\Rep X.K F3 ds[n] y:=⟨_,at2.grow at2.refl.tups,s2.trans (ZdS at2.sub),ry⟩;have a3:=at3.set (i:=i) ry;have a4:=a3.rebase;unfold HM.Zbc at go;split at go
    ·rename_i r' hr
     exact⟨_,_,hr,F3,H0,F3,a4,λσ' F' H' a'=>⟨F',r',a'.unbase at3.ext at3.nt0,s3.trans a'.ext.ff,go⟩⟩
    ·rename_i r' hr
     exact⟨_,_,hr,F3,H0,F3,a4,λσ' F' H' a'=>⟨F',r',a'.unbase at3.ext at3.nt0,s3.trans a'.ext.ff,go⟩⟩
    ·rename_i r' hr
     cases go;exact⟨_,_,hr,F3,H0,F3,a4,λσ' F' H' a'=>k σ' F' H' (a'.unbase at3.ext at3.nt0)⟩
    ·rename_i d hr
     cases go;exact⟨_,_,hr,F3,H0,F3,a4,λv F' H' x q=>k v F' H' (at3.ext.unbase x) q⟩
    ·cases go
  ·cases ho
 ·cases ho
end
def spD(K:ZyK)(n:Nat)(M:List PyData->Option PyData):Sp:=λvs H Q _=>∃F ds d,vs.length=n/\Zr F H/\Tb H/\NoT F/\Zs K F ds vs/\M ds=some d/\∀v F' H',Ext F H F' H'->Rep K F' d v->Q v H'
structure Callee(P:Program)(w:World)(K:ZyK)(mg:Str->Option Value)(base:Heap)(k:Nat)(x:Str)(M:List PyData->Option PyData):Prop where
 ex:∃f fd ps,(∀ds d,M ds=some d->ds.length=ps.length)/\ZdB P w K mg base CX0 k f fd ps (spD K ps.length M)/\mg x=some (.ref f)/\ZAh K (.ref f)=true/\Binds K fd ps []
theorem Callee.mono{P:Program}{w:World}{K:ZyK}{mg:Str->Option Value}{base:Heap}{j k:Nat}{x:Str}{M:List PyData->Option PyData}(C:Callee P w K mg base j x M)(h:j<=k):Callee P w K mg base k x M:=by obtain⟨f,fd,ps,l,F,r⟩:=C.ex;exact⟨f,fd,ps,l,F.mono h,r⟩
section
variable{X:Cx}{pos p:Pos}{e:Expr}{es:List Expr}{f:HM.AF}
theorem Zl{k:Nat}{x:Str}{M:List PyData->Option PyData}(C:Callee X.prog X.w X.K X.mg X.base k x M)(hr:ZaE k X.A)(ha:XA X (e::es) f)(hg:Gl X x:=by rfl)(hdb:(x==("__debug__":Str))=false:=by decide)
  (he:Zy0 (e::es) X.env=(false,eval e X.env)::Zy0 es X.env:=by rfl) (hpl:(backTo pos (Zy0 es X.env)).any (·.1)=false:=by rfl):XE X (.Call (.Name x p) (e::es) [] pos) (HM.Zf M f):=by
 intro r d hd;unfold HM.Zf at hd;split at hd
 ·rename_i ds hds
  obtain⟨fa,fd,ps,hl,F,hm,hk,hb⟩:=C.ex;refine PE.imp (ZlO (E:=E0) F hr hg hm hk hb .nil ZrG (ha.pa r ds hds) hdb he hpl) λσ H Q ⟨F0,H0,F1,at_,k⟩=>?_;refine⟨F0,H0,F1,at_,λvs F' H' x q=>?_⟩;show spD X.K ps.length M (vs++[]) H' Q E0;rw[Zzu];exact⟨F',ds,d,by rw[<-q.1]; exact hl ds d hd,x.sub,at_.tbx x,at_.ntx x,q,hd,λv F2 H2 x2 q2=>k v F2 H2 (x.trans x2) q2⟩
 ·cases hd
end
theorem ZgD{K:ZyK}{F H:Hp}{N:List Str}{ds:List PyData}{vs:List V}(s:Zr F H)(tb:Tb H)(nt:NoT F)(q:Zs K F ds vs)(hl:ds.length<=N.length):At K F H F H (HM.ZeU N.length ds) (L2.start N vs):=by
 have hv:=q.1;refine⟨λ_=>[],.refl s,?_,λi b h=>?_,λ_ _=>rfl,λi a h=>by simp at h,λ_=>ZAI,λi j a _ h=>by simp at h,tb,nt⟩
 ·unfold HM.ZeU L2.start
  rw[Zy8,Zy8,ZyJ,ZyJ,ZzI,ZzI,hv]
 ·unfold HM.ZeU at h
  by_cases hi:i<ds.length
  ·rw[ZzK (by rw[ZyJ]; exact hi),Zy2,Zy9 hi]at h
   cases h;obtain⟨v,h1,h2⟩:=q.get (Zy9 hi);refine⟨v,?_,.pl h2⟩;unfold L2.start;rw[ZzK (by rw[ZyJ,<-hv]; exact hi),Zy2,h1];rfl
  ·rw[ZzE (by rw[ZyJ]; omega),ZBk]at h
   split at h<;>cases h
theorem Zqc{P:Program}{w:World}{K:ZyK}{mg:Str->Option Value}{base:Heap}{k:Nat}{x qual:Str}{st:Stmt}{f:Addr}{fd:FuncData}{N ps:List Str}{g:HM.SF}(Fn:Fun K x qual st f fd)(S:Zz N ps (Zh st))
  (body:∀(cdv:Value) (A:Around) (outer:List Env) (s:Shared) (H:Hp) (E:XK),ZaE k (A.deeper (envOfC qual (Zh st) s.heap.objs.size f cdv))->XSs (Zgq CX0 P w K mg base N qual (Zh st) f cdv A outer s H E).nox (ZaY st) g) :
  ZdB P w K mg base CX0 (k+1) f fd ps (spD K ps.length (HM.fnOf ps.length N.length g)):=by
 have hpl:ps.length<=N.length:=by have:=congrArg Zzw S.pre; rw[Zz6]at this; omega
 refine Fn.ok S (λvs H Q E h=>?_) (λcdv A outer s H vs Q E hr h=>?_)
 ·obtain⟨_,_,_,h,_⟩:=h
  exact h
 ·obtain⟨F,ds,d,hl,sub,tb,nt,q,hM,kk⟩:=h
  unfold HM.fnOf at hM;split at hM
  ·rename_i hds
   have a0:=ZgD (N:=N) sub tb nt q (by omega);split at hM
   ·rename_i r hr'
    cases hM;exact⟨_,body cdv A outer s H E hr _ _ hr',F,H,F,a0,λσ F' H' a'=>kk .non F' H' a'.ext .non⟩
   ·rename_i d' hr'
    cases hM;exact⟨_,body cdv A outer s H E hr _ _ hr',F,H,F,a0,λv F' H' x q=>kk v F' H' x q⟩
   ·cases hM
  ·cases hM
theorem Zy{P:Program}{w:World}{K:ZyK}{mg:Str->Option Value}{base:Heap}{k:Nat}{x qual:Str}{st:Stmt}{f:Addr}{fd:FuncData}{N ps:List Str}{g:HM.SF}(Fn:Fun K x qual st f fd)(S:Zz N ps (Zh st))(hm:mg x=some (.ref f))(hb:Binds K fd ps [])
  (body:∀(cdv:Value) (A:Around) (outer:List Env) (s:Shared) (H:Hp) (E:XK),ZaE k (A.deeper (envOfC qual (Zh st) s.heap.objs.size f cdv))->XSs (Zgq CX0 P w K mg base N qual (Zh st) f cdv A outer s H E).nox (ZaY st) g) :
  Callee P w K mg base (k+1) x (HM.fnOf ps.length N.length g):=by
 refine⟨f,fd,ps,λds d h=>?_,Zqc Fn S body,hm,Fn.kp,hb⟩;unfold HM.fnOf at h;split at h
 ·assumption
 ·cases h
end HP
namespace HP
open PySem PySem.Spec PyProof.Rows L2
variable[FX]
section
variable{X:Cx}{a b c e:Expr}{fa fb fc:HM.EF}{pos p:Pos}
theorem ZgB{h:Int->Int->Option PyData}{x y z:PyData}(e:HM.ZfD h x y=some z):∃i j,x=.int i/\y=.int j/\h i j=some z:=by
 unfold HM.ZfD at e;split at e
 ·exact⟨_,_,rfl,rfl,e⟩
 ·cases e
theorem Zo2{K:ZyK}{g:Int->Int->V}{h:Int->Int->PyData}(hr:∀F i j,Rep K F (h i j) (g i j)):Bin K (rI0 g) (HM.ZfD λi j=>some (h i j)):=by intro F H x y z v w Q s e r1 r2 k;obtain⟨i,j,rfl,rfl,e⟩:=ZgB e;cases e;exact⟨i,j,r1.int_inv,r2.int_inv,k _ (hr F i j)⟩
theorem Zb2:ZoS X .Add HM.ZbH:=⟨_,Zwa,Zo2 λ_ _ _=>.int _⟩
theorem Zty:ZoS X .Sub HM.ZlP:=⟨_,Zv1,Zo2 λ_ _ _=>.int _⟩
theorem Zfb:ZoS X .Mult HM.Zdk:=by
 refine⟨_,Zv8,λF H x y z v w Q s e r1 r2 k=>?_⟩;obtain⟨i,j,rfl,rfl,e'⟩:=ZgB e;split at e'
 ·rename_i hs
  cases e';refine⟨i,j,r1.int_inv,r2.int_inv,?_,k _ (.int _)⟩;unfold HM.Z2 at hs;rw[Zzt,ZBV,ZBV]at hs;unfold Zrr;omega
 ·cases e'
theorem oMod:ZoS X .Mod HM.Ztu:=by
 refine⟨_,Zwj,λF H x y z v w Q s e r1 r2 k=>?_⟩;obtain⟨i,j,rfl,rfl,e'⟩:=ZgB e;split at e'
 ·rename_i hs
  cases e';exact⟨i,j,r1.int_inv,r2.int_inv,hs,k _ (.int _)⟩
 ·cases e'
theorem cLt:Zgt X .Lt HM.gLt:=⟨⟨_,Zxp,Zo2 λ_ _ _=>.bl _⟩,by decide,by decide⟩
theorem cLe:Zgt X .LtE HM.gLe:=⟨⟨_,Zxi,Zo2 λ_ _ _=>.bl _⟩,by decide,by decide⟩
theorem cGt:Zgt X .Gt HM.gGt:=⟨⟨_,Zxr,Zo2 λ_ _ _=>.bl _⟩,by decide,by decide⟩
theorem Rep.non_iff{K:ZyK}{F:Hp}{d:PyData}{v:V}(h:Rep K F d v):decide (v=.non)=match d with | .none=>true | _=>false:=by cases h<;>first | rfl | exact decide_eq_false (λz=>nomatch z)
theorem ZqV:Zgt X .Is HM.ZgA:=by
 refine⟨⟨_,Zwd,λF H x y z v w Q s e r1 r2 k=>?_⟩,by decide,by decide⟩;unfold HM.ZgA at e;split at e
 ·refine⟨r2.none_inv,k _ ?_⟩
  rw[r1.non_iff];split at e
  ·cases e; exact .bl _
  ·rename_i hx
   cases e;cases x<;>first | exact .bl _ | exact absurd rfl hx
 ·cases e
theorem ZgO:Zgt X .IsNot HM.Zbx:=by
 refine⟨⟨_,Zvj,λF H x y z v w Q s e r1 r2 k=>?_⟩,by decide,by decide⟩;unfold HM.Zbx at e;split at e
 ·refine⟨r2.none_inv,k _ ?_⟩
  rw[r1.non_iff];split at e
  ·cases e; exact .bl _
  ·rename_i hx
   cases e;cases x<;>first | exact .bl _ | exact absurd rfl hx
 ·cases e
theorem Zhi{h:Heap}:∀{ds:List PyData} {us:List Value},ds.length=us.length->(∀(i:Nat) d u,ds[i]?=some d->us[i]?=some u->∃as,Reads h u d as)->∃as,ReadsAll h us ds as
 | [],[],_,_=>⟨[],.nil⟩
 | [],_::_,hl,_=>by simp at hl
 | _::_,[],hl,_=>by simp at hl
 | d::ds,u::us,hl,k=>by obtain⟨as,h1⟩:=k 0 d u rfl rfl;obtain⟨bs,h2⟩:=Zhi (ds:=ds) (us:=us) (by simpa using hl) λi d u e1 e2=>k (i+1) d u (by simpa using e1) (by simpa using e2);exact⟨_,.cons h1 h2⟩
theorem Zp3:∀{ds:List PyData},ZBw ds=true->∀{i:Nat} {d:PyData},ds[i]?=some d->d.canLay0=true
 | [],_,i,d,e=>by simp at e
 | x::ds,h,i,d,e=>by
  have h':(x.canLay0&&ZBw ds)=true:=h;rw[Zy5]at h';cases i with
  | zero=>rw[ZBl]at e; cases e; exact h'.1
  | succ i=>rw[Zzv]at e; exact Zp3 h'.2 e
theorem ZoK{ds:List PyData}(h:ZBw ds=true){i:Nat}{d:PyData}(e:ds[i]?=some d):d.canLay0=true:=Zp3 h e
theorem Rep.reads{pins:List (Addr × Obj)}{s:Shared}{σ:L2.St}{H F:Hp}{d:PyData}{v:V}(I:Inv X pins σ H s)(sub:Zr F H)(r:Rep X.K F d v):d.canLay0=true->∀u,RelV v u->∃as,Reads s.heap u d as:=by
 induction r with
 | non=>intro _ u ru; cases ru; exact⟨[],.none⟩
 | bl b=>intro _ u ru; cases ru; exact⟨[],.bool b⟩
 | int i=>intro _ u ru; obtain⟨t,rfl⟩:=ru; exact⟨[],.int i t⟩
 | str x=>intro _ u ru; obtain⟨t,rfl⟩:=ru; exact⟨[],.str x t⟩
 | dct _ _ _ _ _=>intro z; cases z
 | fn _=>intro z; cases z
 | @tupk a x h=>intro z u ru;cases ru;obtain⟨its,rv,⟨o,ho,hc,n,hd⟩,_⟩:=I.tuple (.inr h);obtain⟨u,rfl,t,rfl⟩:=rv.one;exact⟨_,.tuple ho hc hd (by simpa using ReadsAll.cons (.str x t) .nil)⟩
 | @tup a ds vs h hl _ ih =>
  intro z u ru;cases ru;obtain⟨its,rv,⟨o,ho,hc,n,hd⟩,_⟩:=I.tuple (.of (sub _ _ h));obtain⟨as,hr⟩:=Zhi (h:=s.heap) (ds:=ds) (us:=its) (hl.trans rv.length) λi d u e1 e2=>by
   have hi:i<vs.length:=by rw[<-hl]; exact(ZyZ.mp e1).1
   obtain⟨u',q1,q2⟩:=rv.get (Zy9 hi);rw[e2]at q1;cases q1;exact ih i d _ e1 (Zy9 hi) (ZoK z e1) u q2
  exact⟨_,.tuple ho hc hd (by simpa using hr)⟩
 | @lst a ds vs h hl _ ih =>
  intro z u ru;cases ru;obtain⟨its,rv,⟨o,n,ho,hc,_,hd⟩,_⟩:=I.list (sub.seq h);obtain⟨as,hr⟩:=Zhi (h:=s.heap) (ds:=ds) (us:=its) (hl.trans rv.length) λi d u e1 e2=>by
   have hi:i<vs.length:=by rw[<-hl]; exact(ZyZ.mp e1).1
   obtain⟨u',q1,q2⟩:=rv.get (Zy9 hi);rw[e2]at q1;cases q1;exact ih i d _ e1 (Zy9 hi) (ZoK z e1) u q2
  exact⟨_,.list ho hc hd (by simpa using hr)⟩
def ZvR(K:ZyK)(neg:Bool):R2:=λv w H Q=>∃F x y,Zr F H/\Rep K F x v/\Rep K F y w/\HM.Za0 x=true/\HM.Za0 y=true/\Q (.bl (if neg then !PyData.eqv x y else ZAx x y)) H
theorem ZfR{d:PyData}(h:HM.Za0 d=true):d.canLay0=true/\d.depth<=60:=by unfold HM.Za0 at h;simpa using h
theorem ZxB{k:Nat}(hr:ZaE k X.A):OpR X (ZAk .Eq) (ZvR X.K false):=by intro pins s σ H v w u u' Q I r1 r2 ⟨F,x,y,sub,q1,q2,p1,p2,q⟩;obtain⟨a1,a2⟩:=ZfR p1;obtain⟨b1,b2⟩:=ZfR p2;obtain⟨as,h1⟩:=q1.reads I sub a1 u r1;obtain⟨bs,h2⟩:=q2.reads I sub b1 u' r2;refine PySem.SeqAt.eqOverData X.prog X.w X.A X.xe s u u' x y as bs _ h1 h2 a1 b1 ?_ ⟨.bl _,H,I,rfl,q⟩;have:=hr.un;have:min x.depth y.depth<=60:=ZzH (Nat.min_le_left _ _) a2;omega
theorem Zw8{k:Nat}(hr:ZaE k X.A):OpR X (ZAk .NotEq) (ZvR X.K true):=by intro pins s σ H v w u u' Q I r1 r2 ⟨F,x,y,sub,q1,q2,p1,p2,q⟩;obtain⟨a1,a2⟩:=ZfR p1;obtain⟨b1,b2⟩:=ZfR p2;obtain⟨as,h1⟩:=q1.reads I sub a1 u r1;obtain⟨bs,h2⟩:=q2.reads I sub b1 u' r2;refine PySem.SeqAt.neOverData X.prog X.w X.A X.xe s u u' x y as bs _ h1 h2 a1 b1 ?_ ⟨.bl _,H,I,rfl,q⟩;have:=hr.un;have:min x.depth y.depth<=60:=ZzH (Nat.min_le_left _ _) a2;omega
theorem cEq{k:Nat}(hr:ZaE k X.A):Zgt X .Eq HM.gEq:=by
 refine⟨⟨_,ZxB hr,λF H x y z v w Q s e r1 r2 k=>?_⟩,by decide,by decide⟩;unfold HM.gEq at e;split at e
 ·rename_i hp
  cases e;rw[Zy5]at hp;exact⟨F,x,y,s,r1,r2,hp.1,hp.2,k _ (.bl _)⟩
 ·cases e
theorem cNe{k:Nat}(hr:ZaE k X.A):Zgt X .NotEq HM.gNe:=by
 refine⟨⟨_,Zw8 hr,λF H x y z v w Q s e r1 r2 k=>?_⟩,by decide,by decide⟩;unfold HM.gNe at e;split at e
 ·rename_i hp
  cases e;rw[Zy5]at hp;exact⟨F,x,y,s,r1,r2,hp.1,hp.2,k _ (.bl _)⟩
 ·cases e
theorem Zkp{K:ZyK}{F H:Hp}{q:HM.B}{v:V}{fp:List Addr}{ds:List PyData}(sub:Zr F H)(r:Zan K F H q v fp)(h:HM.ZfC q=some ds):∃a vs,v=.ref a/\(SqL K H a vs\/SqT K H a vs)/\Zs K F ds vs:=by
 cases r with
 | pl r =>
  cases r with
  | tup h1 h2 h3=>cases h; exact⟨_,_,rfl,.inr (.of (sub _ _ h1)),h2,h3⟩
  | @tupk a x h1=>cases h; exact⟨_,_,rfl,.inr (.inr h1),.one (.str x)⟩
  | lst h1 h2 h3=>cases h; exact⟨_,_,rfl,.inl (sub.seq h1),h2,h3⟩
  | dct _ _ _ _=>cases h
  | fn _=>cases h
  | non=>cases h
  | bl _=>cases h
  | int _=>cases h
  | str _=>cases h
 | ol h1 r=>cases h; exact⟨_,_,rfl,.inl (.of h1),r⟩
 | ok _ _ _=>cases h
 | hd _ _ _ _=>cases h
 | hf _=>cases h
 | ot _ _ _=>cases h
 | otl _ _ _ _=>cases h
theorem Zvw{K:ZyK}{F:Hp}{ds:List PyData}{vs:List V}{i:Int}{d:PyData}(r:Zs K F ds vs)(h:HM.atD ds i=some d):∃v,atI vs i=some v/\Rep K F d v:=by
 unfold HM.atD at h;split at h
 ·rename_i j hj
  obtain⟨v,h1,h2⟩:=r.get h;refine⟨v,?_,h2⟩;unfold atI;rw[<-r.1,show ixN ds.length i=some j from hj];exact h1
 ·cases h
theorem Zau{fb':HM.BF}(ha:XB X a fb')(hb:XE X b fb)(hs:Zp1 b:=by intro _ _; rfl):XE X (.Subscript a b pos) (HM.eIx fb' fb):=by
 intro r d h;unfold HM.eIx at h;split at h
 ·rename_i x hx
  split at h
  ·rename_i ds hds
   split at h
   ·rename_i i hi
    refine PE.imp (Zxc Zw0 (ha r x hx) (hb r _ hi) hs) λσ H Q ⟨F0,H0,F,at_,k⟩=>?_;refine⟨F0,H0,F,at_,λv F1 H1 x1 ⟨fp,r1⟩=>⟨F0,H0,F1,at_.grow x1,λw F2 H2 x2 r2=>?_⟩⟩;obtain⟨l,vs,e1,hq,rs⟩:=Zkp x2.sub (r1.mono x2.ff λ_ _ _ z=>x2.hh _ _ z) hds;obtain⟨u,hu,ru⟩:=Zvw rs h;have fin:=k u F2 H2 (x1.trans x2) ru;rcases hq with hq | hq
    ·exact .inl ⟨l,vs,i,u,e1,r2.int_inv,hq,hu,fin⟩
    ·exact .inr (.inl ⟨l,vs,i,u,e1,r2.int_inv,hq,hu,fin⟩)
   ·cases h
  ·cases h
 ·cases h
def PAB(X:Cx)(e:Expr)(r:HM.Env)(q:HM.B):Prop:=PA X [e] λσ H Q=>Now X.K r σ H λF0 H0 F=>∀v fp F' H',Ext F H F' H'->Zan X.K F' H' q v fp->Q [v] H'
theorem ZdD{f:HM.BF}{r:HM.Env}{q:HM.B}(ha:XB X e f)(h:f r=some q)(hs:Zy0 [e] X.env=[(false,eval e X.env)]:=by rfl):PAB X e r q:=by refine PA.imp (ZaI (ha r q h) Zcg hs) λσ H Q ⟨F0,H0,F,at_,k⟩=>?_;exact⟨F0,H0,F,at_,λv F1 H1 x1 ⟨fp,r1⟩=>k v fp F1 H1 x1 r1⟩
end
end HP
namespace HP
open PySem PySem.Spec PyProof.Rows L2
variable[FX]
theorem Zwe:ZzS "all" = some (.builtin "all"):=by decide +kernel
theorem Zr9:ZzS "len" = some (.builtin "len"):=by decide +kernel
theorem Zsj:ZzS "max" = some (.builtin "max"):=by decide +kernel
theorem Zs4:ZzS "min" = some (.builtin "min"):=by decide +kernel
theorem ZgJ:ZzS "sorted" = some (.builtin "sorted"):=by decide +kernel
theorem Zm5:ZzS "isinstance" = some (.builtin "isinstance"):=by decide +kernel
theorem ZoY:ZzS "int" = some (.type "int"):=by decide +kernel
theorem Zvq:ZzS "bool" = some (.type "bool"):=by decide +kernel
theorem ZuK:ZzS "list" = some (.type "list"):=by decide +kernel
theorem ZkE:ZzS "tuple" = some (.type "tuple"):=by decide +kernel
theorem ZvU:ZzS "set" = some (.type "set"):=by decide +kernel
section
variable{X:Cx}{a b c e:Expr}{fa fb fc:HM.EF}{pos p:Pos}{f:HM.BF}
theorem ZbY(hm:X.mg "len" = none)(ha:XB X a f)(hg:Gl X "len":=by rfl)(hs:Zy0 [a] X.env=[(false,eval a X.env)]:=by rfl):XE X (.Call (.Name "len" p) [a] [] pos) (HM.ZaS f):=by
 intro r d h;unfold HM.ZaS at h;split at h
 ·rename_i x hx
  obtain⟨n,h1,h2⟩:=ZyL.mp h;subst h2;refine PE.imp (Zcf (Zn9.or Zs3) hg hm Zr9 (ZdD ha hx hs) (he:=hs)) λσ H Q ⟨F0,H0,F,at_,k⟩=>?_;refine⟨F0,H0,F,at_,λv fp F1 H1 x1 r1=>?_⟩;have fin:=λ(m:Nat) (e:m=n)=>k (.int m) F1 H1 x1 (by rw[e]; exact .int _);cases r1 with
  | pl q =>
   cases q with
   | tup q1 q2 q3=>cases h1; exact .inl ⟨_,_,rfl,.inr (.of (x1.sub _ _ q1)),fin _ q2.symm⟩
   | tupk q1=>cases h1; exact .inl ⟨_,_,rfl,.inr (.inr q1),fin _ rfl⟩
   | lst q1 q2 q3=>cases h1; exact .inl ⟨_,_,rfl,.inl (x1.sub.seq q1),fin _ q2.symm⟩
   | dct _ _ _ _=>cases h1
   | fn _=>cases h1
   | non=>cases h1
   | bl _=>cases h1
   | int _=>cases h1
   | str _=>cases h1
  | ol q1 q2=>cases h1; exact .inl ⟨_,_,rfl,.inl (.of q1),fin _ q2.1.symm⟩
  | ok q1 q2 q3=>cases h1;refine .inr ⟨_,_,rfl,q1,fin _ ?_⟩;have:=congrArg Zzw q2;rw[ZyJ,ZyJ]at this;exact this.symm
  | ot _ _ _=>cases h1
  | otl _ _ _ _=>cases h1
  | hd _ _ _ _=>cases h1
  | hf _=>cases h1
 ·cases h
theorem Zav(hm:X.mg "tuple" = none)(ha:XB X a f)(hg:Gl X "tuple":=by rfl)(hs:Zy0 [a] X.env=[(false,eval a X.env)]:=by rfl):XE X (.Call (.Name "tuple" p) [a] [] pos) (HM.Zam f):=by
 intro r d h;unfold HM.Zam at h;split at h
 ·rename_i x hx
  obtain⟨ds,h1,h2⟩:=ZyL.mp h;subst h2;refine PE.imp (ZdF Zm4 hg hm ZkE (ZdD ha hx hs) (he:=hs)) λσ H Q ⟨F0,H0,F,at_,k⟩=>?_;refine⟨F0,H0,F,at_,λv fp F1 H1 x1 r1=>?_⟩;have new:∀(vs:List V),Zs X.K F1 ds vs->∀l,H1 l=none->Q (.ref l) (upd H1 l (.tup vs)):=λvs q l hl=>k _ (upd F1 l (.tup vs)) _ (x1.lay hl) (.tup ZH q.1 (q.mono (Zr.upd' (x1.sub.free hl))).2);cases r1 with
  | pl q =>
   cases q with
   | tup q1 q2 q3=>cases h1; exact⟨_,_,rfl,.inr ⟨.of (x1.sub _ _ q1),k _ F1 H1 x1 (.tup q1 q2 q3)⟩⟩
   | tupk q1=>cases h1; exact⟨_,_,rfl,.inr ⟨.inr q1,k _ F1 H1 x1 (.tupk q1)⟩⟩
   | lst q1 q2 q3=>cases h1; exact⟨_,_,rfl,.inl ⟨x1.sub.seq q1,new _ ⟨q2,q3⟩⟩⟩
   | dct _ _ _ _=>cases h1
   | fn _=>cases h1
   | non=>cases h1
   | bl _=>cases h1
   | int _=>cases h1
   | str _=>cases h1
  | ol q1 q2=>cases h1; exact⟨_,_,rfl,.inl ⟨.of q1,new _ q2⟩⟩
  | ok _ _ _=>cases h1
  | ot _ _ _=>cases h1
  | otl _ _ _ _=>cases h1
  | hd _ _ _ _=>cases h1
  | hf _=>cases h1
 ·cases h
theorem ZdE{K:ZyK}{F H F1 H1:Hp}{ds:List PyData}{vs:List V}{l:Addr}{P:V->Hp->Hp->Prop}(x1:Ext F H F1 H1)(q:Zs K F1 ds vs)(hl:H1 l=none)
  (k:∀v F' H',Ext F H F' H'->(∃fp,Zan K F' H' (.ol ds) v fp/\fp.Nodup/\∀a∈fp,F' a=none/\H a=none)->P v F' H'):P (.ref l) F1 (upd H1 l (.lst vs)):=by
 refine k _ F1 _ (x1.lay' hl) ⟨[l],.ol ZH q,by simp,λa ha=>?_⟩;have:a=l:=by simpa using ha
 subst this;exact⟨x1.sub.free hl,x1.hh.free hl⟩
theorem Zl7(hm:X.mg "list" = none)(ha:XB X a f)(hg:Gl X "list":=by rfl)(hs:Zy0 [a] X.env=[(false,eval a X.env)]:=by rfl):XF X (.Call (.Name "list" p) [a] [] pos) (HM.Zjv f):=by
 intro r d h;unfold HM.Zjv at h;split at h
 ·rename_i x hx
  obtain⟨ds,h1,h2⟩:=ZyL.mp h;subst h2;refine PE.imp (ZdF Zos hg hm ZuK (ZdD ha hx hs) (he:=hs)) λσ H Q ⟨F0,H0,F,at_,k⟩=>?_;refine⟨F0,H0,F,at_,λv fp F1 H1 x1 r1=>?_⟩;obtain⟨l,vs,e1,hq,rs⟩:=Zkp x1.sub r1 h1;subst e1;exact⟨l,vs,rfl,hq,λl' hl'=>ZdE (P:=λv _ H'=>Q v H') x1 rs hl' k⟩
 ·cases h
theorem Zlq{K:ZyK}{F:Hp}:∀{ds:List PyData} {vs:List V} {bs:List Bool},HM.ZbQ ds=some bs->Zs K F ds vs->vs=bs.map V.bl
 | [],vs,bs,h,r=>by cases h;exact r.nil_inv
 | d::ds,vs,bs,h,r=>by
  obtain⟨v,us,rfl,r1,r2⟩:=r.cons_inv;cases d with
  | bool b=>obtain⟨bs',h1,h2⟩:=ZyL.mp h;subst h2;rw[r1.bool_inv,Zlq h1 r2];rfl
  | none=>cases h
  | int _=>cases h
  | str _=>cases h
  | list _=>cases h
  | tuple _=>cases h
  | dict _=>cases h
end
end HP
namespace HP
open PySem PySem.Spec PyProof.Rows L2
variable[FX]
section
variable{X:Cx}{a b c e:Expr}{fa fb fc:HM.EF}{pos p:Pos}{f:HM.BF}
theorem ZpR:∀{bs:List Bool} {us:List Value},Vals (bs.map V.bl) us->LSm.BoolsAre us bs:=by
 intro bs
 induction bs with
 | nil=>intro us r; rw[ZAN]at r; cases r; exact .nil
 | cons b bs ih =>
  intro us r;rw[ZyS]at r;cases r with
  | cons r1 r2=>cases r1;exact .cons b (ih r2)
theorem Zwk{A:Around}{s:Shared}{l:Addr}{vs:List Value}{bs:List Bool}{dflt:Bool}(hh:A.handled=none)(hl:s.heap.IsList l vs.toArray)(hb:LSm.BoolsAre vs bs){E:Value->Shared->Prop}{Q:Value->Shared->Prop}{prog:Program}{w:World}
  (h:∀it fp wr (P:Nat->Value->Prop) St,Walks prog w A it fp wr vs.length P St->St 0 (s.heap.push { cls:=.type "list_iterator",data:=.fields #[.ref l,rawInt 0] })->TruthOf prog w A P (λi=>(bs[i]?).getD dflt)->wr=[s.heap.objs.size]->it=s.heap.objs.size->Q (.ref it) { s with heap:=s.heap.push { cls:=.type "list_iterator",data:=.fields #[.ref l,rawInt 0] } }) :
  wpAny (model prog w) A (pyIter (.ref l)) Q E s:=by
 have hlt:l<s.heap.objs.size:=let ⟨_,e,_⟩:=hl; Zy1 e
 refine ZCU hl ?_;have W:=Walks.list (prog:=prog) (w:=w) hh s.heap.objs.size l (Zzc hlt) vs.toArray;rw[ZyX]at W;refine h _ _ _ _ _ W ⟨⟨_,Zy4 _ rfl,rfl,rfl⟩,hl.push _⟩ (λi v s' Q' E' hP hQ=>?_) rfl rfl;obtain⟨b,e,rfl⟩:=hb.get i v (by simpa using hP);simp only[e,Option.getD_some]at hQ;exact ZAy hQ
theorem Zsp(hc:X.calm=true):ZaM X (.builtin "all") (λxs H Q=>∃(p:Addr) (bs:List Bool),xs=[.ref p]/\SqL X.K H p (bs.map V.bl)/\Q (.bl (bs.all id)) H):=by intro pins s σ H xs us Q I r h;obtain⟨p,bs,rfl,hq,q⟩:=h;obtain⟨u,rfl,rx⟩:=vals1 r;cases rx;obtain⟨its,rv,pl,hz⟩:=I.list hq;have hb:=ZpR rv;refine call_all_walk (Zwk (dflt:=true) (A:=X.A.in1) (I.ok.hd hc) pl.isList hb λit fp wr P St W st tr e1 e2=>?_);subst e1 e2;refine⟨_,_,_,_,P,St,_,rfl,W,st,tr,λh' tk hk=>?_⟩;rw[hb.length,LSm.range_all bs];exact⟨.bl _,H,I.kept (LSm.kept_iter hk),rfl,q⟩
theorem Zgl{K:ZyK}{F H:Hp}{q:HM.B}{v:V}{fp:List Addr}{ds:List PyData}(sub:Zr F H)(r:Zan K F H q v fp)(h:HM.ZlH q=some ds):∃a vs,v=.ref a/\SqL K H a vs/\Zs K F ds vs:=by
 cases r with
 | pl r =>
  cases r with
  | lst h1 h2 h3=>cases h; exact⟨_,_,rfl,sub.seq h1,h2,h3⟩
  | dct _ _ _ _=>cases h
  | fn _=>cases h
  | tupk _=>cases h
  | tup _ _ _=>cases h
  | non=>cases h
  | bl _=>cases h
  | int _=>cases h
  | str _=>cases h
 | ol h1 r=>cases h; exact⟨_,_,rfl,.of h1,r⟩
 | ok _ _ _=>cases h
 | hd _ _ _ _=>cases h
 | hf _=>cases h
 | ot _ _ _=>cases h
 | otl _ _ _ _=>cases h
theorem Zfo(hm:X.mg "all" = none)(hc:X.calm=true)(ha:XB X a f)(hg:Gl X "all":=by rfl)(hs:Zy0 [a] X.env=[(false,eval a X.env)]:=by rfl):XE X (.Call (.Name "all" p) [a] [] pos) (HM.ZcM f):=by
 intro r d h;unfold HM.ZcM at h;split at h
 ·rename_i x hx
  split at h
  ·rename_i ds hds
   obtain⟨bs,h1,h2⟩:=ZyL.mp h;subst h2;refine PE.imp (Zcf (Zsp hc) hg hm Zwe (ZdD ha hx hs) (he:=hs)) λσ H Q ⟨F0,H0,F,at_,k⟩=>?_;refine⟨F0,H0,F,at_,λv fp F1 H1 x1 r1=>?_⟩;obtain⟨l,vs,e1,hq,rs⟩:=Zgl x1.sub r1 hds;rw[Zlq h1 rs]at hq;exact⟨l,bs,by rw[e1],hq,k _ F1 H1 x1 (.bl _)⟩
  ·cases h
 ·cases h
theorem ZoH{tyn:String}{t:HM.Ty}(hr:∀(s:Shared) (d:PyData) (v:V) (u:Value) (Q:Value->Shared->Prop),RelV v u->(∃(K:ZyK) (F:Hp),Rep K F d v)->(∀es,d≠.dict es)->(∀x,v=.ref x->∃o,s.heap.get? x=some o/\((∃ds,d=.tuple ds/\o.cls=.type "tuple")\/(∃ds,d=.list ds/\o.cls=.type "list")\/∃ds,d=.dict ds/\o.cls=.type "dict")) ->
   (∀tk,Q (.bool (HM.Zi3 t d)) { s with toks:=tk })->wpAny (model X.prog X.w) X.A (call (.builtin "isinstance") [u,.type tyn]) Q X.xe s) :
  ZaM X (.builtin "isinstance") (λxs H Q=>∃F d v,xs=[v,.ty tyn]/\Zr F H/\Rep X.K F d v/\(∀es,d≠.dict es)/\Q (.bl (HM.Zi3 t d)) H):=by
 intro pins s σ H xs us Q I r h;obtain⟨F,d,v,rfl,sub,rp,nd,q⟩:=h;obtain⟨u,u',rfl,ru,ru'⟩:=vals2 r;cases(show u'=ZAm tyn from ru');refine hr s d v u _ ru ⟨_,_,rp⟩ nd (λx e=>?_) λtk=>⟨.bl _,H,I.tok tk,rfl,q⟩;subst e;cases rp with
 | tup h1 h2 h3=>obtain⟨its,rv,⟨o,ho,hc,n,hd⟩,_⟩:=I.tuple (.of (sub _ _ h1));exact⟨o,ho,.inl ⟨_,rfl,hc⟩⟩
 | tupk h1=>obtain⟨its,rv,⟨o,ho,hc,n,hd⟩,_⟩:=I.tuple (.inr h1);exact⟨o,ho,.inl ⟨_,rfl,hc⟩⟩
 | lst h1 h2 h3=>obtain⟨its,rv,⟨o,n,ho,hc,_,hd⟩,_⟩:=I.list (sub.seq h1);exact⟨o,ho,.inr (.inl ⟨_,rfl,hc⟩)⟩
 | @dct a es kvs vvs h1 _ _ _=>obtain⟨_,_,xs,_,o,es,ep,q1,q2,_⟩:=(show Z1 X.prog X.w H s.heap x (.dT vvs) from Zlj I.hok (ZhB h1 sub));exact⟨o,q1,.inr (.inr ⟨_,rfl,q2.1⟩)⟩
 | fn _=>exact absurd rfl (nd _)
theorem Ztl:ZaM X (.builtin "isinstance") (λxs H Q=>∃F d v,xs=[v,.ty "bool"]/\Zr F H/\Rep X.K F d v/\(∀es,d≠.dict es)/\Q (.bl (HM.Zi3 .bool d)) H):=by
 refine ZoH λs d v u Q ru ⟨K,F,rp⟩ nd ho k=>?_;cases rp with
 | non=>cases ru; exact IsiPair.NoneType_bool (k _)
 | bl _=>cases ru; exact IsiPair.bool_bool (k _)
 | int _=>obtain⟨t,rfl⟩:=ru; exact IsiPair.int_bool (k _)
 | str _=>obtain⟨t,rfl⟩:=ru; exact IsiPair.str_bool (k _)
 | tup _ _ _ | tupk _ =>
  cases ru;obtain⟨o,h1,⟨_,_,h2⟩ | ⟨_,e,_⟩ | ⟨_,e,_⟩⟩:=ho _ rfl
  ·exact IsiPair.tuple_bool h1 h2 (k _)
  ·cases e
  ·cases e
 | lst _ _ _ =>
  cases ru;obtain⟨o,h1,⟨_,e,_⟩ | ⟨_,_,h2⟩ | ⟨_,e,_⟩⟩:=ho _ rfl
  ·cases e
  ·exact IsiPair.list_bool h1 h2 (k _)
  ·cases e
 | dct _ _ _ _ =>
  cases ru;obtain⟨o,h1,⟨_,e,_⟩ | ⟨_,e,_⟩ | ⟨_,_,h2⟩⟩:=ho _ rfl
  ·cases e
  ·cases e
  ·exact IsiPair.dict_bool h1 h2 (k _)
 | fn _=>exact absurd rfl (nd _)
theorem ZuA:ZaM X (.builtin "isinstance") (λxs H Q=>∃F d v,xs=[v,.ty "int"]/\Zr F H/\Rep X.K F d v/\(∀es,d≠.dict es)/\Q (.bl (HM.Zi3 .int d)) H):=by
 refine ZoH λs d v u Q ru ⟨K,F,rp⟩ nd ho k=>?_;cases rp with
 | non=>cases ru; exact IsiPair.NoneType_int (k _)
 | bl _=>cases ru; exact IsiPair.bool_int (k _)
 | int _=>obtain⟨t,rfl⟩:=ru; exact IsiPair.int_int (k _)
 | str _=>obtain⟨t,rfl⟩:=ru; exact IsiPair.str_int (k _)
 | tup _ _ _ | tupk _ =>
  cases ru;obtain⟨o,h1,⟨_,_,h2⟩ | ⟨_,e,_⟩ | ⟨_,e,_⟩⟩:=ho _ rfl
  ·exact IsiPair.tuple_int h1 h2 (k _)
  ·cases e
  ·cases e
 | lst _ _ _ =>
  cases ru;obtain⟨o,h1,⟨_,e,_⟩ | ⟨_,_,h2⟩ | ⟨_,e,_⟩⟩:=ho _ rfl
  ·cases e
  ·exact IsiPair.list_int h1 h2 (k _)
  ·cases e
 | dct _ _ _ _ =>
  cases ru;obtain⟨o,h1,⟨_,e,_⟩ | ⟨_,e,_⟩ | ⟨_,_,h2⟩⟩:=ho _ rfl
  ·cases e
  ·cases e
  ·exact IsiPair.dict_int h1 h2 (k _)
 | fn _=>exact absurd rfl (nd _)
theorem Zr4:ZaM X (.builtin "isinstance") (λxs H Q=>∃F d v,xs=[v,.ty "tuple"]/\Zr F H/\Rep X.K F d v/\(∀es,d≠.dict es)/\Q (.bl (HM.Zi3 .tuple d)) H):=by
 refine ZoH λs d v u Q ru ⟨K,F,rp⟩ nd ho k=>?_;cases rp with
 | non=>cases ru; exact IsiPair.NoneType_tuple (k _)
 | bl _=>cases ru; exact IsiPair.bool_tuple (k _)
 | int _=>obtain⟨t,rfl⟩:=ru; exact IsiPair.int_tuple (k _)
 | str _=>obtain⟨t,rfl⟩:=ru; exact IsiPair.str_tuple (k _)
 | tup _ _ _ | tupk _ =>
  cases ru;obtain⟨o,h1,⟨_,_,h2⟩ | ⟨_,e,_⟩ | ⟨_,e,_⟩⟩:=ho _ rfl
  ·exact IsiPair.tuple_tuple h1 h2 (k _)
  ·cases e
  ·cases e
 | lst _ _ _ =>
  cases ru;obtain⟨o,h1,⟨_,e,_⟩ | ⟨_,_,h2⟩ | ⟨_,e,_⟩⟩:=ho _ rfl
  ·cases e
  ·exact IsiPair.list_tuple h1 h2 (k _)
  ·cases e
 | dct _ _ _ _ =>
  cases ru;obtain⟨o,h1,⟨_,e,_⟩ | ⟨_,e,_⟩ | ⟨_,_,h2⟩⟩:=ho _ rfl
  ·cases e
  ·cases e
  ·exact IsiPair.dict_tuple h1 h2 (k _)
 | fn _=>exact absurd rfl (nd _)
theorem Znn{tyn:Str}{tys:String}{t:HM.Ty}{p2:Pos}(hR:ZaM X (.builtin "isinstance") (λxs H Q=>∃F d v,xs=[v,.ty tys]/\Zr F H/\Rep X.K F d v/\(∀es,d≠.dict es)/\Q (.bl (HM.Zi3 t d)) H))(bt:ZzS tyn=some (.type tys))
  (hm:X.mg "isinstance" = none) (hm2:X.mg tyn=none) (ha:XE X a fa) (hg:Gl X "isinstance") (hg2:Gl X tyn) (hn:tyn ≠ "__name__") (hd:(tyn==("__debug__":Str))=false)
  (hs1:Zy0 [a,.Name tyn p2] X.env=(false,eval a X.env)::Zy0 [.Name tyn p2] X.env) (hs2:Zy0 [.Name tyn p2] X.env=[(false,eval (.Name tyn p2) X.env)]):XE X (.Call (.Name "isinstance" p) [a,.Name tyn p2] [] pos) (HM.Zh5 fa t):=by
 intro r d h;have key:∃x,fa r=some x/\(∀es,x≠.dict es)/\d=.bool (HM.Zi3 t x):=by
  unfold HM.Zh5 at h;split at h
  ·cases h
  ·rename_i x hn hx
   cases h;exact⟨x,hx,λes z=>hn es (by rw[z]),rfl⟩
  ·cases h
 obtain⟨x,h1,nd,h2⟩:=key;subst h2;refine PE.imp (Zcf hR hg hm Zm5 (ZaI (ha r x h1) (ZaI (ZuZ (v:=.ty tys) hg2 hm2 bt rfl hn hd) Zcg (by rw[hs2]; rfl)) hs1) (he:=hs1) (hpl:=by rw[hs2]; rfl)) λσ H Q ⟨F0,H0,F,at_,k⟩=>?_;exact⟨F0,H0,F,at_,λv F1 H1 x1 r1=>⟨F1,x,v,rfl,x1.sub,r1,nd,k _ F1 H1 x1 (.bl _)⟩⟩
theorem Zpm{p2:Pos}(hm:X.mg "isinstance" = none)(hm2:X.mg "bool" = none)(ha:XE X a fa)(hg:Gl X "isinstance":=by rfl)(hg2:Gl X "bool":=by rfl)(hs1:Zy0 [a,.Name "bool" p2] X.env=(false,eval a X.env)::Zy0 [.Name "bool" p2] X.env:=by rfl) :
  XE X (.Call (.Name "isinstance" p) [a,.Name "bool" p2] [] pos) (HM.Zh5 fa .bool):=Znn Ztl Zvq hm hm2 ha hg hg2 (by decide) (by decide) hs1 rfl
theorem ZqA{p2:Pos}(hm:X.mg "isinstance" = none)(hm2:X.mg "int" = none)(ha:XE X a fa)(hg:Gl X "isinstance":=by rfl)(hg2:Gl X "int":=by rfl)(hs1:Zy0 [a,.Name "int" p2] X.env=(false,eval a X.env)::Zy0 [.Name "int" p2] X.env:=by rfl) :
  XE X (.Call (.Name "isinstance" p) [a,.Name "int" p2] [] pos) (HM.Zh5 fa .int):=Znn ZuA ZoY hm hm2 ha hg hg2 (by decide) (by decide) hs1 rfl
theorem Ziy{p2:Pos}(hm:X.mg "isinstance" = none)(hm2:X.mg "tuple" = none)(ha:XE X a fa)(hg:Gl X "isinstance":=by rfl)(hg2:Gl X "tuple":=by rfl)(hs1:Zy0 [a,.Name "tuple" p2] X.env=(false,eval a X.env)::Zy0 [.Name "tuple" p2] X.env:=by rfl) :
  XE X (.Call (.Name "isinstance" p) [a,.Name "tuple" p2] [] pos) (HM.Zh5 fa .tuple):=Znn Zr4 ZkE hm hm2 ha hg hg2 (by decide) (by decide) hs1 rfl
theorem ZvA(hm:X.mg "max" = none)(hc:X.calm=true)(ha:XE X a fa)(hb:XE X b fb)(hg:Gl X "max":=by rfl)(hs1:Zy0 [a,b] X.env=(false,eval a X.env)::Zy0 [b] X.env:=by rfl)(hs2:Zy0 [b] X.env=[(false,eval b X.env)]:=by rfl) :
  XE X (.Call (.Name "max" p) [a,b] [] pos) (HM.op2 HM.ZwZ fa fb):=by
 intro r d h;obtain⟨x,y,h1,h2,h3⟩:=ZhA h;obtain⟨i,j,rfl,rfl,e⟩:=ZgB h3;cases e;refine PE.imp (Zcf (Zs5 hc) hg hm Zsj (ZaI (ha r _ h1) (ZaI (hb r _ h2) Zcg hs2) hs1) (he:=hs1) (hpl:=by rw[hs2]; rfl)) λσ H Q ⟨F0,H0,F,at_,k⟩=>?_;exact⟨F0,H0,F,at_,λv F1 H1 x1 r1=>⟨F0,H0,F1,at_.grow x1,λw F2 H2 x2 r2=>⟨i,j,by rw[r1.int_inv,r2.int_inv],k _ F2 H2 (x1.trans x2) (.int _)⟩⟩⟩
theorem ZvB(hm:X.mg "min" = none)(hc:X.calm=true)(ha:XE X a fa)(hb:XE X b fb)(hg:Gl X "min":=by rfl)(hs1:Zy0 [a,b] X.env=(false,eval a X.env)::Zy0 [b] X.env:=by rfl)(hs2:Zy0 [b] X.env=[(false,eval b X.env)]:=by rfl) :
  XE X (.Call (.Name "min" p) [a,b] [] pos) (HM.op2 HM.ZvT fa fb):=by
 intro r d h;obtain⟨x,y,h1,h2,h3⟩:=ZhA h;obtain⟨i,j,rfl,rfl,e⟩:=ZgB h3;cases e;refine PE.imp (Zcf (ZsS hc) hg hm Zs4 (ZaI (ha r _ h1) (ZaI (hb r _ h2) Zcg hs2) hs1) (he:=hs1) (hpl:=by rw[hs2]; rfl)) λσ H Q ⟨F0,H0,F,at_,k⟩=>?_;exact⟨F0,H0,F,at_,λv F1 H1 x1 r1=>⟨F0,H0,F1,at_.grow x1,λw F2 H2 x2 r2=>⟨i,j,by rw[r1.int_inv,r2.int_inv],k _ F2 H2 (x1.trans x2) (.int _)⟩⟩⟩
theorem Zs9(hm:X.mg "int" = none)(ha:XE X a fa)(hg:Gl X "int":=by rfl)(hs:Zy0 [a] X.env=[(false,eval a X.env)]:=by rfl):XE X (.Call (.Name "int" p) [a] [] pos) (HM.Zn5 fa):=by
 intro r d h;unfold HM.Zn5 at h;split at h
 ·rename_i i hi
  cases h;refine PE.imp (ZdF Zmu hg hm ZoY (ZaI (ha r _ hi) Zcg hs) (he:=hs)) λσ H Q ⟨F0,H0,F,at_,k⟩=>?_;exact⟨F0,H0,F,at_,λv F1 H1 x1 r1=>.inl ⟨i,by rw[r1.int_inv],k _ F1 H1 x1 (.int _)⟩⟩
 ·rename_i q hq
  cases h;refine PE.imp (ZdF Zmu hg hm ZoY (ZaI (ha r _ hq) Zcg hs) (he:=hs)) λσ H Q ⟨F0,H0,F,at_,k⟩=>?_;exact⟨F0,H0,F,at_,λv F1 H1 x1 r1=>.inr ⟨q,by rw[r1.bool_inv],k _ F1 H1 x1 (.int _)⟩⟩
 ·cases h
end
end HP
namespace HP
open PySem PySem.Spec PyProof.Rows L2
variable[FX]
section
variable{X:Cx}{a b c e:Expr}{fa fb fc:HM.EF}{pos p:Pos}{f:HM.BF}{tg:Expr}
theorem PI.imp{X:Cx}{tg e:Expr}{t u:TI}(h:PI X tg e t)(hi:∀σ H R,u σ H R->t σ H R):PI X tg e u:=λpins s σ H R I q=>h pins s σ H R I (hi σ H R q)
theorem Zwm{l:Expr}{tl:TE}(hl:PE X l tl):PI X tg l (λσ H R=>tl σ H λx H1=>∃a,x=.ref a/\((∃xs,SqL X.K H1 a xs)/\R (Itl X.K a) H1\/(∃xs,SqT X.K H1 a xs)/\R (Itt X.K a) H1)):=by
 intro pins s σ H R I h;refine thn (hl pins s σ H _ I h) λv s1 ⟨x,H1,I1,r1,q1⟩=>?_;obtain⟨a,e,q1⟩:=q1;subst e;cases r1;rcases q1 with⟨⟨xs,hq⟩,q⟩ | ⟨⟨xs,hq⟩,q⟩
 ·obtain⟨its,rv,p,hz⟩:=I1.list hq
  refine ZCU p.isList ⟨s1.heap.objs.size,[s1.heap.objs.size],_,_,H1,rfl,I1.kept (t':=s1.toks) λb o e=>ZyN _ e,ZsL a _,⟨_,Zy4 _ rfl,rfl,rfl⟩,λb hb=>?_,q⟩;obtain rfl:b=s1.heap.objs.size:=by simpa using hb
  exact I1.fpOk (ZyT _) (I1.hok.fresh (ZyT _))
 ·obtain⟨its,rv,p,hz⟩:=I1.tuple hq
  refine wpAny_pyIter_tuple (show s1.heap.IsTuple a its.toArray from p) ⟨s1.heap.objs.size,[s1.heap.objs.size],_,_,H1,rfl,I1.kept (t':=s1.toks) λb o e=>ZyN _ e,Zq0 a _,⟨_,Zy4 _ rfl,rfl,rfl⟩,λb hb=>?_,q⟩;obtain rfl:b=s1.heap.objs.size:=by simpa using hb
  exact I1.fpOk (ZyT _) (I1.hok.fresh (ZyT _))
theorem ZtO{K:ZyK}{F:Hp}{a:Addr}{ds:List PyData}{vs:List V}(h:SqL K F a vs)(r:Zs K F ds vs):ItD K (Itl K a) ds F:=by intro F' H s1 s2;have hq:SqL K H a vs:=(s1.trans s2).seq h;refine⟨λi d hd=>?_,⟨vs,hq,by rw[r.1]; exact ZyT _⟩⟩;obtain⟨v,h1,h2⟩:=r.get hd;refine⟨⟨vs,v,hq,h1⟩,λx H' hy=>?_⟩;obtain⟨e,y⟩:=hy;refine⟨e,?_⟩;have:=y vs hq;rw[h1]at this;cases this;exact h2.mono (s1.trans (ZdS s2))
theorem ZtZ{K:ZyK}{F:Hp}{a:Addr}{ds:List PyData}{vs:List V}(h:SqT K F a vs)(r:Zs K F ds vs):ItD K (Itt K a) ds F:=by intro F' H s1 s2;have hq:SqT K H a vs:=Zgu h (s1.trans s2);refine⟨λi d hd=>?_,⟨vs,hq,by rw[r.1]; exact ZyT _⟩⟩;obtain⟨v,h1,h2⟩:=r.get hd;refine⟨⟨vs,v,hq,h1⟩,λx H' hy=>?_⟩;obtain⟨e,y⟩:=hy;refine⟨e,?_⟩;have:=y vs hq;rw[h1]at this;cases this;exact h2.mono (s1.trans (ZdS s2))
theorem Zu3{K:ZyK}{F:Hp}{a:Addr}{ds:List PyData}{vs:List V}(h:F a=some (.tup vs))(r:Zs K F ds vs):ItD K (Itt K a) ds F:=by intro F' H s1 s2;have hq:SqT K H a vs:=.of (s2 _ _ (s1 _ _ h));refine⟨λi d hd=>?_,⟨vs,hq,by rw[r.1]; exact ZyT _⟩⟩;obtain⟨v,h1,h2⟩:=r.get hd;refine⟨⟨vs,v,hq,h1⟩,λx H' hy=>?_⟩;obtain⟨e,y⟩:=hy;refine⟨e,?_⟩;have:=y vs hq;rw[h1]at this;cases this;exact h2.mono (s1.trans (ZdS s2))
theorem Z5(h:XE X e fa):XI X tg e (HM.ZN (HM.bOf fa)):=by
 intro r ds hd;unfold HM.ZN HM.bOf at hd;cases hx:fa r with
 | none=>rw[hx]at hd; cases hd
 | some d =>
  rw[hx]at hd;have hd:HM.ZfC (.pl d)=some ds:=hd;refine PI.imp (Zwm (h r d hx)) λσ H R ⟨F0,H0,F,at_,k⟩=>?_;refine⟨F0,H0,F,at_,λv F1 H1 x1 r1=>?_⟩;cases r1 with
  | @tupk a x h1=>cases hd;exact⟨a,rfl,.inr ⟨⟨_,.inr h1⟩,k _ F1 H1 x1 (ZtZ (.inr h1) (.one (.str x)))⟩⟩
  | @tup a ds' vs h1 h2 h3=>cases hd;exact⟨a,rfl,.inr ⟨⟨vs,.of (x1.sub _ _ h1)⟩,k _ F1 H1 x1 (Zu3 h1 ⟨h2,h3⟩)⟩⟩
  | @lst a ds' vs h1 h2 h3=>cases hd;exact⟨a,rfl,.inl ⟨⟨vs,x1.sub.seq h1⟩,k _ F1 H1 x1 (ZtO h1 ⟨h2,h3⟩)⟩⟩
  | dct _ _ _ _=>cases hd
  | fn _=>cases hd
  | non=>cases hd
  | bl _=>cases hd
  | int _=>cases hd
  | str _=>cases hd
theorem Zvu{K:ZyK}{F:Hp}(lo:Int)(n:Nat):ItD K (Itr lo n) (HM.ZcT lo n) F:=by
 intro F' H s1 s2;have hl:(HM.ZcT lo n).length=n:=by unfold HM.ZcT; rw[ZyJ,ZAa]
 refine⟨λi d hd=>?_,?_⟩
 ·have hi:i<n:=by rw[<-hl]; exact(ZyZ.mp hd).1
  unfold HM.ZcT at hd;rw[Zy2,List.getElem?_range hi]at hd;cases hd;exact⟨hi,λx H' ⟨e1,e2⟩=>⟨e1,by rw[e2]; exact .int _⟩⟩
 ·rw[hl]; exact ZyT _
theorem Zqk{j:Int}(h:HM.okR j=true):-1000000<j/\j<1000000:=by unfold HM.okR at h;rw[ZBV]at h;omega
theorem ZcU(hm:X.mg "range" = none)(ha:XE X a fa)(hg:Gl X "range":=by rfl)(hs:Zy0 [a] X.env=[(false,eval a X.env)]:=by rfl):XI X tg (.Call (.Name "range" p) [a] [] pos) (HM.ZbM fa):=by
 intro r ds hd;unfold HM.ZbM at hd;split at hd
 ·rename_i j hj
  split at hd
  ·rename_i hok
   cases hd;obtain⟨k1,k2⟩:=Zqk hok;refine PI.imp (Zss hg hm (ZaI (ha r _ hj) Zcg hs) hs) λσ H R ⟨F0,H0,F,at_,k⟩=>?_;exact⟨F0,H0,F,at_,λv F1 H1 x1 r1=>⟨j,by rw[r1.int_inv],by omega,by omega,k _ F1 H1 x1 (Zvu 0 j.toNat)⟩⟩
  ·cases hd
 ·cases hd
theorem ZrI{ga gb:HM.BF}(ha:XB X a ga)(hb:XB X b gb):XF X (.BinOp a .Add b pos) (HM.ZrA ga gb):=by
 intro r d h;unfold HM.ZrA at h;split at h
 ·rename_i xs hx
  split at h
  ·rename_i ys hy
   split at h
   ·rename_i hz
    cases h;refine PE.imp (Znh ZvO (ha r _ hx) (hb r _ hy)) λσ H Q ⟨F0,H0,F,at_,k⟩=>?_;refine⟨F0,H0,F,at_,λv F1 H1 x1 ⟨fp,r1⟩=>⟨F0,H0,F1,at_.grow x1,λw F2 H2 x2 ⟨fq,r2⟩=>?_⟩⟩;cases r1 with
    | ol h1 q1 =>
     cases r2 with
     | ol h2 q2 =>
      have q1':=q1.mono x2.ff;refine⟨_,_,_,_,rfl,rfl,x2.hh _ _ h1,h2,?_,λl hl=>ZdE (P:=λv _ H'=>Q v H') (x1.trans x2) (q1'.append q2) hl k⟩;have e1:=q1.1;have e2:=q2.1;have e3:(1000000:Nat)<=sizeLine:=by decide
      unfold HM.big at hz;omega
   ·cases h
  ·cases h
 ·cases h
theorem ZvC{ga:HM.BF}(ha:XB X a ga)(hb:XE X b fb):XF X (.BinOp a .Mult b pos) (HM.Ztk ga fb):=by
 intro r d h;unfold HM.Ztk at h;split at h
 ·rename_i xs hx
  split at h
  ·rename_i i hy
   split at h
   ·rename_i hz
    cases h;rw[Zy5,decide_eq_true_eq,decide_eq_true_eq]at hz;refine PE.imp (Znh ZwY (ha r _ hx) (hb r _ hy)) λσ H Q ⟨F0,H0,F,at_,k⟩=>?_;refine⟨F0,H0,F,at_,λv F1 H1 x1 ⟨fp,r1⟩=>⟨F0,H0,F1,at_.grow x1,λw F2 H2 x2 r2=>?_⟩⟩;cases r1 with
    | ol h1 q1 =>
     have q1':=q1.mono x2.ff;refine⟨_,i,_,rfl,r2.int_inv,x2.hh _ _ h1,by omega,by omega,?_,λl hl=>ZdE (P:=λv _ H'=>Q v H') (x1.trans x2) (q1'.rep i.toNat) hl k⟩;have e1:=q1.1;have e3:(1000*1000:Nat)<=sizeLine:=by decide
     refine ZzH (Nat.mul_le_mul (?_:_<=1000) (?_:_<=1000)) e3<;>omega
   ·cases h
  ·cases h
 ·cases h
def XO(X:Cx)(e:Option Expr)(f:Option HM.EF):Prop:=∀r o,HM.Zlz f r=some o->PO X e λσ H Q=>Now X.K r σ H λF0 H0 F=>∀F' H',Ext F H F' H'->Q o H'
theorem Zlx:XO X none none:=by intro r o h;cases h;intro pins s σ H Q I q;obtain⟨F0,H0,F,at_,k⟩:=q;exact ZuB pins s σ H Q I (k F H at_.refl)
theorem Zl4(h:XE X e fa):XO X (some e) (some fa):=by
 intro r o ho;unfold HM.Zlz at ho;split at ho
 ·rename_i z; cases z
 ·rename_i g z
  cases z;split at ho
  ·rename_i i hi
   cases ho;intro pins s σ H Q I q;obtain⟨F0,H0,F,at_,k⟩:=q;exact Zvs (h r _ hi) pins s σ H Q I ⟨F0,H0,F,at_,λv F1 H1 x1 r1=>⟨i,r1.int_inv,k F1 H1 x1⟩⟩
  ·cases ho
theorem ZvD{ga:HM.BF}{lo hi:Option Expr}{fl fh:Option HM.EF}{p2:Pos}(ha:XB X a ga)(hl:XO X lo fl)(hh:XO X hi fh):XF X (.Subscript a (.Slice lo hi none p2) pos) (HM.ZtF ga fl fh):=by
 intro r d h;unfold HM.ZtF at h;split at h
 ·rename_i x hx
  split at h
  ·rename_i xs hxs
   split at h
   ·rename_i l hl'
    split at h
    ·rename_i u hu'
     cases h;refine PE.imp (Zof ZuE (ha r _ hx) (hl r _ hl') (hh r _ hu')) λσ H Q ⟨F0,H0,F,at_,k⟩=>?_;refine⟨F0,H0,F,at_,λv F1 H1 x1 ⟨fp,r1⟩=>⟨F0,H0,F1,at_.grow x1,λF2 H2 x2=>⟨F0,H0,F2,(at_.grow x1).grow x2,λF3 H3 x3=>?_⟩⟩⟩;have x23:=x2.trans x3;obtain⟨l',vs,e1,hq,rs⟩:=Zgl x3.sub (r1.mono x23.ff λ_ _ _ z=>x23.hh _ _ z) hxs;refine⟨l',vs,e1,hq,λl2 hl2=>ZdE (P:=λv _ H'=>Q v H') (x1.trans x23) ?_ hl2 k⟩;unfold HM.cutD Zhl;rw[<-rs.1];exact(rs.drop _).take _
    ·cases h
   ·cases h
  ·cases h
 ·cases h
theorem Zbr.val{K:ZyK}{F0 H0 F H:Hp}{r:HM.Env}{σ:L2.St}{fp:Nat->List Addr}{i:Nat}{ds:List PyData}(e:Zbr K F0 H0 F H r σ fp)(h:r[i]?=some (some (.ol ds))) :
  ∃l vs,σ[i]?=some (some (.ref l))/\H l=some (.lst vs)/\Zs K F ds vs/\fp i=[l]:=by
 obtain⟨v,h1,h2⟩:=e.at_ i _ h;generalize hf:fp i=q at h2;cases h2 with
 | ol k1 k2=>exact⟨_,_,h1,k1,k2,rfl⟩
theorem At.chgList{K:ZyK}{F0 H0 F H:Hp}{r:HM.Env}{σ:L2.St}{i:Nat}{ds es:List PyData}(e:At K F0 H0 F H r σ)(h:r[i]?=some (some (.ol ds))) :
  ∃l vs,σ[i]?=some (some (.ref l))/\H l=some (.lst vs)/\Zs K F ds vs/\∀us,Zs K F es us->At K F0 H0 F (upd H l (.lst us)) (r.set i (some (.ol es))) σ:=by
 obtain⟨fp,e⟩:=e;obtain⟨l,vs,h1,h2,h3,h4⟩:=e.val h;refine⟨l,vs,h1,h2,h3,λus q=>e.change (fp':=[l]) h1 (.ol ZH q) (by simp) (λa ha=>.inl (by rw[h4]; exact ha)) λa o z hn=>?_⟩;rw[ZE (λz=>hn (by rw[h4,z]; simp))];exact z
theorem Zdr(i:Nat){x:Str}{p1 p2 p3:Pos}(ha:XE X a fa)(hN:X.N[i]?=some x:=by rfl)(hv:Vis X.env.scope x:=by first | exact ZzO rfl | exact Zzi (ZzO rfl) | exact Zzi (Zzi rfl))(hd:(x==("__debug__":Str))=false:=by decide)(hcd:(x==("__classdict__":Str))=false:=by decide)
  (hbase:ZBp (.Name x p1) "append" X.env (eval (.Name x p1) X.env)=eval (.Name x p1) X.env:=by rfl)
  (hfew:((backTo p3 (Zy0 [a] X.env)).all (λx=>!x.1)&&(backToKw p3 (ZCB [] X.env)).all (λx=>x.1.isSome)&&decide (([a]:List Expr).length+([]:List Keyword).length+(if([]:List Keyword).isEmpty then 0 else 1)<30))=true:=by rfl)
  (hline:(p2.endLine==p3.line)=true:=by rfl) (hs:Zy0 [a] X.env=[(false,eval a X.env)]:=by rfl):XS X (.Expr (.Call (.Attribute (.Name x p1) "append" p2) [a] [] p3) pos) (HM.ZdP i fa):=by
 intro r o h;unfold HM.ZdP at h;split at h
 ·rename_i ds hds
  split at h
  ·rename_i d hd'
   split at h
   ·rename_i hz
    cases h;refine PS.imp (ZjE (Zrv ZBm ZC7 ZC8 Zi8 (ZcQ hN hv hd hcd) (ZaI (ha r d hd') Zcg hs) hbase hfew hline hs rfl)) λE σ H ⟨F0,H0,F,at_,k⟩=>?_;obtain⟨l,vs,e1,e2,e3,_⟩:=at_.chgList (es:=ds) hds;refine⟨.ref l,e1,.inl ⟨rfl,_,SqL.of e2⟩,F0,H0,F,at_,λv F1 H1 x1 r1=>?_⟩;have at1:=at_.grow x1;obtain⟨l',vs',f1,f2,f3,f4⟩:=at1.chgList (es:=ds++[d]) hds;rw[e1]at f1;cases f1;refine⟨_,vs',v,rfl,rfl,f2,?_,k _ F1 _ (f4 _ (f3.append (.one r1)))⟩;have e4:=f3.1;have e5:(1000000:Nat)<=sizeLine:=by decide
    unfold HM.big at hz;omega
   ·cases h
  ·cases h
 ·cases h
theorem Zuw(i:Nat){x:Str}{p1 p2:Pos}(hk:XE X b fb)(ha:XE X a fa)(hN:X.N[i]?=some x:=by rfl)(hv:Vis X.env.scope x:=by first | exact ZzO rfl | exact Zzi (ZzO rfl) | exact Zzi (Zzi rfl))(hd:(x==("__debug__":Str))=false:=by decide)(hcd:(x==("__classdict__":Str))=false:=by decide)
  (hsub:∀v,assign (.Subscript (.Name x p1) b p2) X.env v=(do
   let ov <-holding [v] (eval (.Name x p1) X.env)
   let iv <-holding [v,ov] (eval b X.env)
   standAt p2
   holding [v,ov,iv] (setItem ov iv v)
   release [v,ov,iv] []):=by intro _; rfl)
  (hs:swapsWithSole [.Subscript (.Name x p1) b p2] a pos.line X.env=pure false:=by rfl) (hw:swappedStores [.Subscript (.Name x p1) b p2] a X.env=pure none:=by rfl)
  (h1:(assignEach [.Subscript (.Name x p1) b p2] X.env).map (·.2)=[assign (.Subscript (.Name x p1) b p2) X.env]:=by rfl):XS X (.Assign [.Subscript (.Name x p1) b p2] a pos) (HM.Zq3 i fb fa):=by
 intro r o h;unfold HM.Zq3 at h;split at h
 ·rename_i d hd'
  split at h
  ·rename_i ds hds
   split at h
   ·rename_i n hn
    split at h
    ·rename_i j hj
     cases h;refine PS.imp (ZvP (ha r d hd') (Zwc (ZcQ hN hv hd hcd) (hk r _ hn) set_list hsub) hs hw h1) λE σ H ⟨F0,H0,F,at_,k⟩=>?_;refine⟨F0,H0,F,at_,λv F1 H1 x1 r1=>?_⟩;have at1:=at_.grow x1;obtain⟨l,vs,e1,e2,e3,_⟩:=at1.chgList (es:=ds) hds;refine⟨.ref l,e1,F0,H0,F1,at1,λw F2 H2 x2 r2=>?_⟩;obtain⟨l',vs',f1,f2,f3,f4⟩:=(at1.grow x2).chgList (es:=ds.set j d) hds;rw[e1]at f1;cases f1;refine⟨_,vs',n,j,rfl,r2.int_inv,f2,?_,k _ F2 _ (f4 _ (f3.set (r1.mono x2.ff) j))⟩;rw[<-f3.1];exact hj
    ·cases h
   ·cases h
  ·cases h
 ·cases h
end
end HP
namespace HP
open PySem PySem.Spec PyProof.Rows L2
variable[FX]
section
variable{K:ZyK}{F:Hp}{κ:Type}[DecidableEq κ]
def Za1(K:ZyK)(F:Hp)(kvs:List (κ × PyData))(vvs:List (κ × V)):Prop:=kvs.map (·.1)=vvs.map (·.1)/\Zs K F (kvs.map (·.2)) (vvs.map (·.2))
theorem Za1.nil:Za1 K F ([]:List (κ × PyData)) []:=⟨rfl,.nil⟩
theorem Za1.cons{k:κ}{d:PyData}{v:V}{kvs:List (κ × PyData)}{vvs:List (κ × V)}(r:Rep K F d v)(q:Za1 K F kvs vvs):Za1 K F ((k,d)::kvs) ((k,v)::vvs) :=
 ⟨by rw[ZyS,ZyS,q.1],by rw[ZyS,ZyS]; exact .cons r q.2⟩
theorem Za1.inv{kvs:List (κ × PyData)}{vvs:List (κ × V)}(q:Za1 K F kvs vvs):(kvs=[]/\vvs=[])\/∃k d v kvs' vvs',kvs=(k,d)::kvs'/\vvs=(k,v)::vvs'/\Rep K F d v/\Za1 K F kvs' vvs':=by
 cases kvs with
 | nil =>
  cases vvs with
  | nil=>exact .inl ⟨rfl,rfl⟩
  | cons p r=>exact absurd q.1 (by simp)
 | cons p kvs' =>
  cases vvs with
  | nil=>exact absurd q.1 (by simp)
  | cons p' vvs' =>
   obtain⟨k,d⟩:=p;obtain⟨k',v⟩:=p';obtain⟨q1,q2⟩:=q;rw[ZyS,ZyS]at q1 q2;injection q1 with e1 e2
   have e1:k=k':=e1;subst e1;obtain⟨v',us,e3,r1,r2⟩:=q2.cons_inv;injection e3 with e3 e4
   refine .inr ⟨k,d,v,kvs',vvs',rfl,rfl,?_,e2,?_⟩
   ·rw[show v=v' from e3]; exact r1
   ·rw[e4]; exact r2
theorem Za1.len{kvs:List (κ × PyData)}{vvs:List (κ × V)}(q:Za1 K F kvs vvs):kvs.length=vvs.length:=by
 have:=congrArg Zzw q.1
 rwa [ZyJ,ZyJ]at this
theorem Za1.any{kvs:List (κ × PyData)}{vvs:List (κ × V)}(k:κ)(q:Za1 K F kvs vvs):(kvs.any λp=>decide (p.1=k))=vvs.any λp=>decide (p.1=k):=by
 have e:∀{β:Type} (l:List (κ × β)),(l.any λp=>decide (p.1=k))=(l.map (·.1)).any λx=>decide (x=k):=λl=>by rw[List.any_map]; rfl
 rw[e,e,q.1]
theorem Za1.repl{d:PyData}{v:V}(k:κ)(r:Rep K F d v):∀{kvs:List (κ × PyData)} {vvs:List (κ × V)},Za1 K F kvs vvs->Za1 K F (kvs.map λp=>if p.1=k then(p.1,d)else p) (vvs.map λp=>if p.1=k then(p.1,v)else p)
 | [],vvs,q=>by
  rcases q.inv with⟨_,e⟩ | ⟨_,_,_,_,_,e,_⟩
  ·subst e; exact .nil
  ·cases e
 | p::kvs,vvs,q=>by
  rcases q.inv with⟨e,_⟩ | ⟨k',d',v',kvs',vvs',e1,e2,r1,r2⟩
  ·cases e
  ·cases e1
   subst e2;have ih:=Za1.repl k r r2;rw[ZyS,ZyS]
   by_cases h:k'=k
   ·rw[if_pos h,if_pos h]; exact .cons r ih
   ·rw[if_neg h,if_neg h]; exact .cons r1 ih
theorem Za1.snoc{kvs:List (κ × PyData)}{vvs:List (κ × V)}{k:κ}{d:PyData}{v:V}(q:Za1 K F kvs vvs)(r:Rep K F d v):Za1 K F (kvs++[(k,d)]) (vvs++[(k,v)]) :=
 ⟨by rw[Zzq,Zzq,q.1]; rfl,by rw[Zzq,Zzq]; exact q.2.append (.one r)⟩
theorem Za1.put{kvs:List (κ × PyData)}{vvs:List (κ × V)}{d:PyData}{v:V}(q:Za1 K F kvs vvs)(k:κ)(r:Rep K F d v):Za1 K F (HM.putD kvs k d) (putK vvs k v):=by
 unfold HM.putD putK;rw[q.any k]
 by_cases h:(vvs.any λp=>decide (p.1=k))=true
 ·rw[if_pos h,if_pos h]; exact q.repl k r
 ·rw[if_neg h,if_neg h]; exact q.snoc r
theorem Za1.look{k:κ}:∀{kvs:List (κ × PyData)} {vvs:List (κ × V)},Za1 K F kvs vvs->(∀d,HM.Zm kvs k=some d->∃v,ZaR vvs k=some v/\Rep K F d v)/\(HM.Zm kvs k=none->ZaR vvs k=none)
 | [],vvs,q=>by
  rcases q.inv with⟨_,e⟩ | ⟨_,_,_,_,_,e,_⟩
  ·subst e; exact⟨λd h=>(by cases h),λ_=>rfl⟩
  ·cases e
 | p::kvs,vvs,q=>by
  rcases q.inv with⟨e,_⟩ | ⟨k',d',v',kvs',vvs',e1,e2,r1,r2⟩
  ·cases e
  ·cases e1
   subst e2;obtain⟨i1,i2⟩:=Za1.look (k:=k) r2
   by_cases h:k'=k
   ·have e3:HM.Zm ((k',d')::kvs) k=some d':=by simp[HM.Zm,ZzG,h]
    rw[e3,Zeh (p:=(k',v')) h];exact⟨λd hd=>(by cases hd; exact⟨v',rfl,r1⟩),λhd=>by cases hd⟩
   ·have e3:HM.Zm ((k',d')::kvs) k=HM.Zm kvs k:=by simp[HM.Zm,ZzG,h]
    rw[e3,Zee (p:=(k',v')) h];exact⟨i1,i2⟩
theorem Za1.some_iff{k:κ}{kvs:List (κ × PyData)}{vvs:List (κ × V)}(q:Za1 K F kvs vvs):(ZaR vvs k).isSome=(HM.Zm kvs k).isSome:=by
 obtain⟨i1,i2⟩:=q.look (k:=k);cases h:HM.Zm kvs k with
 | none=>rw[i2 h]; rfl
 | some d=>obtain⟨v,h1,_⟩:=i1 d h; rw[h1]; rfl
end
section
variable{K:ZyK}{F:Hp}
theorem Zic{d:PyData}{k:Key}{v:V}(h:HM.Zjg d=some k)(r:Rep K F d v):v=kV k:=by cases r<;>first | (cases h; rfl) | cases h
theorem Zmg:∀{ds:List PyData} {ks:List Key} {vs:List V},HM.ZgQ ds=some ks->Zs K F ds vs->vs=ks.map kV
 | [],ks,vs,h,r=>by cases h; exact r.nil_inv
 | d::ds,ks,vs,h,r=>by
  obtain⟨v,us,rfl,r1,r2⟩:=r.cons_inv;unfold HM.ZgQ at h;split at h
  ·rename_i k hk
   obtain⟨ks',h1,h2⟩:=ZyL.mp h;subst h2;rw[Zic hk r1,Zmg h1 r2];rfl
  ·cases h
theorem Zqy:∀{ds:List PyData} {ks:List Key},HM.ZlU ds=some ks->HM.ZgQ ds=some ks
 | [],ks,h=>h
 | d::ds,ks,h=>by
  unfold HM.ZlU at h;split at h
  ·cases ‹_=[]›
  ·rename_i i r e
   injection e with e1 e2
   subst e1 e2;obtain⟨ks',h1,h2⟩:=ZyL.mp h;subst h2;show(match HM.Zjg (.int i)with | some k=>(HM.ZgQ ds).map (k::·) | none=>none)=_;rw[Zqy h1];rfl
  ·cases h
theorem Zdz{d:PyData}{ks:List Key}{v:V}(h:HM.Zbe d=some ks)(r:Rep K F d v):∃b,v=.ref b/\F b=some (.tup (ks.map kV)):=by
 cases r with
 | tup h1 h2 h3=>refine⟨_,rfl,?_⟩;rw[<-Zmg (Zqy h) ⟨h2,h3⟩];exact h1
 | tupk _=>cases h
 | lst _ _ _=>cases h
 | dct _ _ _ _=>cases h
 | fn _=>cases h
 | non=>cases h
 | bl _=>cases h
 | int _=>cases h
 | str _=>cases h
end
section
variable{X:Cx}{a b c e:Expr}{fa fb fc:HM.EF}{pos p:Pos}{f:HM.BF}
theorem fresh_one{K:ZyK}{F H F1 H1:Hp}{o:HO}{q:HM.B}{l:Addr}{P:V->Hp->Hp->Prop}(x1:Ext F H F1 H1)(hl:H1 l=none)(hq:Zan K F1 (upd H1 l o) q (.ref l) [l])
  (k:∀v F' H',Ext F H F' H'->(∃fp,Zan K F' H' q v fp/\fp.Nodup/\∀a∈fp,F' a=none/\H a=none)->P v F' H'):P (.ref l) F1 (upd H1 l o):=by
 refine k _ F1 _ (x1.lay' hl) ⟨[l],hq,by simp,λa ha=>?_⟩;obtain rfl:a=l:=by simpa using ha
 exact⟨x1.sub.free hl,x1.hh.free hl⟩
theorem Zw7:XF X (.Dict [] [] pos) HM.fDk:=by intro r d h;cases h;exact PE.imp Ztz λσ H Q ⟨F0,H0,F,at_,k⟩ l hl=>fresh_one (P:=λv _ H'=>Q v H') at_.refl hl (.ok ZH rfl .nil) k
theorem Zm9:XF X (.Dict [] [] pos) HM.fDt:=by intro r d h;cases h;exact PE.imp Zo4 λσ H Q ⟨F0,H0,F,at_,k⟩ l hl=>fresh_one (P:=λv _ H'=>Q v H') at_.refl hl (.ot ZH rfl .nil) k
theorem ZvE:XF X (.Dict [] [] pos) HM.Zwy:=by intro r d h;cases h;exact PE.imp Zo4 λσ H Q ⟨F0,H0,F,at_,k⟩ l hl=>fresh_one (P:=λv _ H'=>Q v H') at_.refl hl (.otl ZH rfl rfl λi ds l' h=>by simp at h) k
theorem Zta(ha:XE X a fa)(hb:XE X b fb):XF X (.Dict [some a] [b] pos) (HM.Zol fa fb):=by
 intro r d h;unfold HM.Zol at h;split at h
 ·rename_i x hx
  split at h
  ·rename_i y hy
   split at h
   ·rename_i k hk
    cases h;refine PE.imp (Zu8 (Zub (ha r x hx) (hb r y hy) Zve) rfl rfl (by simp) (by simp)) λσ H Q ⟨F0,H0,F,at_,kk⟩ l hl=>?_;have hFl:F l=none:=at_.sub.free hl;have x0:Ext F H F (upd H l (.dK [])):=at_.refl.lay' hl;refine⟨F0,H0,F,at_.grow x0,λv F1 H1 x1 r1=>⟨F0,H0,F1,(at_.grow x0).grow x1,λw F2 H2 x2 r2=>?_⟩⟩;have x12:=x1.trans x2;have hl2:H2 l=some (.dK []):=x12.hh l _ ZH;have hF2:F2 l=none:=by
     cases q:F2 l with
     | none=>rfl
     | some o =>
      rcases x12.new l o q with z | z
      ·rw[hFl]at z; cases z
      ·exact(z.no ZH λ_ q=>by cases q).elim
    refine⟨hl2,[(k,w)],?_,by simp,?_⟩
    ·rw[Zic hk r1]
     rfl
    have xe:Ext F H F2 (upd H2 l (.dK (Zhu [] [(k,w)]))):=by
     refine⟨x12.ff,λc o z=>?_,λc o z=>?_,λc o z=>?_,λt=>(x12.tab (t.same (Zkq hl))).keep λa u z hu=>?_,x12.nts⟩
     ·have hc:c≠l:=Zay z hl
      exact(x12.hh c o (by rw[ZE hc]; exact z)).cong (ZE hc)
     ·rw[ZE (λe=>by rw[e,hF2]at z; cases z)]
      exact x12.sub c o z
     ·rcases x12.new c o z with q | q
      ·exact .inl q
      ·exact .inr (q.back (.of (Zr.upd' hl)))
     ·rw[ZE (λe=>by subst e; rw[hl2]at z; cases z; cases hu)]; exact z
    refine kk _ F2 _ xe ⟨[l],.ok ZH rfl (.one r2),by simp,λc hc=>?_⟩;obtain rfl:c=l:=by simpa using hc
    exact⟨hF2,hl⟩
   ·cases h
  ·cases h
 ·cases h
end
end HP
namespace HP
open PySem PySem.Spec PyProof.Rows L2
variable[FX]
theorem At.chgOne{K:ZyK}{F0 H0 F H:Hp}{r:HM.Env}{σ:L2.St}{i:Nat}{q:HM.B}{l:Addr}(e:At K F0 H0 F H r σ)(h:r[i]?=some (some q))(hv:σ[i]?=some (some (.ref l)))(hone:∀v fp,Zan K F H q v fp->∃a,v=.ref a/\fp=[a]) :
  ∀o q',Zan K F (upd H l o) q' (.ref l) [l]->At K F0 H0 F (upd H l o) (r.set i (some q')) σ:=by
 intro o q' hq;obtain⟨fp,e⟩:=e;obtain⟨v,h1,h2⟩:=e.at_ i _ h;obtain⟨a,e1,e2⟩:=hone v _ h2;subst e1;rw[hv]at h1;cases h1;refine e.change (fp':=[l]) hv hq (by simp) (λc hc=>.inl (by rw[e2]; exact hc)) λc o' z hn=>?_;rw[ZE (λz=>hn (by rw[e2,z]; simp))];exact z
section
variable{X:Cx}{a b c e:Expr}{fa fb fc:HM.EF}{pos p:Pos}{f:HM.BF}
theorem Zhv{n:Nat}(h:n<HM.big):n<sizeLine:=by
 have e5:(1000000:Nat)<=sizeLine:=by decide
 unfold HM.big at h;omega
theorem Zhm(hu:X.A.units+1<cLine)(i:Nat){x:Str}{p1 p2:Pos}(hk:XE X b fb)(ha:XE X a fa)(hN:X.N[i]?=some x:=by rfl)(hv:Vis X.env.scope x:=by first | exact ZzO rfl | exact Zzi (ZzO rfl) | exact Zzi (Zzi rfl))(hd:(x==("__debug__":Str))=false:=by decide)(hcd:(x==("__classdict__":Str))=false:=by decide)
  (hs:ZBq a (some (.Subscript (.Name x p1) b p2)) pos.line X.env=pure false:=by rfl):XS X (.Assign [.Subscript (.Name x p1) b p2] a pos) (HM.ZhV i fb fa):=by
 intro r o h;unfold HM.ZhV at h;split at h
 ·rename_i d hd'
  split at h
  ·rename_i y hy
   split at h
   ·rename_i kvs hb
    split at h
    ·rename_i k hk'
     split at h
     ·rename_i hz
      cases h;refine PS.imp (Zqi hu (ZcQ hN hv hd hcd) (hk r y hy) (ha r d hd') hs) λE σ H ⟨F0,H0,F,at_,kk⟩=>?_;refine⟨F0,H0,F,at_,λv F1 H1 x1 r1=>?_⟩;have at1:=at_.grow x1;obtain⟨u,fp,e1,e2⟩:=at1.any hb;refine⟨u,e1,F0,H0,F1,at1,λw F2 H2 x2 r2=>?_⟩;have at2:=at1.grow x2;cases e2 with
      | @ok l _ vvs e2 e3 e4=>have T:Za1 X.K F2 kvs vvs:=⟨e3,e4.mono x2.ff⟩;have T':=T.put k (r1.mono x2.ff);rw[Zic hk' r2];have hH:H2 l=some (.dK vvs):=x2.hh _ _ e2;refine⟨l,_,rfl,Zje.k hH (by rw[<-T.len]; exact Zhv hz),kk _ F2 _ (at2.chgOne hb e1 (λv fp q=>by cases q; exact⟨_,rfl,rfl⟩) _ _ (.ok ZH T'.1 T'.2))⟩
     ·cases h
    ·cases h
   ·rename_i kvs hb
    split at h
    ·rename_i k hk'
     split at h
     ·rename_i hz
      cases h;refine PS.imp (Zqi hu (ZcQ hN hv hd hcd) (hk r y hy) (ha r d hd') hs) λE σ H ⟨F0,H0,F,at_,kk⟩=>?_;refine⟨F0,H0,F,at_,λv F1 H1 x1 r1=>?_⟩;have at1:=at_.grow x1;obtain⟨u,fp,e1,e2⟩:=at1.any hb;refine⟨u,e1,F0,H0,F1,at1,λw F2 H2 x2 r2=>?_⟩;have at2:=at1.grow x2;cases e2 with
      | @ot l _ vvs e2 e3 e4=>have T:Za1 X.K F2 kvs vvs:=⟨e3,e4.mono x2.ff⟩;have T':=T.put k (r1.mono x2.ff);obtain⟨bb,rfl,hbb⟩:=Zdz hk' r2;have hH:H2 l=some (.dT vvs):=x2.hh _ _ e2;refine⟨l,_,rfl,Zje.t hH (x2.sub _ _ hbb) (by rw[<-T.len]; exact Zhv hz),kk _ F2 _ (at2.chgOne hb e1 (λv fp q=>by cases q; exact⟨_,rfl,rfl⟩) _ _ (.ot ZH T'.1 T'.2))⟩
     ·cases h
    ·cases h
   ·cases h
  ·cases h
 ·cases h
theorem Zkm{K:ZyK}{F H:Hp}(k:List Key):∀(kvs:List (List Key × List PyData)) (vvs:List (List Key × V)) (ls:List Addr),kvs.map (·.1)=vvs.map (·.1)->vvs.map (·.2)=ls.map V.ref ->
  (∀(i:Nat) (ds:List PyData) (l:Addr),(kvs.map (·.2))[i]?=some ds->ls[i]?=some l->∃vs,H l=some (.lst vs)/\Zs K F ds vs) ->
  (∀ds,HM.Zm kvs k=some ds->∃l' vs,ZaR vvs k=some (.ref l')/\l'∈ls/\H l'=some (.lst vs)/\Zs K F ds vs)/\(HM.Zm kvs k=none->ZaR vvs k=none)
 | [],[],_,_,_,_=>⟨(λds h=>by cases h),λ_=>rfl⟩
 | [],_::_,_,hk,_,_=>by simp at hk
 | _::_,[],_,hk,_,_=>by simp at hk
 | _::_,_::_,[],_,hv,_=>by simp at hv
 | (k1,ds1)::kvs,(k2,v2)::vvs,l1::ls,hk,hv,r=>by
  rw[ZyS,ZyS]at hk hv;injection hk with e1 e2
  injection hv with e3 e4
  have e1:k1=k2:=e1;have e3:v2=.ref l1:=e3;subst e1 e3;obtain⟨i1,i2⟩:=Zkm k kvs vvs ls e2 e4 λi ds l h1 h2=>r (i+1) ds l (by simpa using h1) (by simpa using h2)
  by_cases hkk:k1=k
  ·have e5:HM.Zm ((k1,ds1)::kvs) k=some ds1:=by simp[HM.Zm,ZzG,hkk]
   rw[e5,Zeh (p:=(k1,V.ref l1)) hkk];obtain⟨vs,q1,q2⟩:=r 0 ds1 l1 rfl rfl;exact⟨(λds h=>by cases h; exact⟨l1,vs,rfl,by simp,q1,q2⟩),(λh=>by cases h)⟩
  ·have e5:HM.Zm ((k1,ds1)::kvs) k=HM.Zm kvs k:=by simp[HM.Zm,ZzG,hkk]
   rw[e5,Zee (p:=(k1,V.ref l1)) hkk];exact⟨λds h=>let ⟨l',vs,a1,a2,a3⟩:=i1 ds h; ⟨l',vs,a1,ZyQ _ a2,a3⟩,i2⟩
theorem Ztv{K:ZyK}{F H:Hp}{kvs:List (List Key × List PyData)}{v:V}{fp:List Addr}(q:Zan K F H (.otl kvs) v fp) :
  ∃l vvs ls,v=.ref l/\fp=l::ls/\H l=some (.dT vvs)/\kvs.map (·.1)=vvs.map (·.1)/\vvs.map (·.2)=ls.map V.ref /\
   ∀k,(∀ds,HM.Zm kvs k=some ds->∃l' vs,ZaR vvs k=some (.ref l')/\l'∈ls/\H l'=some (.lst vs)/\Zs K F ds vs)/\(HM.Zm kvs k=none->ZaR vvs k=none):=by
 cases q with
 | @otl l _ vvs ls h hk hv r=>exact⟨l,vvs,ls,rfl,rfl,h,hk,hv,λk=>Zkm k kvs vvs ls hk hv r⟩
theorem Zt4{i:Nat}{r:HM.Env}{q:HM.B}(h:HM.Zrq i fa r=some q):∃x bb,fa r=some x/\r[i]?=some (some bb) /\
  ((∃kvs k d,bb=.ok kvs/\HM.Zjg x=some k/\HM.Zm kvs k=some d/\q=.pl d)\/(∃kvs k d,bb=.ot kvs/\HM.Zbe x=some k/\HM.Zm kvs k=some d/\q=.pl d)\/∃kvs k ds,bb=.otl kvs/\HM.Zbe x=some k/\HM.Zm kvs k=some ds/\q=.ol ds):=by
 unfold HM.Zrq at h;split at h
 ·rename_i x hx
  split at h
  ·rename_i kvs hb
   split at h
   ·rename_i k hk
    obtain⟨d,h1,h2⟩:=ZyL.mp h;exact⟨x,_,hx,hb,.inl ⟨kvs,k,d,rfl,hk,h1,h2.symm⟩⟩
   ·cases h
  ·rename_i kvs hb
   split at h
   ·rename_i k hk
    obtain⟨d,h1,h2⟩:=ZyL.mp h;exact⟨x,_,hx,hb,.inr (.inl ⟨kvs,k,d,rfl,hk,h1,h2.symm⟩)⟩
   ·cases h
  ·rename_i kvs hb
   split at h
   ·rename_i k hk
    obtain⟨d,h1,h2⟩:=ZyL.mp h;exact⟨x,_,hx,hb,.inr (.inr ⟨kvs,k,d,rfl,hk,h1,h2.symm⟩)⟩
   ·cases h
  ·cases h
 ·cases h
theorem ZvF(hu:X.A.units+1<cLine)(i:Nat){x:Str}{p1:Pos}(hk:XE X b fb)(hN:X.N[i]?=some x:=by rfl)(hv:Vis X.env.scope x:=by first | exact ZzO rfl | exact Zzi (ZzO rfl) | exact Zzi (Zzi rfl))(hd:(x==("__debug__":Str))=false:=by decide)(hcd:(x==("__classdict__":Str))=false:=by decide)
  (hs:Zrf b:=by intro _ _; rfl):XB X (.Subscript (.Name x p1) b pos) (HM.Zrq i fb):=by
 intro r q h;obtain⟨y,bb,h1,h2,h3⟩:=Zt4 h;refine PE.imp (Zp6 hu (ZcQ hN hv hd hcd) (hk r y h1) hs) λσ H Q ⟨F0,H0,F,at_,kk⟩=>?_;obtain⟨u,fp,e1,e2⟩:=at_.any h2;refine⟨u,e1,F0,H0,F,at_,λw F2 H2 x2 r2=>?_⟩;have e2':=e2.mono x2.ff λ_ _ _ z=>x2.hh _ _ z;rcases h3 with⟨kvs,k,d,rfl,hk',hl,rfl⟩ | ⟨kvs,k,d,rfl,hk',hl,rfl⟩ | ⟨kvs,k,ds,rfl,hk',hl,rfl⟩
 ·cases e2' with
  | @ok l _ vvs g1 g2 g3=>obtain⟨v,q1,q2⟩:=(Za1.look (k:=k) (K:=X.K) (F:=F2) ⟨g2,g3⟩).1 d hl;rw[Zic hk' r2];exact⟨l,v,rfl,by rw[<-q1]; exact Zei.k g1,kk v F2 H2 x2 ⟨[],.pl q2⟩⟩
 ·cases e2' with
  | @ot l _ vvs g1 g2 g3=>obtain⟨v,q1,q2⟩:=(Za1.look (k:=k) (K:=X.K) (F:=F2) ⟨g2,g3⟩).1 d hl;obtain⟨bb',rfl,hbb⟩:=Zdz hk' r2;exact⟨l,v,rfl,by rw[<-q1]; exact Zei.t g1 (x2.sub _ _ hbb),kk v F2 H2 x2 ⟨[],.pl q2⟩⟩
 ·obtain⟨l,vvs,ls,rfl,_,g1,_,_,hlk⟩:=Ztv e2'
  obtain⟨l',vs,q1,_,q2,q3⟩:=(hlk k).1 ds hl;obtain⟨bb',rfl,hbb⟩:=Zdz hk' r2;exact⟨l,_,rfl,by rw[<-q1]; exact Zei.t g1 (x2.sub _ _ hbb),kk _ F2 H2 x2 ⟨[l'],.ol q2 q3⟩⟩
end
end HP
namespace HP
open PySem PySem.Spec PyProof.Rows L2
variable[FX]
abbrev No:Value->Shared->Prop:=λ_ _=>False
abbrev Zqv(ifs:List Expr)(env:Env):Sem Bool :=
 forIn ifs true λc r=>if r=true then do let ok <-isTrue c env (eval c env); pure (ZCk ok)else pure (ZCk r)
theorem ZsV{prog:Program}{w:World}{A:Around}{R:Result->Shared->Prop}{s:Shared}{elt target iter:Expr}{ifs:List Expr}{scope:Scope}{pos:Pos}{it acc:Value}{env:Env}(J:Nat->Shared->Prop)
  (turn:∀n s,J n s->wpAny (model prog w) A (pyNext it) (λr s1=>match r with
   | none=>R (.ok .next) s1
   | some v=>wpAny (model prog w) A (ZCh target it v) (λ_ s2=>wpAny (model prog w) A (assign target env v) (λ_ s3=>wpAny (model prog w) A (Zqv ifs env) (λok s4=>if ok=true then wpAny (model prog w) A (eval elt env) (λx s5=>wpAny (model prog w) A (call (.builtin "list.append") [acc,x]) (λ_ s6=>∃m,m<n/\J m s6) No s5) No s4 else ∃m,m<n/\J m s4) No s3) No s2) No s1) No s)
  (n:Nat) (h:J n s):codeAny (model prog w) A (.compLoop (.ListComp elt [⟨target,iter,ifs,0⟩] scope pos) 0 it acc env) R s:=by
 refine codeAny_loop rfl J (λn s hI=>?_) n h;show wpAny _ A ((compTurn (.ListComp elt [⟨target,iter,ifs,0⟩] scope pos) 0 it acc env).onRaise (λx=>do noteFrame x env; theTreesLotGoes x)) _ _ s;refine wpAny_noted ?_;rw[compTurn_list];refine ZyI (wpAny_standAt (ZyI (Zz4 (turn n s hI) (λr s1 h1=>?_) λ_ _ z=>z.elim)));cases r with
 | none=>exact ZyM h1
 | some v =>
  refine ZyI (Zz4 h1 (λ_ s2 h2=>ZyI (Zz4 h2 (λ_ s3 h3=>ZyI (Zz4 h3 (λok s4 h4=>?_) λ_ _ z=>z.elim)) λ_ _ z=>z.elim)) λ_ _ z=>z.elim);cases ok with
  | false=>exact ZyM ⟨rfl,h4⟩
  | true=>refine ZyI (ZyI (Zz4 h4 (λx s5 h5=>?_) λ_ _ z=>z.elim));exact ZyI (Zz4 h5 (λ_ s6 h6=>ZyM (ZyM ⟨rfl,h6⟩)) λ_ _ z=>z.elim)
def Zai(X:Cx)(N:List Str)(scope:Scope)(cl:List (Str × Addr))(C:Addr)(s₀:Shared)(H₀:Hp)(ex:List Addr):Cx where
 prog:=X.prog
 w:=X.w
 K:=X.K
 mg:=X.mg
 base:=X.base
 A:=X.A
 N:=N
 s₀:=s₀
 H₀:=H₀
 env:=compEnvC scope cl C X.env
 outer:=X.stack
 stack:=X.stack
 ex:=ex
 fn:=λ_=>false
 calm:=true
 pn:=[]
 xe:=λ_ _=>False
theorem Zih{env:Env}:∀(names:List (Str × NameKind)) (cs:List (Str × Addr)),(∀y∈names,y.2=.free->∃c,env.cells.lookup y.1=some c)->(∀x c,cs.lookup x=some c->env.cells.lookup x=some c) ->
  ∃cl,(forIn names cs λ(x:Str × NameKind) r=>(match x with | (name,kind)=>if kind==.free then do let c <-cellOf env name; pure (ZCk ((name,c)::r))else pure (ZCk r):Sem (ForInStep (List (Str × Addr)))))=pure cl /\
   (∀x c,cl.lookup x=some c->env.cells.lookup x=some c)/\(∀x,(cs.lookup x).isSome=true->(cl.lookup x).isSome=true)/\∀y∈names,y.2=.free->(cl.lookup y.1).isSome=true
 | [],cs,_,h2=>⟨cs,rfl,h2,λ_ h=>h,λy hy=>by simp at hy⟩
 | (n,k)::r,cs,h1,h2=>by
  rw[List.forIn_cons]
  by_cases hk:(k==ZA4)=true
  ·obtain⟨c,hc⟩:=h1 (n,k) (ZyO ..) (by simpa using hk)
   have ec:cellOf env n=pure c:=by unfold cellOf; rw[hc]
   obtain⟨cl,e1,e2,e3,e4⟩:=Zih r ((n,c)::cs) (λy hy=>h1 y (ZyQ _ hy)) (λx d hx=>by
    rw[ZAF]at hx;split at hx
    ·rename_i hb
     have:x=n:=by simpa using hb
     cases hx; rw[this]; exact hc
    ·exact h2 x d hx)
   refine⟨cl,?_,e2,λx hx=>e3 x ?_,λy hy hf=>?_⟩
   ·simp only[hk,if_true,ec,pure_bind]
    exact e1
   ·rw[ZAF]
    split
    ·rfl
    ·exact hx
   ·rcases Zzb.mp hy with e | hy
    ·subst e
     exact e3 n (by rw[ZAF]; simp)
    ·exact e4 y hy hf
  ·obtain⟨cl,e1,e2,e3,e4⟩:=Zih r cs (λy hy=>h1 y (ZyQ _ hy)) h2
   refine⟨cl,?_,e2,e3,λy hy hf=>?_⟩
   ·simp only[hk,if_false,pure_bind,ZAs]
    exact e1
   ·rcases Zzb.mp hy with e | hy
    ·subst e
     exact absurd (by simpa using hf) hk
    ·exact e4 y hy hf
theorem ZfB{scope:Scope}{env:Env}(h:∀y∈scope.names,y.2=.free->∃c,env.cells.lookup y.1=some c) :
  ∃cl,closureFor scope env=pure cl/\(∀x c,cl.lookup x=some c->env.cells.lookup x=some c)/\∀y∈scope.names,y.2=.free->(cl.lookup y.1).isSome=true:=by
 obtain⟨cl,e1,e2,_,e4⟩:=Zih (env:=env) scope.names [] h (λx c hx=>by simp at hx);refine⟨cl,?_,e2,e4⟩;unfold closureFor;exact(congrArg (λm:Sem (List (Str × Addr))=>m >>= λcs=>pure cs) e1).trans (pure_bind cl λcs=>pure cs)
theorem Ext.chg{F H F' H':Hp}(x:Ext F H F' H'){p:Addr}(o:HO)(h1:H p=none)(h2:F' p=none)(h3:∀u,H' p=some u->ZlB u=true):Ext F H F' (upd H' p o) :=
 ⟨x.ff,λb q z=>by
  have hb:b≠p:=Zay z h1;have y:=x.hh b q z;unfold Zdq at y ⊢;rw[ZE hb];exact y,λb q z=>by rw[ZE (Zay z h2)]; exact x.sub b q z,x.new,λt=>(x.tab t).keep λa u z hu=>by
   have ha:a≠p:=λe=>by subst e; exact Zsr (h3 u z) hu
   rw[ZE ha]; exact z,x.nts⟩
theorem At.push{K:ZyK}{F0 H0 F H:Hp}{r:HM.Env}{σ:L2.St}{d:PyData}{v:V}(e:At K F0 H0 F H r σ)(q:Rep K F d v):At K F0 H0 F H (some (.pl d)::r) (some v::σ):=by
 obtain⟨fp,e⟩:=e;refine⟨λi=>match i with | 0=>[] | i+1=>fp i,e.ext,by rw[Zy3,Zy3,e.len],λi b h=>?_,λi h=>?_,λi a h=>?_,λi=>?_,λi j a hij h=>?_,e.tb,e.nt⟩
 ·cases i with
  | zero=>rw[ZBl]at h;cases h;exact⟨v,rfl,.pl q⟩
  | succ i=>rw[Zzv]at h;obtain⟨u,h1,h2⟩:=e.at_ i b h;exact⟨u,by rw[Zzv]; exact h1,h2⟩
 ·cases i with
  | zero=>rfl
  | succ i=>exact e.emp i λb z=>h b (by rw[Zzv]; exact z)
 ·cases i with
  | zero=>simp at h
  | succ i=>exact e.own i a h
 ·cases i with
  | zero=>exact ZAI
  | succ i=>exact e.nd i
 ·cases i with
  | zero=>simp at h
  | succ i =>
   cases j with
   | zero=>simp
   | succ j=>exact e.dis i j a (by omega) h
theorem At.chgNew{K:ZyK}{F0 H0 F H:Hp}{r:HM.Env}{σ:L2.St}{p:Addr}(o:HO){Hs Fs:Hp}(e:At K F0 H0 F H r σ)(es:At K F0 H0 Fs Hs r σ)(hs:ZaF Hs H)(h1:Hs p=none)(h2:F p=none)(h3:∀u,H p=some u->ZlB u=true):At K F0 H0 F (upd H p o) r σ:=by
 obtain⟨fp,e⟩:=e;obtain⟨fq,es⟩:=es;have hp:∀i,¬p∈fp i:=λi hm=>by
  obtain⟨b,hb⟩:=e.bound hm;obtain⟨v,q1,q2⟩:=e.at_ i b hb;obtain⟨v',q3,q4⟩:=es.at_ i b hb;rw[q1]at q3;cases q3;generalize fp i=f1 at q2 hm;generalize fq i=f2 at q4;cases q2 with
  | pl _=>simp at hm
  | hd _ _ _ _=>simp at hm
  | hf _=>simp at hm
  | ol k _=>cases q4 with | ol k' _=>simp at hm; subst hm; rw[h1]at k'; cases k'
  | ok k _ _=>cases q4 with | ok k' _ _=>simp at hm; subst hm; rw[h1]at k'; cases k'
  | ot k _ _=>cases q4 with | ot k' _ _=>simp at hm; subst hm; rw[h1]at k'; cases k'
  | otl k _ v1 _ =>
   cases q4 with
   | otl k' hk' v2 r2' =>
    have eo:=hs.back k' k λ_ z=>by cases z
    cases eo;have v2':=v2;rw[v1]at v2;rcases Zzb.mp hm with z2 | z2
    ·subst z2; rw[h1]at k'; cases k'
    ·have:V.ref p∈ZA3 V.ref _:=ZyU.mpr ⟨p,z2,rfl⟩
     rw[v2]at this;obtain⟨a',m1,m2⟩:=ZyU.mp this;injection m2 with m2
     subst m2;obtain⟨o,ho⟩:=Zan.there (Zan.otl k' hk' v2' r2') (ZyQ _ m1);rw[h1]at ho; cases ho
 have hH0:H0 p=none:=es.ext.hh.free h1;refine⟨fp,e.ext.chg o hH0 h2 h3,e.len,λi b h=>?_,e.emp,e.own,e.nd,e.dis,e.tb,e.nt⟩;obtain⟨v,q1,q2⟩:=e.at_ i b h;refine⟨v,q1,q2.mono (Zr.refl F) λa ha o' z=>?_⟩;have hne:a≠p:=λe=>hp i (by rw[<-e]; exact ha);exact .of (by rw[ZE hne]; exact z)
end HP
namespace HP
open PySem PySem.Spec PyProof.Rows L2
variable[FX]
structure Zfi(X:Cx)(N:List Str)(scope:Scope)(fr:List Str):Prop where
 kind:scope.kind=.function
 cell:∀y∈scope.names,y.2≠.cell
 names:∀y∈scope.names,y.2=.local->scope.names.lookup y.1=some .local
 loc:∀x∈fr,scope.names.lookup x=some .local
 first:∀(i:Nat) (x:Str),fr[i]?=some x->N[i]?=some x
 nd:N.Nodup
 len:N.length=X.N.length+fr.length
 cap:∀y∈scope.names,y.2=.free->X.env.kindOf y.1=some .cell\/X.env.kindOf y.1=some .free
 same:∀(i:Nat) (y:Str),N[i+fr.length]?=some y->scope.names.lookup y=some .free->X.N[i]?=some y
 vis:∀(i:Nat) (y:Str),N[i+fr.length]?=some y->Vis scope y->scope.names.lookup y=some .free
def goG(dec:PyData->Option (List PyData))(c:HM.TF)(e:HM.EF)(r:HM.Env):List PyData->Option (List PyData)
 | []=>some []
 | x::xs=>match dec x with
  | some ys=>match c (ys.map (λd=>some (HM.B.pl d))++r)with
   | some true=>match e (ys.map (λd=>some (HM.B.pl d))++r)with
    | some y=>(goG dec c e r xs).map (y::·)
    | none=>none
   | some false=>goG dec c e r xs
   | none=>none
  | none=>none
def Zhy(dec:PyData->Option (List PyData))(i:HM.IF)(c:HM.TF)(e:HM.EF):HM.BF:=λr=>match i r with
 | some xs=>if xs.length<HM.big then(goG dec c e r xs).map λys=>HM.B.ol ys else none
 | none=>none
def Zk8(Y:Cx)(m:Nat)(tg:Expr)(dec:PyData->Option (List PyData)):Prop:=∀(pins:List (Addr × Obj)) (s:Shared) (σ:L2.St) (sv:List (Option V)) (H F:Hp) (d:PyData) (ys:List PyData) (xv:V) (u:Value),sv.length=m->Inv Y pins (sv++σ) H s->RelV xv u->Zr F H->Rep Y.K F d xv->dec d=some ys ->
 wpAny (model Y.prog Y.w) Y.A (assign tg Y.env u) (λ_ s'=>∃vs:List V,vs.length=m/\Inv Y pins (vs.map some++σ) H s'/\Zs Y.K F ys vs) Y.xe s
theorem At.pushes{K:ZyK}{F0 H0 F H:Hp}{r:HM.Env}{σ:L2.St}:∀{ds:List PyData} {vs:List V},At K F0 H0 F H r σ->Zs K F ds vs->At K F0 H0 F H (ds.map (λd=>some (HM.B.pl d))++r) (vs.map some++σ)
 | [],vs,e,q=>by rw[q.nil_inv];exact e
 | d::ds,vs,e,q=>by obtain⟨v,us,rfl,r1,r2⟩:=q.cons_inv;exact(At.pushes e r2).push r1
section
variable{X:Cx}{N:List Str}{scope:Scope}{fr:List Str}{cl:List (Str × Addr)}{C:Addr}
theorem ZbF{env:Env}{y:Str}{k:NameKind}:∀{names:List (Str × NameKind)},(names.map λ(n,k)=>if(k==ZA4&&env.scope.kind==.function&&env.kindOf n==some .cell)then(n,NameKind.cell)else(n,k)).lookup y=some k ->
  names.lookup y=some k\/(k=.cell/\names.lookup y=some .free)
 | [],h=>by simp at h
 | (n,k')::r,h=>by
  have ih:=@ZbF env y k r;rw[ZyS]at h;dsimp only at h
  by_cases hc:(k'==ZA4&&env.scope.kind==.function&&env.kindOf n==some .cell)=true
  ·rw[if_pos hc,ZAF]at h
   rw[ZAF];split at h
   ·cases h
    refine .inr ⟨rfl,?_⟩;have:(k'==ZA4)=true:=by rw[Zy5,Zy5]at hc;exact hc.1.1
    rw[show k'=ZA4 by simpa using this]
   ·exact ih h
  ·rw[if_neg hc,ZAF]at h
   rw[ZAF];split at h
   ·cases h
    exact .inl rfl
   ·exact ih h
theorem lookup_mem{y:Str}{k:NameKind}:∀{names:List (Str × NameKind)},names.lookup y=some k->(y,k)∈names
 | [],h=>by simp at h
 | (n,k')::r,h=>by
  rw[ZAF]at h;split at h
  ·cases h
   rename_i hb;rw[show y=n by simpa using hb];exact ZyO ..
  ·exact ZyQ _ (lookup_mem h)
theorem ZuR{pins:List (Addr × Obj)}{σ:L2.St}{H:Hp}{s:Shared}{fp:List Addr}(T:Zfi X N scope fr)(hcl:∀y c,cl.lookup y=some c->X.env.cells.lookup y=some c)(hfr:∀y∈scope.names,y.2=.free->(cl.lookup y.1).isSome=true)
  (I:Inv X pins σ H s) (hc:X.calm=true) (hf:∀b∈fp,Zgn X pins H b) (hfl:∀b∈fp,b<s.heap.objs.size) (hC:s.heap.objs.size<=C):(Zai X N scope cl C s H fp).Ok:=by
 refine⟨I.ok.mod,T.kind,I.ok.glob,I.ok.blt,hC,λy z c h1 h2=>I.ok.inj y z c (hcl y c h1) (hcl z c h2),λy h=>?_,λy c h=>?_,λ_=>I.ok.hd hc,I.ok.frames,.inl rfl,λb hb=>⟨?_,λy c h=>?_⟩,λb o h=>I.bs b o h,
  ZzH I.ok.bsz I.sz,λb o h hb=>?_,λb hb hs=>?_,I.stack,I.stkFree⟩
 ·have h':(relabel scope X.env).names.lookup y=some .cell\/(relabel scope X.env).names.lookup y=some .free:=h
  have hm:(y,ZA4)∈scope.names:=by
   rcases h' with h' | h'
   ·rcases ZbF h' with q | ⟨_,q⟩
    ·exact absurd rfl (T.cell _ (lookup_mem q))
    ·exact lookup_mem q
   ·rcases ZbF h' with q | ⟨e,_⟩
    ·exact lookup_mem q
    ·cases e
  exact Zzf.mp (hfr _ hm rfl)
 ·exact absurd h (by show ¬false=true; simp)
 ·exact Zzc (Zzh (hfl b hb) hC)
 ·obtain⟨_,_,_,_,q,_⟩:=hf b hb
  exact q y c (hcl y c h)
 ·obtain⟨_,_,_,q,_⟩:=hf b hb
  rcases q with q | q
  ·exact I.ok.noex b o h q
  ·exact absurd (Zzh (Zy1 h) (ZzH I.ok.bsz q)) (ZAD _)
 ·obtain⟨_,q1,q2,_⟩:=hf b hb
  rcases Zzb.mp (I.stkSub b hs)with z | z
  ·exact q1 z
  ·exact q2 z
theorem ZoT{pins:List (Addr × Obj)}{σ:L2.St}{H:Hp}{s:Shared}{fp:List Addr}{D:Addr}{h1:Heap}{tk:Nat}(T:Zfi X N scope fr)(hcl:∀y c,cl.lookup y=some c->X.env.cells.lookup y=some c)(hfr:∀y∈scope.names,y.2=.free->(cl.lookup y.1).isSome=true)
  (I:Inv X pins σ H s) (hc:X.calm=true) (hf:∀b∈fp,Zgn X pins H b) (hfl:∀b∈fp,b<s.heap.objs.size) (hD:s.heap.objs.size=D) (hC:D<C) (ns:h1.Ns C (λ_=>none)) (hl:h1.get? D=some { cls:=.type "list",data:=.seq #[] 0 })
  (k:∀b o,s.heap.get? b=some o->h1.get? b=some o):Inv (Zai X N scope cl C s H fp) [] (Zzo fr.length none++σ) (upd H D (.lst [])) { s with heap:=h1,toks:=tk }:=by
 have hn:H D=none:=I.hok.fresh (ZCl hD);have hDC:s.heap.objs.size<=C:=ZzH (ZCl hD) (ZAB hC);have hCn:H C=none:=I.hok.fresh hDC;refine⟨ZuR T hcl hfr I hc hf hfl hDC,rfl,I.bare,Un.laid k (ZCl hD) hn,⟨_,ns,λi y v e1 e2 e3=>?_⟩,λy c h=>?_,?_,λy c h=>?_,λp hp=>absurd (show p∈([]:List (Addr × Obj)) from hp) (by simp),I.hok.laid k (ZCl hD) ⟨ZzN _,[],0,.nil,hl⟩,?_⟩
 ·have hge:fr.length<=i:=by
   apply ZBH;intro hlt;rw[ZzK (by rw[ZzI]; exact hlt),ZBk,if_pos hlt]at e2;cases e2
  rw[ZzE (by rw[ZzI]; exact hge),ZzI]at e2;obtain⟨j,rfl⟩:∃j,i=j+fr.length:=⟨i-fr.length,by omega⟩;rw[Nat.add_sub_cancel]at e2
  ·have e3':Vis scope y:=by
    have e3:Vis (relabel scope X.env) y:=e3;rcases e3 with q | q | q
    ·rcases ZbF q with q | ⟨z,_⟩
     ·exact .inl q
     ·cases z
    ·rcases ZbF q with q | ⟨_,q⟩
     ·exact .inr (.inl q)
     ·exact .inr (.inr q)
    ·rcases ZbF q with q | ⟨z,_⟩
     ·exact .inr (.inr q)
     ·cases z
   have hfree:=T.vis j y e1 e3';have hm:=lookup_mem hfree;have hN:=T.same j y e1 hfree;have hcap:=T.cap _ hm rfl;obtain⟨m,_,hl⟩:=I.loc;obtain⟨u,ru,lu⟩:=hl j y v hN e2 (by
    rcases hcap with q | q
    ·exact .inr (.inl q)
    ·exact .inr (.inr q))
   refine⟨u,ru,?_⟩;obtain⟨c,hcc⟩:=Zzf.mp (hfr _ hm rfl);rcases lu with⟨q,_⟩ | ⟨_,c',e,z⟩
   ·rcases hcap with q' | q'<;>(rw[q']at q; cases q)
   ·refine .inr ⟨?_,c,hcc,?_⟩
    ·rcases e3 with q | q | q
     ·have q:(relabel scope X.env).names.lookup y=some .local:=q
      rcases ZbF q with q | ⟨z,_⟩
      ·rw[hfree]at q; cases q
      ·cases z
     ·exact .inl q
     ·exact .inr q
    ·rw[hcl y c hcc]at e
     cases e;obtain⟨o,ho,hd⟩:=z;exact⟨o,k _ _ ho,hd⟩
 ·obtain⟨v,o,ho,hd⟩:=I.cell y c (hcl y c h)
  exact⟨v,o,k _ _ ho,hd⟩
 ·show upd H D (.lst []) C=none
  rw[ZE (ZBS hC)];exact hCn
 ·have hq:=I.freeC y c (hcl y c h)
  obtain⟨v,o,ho,_⟩:=I.cell y c (hcl y c h);have:c≠D:=Zzc (by rw[<-hD]; exact Zy1 ho);rw[ZE this];exact hq
 ·show(Zzo fr.length none++σ).length=N.length
  rw[Zy8,ZzI,I.len,T.len,Nat.add_comm]
def XTs(Y:Cx)(ifs:List Expr)(f:HM.TF):Prop:=∀r c,f r=some c->∀(pins:List (Addr × Obj)) (s:Shared) (σ:L2.St) (H:Hp) (Q:Bool->Hp->Prop),Inv Y pins σ H s->(Now Y.K r σ H λF0 H0 F=>∀F' H',Ext F H F' H'->Q c H') ->
 wpAny (model Y.prog Y.w) Y.A (Zqv ifs Y.env) (TP Y pins σ Q) Y.xe s
theorem Zby{Y:Cx}:XTs Y [] HM.ZU:=by intro r c h pins s σ H Q I ⟨F0,H0,F,at_,k⟩;cases h;exact wpAny_tests_nil ⟨H,I,k F H at_.refl⟩
theorem Zcj{Y:Cx}{e:Expr}{f:HM.TF}(h:XT Y e f):XTs Y [e] f:=λr c hc pins s σ H Q I q=>wpAny_tests_one (h r c hc pins s σ H Q I q)
def ItE(K:ZyK)(J:It)(ds:List PyData)(F:Hp):Prop:=∀F' H,Zr F F'->Zr F' H ->
 (∀(i:Nat) (d:PyData),ds[i]?=some d->J.go i H/\∀x H',J.yld i H x H'->∃F2,Ext (Zbw F' H) H F2 H'/\Rep K F2 d x)/\J.stop ds.length H
theorem ItD.e{K:ZyK}{J:It}{ds:List PyData}{F:Hp}(h:ItD K J ds F):ItE K J ds F:=λF' H s1 s2=>by obtain⟨a,b⟩:=h F' H s1 s2;refine⟨λi d hd=>⟨(a i d hd).1,λx H' hy=>?_⟩,b⟩;obtain⟨e,r⟩:=(a i d hd).2 x H' hy;subst e;exact⟨_,.refl (Ext.refl s2).tups.sub,r⟩
def XIE(X:Cx)(tg e:Expr)(f:HM.IF):Prop:=∀r ds,f r=some ds->PI X tg e λσ H R=>Now X.K r σ H λF0 H0 F=>∀J F' H',Ext F H F' H'->ItE X.K J ds F'->R J H'
theorem XI.e{X:Cx}{tg e:Expr}{f:HM.IF}(h:XI X tg e f):XIE X tg e f:=λr ds hr pins s σ H R I ⟨F0,H0,F,at_,k⟩=>h r ds hr pins s σ H R I ⟨F0,H0,F,at_,λJ F' H' x q=>k J F' H' x q.e⟩
theorem Zn8{pins:List (Addr × Obj)}{σ:L2.St}{H1:Hp}{s2:Shared}{fp:List Addr}{it D:Addr}{tn:Nat->Heap->Prop}{J:It}{elt iter:Expr}{ifs:List Expr}{tg:Expr}{pos:Pos}{dec:PyData->Option (List PyData)}{fc:HM.TF}{fe:HM.EF}{s4:Shared}{r:HM.Env}{ds out:List PyData}{Fs Hs F0 H0 F1:Hp}
  {R:Result->Shared->Prop} (T:Zfi X N scope fr) (I2:Inv X pins σ H1 s2) (W:Turn X.prog X.w X.K tg J fp it tn) (hf:∀b∈fp,Zgn X pins H1 b)
  (I4:Inv (Zai X N scope cl C s2 H1 fp) [] (Zzo fr.length none++σ) (upd H1 D (.lst [])) s4) (tn0:tn 0 s4.heap) (hD:s2.heap.objs.size<=D) (hfl:∀b∈fp,b<s2.heap.objs.size) (hbl:X.calm=true)
  (hc:XTs (Zai X N scope cl C s2 H1 fp) ifs fc) (he:XE (Zai X N scope cl C s2 H1 fp) elt fe) (at_:At X.K F0 H0 Fs Hs r σ) (x1:Ext Fs Hs F1 H1) (itd:ItE X.K J ds F1) (hbind:Zk8 (Zai X N scope cl C s2 H1 fp) fr.length tg dec) (hbig:ds.length<HM.big) (go:goG dec fc fe r ds=some out)
  (hR:∀s',(∃F H vs,Inv (Zai X N scope cl C s2 H1 fp) [] (Zzo fr.length none++σ) H s'/\Ext Fs Hs F H/\H D=some (.lst vs)/\F D=none/\Zs X.K F out vs)->R (.ok .next) s') :
  codeAny (model X.prog X.w) X.A (.compLoop (.ListComp elt [⟨tg,iter,ifs,0⟩] scope pos) 0 (.ref it) (.ref D) (compEnvC scope cl C X.env)) R s4:=by
 have hH1D:H1 D=none:=I2.hok.fresh hD;have hHsD:Hs D=none:=x1.hh.free hH1D;have hF1D:F1 D=none:=x1.sub.free hH1D;have hfpD:∀b∈fp,b≠D:=λb hb=>Zzc (Zzh (hfl b hb) hD);have okY:=I4.ok;have stat:∀{H:Hp},(∀b∈fp,H b=none)->∀b∈fp,Zgn (Zai X N scope cl C s2 H1 fp) [] H b:=λhn b hb=>⟨hn b hb,(okY.exf b hb).1,okY.exfs b hb,.inl hb,(okY.exf b hb).2,λp hp=>absurd (show p∈([]:List (Addr × Obj)) from hp) (by simp)⟩;refine ZsV (λn s'=>∃(j:Nat) (sv:List (Option V)) (F H:Hp) (ys:List PyData) (vs:List V) (rest:List PyData),sv.length=fr.length/\Inv (Zai X N scope cl C s2 H1 fp) [] (sv++σ) H s'/\tn j s'.heap/\(∀b∈fp,H b=none)/\Ext Fs Hs F H/\Zr F1 F/\At X.K F0 H0 F H r σ /\
  H D=some (.lst vs)/\F D=none/\Zs X.K F ys vs/\j+n=ds.length/\ys.length<=j/\goG dec fc fe r (ds.drop j)=some rest/\out=ys++rest) ?_ ds.length
  ⟨0,Zzo fr.length none,F1,_,[],[],out,ZzI,I4,tn0,λb hb=>by rw[ZE (hfpD b hb)]; exact(hf b hb).1,x1.lay' hH1D,Zr.refl _,(at_.grow x1).grow ((at_.grow x1).refl.lay' hH1D),ZH,hF1D,.nil,by omega,ZyT _,go,rfl⟩
 rintro n s5 ⟨j,sv,F,H,ys,vs,rest,hsv,I5,tn5,hfp5,x5,sF,at5,hHD,hFD,rys,hjn,hyl,hgo,hout⟩
 obtain⟨it1,it2⟩:=itd F H sF at5.sub;cases n with
 | zero =>
  have ej:j=ds.length:=by omega
  subst ej;rw[List.drop_length]at hgo;cases hgo;rw[Zzu]at hout;subst hout;refine thn (W.done (Zai X N scope cl C s2 H1 fp) rfl rfl rfl rfl _ [] s5 _ H No I5 (stat hfp5) tn5 it2) λrv s6 ⟨e,I6⟩=>?_;subst e;refine hR s6 ⟨F,H,vs,I6.weak (by rw[Zy8,Zy8,ZzI,hsv]) λi v hv=>?_,x5,hHD,hFD,rys⟩
  by_cases hi:i<fr.length
  ·rw[ZzK (by rw[ZzI]; exact hi),ZBk,if_pos hi]at hv
   cases hv
  ·rw[ZzE (by rw[ZzI]; omega),ZzI]at hv
   rw[ZzE (by omega),hsv];exact hv
 | succ n =>
  have hlt:j<ds.length:=by omega
  obtain⟨jg,jy⟩:=it1 j ds[j] (Zy9 hlt);obtain⟨F2,x5,sF,at5,hFD,rys,jy⟩:∃F2,Ext Fs Hs F2 H/\Zr F1 F2/\At X.K F0 H0 F2 H r σ/\F2 D=none/\Zs X.K F2 ys vs/\∀x H',J.yld j H x H'->∃F3,Ext F2 H F3 H'/\Rep X.K F3 ds[j] x :=
   ⟨Zbw F H,x5.tups,sF.trans (ZdS at5.sub),at5.grow at5.refl.tups,by unfold Zbw; rw[hHD]; exact hFD,rys.mono (ZdS at5.sub),jy⟩
  clear it1 it2
  rw[ZC0 hlt]at hgo;refine thn (W.item (Zai X N scope cl C s2 H1 fp) rfl rfl rfl rfl j [] s5 _ H No I5 (stat hfp5) tn5 jg) λrv s6 ⟨u,e,h6⟩=>?_;subst e;refine thn h6 λ_ s7 ⟨xv,H7,I7,r7,y7,tn7,fr7⟩=>?_;obtain⟨F7,x7,rx⟩:=jy xv H7 y7;obtain⟨F2,x5,sF,at5,hHD,hFD,rys,rx⟩:∃F2,Ext Fs Hs F2 H7/\Zr F1 F2/\At X.K F0 H0 F2 H7 r σ/\H7 D=some (.lst vs)/\F2 D=none/\Zs X.K F2 ys vs/\Rep X.K F2 ds[j] xv:=by
   refine⟨F7,x5.trans x7,sF.trans x7.ff,at5.grow x7,x7.hh _ _ hHD,?_,rys.mono x7.ff,rx⟩;cases q:F7 D with
   | none=>rfl
   | some o =>
    rcases x7.new D o q with z | z
    ·rw[hFD]at z; cases z
    ·exact(z.no hHD λ_ q=>by cases q).elim
  have I7':=I7.pinned (stat fr7) (W.obj _ _ tn7);unfold goG at hgo;split at hgo
  case h_2=>cases hgo
  rename_i zs hzs;have dok:=hbind _ s7 σ sv H7 F2 ds[j] zs xv u hsv I7' r7 at5.sub rx hzs;refine thn dok λ_ s8 ⟨ws,hws,I8,rws⟩=>?_;have atp:=at5.pushes rws;have again:∀{s9:Shared} {F9 H9:Hp} {zs9:List PyData} {ws9:List V} {rest':List PyData},Inv (Zai X N scope cl C s2 H1 fp) ([]++Zja fp s7.heap) (ws.map some++σ) H9 s9->Ext Fs Hs F9 H9->Zr F2 F9->At X.K F0 H0 F9 H9 r σ->H9 D=some (.lst ws9)->F9 D=none->Zs X.K F9 zs9 ws9->zs9.length<=j+1->goG dec fc fe r (ds.drop (j+1))=some rest'->out=zs9++rest' ->
    ∃m,m<n+1/\∃(j:Nat) (sv:List (Option V)) (F2 H:Hp) (ys:List PyData) (vs:List V) (rest:List PyData),sv.length=fr.length/\Inv (Zai X N scope cl C s2 H1 fp) [] (sv++σ) H s9/\tn j s9.heap/\(∀b∈fp,H b=none)/\Ext Fs Hs F2 H/\Zr F1 F2/\At X.K F0 H0 F2 H r σ /\
     H D=some (.lst vs)/\F2 D=none/\Zs X.K F2 ys vs/\j+m=ds.length/\ys.length<=j/\goG dec fc fe r (ds.drop j)=some rest/\out=ys++rest:=by
   intro s9 F9 H9 zs9 ws9 rest' I9 x9 s9F a9 h9 f9 r9 l9 g9 o9;refine⟨n,ZBf n,j+1,ws.map some,F9,H9,zs9,ws9,rest',by rw[ZyJ]; exact hws,I9.unpinned,W.keep _ _ _ tn7 λb hb o e=>(I9.pin (b,o) (Zzk _ (Zzk _ (ZfO hb e)))).1,λb hb=>?_,x9,sF.trans s9F,a9,h9,f9,r9,by omega,l9,g9,o9⟩;obtain⟨o,e,d⟩:=W.obj _ _ tn7 b hb;exact(I9.pin (b,o) (Zzk _ (Zzk _ (ZfO hb e)))).2.1
  have noD:∀{F' H':Hp},Ext F2 H7 F' H'->F' D=none:=λ{F' H'} y=>by
   cases q:F' D with
   | none=>rfl
   | some o =>
    rcases y.new D o q with z | z
    ·rw[hFD]at z; cases z
    ·exact(z.no hHD λ_ q=>by cases q).elim
  split at hgo
  ·rename_i hcv
   split at hgo
   ·rename_i y hy
    obtain⟨rest',g1,g2⟩:=ZyL.mp hgo;subst g2;refine thn (hc _ _ hcv _ s8 _ H7 (λc' H'=>c'=true/\∃F',Ext F2 H7 F' H') I8 ⟨F0,H0,F2,atp,λF' H' y=>⟨rfl,F',y⟩⟩) λok s9 ⟨H9,I9,eok,F9,x9⟩=>?_;subst eok;rw[if_pos rfl];refine thn (he _ _ hy _ s9 _ H9 (λv' H'=>∃F',Ext F9 H9 F' H'/\Rep X.K F' y v') I9 ⟨F0,H0,F9,atp.grow x9,λv' F' H' x q=>⟨F',x,q⟩⟩) λu' s10 ⟨v',H10,I10,r10,F10,x10,q10⟩=>?_;have x910:=x9.trans x10;have hHD':H10 D=some (.lst vs):=x910.hh _ _ hHD;have hFD':=noD x910;refine thn (Zi8 (X:=Zai X N scope cl C s2 H1 fp) _ s10 _ H10 (.ref D) [v'] (.ref D) [u'] (λ_ H'=>H'=upd H10 D (.lst (vs++[v']))) I10 rfl (.cons r10 .nil) ⟨D,vs,v',rfl,rfl,hHD',?_,rfl⟩) λ_ s11 ⟨_,H11,I11,_,e11⟩=>?_
    ·have:=rys.1
     exact Zhv (by omega)
    subst e11;refine again (zs9:=ys++[y]) I11 ((x5.trans x910).chg _ hHsD hFD' λu z=>by rw[hHD']at z; cases z; rfl) x910.ff ((at5.grow x910).chgNew _ at_ (x5.trans x910).hh hHsD hFD' λu z=>by rw[hHD']at z; cases z; rfl) ZH hFD' ((rys.mono x910.ff).append (.one q10)) (by rw[Zy8]; show ys.length+1<=j+1; omega) g1 (by rw[hout,ZAQ]; rfl)
   ·cases hgo
  ·rename_i hcv
   refine thn (hc _ _ hcv _ s8 _ H7 (λc' H'=>c'=false/\∃F',Ext F2 H7 F' H') I8 ⟨F0,H0,F2,atp,λF' H' y=>⟨rfl,F',y⟩⟩) λok s9 ⟨H9,I9,eok,F9,x9⟩=>?_;subst eok;rw[if_neg (by simp)];exact again (zs9:=ys) I9 (x5.trans x9) x9.ff (at5.grow x9) (x9.hh _ _ hHD) (noD x9) (rys.mono x9.ff) (by omega) hgo hout
  ·cases hgo
theorem ZoB{pins:List (Addr × Obj)}{σ:L2.St}{H1 H:Hp}{s2 s':Shared}{fp:List Addr}{sv:List (Option V)}{h':Heap}(I2:Inv X pins σ H1 s2)(hf:∀b∈fp,Zgn X pins H1 b)(hC:s2.heap.objs.size<=C)
  (I:Inv (Zai X N scope cl C s2 H1 fp) [] (sv++σ) H s') (hs:ZAL C s'.heap h'):Inv X pins σ H { s' with heap:=h' }:=by
 have u:Un (frs X.stack) fp H1 H s2.heap s'.heap:=I.base;have hCn:H C=none:=I.free;have ne:∀b o,s2.heap.get? b=some o->b≠C:=λb o e=>Zzc (Zzh (Zy1 e) hC);refine I2.call' (s':={ s' with heap:=h' }) (ch:=fp) I.os ⟨λb o e n hb hx=>(hs.2 b (ne b o e)).trans (u.keep b o e n hb hx),λb o e n hb hx=>?_,u.free,λb o e hx=>?_,u.tups,u.frzs,u.tbls⟩ (λb o e=>?_) I.bare λb hb=>?_
 ·obtain⟨sl,q⟩:=u.slot b o e n hb hx
  exact⟨sl,(hs.2 b (ne b o e)).trans q⟩
 ·obtain⟨o',q⟩:=u.there b o e hx
  exact⟨o',(hs.2 b (ne b o e)).trans q⟩
 ·refine(I.hok b o e).stay (λc w' hc q=>(hs.2 c ?_).trans q) (λ_ q=>q) λ_ _ q=>q
  rintro rfl
  rcases hc with rfl | hc
  ·rw[hCn]at e; cases e
  ·rw[hCn]at hc; cases hc
 ·obtain⟨q0,q1,q2,q3,q4,q5⟩:=hf b hb
  exact⟨q3,q1,q4,q5⟩
variable{elt iter:Expr}{ifs:List Expr}{tg:Expr}{pos:Pos}{fi:HM.IF}{dec:PyData->Option (List PyData)}{fc:HM.TF}{fe:HM.EF}
theorem Zov{pins:List (Addr × Obj)}{σ:L2.St}{H:Hp}{s:Shared}(T:Zfi X N scope fr)(I:Inv X pins σ H s):∀y∈scope.names,y.2=.free->∃c,X.env.cells.lookup y.1=some c:=λy hy e=>I.ok.has y.1 (T.cap y hy e)
theorem Ztb(hxe:X.xe=λ_ _=>False)(hcalm:X.calm=true)(T:Zfi X N scope fr)(hbind:∀cl C s H ex,Zk8 (Zai X N scope cl C s H ex) fr.length tg dec)(hi:XIE X tg iter fi)(hc:∀cl C s H ex,XTs (Zai X N scope cl C s H ex) ifs fc)(he:∀cl C s H ex,XE (Zai X N scope cl C s H ex) elt fe)
  (hs:∀x,ZA6 iter X.env x=pure x:=by intro _; rfl):XF X (.ListComp elt [⟨tg,iter,ifs,0⟩] scope pos) (Zhy dec fi fc fe):=by
 intro r b h;unfold Zhy at h;split at h
 ·rename_i ds hds
  split at h
  ·rename_i hbig
   obtain⟨out,hgo,e⟩:=ZyL.mp h;subst e;intro pins s σ H Q I ⟨F0,H0,F,at_,k⟩;obtain⟨cl,hclos,hcl,hfr⟩:=ZfB (Zov T I);rw[eval_ListComp];refine wpAny_comprehension_free (use:=none) rfl hs hclos T.kind T.names (thn (hi r ds hds pins s σ H (λJ H'=>∃F',Ext F H F' H'/\ItE X.K J ds F') I ⟨F0,H0,F,at_,λJ F' H' x q=>⟨F',x,q⟩⟩) λv s1 h1=>thn h1 λitv s2 h2=>?_);obtain⟨it,fp,tn,J,H1,rfl,I2,W,st2,f2,F1,x1,itd⟩:=h2;have hfl:∀b∈fp,b<s2.heap.objs.size:=λb hb=>let ⟨o,ho,_⟩:=W.obj 0 _ st2 b hb; Zy1 ho
   refine Zzz (ZCm T.cell (by intro y hy; simp at hy) (λh1 hns hsb=>?_) T.kind);dsimp only at hns hsb ⊢;generalize hP:s2.heap.push { cls:=.type "list",dict:=none,data:=.seq ([]:List Value).toArray }=h0 at hns hsb ⊢;have hsz:h0.objs.size=s2.heap.objs.size+1:=by rw[<-hP,ZBB]
   have hDC:s2.heap.objs.size<h0.objs.size:=by rw[hsz]; exact ZBf _
   have old:∀b o,s2.heap.get? b=some o->h1.get? b=some o:=λb o e=>hsb.extBut b o (Zzc (ZAO (Zy1 e) hDC)) (ZyN _ (by rw[<-hP]; exact ZyN _ e));have hl:h1.get? s2.heap.objs.size=some { cls:=.type "list",data:=.seq #[] 0 }:=hsb.extBut _ _ (Zzc hDC) (ZyN _ (by rw[<-hP]; exact Zy4 _ rfl));have I4:Inv (Zai X N scope cl h0.objs.size s2 H1 fp) [] (Zzo fr.length none++σ) (upd H1 s2.heap.objs.size (.lst [])) { s2 with heap:=h1,toks:=s2.toks+([]:List (Str × Value)).length }:=ZoT T hcl hfr I2 hcalm f2 hfl rfl hDC hns hl old;have tn1:tn 0 h1:=W.keep _ _ _ st2 λb _ o e=>old b o e;have hHsD:H s2.heap.objs.size=none:=x1.hh.free (I2.hok.fresh (ZyT _));have loop:codeAny (model X.prog X.w) X.A (.compLoop (.ListComp elt [⟨tg,iter,ifs,0⟩] scope pos) 0 (.ref it) (.ref s2.heap.objs.size) (compEnvC scope cl h0.objs.size X.env)) (compPost (model X.prog X.w) X.A X.xe none (EP X pins σ Q) (.ref s2.heap.objs.size) h0.objs.size)
     { s2 with heap:=h1,toks:=s2.toks+([]:List (Str × Value)).length }:=by
    refine Zn8 T I2 W f2 I4 tn1 (ZyT _) hfl hcalm (hc _ _ _ _ _) (he _ _ _ _ _) at_ x1 itd (hbind _ _ _ _ _) hbig hgo λs' ⟨F',H',vs,I',x',hD',hFD',rs⟩=>?_;obtain⟨m,hn,_⟩:=id I'.loc;refine⟨m,hn,λh2 hs2=>⟨.ref s2.heap.objs.size,H',ZoB I2 f2 (ZAB hDC) I' hs2,rfl,k _ F' H' x' ⟨[s2.heap.objs.size],.ol hD' rs,by simp,λa ha=>?_⟩⟩⟩;obtain rfl:a=s2.heap.objs.size:=by simpa using ha
    exact⟨hFD',hHsD⟩
   exact codeAny_compStart_list loop (W.self _ 0 _ _ _ tn1 loop)
  ·cases h
 ·cases h
theorem Zpn(i:Nat){y:Str}{py spos:Pos}(hN:X.N.Nodup)(hxe:X.xe=λ_ _=>False)(hcalm:X.calm=true)(T:Zfi X N scope fr)(hbind:∀cl C s H ex,Zk8 (Zai X N scope cl C s H ex) fr.length tg dec)(hi:XIE X tg iter fi)(hc:∀cl C s H ex,XTs (Zai X N scope cl C s H ex) ifs fc)(he:∀cl C s H ex,XE (Zai X N scope cl C s H ex) elt fe)
  (hiy:X.N[i]?=some y:=by rfl) (hy:X.env.scope.names.lookup y=some .local:=by rfl) (hsw:ZBq (.ListComp elt [⟨tg,iter,ifs,0⟩] scope pos) (some (.Name y py)) spos.line X.env=pure true:=by rfl)
  (hs:∀x,ZA6 iter X.env x=pure x:=by intro _; rfl):XS X (.Assign [.Name y py] (.ListComp elt [⟨tg,iter,ifs,0⟩] scope pos) spos) (HM.Zaa i (Zhy dec fi fc fe)):=by
 intro r o h;obtain⟨b,hb,e⟩:=ZyL.mp h;subst e;unfold Zhy at hb;split at hb
 ·rename_i ds hds
  split at hb
  ·rename_i hbig
   obtain⟨out,hgo,e⟩:=ZyL.mp hb;subst e;intro pins s σ H E I ⟨F0,H0,F,at_,k⟩;obtain⟨cl,hclos,hcl,hfr⟩:=ZfB (Zov T I);rw[exec_Assign_Name_used _ _ _ _ hsw];refine ZyI (wpAny_standAt (ZyI ?_));show wpAny _ X.A (do let _ <-comprehension (.ListComp elt [⟨tg,iter,ifs,0⟩] scope pos) scope X.env _ (newList []) false (eval iter X.env) (some (assign (.Name y py) X.env))) _ _ s;refine ZyI (Zz4 (wpAny_comprehension_free (use:=some (assign (.Name y py) X.env)) (Q:=λ_ s'=>SP X pins E .next s') rfl hs hclos T.kind T.names (thn (hi r ds hds pins s σ H (λJ H'=>∃F',Ext F H F' H'/\ItE X.K J ds F') I ⟨F0,H0,F,at_,λJ F' H' x q=>⟨F',x,q⟩⟩) λv s1 h1=>thn h1 λitv s2 h2=>?_)) (λ_ s' hq=>ZyM (ZyM hq)) λ_ _ e=>e)
   obtain⟨it,fp,tn,J,H1,rfl,I2,W,st2,f2,F1,x1,itd⟩:=h2;have hfl:∀b∈fp,b<s2.heap.objs.size:=λb hb=>let ⟨o,ho,_⟩:=W.obj 0 _ st2 b hb; Zy1 ho
   refine Zzz (ZCm T.cell (by intro y hy; simp at hy) (λh1 hns hsb=>?_) T.kind);dsimp only at hns hsb ⊢;generalize hP:s2.heap.push { cls:=.type "list",dict:=none,data:=.seq ([]:List Value).toArray }=h0 at hns hsb ⊢;have hsz:h0.objs.size=s2.heap.objs.size+1:=by rw[<-hP,ZBB]
   have hDC:s2.heap.objs.size<h0.objs.size:=by rw[hsz]; exact ZBf _
   have old:∀b o,s2.heap.get? b=some o->h1.get? b=some o:=λb o e=>hsb.extBut b o (Zzc (ZAO (Zy1 e) hDC)) (ZyN _ (by rw[<-hP]; exact ZyN _ e));have hl:h1.get? s2.heap.objs.size=some { cls:=.type "list",data:=.seq #[] 0 }:=hsb.extBut _ _ (Zzc hDC) (ZyN _ (by rw[<-hP]; exact Zy4 _ rfl));have I4:Inv (Zai X N scope cl h0.objs.size s2 H1 fp) [] (Zzo fr.length none++σ) (upd H1 s2.heap.objs.size (.lst [])) { s2 with heap:=h1,toks:=s2.toks+([]:List (Str × Value)).length }:=ZoT T hcl hfr I2 hcalm f2 hfl rfl hDC hns hl old;have tn1:tn 0 h1:=W.keep _ _ _ st2 λb _ o e=>old b o e;have hHsD:H s2.heap.objs.size=none:=x1.hh.free (I2.hok.fresh (ZyT _));have loop:codeAny (model X.prog X.w) X.A (.compLoop (.ListComp elt [⟨tg,iter,ifs,0⟩] scope pos) 0 (.ref it) (.ref s2.heap.objs.size) (compEnvC scope cl h0.objs.size X.env)) (compPost (model X.prog X.w) X.A X.xe (some (assign (.Name y py) X.env)) (λ_ s'=>SP X pins E .next s') (.ref s2.heap.objs.size) h0.objs.size)
     { s2 with heap:=h1,toks:=s2.toks+([]:List (Str × Value)).length }:=by
    refine Zn8 T I2 W f2 I4 tn1 (ZyT _) hfl hcalm (hc _ _ _ _ _) (he _ _ _ _ _) at_ x1 itd (hbind _ _ _ _ _) hbig hgo λs' ⟨F',H',vs,I',x',hD',hFD',rs⟩=>?_;obtain⟨m,hn,_⟩:=id I'.loc;have IX:Inv X pins σ H' s':=ZoB (h':=s'.heap) I2 f2 (ZAB hDC) I' (ZDV _ _);have hCn:H' h0.objs.size=none:=I'.free;have neL:h0.objs.size≠X.env.locals:=ZBS (ZAO I2.lt hDC);have neC:∀z c,X.env.cells.lookup z=some c->c≠h0.objs.size:=λz c hz=>by obtain⟨v,o,ho,_⟩:=I2.cell z c hz;exact Zzc (ZAO (Zy1 ho) hDC)
    have neP:∀p∈X.pn++pins,p.1≠h0.objs.size:=λp hp=>Zzc (ZAO (Zy1 (I2.pin p hp).1) hDC);show wpAny _ X.A (assign (.Name y py) X.env (.ref s2.heap.objs.size)) _ _ _;refine wpAny_assign_Name (Zmv IX hN hiy (.inl hy) (v:=.ref s2.heap.objs.size) rfl (λs3 I3 hsa=>?_) (.inr hy));obtain⟨a,sa,ea⟩:=hsa;have neA:h0.objs.size≠a:=by
     rcases ea with e | e
     ·rw[e]; exact neL
     ·exact ZzX (neC _ _ e)
    refine⟨m,hn.sameBut sa neA,λh2 hs2=>?_⟩;refine⟨_,H',I3.turned (t':=s3.toks) (it:=h0.objs.size) (λb o hb e=>(hs2.2 b hb).trans e) hCn neL (.inr (ZzH I2.sz (ZAB hDC))) neC neP,k _ F' H' ((at_.grow x').storeNew at_ x'.hh (fp':=[s2.heap.objs.size]) (.ol hD' rs) (by simp) λa ha=>?_)⟩;obtain rfl:a=s2.heap.objs.size:=by simpa using ha
    exact⟨hFD',hHsD⟩
   exact codeAny_compStart_list loop (W.self _ 0 _ _ _ tn1 loop)
  ·cases hb
 ·cases hb
end
end HP
namespace HP
open PySem PySem.Spec PyProof.Rows L2
variable[FX]
def ZtJ(d:PyData):Option (List PyData):=some [d]
theorem Zws(c:HM.TF)(e:HM.EF)(r:HM.Env):∀xs,HM.Zaq c e r xs=goG ZtJ c e r xs
 | []=>rfl
 | x::xs=>by unfold HM.Zaq goG;rw[Zws c e r xs];rfl
theorem Zqo(i:HM.IF)(c:HM.TF)(e:HM.EF):HM.ZC i c e=Zhy ZtJ i c e:=by
 funext r
 unfold HM.ZC Zhy;cases i r with
 | none=>rfl
 | some xs=>dsimp only; rw[Zws]
section
variable{X:Cx}{N:List Str}{scope:Scope}{x x2:Str}{px px2 pt:Pos}{kt:Nat}
theorem Zr3(T:Zfi X N scope [x])(cl:List (Str × Addr))(C:Addr)(s₀:Shared)(H₀:Hp)(ex:List Addr):Zk8 (Zai X N scope cl C s₀ H₀ ex) 1 (.Name x px) ZtJ:=by
 intro pins s σ sv H F d ys xv u hsv I r sub q hd;cases hd;have hx:=T.loc x (ZyY.mpr rfl);refine thn (Zqw (X:=Zai X N scope cl C s₀ H₀ ex) (i:=0) T.nd (T.first 0 x rfl) (.inl (lookup_relabel_local hx)) (.inr (lookup_relabel_local hx)) _ s _ H xv u (λσ' H'=>σ'=(sv++σ).set 0 (some xv)/\H'=H) I r ⟨rfl,rfl⟩) λ_ s' ⟨σ',H',I',e1,e2⟩=>?_
 subst e1 e2;refine⟨[xv],rfl,?_,.one q⟩;cases sv with
 | nil=>simp at hsv
 | cons a sv=>cases sv with
  | nil=>exact I'
  | cons _ _=>simp at hsv
def Zso(kinds:Str->Option NameKind)(XN N:List Str)(names:List (Str × NameKind))(fr:List Str):Bool :=
 names.all (λy=>y.2 != .cell)&&names.all (λy=>y.2 != .local||names.lookup y.1==some .local)&&fr.all (λx=>names.lookup x==some .local)&&(ZyP fr.length).all (λi=>N[i]?==fr[i]?)&&decide N.Nodup&&N.length==XN.length+fr.length &&
 names.all (λy=>y.2 != .free||kinds y.1==some .cell||kinds y.1==some .free) &&
 (ZyP (N.length-fr.length)).all (λi=>match N[i+fr.length]? with
  | some y=>(names.lookup y != some .free||XN[i]?==some y)&&(names.lookup y==some .free||(names.lookup y != some .local&&names.lookup y != some .cell))
  | none=>true)
theorem ZK{X:Cx}{N XN:List Str}{scope sc:Scope}{fr:List Str}(hs:X.env.scope=sc:=by rfl)(hN:X.N=XN:=by rfl)(hk:scope.kind=.function:=by rfl)(h:Zso (λy=>sc.names.lookup y) XN N scope.names fr=true:=by decide +kernel):Zfi X N scope fr:=by
 subst hN;unfold Zso at h;simp only[Zy5,ZyR,Zzt,bne_iff_ne,beq_iff_eq,decide_eq_true_eq]at h;obtain⟨⟨⟨⟨⟨⟨⟨h1,h2⟩,h3⟩,h4⟩,h5⟩,h6⟩,h7⟩,h8⟩:=h;have at_:∀(i:Nat) (y:Str),N[i+fr.length]?=some y->(scope.names.lookup y≠some .free\/X.N[i]?=some y)/\(scope.names.lookup y=some .free\/(scope.names.lookup y≠some .local/\scope.names.lookup y≠some .cell)):=λi y e=>by have hi:i+fr.length<N.length:=(ZyZ.mp e).1;have:=h8 i (Zy7.mpr (by omega));rw[e]at this;simpa only[Zy5,Zzt,bne_iff_ne,beq_iff_eq]using this
 refine⟨hk,h1,λy hy e=>(h2 y hy).resolve_left (λz=>z e),h3,λi x e=>?_,h5,h6,λy hy e=>?_,λi y e q=>(at_ i y e).1.resolve_left (λz=>z q),λi y e v=>?_⟩
 ·rw[h4 i (Zy7.mpr (ZyZ.mp e).1)]
  exact e
 ·have:=h7 y hy
  rw[show X.env.kindOf y.1=sc.names.lookup y.1 by rw[<-hs]; rfl];rcases this with(z | z) | z
  ·exact absurd e z
  ·exact .inl z
  ·exact .inr z
 ·rcases(at_ i y e).2 with z | ⟨z1,z2⟩
  ·exact z
  ·rcases v with v | v | v
   ·exact absurd v z1
   ·exact absurd v z2
   ·exact v
variable{elt iter:Expr}{ifs:List Expr}{pos:Pos}{fi:HM.IF}{fc:HM.TF}{fe:HM.EF}
theorem Zaf(hxe:X.xe=λ_ _=>False)(hcalm:X.calm=true)(T:Zfi X N scope [x])(hi:XI X (.Name x px) iter fi)(hc:∀cl C s H ex,XTs (Zai X N scope cl C s H ex) ifs fc)(he:∀cl C s H ex,XE (Zai X N scope cl C s H ex) elt fe)
  (hs:∀x,ZA6 iter X.env x=pure x:=by intro _; rfl):XF X (.ListComp elt [⟨.Name x px,iter,ifs,0⟩] scope pos) (HM.ZC fi fc fe):=by
 rw[Zqo];exact Ztb hxe hcalm T (Zr3 T) hi.e hc he hs
theorem Zev(i:Nat){y:Str}{py spos:Pos}(hN:X.N.Nodup)(hxe:X.xe=λ_ _=>False)(hcalm:X.calm=true)(T:Zfi X N scope [x])(hi:XI X (.Name x px) iter fi)(hc:∀cl C s H ex,XTs (Zai X N scope cl C s H ex) ifs fc)(he:∀cl C s H ex,XE (Zai X N scope cl C s H ex) elt fe)
  (hiy:X.N[i]?=some y:=by rfl) (hy:X.env.scope.names.lookup y=some .local:=by rfl) (hsw:ZBq (.ListComp elt [⟨.Name x px,iter,ifs,0⟩] scope pos) (some (.Name y py)) spos.line X.env=pure true:=by rfl)
  (hs:∀x,ZA6 iter X.env x=pure x:=by intro _; rfl):XS X (.Assign [.Name y py] (.ListComp elt [⟨.Name x px,iter,ifs,0⟩] scope pos) spos) (HM.Zaa i (HM.ZC fi fc fe)):=by
 rw[Zqo];exact Zpn i hN hxe hcalm T (Zr3 T) hi.e hc he hiy hy hsw hs
end
end HP
namespace HP
open PySem PySem.Spec PyProof.Rows L2
variable[FX]
section
variable{prog:Program}{w:World}{K:Type}[DecidableEq K]{knd:HeapKind prog w K}{A:Around}{E:Value->Shared->Prop}{s:Shared}
theorem Zl0{d a:Addr}{xs:List (K × Addr × Value)}{k:K}{v:Value}{Q:Value->Shared->Prop}(hu:knd.room A)(hkey:knd.is s.heap k a)(hm:s.heap.DictOfH knd d xs)(hsz:xs.length<=sizeLine)
  (h1:∀p,atKey xs k=some p->Q p.2 { s with toks:=s.toks+knd.draws k })
  (h2:atKey xs k=none->∀h',h'.DictOfH knd d (storedH xs k a v)->ZAL d s.heap h'->Q v { s with heap:=h',toks:=s.toks+knd.draws k }) :
  wpAny (model prog w) A (dictSetDefault d (.ref a) v) Q E s:=by
 obtain⟨o,es,ep,ho,hc,hd,he,his,hn⟩:=hm;unfold dictSetDefault
 try with_reducible refine Zzx ?_
 refine ZyI (knd.pyHash hu hkey ?_);refine ZyI (wpAny_dictFind_heap (s:={ s with toks:=s.toks+knd.draws k }) hu hkey ho hd he his hn ?_ ?_)
 ·intro hno
  have hnot:k ∉ xs.map (·.1):=not_mem_keys_of_get hno;have hnk:=atKey_none_of_get hno;refine ZyI (ZC1 (ZyI (wpAny_updateDictKeys (hz:=by have e:=size_of_entries he; omega) (s:={ s with toks:=s.toks+knd.draws k }) ho hd (ZyM (h2 hnk _ ⟨_,_,ep+1,Zz2 _ ho (Obj.isFreed_of_dict (Obj.data_mapDictKeys hd _)),
   hc.mapDictKeys _,Obj.data_mapDictKeys hd _,?_,?_,?_⟩ (Zz1 ..))))))
  ·rw[storedH_new hnk]
   simp[he,entryOfKey]
  ·rw[storedH_new hnk]
   intro x hx;rcases Zzp.mp hx with hx | hx
   ·exact knd.keeps (his x hx) ho hd (Zz1 ..)
   ·simp only[ZyY]at hx
    subst hx;exact knd.keeps hkey ho hd (Zz1 ..)
  ·rw[storedH_new hnk]
   rw[Zzq,ZAR];refine⟨hn,by simp,?_⟩;intro x hx y hy;simp only[ZyS,ZAN,ZyY]at hy;subst hy;exact λe=>hnot (e▸hx)
 ·intro j p hj
  refine ZyI (ZBx (s:={ s with toks:=s.toks+knd.draws k }) ho hd ?_);rw[entry_at he j,hj];exact ZyI (ZC1 (ZyM (h1 p (atKey_of_get hn hj))))
theorem ZjR(d a:Addr)(hd:(d==Zz8)=false)(dflt:Value) :
  MeetsIn prog w (Builtin.«dict.setdefault» ⟨[.ref d,.ref a,dflt],[]⟩) (λA R s=>knd.room A.in1/\∃k xs,knd.is s.heap k a/\s.heap.DictOfH knd d xs/\xs.length<=sizeLine /\
   (∀p,atKey xs k=some p->R (.ok (.ret p.2)) { s with toks:=s.toks+knd.draws k }) /\
   (atKey xs k=none->∀h',h'.DictOfH knd d (storedH xs k a dflt)->ZAL d s.heap h'->R (.ok (.ret dflt)) { s with heap:=h',toks:=s.toks+knd.draws k })) :=
 .of_wp λA R s ⟨hu,k,xs,hkey,hm,hz,h1,h2⟩=>by unfold Builtin.«dict.setdefault»;refine ZyI ?_;unfold Builtin.Dict.keyAndDefault;refine ZyI (wpAny_notOrdered_dict hm.typeIs ?_);show wpAny _ _ (pure (d,ZzW a,some dflt)) _ _ s;refine ZyM ?_;show wpAny _ _ (if(d==Zz8)=true then _ else(dictSetDefault d (.ref a) dflt >>= _)) _ _ s;rw[if_neg (by rw[hd]; exact ZzA)];exact ZyI (Zl0 hu hkey hm hz (λp hp=>ZyM ⟨p.2,rfl,h1 p hp⟩) λhn h' hm' hs'=>ZyM ⟨dflt,rfl,h2 hn h' hm' hs'⟩)
end
section
variable{X:Cx}{pins:List (Addr × Obj)}{σ:L2.St}{H:Hp}{s:Shared}{a b:Addr}{z:V}{r:Value}{A:Around}{E:Value->Shared->Prop}{kvs:List (List Key × V)}{k:List Key}
theorem Zv4{Q:Value->Shared->Prop}(hu:A.units+1<cLine)(I:Inv X pins σ H s)(e:H a=some (.dT kvs))(eb:H b=some (.tup (k.map kV)))(hl:kvs.length<sizeLine)(rz:RelV z r)
  (h1:∀v,ZaR kvs k=some v->∀w' s',Inv X pins σ H s'->RelV v w'->Q w' s') (h2:ZaR kvs k=none->∀s',Inv X pins σ (upd H a (.dT (kvs++[(k,z)]))) s'->Q r s') :
  wpAny (model X.prog X.w) A (call (.builtin "dict.setdefault") [.ref a,.ref b,r]) Q E s:=by
 obtain⟨zz,hd,xs,rel,dd⟩:=Zuo I.hok e;have hz:xs.length<=sizeLine:=by rw[<-ZAS rel]; exact zz
 have hv:=rel.val k;refine call_meetsIn ZCx dd.typeIs PySem.F.entry_dict_setdefault (PySem.F.args_dict_setdefault_3 _ _ _) (ZjR (knd:=ZCe (ZaN X.prog X.w)) a b hd r) ⟨ZBs hu,k,xs,Zhz I.hok eb,dd,hz,λp hp=>?_,λhn h' dd' hs=>?_⟩
 ·rw[hp]at hv
  cases hvv:ZaR kvs k with
  | none=>rw[hvv]at hv; exact hv.elim
  | some v=>rw[hvv]at hv; exact h1 v hvv _ _ (I.tok _) hv
 ·rw[hn]at hv
  have hvv:ZaR kvs k=none:=by
   cases hvv:ZaR kvs k with
   | none=>rfl
   | some v=>rw[hvv]at hv; exact hv.elim
  refine h2 hvv _ ?_;have hp:=rel.put k eb rz;have epk:putK kvs k z=kvs++[(k,z)]:=by unfold putK;rw[if_neg];rw[Zkn,hvv];simp
  rw[epk]at hp;obtain⟨q,es,ep,hq,g2,g3,g4,_,g5⟩:=dd';refine ZjH I (by rw[e]; exact ZBU) hs ⟨q,hq⟩ ⟨by rw[Zy8]; exact hl,hd,_,hp.keeps λc ys ec=>?_,q,es,ep,hq,g2,g3,g4,g5⟩;rw[ZE (Zur ec e (λz=>nomatch z))];exact ec
end
def ZxU(td ty tx:TE):TE:=λσ H Q=>td σ H λx H1=>∃a,x=.ref a/\IsD H1 a/\ty σ H1 λy H2=>tx σ H2 λz H3=>∃kvs k b,H3 a=some (.dT kvs)/\y=.ref b/\H3 b=some (.tup (k.map kV))/\kvs.length<sizeLine /\
 (∀v,ZaR kvs k=some v->Q v H3)/\(ZaR kvs k=none->Q z (upd H3 a (.dT (kvs++[(k,z)]))))
section
variable{X:Cx}{o e f:Expr}{apos cpos:Pos}{td ty tx:TE}
theorem ZwI(hu:X.A.units+1<cLine)(ho:PE X o td)(he:PE X e ty)(hf:PE X f tx)(m:M2 X o "setdefault" apos e f cpos):PE X (.Call (.Attribute o "setdefault" apos) [e,f] [] cpos) (ZxU td ty tx):=by intro pins s σ H Q I h;refine wpAny_Call_method m.base m.few m.line PySem.F.plainAttrs_dict ZCx PySem.F.type_dict_setdefault (thn (ho pins s σ H _ I h) λu s1 ⟨x,H1,I1,rx,a,ex,d,q1⟩=>?_);subst ex;obtain rfl:u=ZzW a:=rx;obtain⟨t1,t2,_⟩:=ZvN I1 d;refine⟨t1,t2,?_⟩;rw[m.trees];refine ZB5 rfl (ZDI (ZCE (thn (he pins s1 σ H1 _ I1 q1) λiv s2 ⟨y,H2,I2,ry,q2⟩=>ZCE (thn (hf pins s2 σ H2 _ I2 q2) λfv s3 ⟨z,H3,I3,rz,kvs,k,b,ea,ey,eb,hl,q3,q4⟩=>Calls.spliced_nil ?_))));subst ey;obtain rfl:iv=ZzW b:=ry;exact Zv4 hu I3 ea eb hl rz (λv hv w' s4 I4 rw'=>⟨v,H3,I4,rw',q3 v hv⟩) λhn s4 I4=>⟨z,_,I4,rz,q4 hn⟩
end
def OT(K:ZyK)(F H:Hp)(kvs:List (List Key × List PyData))(vvs:List (List Key × V))(ls:List Addr):Prop:=kvs.map (·.1)=vvs.map (·.1)/\vvs.map (·.2)=ls.map V.ref /\
 ∀(i:Nat) (ds:List PyData) (l:Addr),(kvs.map (·.2))[i]?=some ds->ls[i]?=some l->∃vs,H l=some (.lst vs)/\Zs K F ds vs
section
variable{K:ZyK}{F F' H H':Hp}{kvs:List (List Key × List PyData)}{vvs:List (List Key × V)}{ls:List Addr}
theorem OT.len(q:OT K F H kvs vvs ls):kvs.length=ls.length/\kvs.length=vvs.length:=by have e1:=congrArg Zzw q.1;have e2:=congrArg Zzw q.2.1;rw[ZyJ,ZyJ]at e1 e2;omega
theorem OT.mono(q:OT K F H kvs vvs ls)(s:Zr F F')(k:∀a∈ls,∀o,H a=some o->H' a=some o):OT K F' H' kvs vvs ls :=
 ⟨q.1,q.2.1,λi ds l h1 h2=>let ⟨vs,q1,q2⟩:=q.2.2 i ds l h1 h2; ⟨vs,k l (Zzj h2) _ q1,q2.mono s⟩⟩
theorem OT.snoc(q:OT K F H kvs vvs ls)(k:List Key){p:Addr}(hp:H p=some (.lst [])):OT K F H (kvs++[(k,[])]) (vvs++[(k,.ref p)]) (ls++[p]):=by
 refine⟨by rw[Zzq,Zzq,q.1]; rfl,by rw[Zzq,Zzq,q.2.1]; rfl,λi ds l h1 h2=>?_⟩;have hl:=q.len;rw[Zzq]at h1
 by_cases hi:i<kvs.length
 ·rw[ZzK (by rw[ZyJ]; exact hi)]at h1
  rw[ZzK (by omega)]at h2;exact q.2.2 i ds l h1 h2
 ·rw[ZzE (by rw[ZyJ]; omega),ZyJ]at h1
  rw[ZzE (by omega),<-hl.1]at h2;cases hj:i-kvs.length with
  | zero=>rw[hj]at h1 h2;cases h1; cases h2;exact⟨[],hp,.nil⟩
  | succ j=>rw[hj]at h1; cases h1
theorem OT.look(q:OT K F H kvs vvs ls)(k:List Key):(∀ds,HM.Zm kvs k=some ds->∃l' vs,ZaR vvs k=some (.ref l')/\l'∈ls/\H l'=some (.lst vs)/\Zs K F ds vs)/\(HM.Zm kvs k=none->ZaR vvs k=none):=Zkm k kvs vvs ls q.1 q.2.1 q.2.2
theorem OT.app(k:List Key){d:PyData}{v:V}:∀{kvs:List (List Key × List PyData)} {vvs:List (List Key × V)} {ls:List Addr},OT K F H kvs vvs ls->ls.Nodup->Rep K F d v->∀{l':Addr} {vs:List V},ZaR vvs k=some (.ref l')->H l'=some (.lst vs) ->
  OT K F (upd H l' (.lst (vs++[v]))) (HM.ZdY kvs k d) vvs ls
 | [],[],_,q,_,_,l',vs,hv,_=>by cases hv
 | [],_::_,_,q,_,_,_,_,_,_=>by have:=q.len; simp at this
 | _::_,[],_,q,_,_,_,_,_,_=>by have:=q.len; simp at this
 | _::_,_::_,[],q,_,_,_,_,_,_=>by have:=q.len; simp at this
 | (k1,ds1)::kvs,(k2,v2)::vvs,l1::ls,q,nd,rd,l',vs,hv,hl=>by
  obtain⟨q1,q2,q3⟩:=q;rw[ZyS,ZyS]at q1 q2;injection q1 with e1 e2
  injection q2 with e3 e4
  have e1:k1=k2:=e1;have e3:v2=.ref l1:=e3;subst e1 e3;have rest:OT K F H kvs vvs ls:=⟨e2,e4,λi ds l h1 h2=>q3 (i+1) ds l (by simpa using h1) (by simpa using h2)⟩;obtain⟨n1,n2⟩:=ZzB.mp nd;obtain⟨us,f1,f2⟩:=q3 0 ds1 l1 rfl rfl;unfold HM.ZdY
  by_cases hk:k1=k
  ·rw[if_pos hk]
   rw[Zeh (p:=(k1,V.ref l1)) hk]at hv;cases hv;rw[hl]at f1;cases f1;refine⟨by rw[ZyS,ZyS,e2],by rw[ZyS,ZyS,e4],λi ds l h1 h2=>?_⟩;cases i with
   | zero=>cases h1; cases h2;exact⟨_,ZH,f2.append (.one rd)⟩
   | succ i=>rw[ZyS,Zzv]at h1;rw[Zzv]at h2;obtain⟨us,g1,g2⟩:=rest.2.2 i ds l h1 h2;exact⟨us,by rw[ZE (λz=>n1 (by rw[<-z]; exact Zzj h2))]; exact g1,g2⟩
  ·rw[if_neg hk]
   rw[Zee (p:=(k1,V.ref l1)) hk]at hv;have ih:=OT.app k rest n2 rd hv hl;have hne:l1≠l':=by
    rintro rfl
    have:∀(vvs:List (List Key × V)) (ls:List Addr),vvs.map (·.2)=ls.map V.ref->∀l',ZaR vvs k=some (.ref l')->l'∈ls:=by
     intro vvs
     induction vvs with
     | nil=>intro ls _ l' h; cases h
     | cons p vvs ih =>
      intro ls he l' h;cases ls with
      | nil=>simp at he
      | cons l ls =>
       rw[ZyS,ZyS]at he;injection he with he1 he2
       by_cases hp:p.1=k
       ·rw[Zeh hp]at h
        rw[he1]at h;cases h;exact ZyO
       ·rw[Zee hp]at h
        exact ZyQ _ (ih ls he2 l' h)
    exact n1 (this vvs ls e4 _ hv)
   refine⟨by rw[ZyS,ZyS,ih.1],by rw[ZyS,ZyS,e4],λi ds l h1 h2=>?_⟩;cases i with
   | zero=>cases h1; cases h2;exact⟨us,by rw[ZE hne]; exact f1,f2⟩
   | succ i=>rw[ZyS,Zzv]at h1;rw[Zzv]at h2;exact ih.2.2 i ds l h1 h2
end
theorem Zbr.otl{K:ZyK}{F0 H0 F H:Hp}{r:HM.Env}{σ:L2.St}{fp:Nat->List Addr}{i:Nat}{kvs:List (List Key × List PyData)}(e:Zbr K F0 H0 F H r σ fp)(h:r[i]?=some (some (.otl kvs))) :
  ∃a vvs ls,σ[i]?=some (some (.ref a))/\H a=some (.dT vvs)/\OT K F H kvs vvs ls/\fp i=a::ls:=by
 obtain⟨v,h1,h2⟩:=e.at_ i _ h;generalize hf:fp i=q at h2;cases h2 with
 | otl k1 k2 k3 k4=>exact⟨_,_,_,h1,k1,⟨k2,k3,k4⟩,rfl⟩
theorem Zbr.otlNew{K:ZyK}{F0 H0 Fb Hb F H:Hp}{r:HM.Env}{σ:L2.St}{fp:Nat->List Addr}{i:Nat}{kvs:List (List Key × List PyData)}{p:Addr}(k:List Key)(eb:Zbr K F0 H0 Fb Hb r σ fp)(x:Ext Fb Hb F H)(h:r[i]?=some (some (.otl kvs)))(hp:H p=some (.lst []))(hF:F p=none)(hb:Hb p=none) :
  ∃a vvs,σ[i]?=some (some (.ref a))/\H a=some (.dT vvs)/\vvs.length=kvs.length/\(HM.Zm kvs k=none->ZaR vvs k=none)/\At K F0 H0 F (upd H a (.dT (vvs++[(k,.ref p)]))) (r.set i (some (.otl (kvs++[(k,[])])))) σ:=by
 have e:=eb.grow x;obtain⟨a,vvs,ls,h1,h2,h3,h4⟩:=e.otl h;have hpn:∀j,p ∉ fp j:=λj hj=>by obtain⟨o,ho⟩:=eb.there hj;rw[hb]at ho; cases ho
 have hpa:p≠a:=λz=>hpn i (by rw[h4,z]; exact ZyO);have hal:a ∉ ls:=(ZzB.mp (h4▸e.nd i)).1;have nl:ls.Nodup:=(ZzB.mp (h4▸e.nd i)).2;have hpl:p ∉ ls:=λz=>hpn i (by rw[h4]; exact ZyQ _ z);refine⟨a,vvs,h1,h2,h3.len.2.symm,(h3.look k).2,?_⟩;have q:=h3.snoc k hp;have q':OT K F (upd H a (.dT (vvs++[(k,.ref p)]))) (kvs++[(k,[])]) (vvs++[(k,.ref p)]) (ls++[p]):=q.mono (Zr.refl F) λc hc o z=>by
  rw[ZE]
  ·exact z
  ·rintro rfl
   rcases Zzp.mp hc with hc | hc
   ·exact hal hc
   ·exact hpa (ZyY.mp hc).symm
 have nd':(a::(ls++[p])).Nodup:=by
  refine ZzB.mpr ⟨?_,?_⟩
  ·intro z
   rcases Zzp.mp z with z | z
   ·exact hal z
   ·exact hpa (ZyY.mp z).symm
  ·rw[ZAR]
   refine⟨nl,by simp,λx hx y hy=>?_⟩;obtain rfl:y=p:=by simpa using hy
   rintro rfl
   exact hpl hx
 refine e.changeW h1 (fp':=a::(ls++[p])) (.otl ZH q'.1 q'.2.1 q'.2.2) nd' (λc hc=>?_) λc o z hn=>?_
 ·rcases Zzb.mp hc with z | z
  ·subst z; exact .inl (by rw[h4]; exact ZyO)
  ·rcases Zzp.mp z with z | z
   ·exact .inl (by rw[h4]; exact ZyQ _ z)
   ·obtain rfl:c=p:=ZyY.mp z
    exact .inr ⟨hF,eb.ext.hh.free hb,hpn⟩
 ·rw[ZE (λy=>hn (by rw[h4,y]; exact ZyO))]
  exact z
theorem At.otlApp{K:ZyK}{F0 H0 F H:Hp}{r:HM.Env}{σ:L2.St}{i:Nat}{kvs:List (List Key × List PyData)}{ds:List PyData}(k:List Key)(e:At K F0 H0 F H r σ)(h:r[i]?=some (some (.otl kvs)))(hd:HM.Zm kvs k=some ds) :
  ∃a vvs l vs,σ[i]?=some (some (.ref a))/\H a=some (.dT vvs)/\ZaR vvs k=some (.ref l)/\H l=some (.lst vs)/\Zs K F ds vs/\∀d v,Rep K F d v->At K F0 H0 F (upd H l (.lst (vs++[v]))) (r.set i (some (.otl (HM.ZdY kvs k d)))) σ:=by
 obtain⟨fp,e⟩:=e;obtain⟨a,vvs,ls,h1,h2,h3,h4⟩:=e.otl h;obtain⟨l,vs,g1,g2,g3,g4⟩:=(h3.look k).1 ds hd;have hal:a ∉ ls:=(ZzB.mp (h4▸e.nd i)).1;have nl:ls.Nodup:=(ZzB.mp (h4▸e.nd i)).2;have hne:a≠l:=λz=>hal (by rw[z]; exact g2);refine⟨a,vvs,l,vs,h1,h2,g1,g3,g4,λd v rd=>?_⟩;have q:=h3.app k nl rd g1 g3;refine e.change h1 (fp':=a::ls) (.otl (by rw[ZE hne]; exact h2) q.1 q.2.1 q.2.2) (h4▸e.nd i) (λc hc=>.inl (by rw[h4]; exact hc)) λc o z hn=>?_;rw[ZE (λy=>hn (by rw[h4,y]; exact ZyQ _ g2))];exact z
section
variable{X:Cx}{a b c e:Expr}{fa fb fc:HM.EF}{pos p:Pos}{f:HM.BF}
theorem ZsR{k:List Key}{kvs:List (List Key × List PyData)}{ds:List PyData}(h:HM.Zm kvs k=some ds):HM.ZcL kvs k=kvs:=by unfold HM.ZcL; rw[h]
theorem Zs8{k:List Key}{kvs:List (List Key × List PyData)}(h:HM.Zm kvs k=none):HM.ZcL kvs k=kvs++[(k,[])]:=by unfold HM.ZcL; rw[h]
theorem Ztc(hu:X.A.units+1<cLine)(i:Nat){x:Str}{p0 p1 p2 p3 p4 p5:Pos}(hk:XE X b fb)(ha:XE X a fa)(m:M2 X (.Name x p0) "setdefault" p1 b (.List [] p2) p3)(hN:X.N[i]?=some x:=by rfl)(hv:Vis X.env.scope x:=by first | exact ZzO rfl | exact Zzi (ZzO rfl) | exact Zzi (Zzi rfl))(hd:(x==("__debug__":Str))=false:=by decide)(hcd:(x==("__classdict__":Str))=false:=by decide)
  (hbase:ZBp (.Call (.Attribute (.Name x p0) "setdefault" p1) [b,.List [] p2] [] p3) "append" X.env (eval (.Call (.Attribute (.Name x p0) "setdefault" p1) [b,.List [] p2] [] p3) X.env)=eval (.Call (.Attribute (.Name x p0) "setdefault" p1) [b,.List [] p2] [] p3) X.env:=by rfl)
  (hfew:((backTo p5 (Zy0 [a] X.env)).all (λx=>!x.1)&&(backToKw p5 (ZCB [] X.env)).all (λx=>x.1.isSome)&&decide (([a]:List Expr).length+([]:List Keyword).length+(if([]:List Keyword).isEmpty then 0 else 1)<30))=true:=by rfl)
  (hline:(p4.endLine==p5.line)=true:=by rfl) (hs:Zy0 [a] X.env=[(false,eval a X.env)]:=by rfl):XS X (.Expr (.Call (.Attribute (.Call (.Attribute (.Name x p0) "setdefault" p1) [b,.List [] p2] [] p3) "append" p4) [a] [] p5) pos) (HM.Zoj i fb fa):=by
 intro r o h;unfold HM.Zoj at h;split at h
 ·rename_i y hy
  split at h
  ·rename_i kvs hb
   split at h
   ·rename_i k hk'
    split at h
    ·rename_i hzz
     split at h
     ·rename_i d hd'
      split at h
      ·rename_i ds hds
       split at h
       ·rename_i hz
        cases h;have hi:i<r.length:=(ZyZ.mp hb).1;have hb':(r.set i (some (.otl (HM.ZcL kvs k))))[i]?=some (some (.otl (HM.ZcL kvs k))):=ZzL hi;refine PS.imp (ZjE (Zrv ZBm ZC7 ZC8 Zi8 (ZwI hu (ZcQ hN hv hd hcd) (hk r y hy) (Zcp (X:=X) Zi (by simp) r (.ol []) rfl) m) (ZaI (ha _ d hd') Zcg hs) hbase hfew hline hs rfl)) λE σ H ⟨F0,H0,F,at_,kk⟩=>?_;have fin:∀{F3 H3:Hp} {l:Addr},At X.K F0 H0 F3 H3 (r.set i (some (.otl (HM.ZcL kvs k)))) σ->(∃vs,SqL X.K H3 l vs)->(∀a' vvs',σ[i]?=some (some (.ref a'))->H3 a'=some (.dT vvs')->ZaR vvs' k=some (.ref l)) ->
          tyV X.K "list" (.ref l) H3/\Now X.K (r.set i (some (.otl (HM.ZcL kvs k)))) σ H3 λF0 H0 F=>∀v F' H',Ext F H3 F' H'->Rep X.K F' d v->Zqh (.ref l) [v] H' λ_ H'=>E.nx σ H':=by
         intro F3 H3 l at3 hl hat;refine⟨.inl ⟨rfl,hl⟩,F0,H0,F3,at3,λv F4 H4 x4 r4=>?_⟩;obtain⟨aa',vvs',l',vs',g1,g2,g3,g4,g5,g6⟩:=(at3.grow x4).otlApp k hb' hds;obtain⟨aa2,vvs2,l2,vs2,f1,f2,f3,_⟩:=at3.otlApp k hb' hds;rw[f1]at g1;cases g1;rw[x4.hh _ _ f2]at g2;cases g2;rw[hat _ _ f1 f2]at g3;cases g3;have g7:=g6 d v r4;rw[ZCj]at g7;refine⟨_,vs',v,rfl,rfl,g4,?_,kk _ F4 _ g7⟩;rw[<-g5.1];exact Zhv hz
        obtain⟨fq,eb⟩:=at_;obtain⟨aa,vvs,ls,e1,e2,e3,e4⟩:=eb.otl hb;refine⟨.ref aa,e1,aa,rfl,.inr ⟨vvs,.inl e2⟩,F0,H0,F,⟨fq,eb⟩,λw F1 H1 x1 r1=>⟨F0,H0,F1,At.grow ⟨fq,eb⟩ x1,λv F2 H2 x2 ⟨fp,r2,nd,hn⟩=>?_⟩⟩;obtain⟨bb,rfl,hbb⟩:=Zdz hk' r1;have x12:=x1.trans x2;have hz0:vvs.length<sizeLine:=by rw[<-e3.len.2]; exact Zhv hzz
        refine⟨vvs,k,bb,x12.hh _ _ e2,rfl,x2.hh _ _ (x1.sub _ _ hbb),hz0,λu hu'=>?_,λhno=>?_⟩
        ·have hls:∃ds0,HM.Zm kvs k=some ds0:=by
          cases hq:HM.Zm kvs k with
          | some ds0=>exact⟨ds0,rfl⟩
          | none=>rw[(e3.look k).2 hq]at hu'; cases hu'
         obtain⟨ds0,hls⟩:=hls;have ead:=ZsR hls;obtain⟨l0,vs0,q1,q2,q3,q4⟩:=(e3.look k).1 ds0 hls;rw[q1]at hu';cases hu';refine fin (F3:=F2) ?_ ⟨vs0,SqL.of (x12.hh _ _ q3)⟩ λa' vvs' z1 z2=>?_
         ·rw[ead]
          have:r.set i (some (.otl kvs))=r:=by obtain⟨h1,h2⟩:=ZyZ.mp hb;rw[<-h2];exact ZBA h1
          rw[this];exact At.grow ⟨fq,eb⟩ x12
         ·rw[e1]at z1
          cases z1;rw[x12.hh _ _ e2]at z2;cases z2;exact q1
        ·have hls:HM.Zm kvs k=none:=by
          cases hq:HM.Zm kvs k with
          | none=>rfl
          | some ds0=>obtain⟨l0,vs0,q1,_⟩:=(e3.look k).1 ds0 hq;rw[hno]at q1; cases q1
         have ead:=Zs8 hls;cases r2 with
         | @ol l _ vs hl1 rs =>
          obtain rfl:vs=[]:=rs.nil_inv;have hHl:H l=none:=x1.hh.free (hn l (by simp)).2;obtain⟨aa2,vvs2,g1,g2,g3,g4,g5⟩:=eb.otlNew k x12 hb hl1 (hn l (by simp)).1 hHl;rw[e1]at g1;cases g1;rw[x12.hh _ _ e2]at g2;cases g2;have hne:l≠aa:=λz=>by rw[z,e2]at hHl; cases hHl
          refine fin (F3:=F2) (by rw[ead]; exact g5) ⟨[],SqL.of (by rw[ZE hne]; exact hl1)⟩ λa' vvs' z1 z2=>?_;rw[e1]at z1;cases z1;rw[ZH]at z2;cases z2;unfold ZaR at hno ⊢;rw[Option.map_eq_none_iff]at hno;rw[ZB1,hno];simp
       ·cases h
      ·cases h
     ·cases h
    ·cases h
   ·cases h
  ·cases h
 ·cases h
end
end HP
namespace HP
open PySem PyProof.Rows
def ZeR(xs:Array Nat):Prop:=xs.toList.Pairwise (· < ·)
theorem ZeR.lt{xs:Array Nat}(h:ZeR xs){i k:Nat}(hk:k<xs.size)(hik:i<k):xs.getD i 0<xs.getD k 0:=by have:=ZBR.mp h i k (by simpa using ZAO hik hk) (by simpa using hk) hik;simpa [ZAE,hk,ZAO hik hk]using this
theorem Zkj{xs:Array Nat}(h:ZeR xs)(j:Nat):∀(fuel lo hi:Nat),lo<=hi->hi<=xs.size->hi-lo<=fuel->(∀i,i<lo->xs.getD i 0<j)->(∀i,hi<=i->i<xs.size->j<=xs.getD i 0) ->
  ZB2 xs j fuel lo hi<=xs.size/\(∀i,i<ZB2 xs j fuel lo hi->xs.getD i 0<j)/\∀i,ZB2 xs j fuel lo hi<=i->i<xs.size->j<=xs.getD i 0
 | 0,lo,hi,h1,h2,h3,a,b=>by
  obtain rfl:lo=hi:=by omega
  exact⟨h2,a,b⟩
 | fuel+1,lo,hi,h1,h2,h3,a,b=>by
  unfold ZB2;split
  ·rename_i hlt
   have hm:(lo+hi) / 2<xs.size:=by omega
   have e:xs.getD ((lo+hi) / 2) j=xs.getD ((lo+hi) / 2) 0:=by simp[ZAE,hm]
   dsimp only;rw[e]
   by_cases q:xs.getD ((lo+hi) / 2) 0<j
   ·rw[if_pos q]
    refine Zkj h j fuel ((lo+hi) / 2+1) hi (by omega) h2 (by omega) (λi hi'=>?_) b
    by_cases c:i=(lo+hi) / 2
    ·rw[c]; exact q
    ·exact ZAO (h.lt hm (by omega)) q
   ·rw[if_neg q]
    refine Zkj h j fuel lo ((lo+hi) / 2) (by omega) (by omega) (by omega) a (λi hi' hs=>?_)
    by_cases c:i=(lo+hi) / 2
    ·rw[c]; omega
    ·have:=h.lt hs (show(lo+hi) / 2<i by omega); omega
  ·obtain rfl:lo=hi:=by omega
   exact⟨h2,a,b⟩
theorem ZfU{xs:Array Nat}(h:ZeR xs)(j:Nat):ZyW xs j<=xs.size/\(∀i,i<ZyW xs j->xs.getD i 0<j)/\∀i,ZyW xs j<=i->i<xs.size->j<=xs.getD i 0 :=
 Zkj h j xs.size 0 xs.size (ZzN _) (ZyT _) (by omega) (λi hi=>by omega) λi h1 h2=>by omega
theorem Zq8{xs:Array Nat}(h:ZeR xs){i:Nat}(hi:i<xs.size):ZyW xs (xs.getD i 0+1)=i+1:=by
 obtain⟨a,b,c⟩:=ZfU h (xs.getD i 0+1);apply Nat.le_antisymm
 ·apply ZBH
  intro q;have h1:=b (i+1) q;have h2:=h.lt (show i+1<xs.size by omega) (ZBf i);omega
 ·apply ZBH
  intro q;have h1:=c (ZyW xs (xs.getD i 0+1)) (ZyT _) (by omega)
  by_cases e:ZyW xs (xs.getD i 0+1)=i
  ·rw[e]at h1; omega
  ·have:=h.lt hi (show ZyW xs (xs.getD i 0+1)<i by omega); omega
theorem Zq2{xs:Array Nat}(h:ZeR xs):ZyW xs 0=0:=by obtain⟨a,b,c⟩:=ZfU h 0;apply Nat.eq_zero_of_not_pos;intro q;have:=b 0 q;omega
theorem Zj6{xs:Array Nat}(h:ZeR xs){j:Nat}(hn:xs[ZyW xs j]?≠some j):ZeR (Zzg xs (ZyW xs j) j):=by
 obtain⟨a,b,c⟩:=ZfU h j;unfold ZeR;rw[ZBT];have gt:∀i,ZyW xs j<=i->i<xs.size->j<xs.getD i 0:=by
  intro i h1 h2
  by_cases e:ZyW xs j=i
  ·subst e
   have h3:=c _ h1 h2;have:xs.getD (ZyW xs j) 0≠j:=λq=>hn (by
    have z:xs[ZyW xs j]?=some (xs.getD (ZyW xs j) 0):=by simp[ZAE,h2]
    rw[z,q])
   omega
  ·have h3:=h.lt h2 (show ZyW xs j<i by omega)
   have h4:=c _ (ZyT _) (show ZyW xs j<xs.size by omega);omega
 rw[ZCn];refine⟨h.sublist (List.take_sublist ..),ZzJ.mpr ⟨λx hx=>?_,h.sublist (List.drop_sublist ..)⟩,λx hx y hy=>?_⟩
 ·obtain⟨i,hi,rfl⟩:=ZCt hx
  rw[ZBd,Zze]at hi;rw[List.getElem_drop];have:=gt (ZyW xs j+i) (by omega) (by omega);simpa [ZAE,show ZyW xs j+i<xs.size by omega]using this
 ·obtain⟨i,hi,rfl⟩:=ZCt hx
  rw[Zz6,Zze]at hi;rw[List.getElem_take];have h1:=b i (by omega);have h1':xs.toList[i]'(by simp; omega)<j:=by simpa [ZAE,show i<xs.size by omega]using h1
  rcases Zzb.mp hy with e | e
  ·rw[e]; exact h1'
  ·obtain⟨k,hk,rfl⟩:=ZCt e
   rw[ZBd,Zze]at hk;rw[List.getElem_drop];have h2:=gt (ZyW xs j+k) (by omega) (by omega);have h2':j<xs.toList[ZyW xs j+k]'(by simp; omega):=by simpa [ZAE,show ZyW xs j+k<xs.size by omega]using h2
   exact ZAO h1' h2'
theorem has_none(j:Nat):SetTable.has #[] j=false:=by simp[SetTable.has]
structure Tab(b:Bool)(t:SetTable):Prop where
 dum:t.dummies=#[]
 rise:ZeR t.place
 led:t.led=b
 plain:t.plain=true
 low:∀j∈t.place.toList,j<8
 mask:t.mask=if t.place.size<=4 then 7 else 31
theorem Tab.fresh(b:Bool):Tab b (SetTable.fresh 0 0 b):=⟨rfl,.nil,rfl,rfl,λj hj=>by simp[SetTable.fresh]at hj,rfl⟩
theorem Tab.few{b:Bool}{t:SetTable}(h:Tab b t):t.place.size<=8:=by
 have key:∀(l:List Nat) (lo:Nat),l.Pairwise (· < ·)->(∀j∈l,lo<=j/\j<8)->l.length<=8-lo:=by
  intro l
  induction l with
  | nil=>intro lo _ _; simp
  | cons x l ih=>intro lo hp hb;have h1:=hb x (ZyO ..);have h2:=ih (x+1) (ZzJ.mp hp).2 λy hy=>⟨(ZzJ.mp hp).1 y hy,(hb y (ZyQ _ hy)).2⟩;rw[Zy3]; omega
 have:=key t.place.toList 0 h.rise λj hj=>⟨ZzN _,h.low j hj⟩;simpa using this
theorem Zif{b:Bool}{t:SetTable}(h:Tab b t){j:Nat}(hj:j ∉ t.place.toList):t.slot j=.empty/\t.place[ZyW t.place j]?≠some j:=by have q:t.place[ZyW t.place j]?≠some j:=λe=>hj (by rw[<-Zzy]at e;exact Zzj e);unfold SetTable.slot;dsimp only;rw[if_neg (by simpa using q),h.dum,has_none,if_neg (by simp)];exact⟨rfl,q⟩
theorem Zwf{b:Bool}{t:SetTable}(h:Tab b t)(j:Nat):t.put j=({ t with place:=Zzg t.place (ZyW t.place j) j },ZyW t.place j):=by
 unfold SetTable.put;dsimp only;rw[h.dum,has_none];cases t;have:=h.dum
 simp_all
theorem size_insert{α:Type}(xs:Array α)(p:Nat)(x:α):(Zzg xs p x).size=xs.size+1:=by rw[<-Zze,(ZAC xs p x).length_eq];simp
theorem ZwN{b:Bool}{t:SetTable}(h:Tab b t){es:Array (Int × Value)}(he:es.size=t.place.size){j:Nat}(h8:j<8)(hj:j ∉ t.place.toList)(v:Value) :
  layNew t es (j:Int) v=(Zzg es (ZyW t.place j) ((j:Int),v),{ t with place:=Zzg t.place (ZyW t.place j) j },false,false):=by
 obtain⟨e1,e2⟩:=Zif h hj;have hfew:=h.few;have hm:t.mask=7\/t.mask=31:=by rw[h.mask]; split<;>simp
 have hbits:ZDJ (j:Int) % (t.mask+1)=j:=by
  have hb:ZDJ (j:Int)=j:=by unfold ZDJ; omega
  rw[hb];rcases hm with e | e<;>rw[e]<;>omega
 have hfree:t.freeSlot (j:Int)=some (j,false):=by
  unfold SetTable.freeSlot SetTable.probe;have hf:10*ZDA t.mask=(10*ZDA t.mask-1)+1:=by unfold ZDA; omega
  rw[hf];unfold SetTable.probe.go;have hp:(t.probeStart (j:Int)).j=j:=hbits;rw[hp,e1];rfl
 have hle:t.place.size<=7:=by
  apply ZBH;intro q;have h8':t.place.size=8:=by omega
  have:=ZzC (l₁:=j::t.place.toList) (l₂:=ZyP 8) (ZzB.mpr ⟨hj,h.rise.imp λq=>Zzc q⟩) (λx hx=>by
   rcases Zzb.mp hx with e | e
   ·rw[e]; exact Zy7.mpr h8
   ·exact Zy7.mpr (h.low x e))
  simp at this;omega
 have hfit:(ZB9 { t with place:=Zzg t.place (ZyW t.place j) j } (Zzg es (ZyW t.place j) ((j:Int),v)).size)=true:=by unfold ZB9 ZCa;simp only[size_insert,he,h.dum];simp;rw[h.mask];split<;>omega
 unfold layNew;rw[hfree];dsimp only;rw[Zwf h];dsimp only;unfold SetTable.orStandIn;rw[hfit];rfl
theorem Tab.ins{b:Bool}{t:SetTable}(h:Tab b t){j:Nat}(h8:j<8)(hj:j ∉ t.place.toList)(hs:t.place.size≠4):Tab b { t with place:=Zzg t.place (ZyW t.place j) j }:=by
 obtain⟨_,e2⟩:=Zif h hj;refine⟨h.dum,Zj6 h.rise e2,h.led,h.plain,λx hx=>?_,?_⟩
 ·have:=(ZAC t.place (ZyW t.place j) j).mem_iff.mp hx
  rw[ZA8]at this;rcases Zzp.mp this with q | q
  ·exact h.low x q
  ·rw[ZyY.mp q]; exact h8
 ·dsimp only
  rw[size_insert,h.mask];split<;>split<;>omega
def Zly:List (List Nat):=(ZyP 8).flatMap λa=>(ZyP 8).flatMap λb=>(ZyP 8).flatMap λc=>(ZyP 8).flatMap λd=>(ZyP 8).filterMap λe=>if a<b/\b<c/\c<d/\d<e then some [a,b,c,d,e]else none
theorem ZpS{l:List Nat}(h:l.Pairwise (· < ·))(h8:∀j∈l,j<8)(h5:l.length=5):l∈Zly:=by
 match l,h5 with
 | [a,b,c,d,e],_=>simp at h h8;unfold Zly;simp only[ZBg,Zy7,Zzm];refine⟨a,by omega,b,by omega,c,by omega,d,by omega,e,by omega,?_⟩;rw[if_pos (by omega)]
theorem Zww:∀l∈Zly,(SetTable.layClean 31 (l.map λ(n:Nat)=>(n:Int)).toArray).map (λowner=>(ZyP 32).filterMap λj=>(owner.getD j none).map (j,·))=some (l.zip (ZyP 5)):=by decide +kernel
end HP
namespace HP
open PySem PyProof.Rows
def ZeQ(e:Int × Value):Int:=match e.2 with
 | .int n _=>n
 | _=>0
section
variable(prog:Program)(w:World)
def Zow(es:List (Int × Value)):Prop:=∀e∈es,∃n t,e=((intKind prog w).hash n,ZAH n t)
def ZdW(h:Heap)(a:Addr)(L:List Int):Prop:=∃o es ep t,h.get? a=some o/\o.ExactSet/\o.data=.set es ep t/\Zow prog w es.toList/\(es.toList.map ZeQ).Perm L/\es.toList.map ZeQ=t.place.toList.map (λ(j:Nat)=>(j:Int))/\Tab (!w.params.followText "set-order") t
end
section
variable{prog:Program}{w:World}{A:Around}{E:Value->Shared->Prop}{s:Shared}{a:Addr}{L:List Int}
theorem Zow.elems{es:List (Int × Value)}(h:Zow prog w es):ElemsOf (intKind prog w) es:=λe he=>by obtain⟨n,t,rfl⟩:=h e he;exact⟨⟨n,ZC2 _ _ _ _,rfl⟩,rfl⟩
theorem ZdW.at'{h h':Heap}(x:ZdW prog w h a L)(k:∀o,h.get? a=some o->h'.get? a=some o):ZdW prog w h' a L:=let ⟨o,es,ep,t,e,r⟩:=x; ⟨o,es,ep,t,k o e,r⟩
def stp(L:List Int)(n:Int):List Int:=if L.contains n then L else L++[n]
theorem ZsM{k n:Int}{t:Tok}:(intKind prog w).is k (.int n t)=true↔n=k:=by
 constructor
 ·intro h
  exact(intKind prog w).inj _ _ _ (ZC2 _ _ _ _) h
 ·rintro rfl; exact ZC2 _ _ _ _
theorem Zie:∀(j:Nat),j<8->(intKind prog w).hash (j:Int)=(j:Int)
 | 0,_=>rfl
 | 1,_=>rfl
 | 2,_=>rfl
 | 3,_=>rfl
 | 4,_=>rfl
 | 5,_=>rfl
 | 6,_=>rfl
 | 7,_=>rfl
 | n+8,h=>by omega
theorem Tab.fits{b:Bool}{t:SetTable}(h:Tab b t):t.fits t.place.size=true:=by have hf:=h.few;unfold ZB9 ZCa;rw[h.dum,h.mask];simp;split<;>omega
theorem size_of{es:Array (Int × Value)}{t:SetTable}(h:es.toList.map ZeQ=t.place.toList.map (λ(j:Nat)=>(j:Int))):es.size=t.place.size:=by have:=congrArg Zzw h;simpa using this
theorem Zk6{h:Heap}{o:Obj}{es es':Array (Int × Value)}{ep:Nat}{t t':SetTable}(ho:h.get? a=some o)(hex:o.ExactSet)(hd:o.data=.set es ep t)(hel:Zow prog w es'.toList)(hp:(es'.toList.map ZeQ).Perm L)
  (hs:es'.toList.map ZeQ=t'.place.toList.map (λ(j:Nat)=>(j:Int))) (ht:Tab (!w.params.followText "set-order") t') :
  (h.update a (ZBW es' t')).get? a=some { o with data:=.set es' (ep+1) t' }/\ZdW prog w (h.update a (ZBW es' t')) a L:=by
 have hg:(h.update a (ZBW es' t')).get? a=some { o with data:=.set es' (ep+1) t' }:=by
  have:=Zz2 (ZBW es' t') ho (by rw[putSet_of es' t' hd]; rfl)
  rwa [putSet_of es' t' hd]at this
 exact⟨hg,_,es',ep+1,t',hg,hex,rfl,hel,hp,hs,ht⟩
theorem ZtS{b:Bool}{t:SetTable}{es:Array (Int × Value)}(hr:ZeR t.place)(h8:∀j∈t.place.toList,j<8)(h5:t.place.size=5)(he:es.map (·.1)=(t.place.toList.map (λ(j:Nat)=>(j:Int))).toArray)(hl:t.led=b)(hp:t.plain=true) :
  ∃t',relayAll t es 20=(es,t',false)/\t'.place=t.place/\Tab b t':=by
 have hc:=Zww _ (ZpS hr h8 (by simpa using h5));obtain⟨owner,o1,o2⟩:=ZyL.mp hc;have hsz:es.size=5:=by have:=congrArg Array.size he;simp at this;omega
 have hlen:t.place.toList.length=5:=by simpa using h5
 have z1:(t.place.toList.zip (ZyP 5)).map (·.1)=t.place.toList:=List.map_fst_zip (by rw[hlen]; simp);have z2:(t.place.toList.zip (ZyP 5)).map (·.2)=ZyP 5:=List.map_snd_zip (by rw[hlen]; simp);have hrl:t.relaid (es.map (·.1)) 20=some ({ mask:=31,place:=t.place,dummies:=#[],finger:=t.finger,led:=t.led,moves:=t.movedTo 31,plain:=t.plain },(ZyP 5).toArray):=by
  unfold SetTable.relaid SetTable.laid;have e31:SetTable.sizeAbove 20-1=31:=by decide
  rw[e31,he,o1];show some _=some _;rw[o2,z1,z2]
 refine⟨{ mask:=31,place:=t.place,dummies:=#[],finger:=t.finger,led:=t.led,moves:=t.movedTo 31,plain:=t.plain },?_,rfl,⟨rfl,hr,hl,hp,h8,?_⟩⟩
 ·unfold relayAll
  rw[hrl];dsimp only;have ef:(ZyP 5).toArray.filterMap (λx=>es[x]?)=es:=by apply Array.toList_inj.mp;rw[Array.toList_filterMap];have:=filterMap_getElem?_range es;rw[hsz]at this;simpa using this
  rw[ef];have ec:coversAll (ZyP 5).toArray es.size=true:=by rw[hsz]; decide
  have et:ZB9 { mask:=31,place:=t.place,dummies:=#[],finger:=t.finger,led:=t.led,moves:=t.movedTo 31,plain:=t.plain } es.size=true:=by unfold ZB9 ZCa;simp[h5,hsz]
  rw[ec,et];rfl
 ·dsimp only
  rw[h5];rfl
theorem ZtE{j:Nat}{tk:Tok}{Q:Bool->Shared->Prop}(h8:j<8)(hX:ZdW prog w s.heap a L)
  (h:∀b h',ZAL a s.heap h'->ZdW prog w h' a (stp L j)->Q b { s with heap:=h' }) :
  wpAny (model prog w) A (setAddHashed a (.int j tk) ((intKind prog w).hash j)) Q E s:=by
 obtain⟨o,es,ep,t,ho,hex,hd,hen,hpm,hpl,ht⟩:=hX;have hel:=hen.elems;have hsc:(ZAH (j:Int) tk).scannable=true:=rfl;have hkey:(intKind prog w).is (j:Int) (.int j tk)=true:=ZC2 _ _ _ _;have hsz:=size_of hpl;have hfew:=ht.few;have hf:t.fits es.size=true:=by rw[hsz]; exact ht.fits
 have hsb:scanBound=4096:=rfl;have hb:es.size<scanBound:=by omega
 unfold setAddHashed setAddHashedIn;refine Zzx (ZyI (ZB3 ho hd hf ?_));dsimp only;rw[byScan_of hsc hb hel];simp only[↓reduceIte];unfold setAddByScan;refine ZyI (ZyI (ZC1 (ZyI (wpAny_setScan_of hkey ho hd hf hel ?_))));cases hr:List.findIdx? (λe=>(intKind prog w).is (j:Int) e.2) es.toList with
 | some i =>
  dsimp only;obtain⟨hi,hpi,_⟩:=List.findIdx?_eq_some_iff_getElem.mp hr;have hmem:(j:Int)∈L:=by refine hpm.mem_iff.mp (ZyU.mpr ⟨es.toList[i],ZAG hi,?_⟩);obtain⟨m,u,e⟩:=hen _ (ZAG hi);rw[e]at hpi ⊢;exact ZsM.mp hpi
  refine ZyM (ZyM ?_);have e:s={ s with heap:=s.heap }:=by cases s; rfl
  have q:=h false s.heap (ZDV a s.heap) ⟨o,es,ep,t,ho,hex,hd,hen,by unfold stp; rw[if_pos (by simpa using hmem)]; exact hpm,hpl,ht⟩;rw[e];exact q
 | none =>
  dsimp only;have hne:∀e∈es.toList,ZeQ e≠(j:Int):=λe he hv=>by obtain⟨m,u,e1⟩:=hen e he;have no:=List.findIdx?_eq_none_iff.mp hr e he;rw[e1]at no hv;have yes:(intKind prog w).is (j:Int) (.int m u)=true:=ZsM.mpr hv;exact absurd (yes.symm.trans no) (by simp)
  have hnm:(j:Int) ∉ L:=λhm=>by obtain⟨e,he,hv⟩:=ZyU.mp (hpm.mem_iff.mpr hm);exact hne e he hv
  have hj:j ∉ t.place.toList:=λhm=>by
   have:(j:Int)∈es.toList.map ZeQ:=by rw[hpl]; exact ZyU.mpr ⟨j,hm,rfl⟩
   obtain⟨e,he,hv⟩:=ZyU.mp this;exact hne e he hv
  obtain⟨mk,pl,dm,fg,ld,mv,pn⟩:=t;obtain rfl:pn=true:=ht.plain;obtain rfl:dm=#[]:=ht.dum;rw[Zie j h8,ZwN ht hsz h8 hj];dsimp only;obtain⟨_,hnj⟩:=Zif ht hj;obtain⟨hle,_,_⟩:=ZfU ht.rise j;have hen1:Zow prog w (Zzg es (ZyW pl j) ((j:Int),ZAH j tk)).toList:=λe he=>by
   have:=(ZAC _ _ _).mem_iff.mp he;rw[ZA8]at this;rcases Zzp.mp this with q | q
   ·exact hen e q
   ·exact⟨j,tk,by rw[Zie j h8]; exact ZyY.mp q⟩
  have hpm1:((Zzg es (ZyW pl j) ((j:Int),ZAH j tk)).toList.map ZeQ).Perm (stp L j):=by unfold stp;rw[if_neg (by simpa using hnm)];refine((ZAC _ _ _).map ZeQ).trans ?_;rw[ZA8,Zzq];exact hpm.append_right _
  have hpl1:(Zzg es (ZyW pl j) ((j:Int),ZAH j tk)).toList.map ZeQ=(Zzg pl (ZyW pl j) j).toList.map (λ(j:Nat)=>(j:Int)):=by rw[ZBT,ZBT,Zzq,Zzq,ZyS,ZyS,List.map_take,List.map_take,List.map_drop,List.map_drop,hpl];rfl
  have hs1:(Zzg es (ZyW pl j) ((j:Int),ZAH j tk)).size=es.size+1:=size_insert _ _ _;generalize hE:Zzg es (ZyW pl j) ((j:Int),ZAH j tk)=es1 at hen1 hpm1 hpl1 hs1 ⊢;have hz1:es1.size<=sizeLine:=by rw[ZzM]; omega
  refine ZyI (ZyM ?_);simp only[↓reduceIte];refine ZyI ?_;rw[hashByValue_scannable 8 hsc];refine ZyM ?_;rw[show plainKind (ZAH (j:Int) tk)=true from rfl];simp only[↓reduceIte];show wpAny (model prog w) A (do
    storeSet a es1 (⟨mk,Zzg pl (ZyW pl j) j,#[],fg,ld,mv,true⟩:SetTable)
    if(!false&&ZBI (⟨mk,Zzg pl (ZyW pl j) j,#[],fg,ld,mv,true⟩:SetTable))=true then _ else _) _ E s
  refine ZyI (wpAny_storeSet_of ho hd ?_ hz1);have hsb1:=Zz1 s.heap a (ZBW es1 (⟨mk,Zzg pl (ZyW pl j) j,#[],fg,ld,mv,true⟩:SetTable))
  by_cases h4:pl.size=4
  ·have hm:mk=7:=by have q:=ht.mask; dsimp only at q; rw[h4]at q; exact q
   have htf:ZBI (⟨mk,Zzg pl (ZyW pl j) j,#[],fg,ld,mv,true⟩:SetTable)=true:=by unfold ZBI ZCa;simp[size_insert,h4,ht.dum,hm]
   have hg:(s.heap.update a (ZBW es1 (⟨mk,Zzg pl (ZyW pl j) j,#[],fg,ld,mv,true⟩:SetTable))).get? a=some { o with data:=.set es1 (ep+1) (⟨mk,Zzg pl (ZyW pl j) j,#[],fg,ld,mv,true⟩:SetTable) }:=by
    have:=Zz2 (ZBW es1 (⟨mk,Zzg pl (ZyW pl j) j,#[],fg,ld,mv,true⟩:SetTable)) ho (by rw[putSet_of _ _ hd]; rfl)
    rwa [putSet_of _ _ hd]at this
   have hh:es1.map (·.1)=((Zzg pl (ZyW pl j) j).toList.map (λ(j:Nat)=>(j:Int))).toArray:=by
    apply Array.toList_inj.mp;rw[Array.toList_map,<-hpl1];refine Zz7 λe he=>?_;obtain⟨m,u,e1⟩:=hen1 e he;have hm:m∈es1.toList.map ZeQ:=ZyU.mpr ⟨e,he,by rw[e1]; rfl⟩;rw[hpl1]at hm;obtain⟨k,hk,rfl⟩:=ZyU.mp hm;have hk8:k<8:=by
     have:=(ZAC _ _ _).mem_iff.mp hk;rw[ZA8]at this;rcases Zzp.mp this with q | q
     ·exact ht.low k q
     ·rw[ZyY.mp q]; exact h8
    rw[e1];exact Zie (prog:=prog) (w:=w) k hk8
   obtain⟨t',r1,r2,r3⟩:=ZtS (b:=!w.params.followText "set-order") (t:=(⟨mk,Zzg pl (ZyW pl j) j,#[],fg,ld,mv,true⟩:SetTable)) (es:=es1) (Zj6 ht.rise hnj)
    (λk hk=>by
     have:=(ZAC _ _ _).mem_iff.mp hk;rw[ZA8]at this;rcases Zzp.mp this with q | q
     ·exact ht.low k q
     ·rw[ZyY.mp q]; exact h8) (by dsimp only; rw[size_insert,h4]) hh ht.led ht.plain
   have hgr:SetTable.grown es1.size=20:=by rw[hs1,hsz,h4]; rfl
   rw[htf];simp only[Bool.not_false,Bool.and_self,↓reduceIte];rw[hgr,r1];dsimp only;refine ZyI (ZyM (ZyI (wpAny_storeSet_of hg rfl ?_ hz1)));obtain⟨_,hS2⟩:=Zk6 (prog:=prog) (t':=t') hg hex rfl hen1 hpm1 (by rw[r2]; exact hpl1) r3;exact ZyM (ZyM (h true _ (hsb1.trans (Zz1 _ a _)) hS2))
  ·have htf:ZBI (⟨mk,Zzg pl (ZyW pl j) j,#[],fg,ld,mv,true⟩:SetTable)=false:=by
    unfold ZBI ZCa;have q:=ht.mask;dsimp only at q;simp only[size_insert];rw[q];simp;have:=hfew;dsimp only at this;split<;>omega
   rw[htf];simp only[Bool.and_false,ZAs,↓reduceIte];obtain⟨_,hS1⟩:=Zk6 (prog:=prog) (t':=(⟨mk,Zzg pl (ZyW pl j) j,#[],fg,ld,mv,true⟩:SetTable)) ho hex hd hen1 hpm1 hpl1 (ht.ins h8 hj h4);exact ZyM (ZyM (h true _ hsb1 hS1))
end
section
variable{prog:Program}{w:World}{A:Around}{E:Value->Shared->Prop}{s:Shared}
abbrev Zdi(w:World):Obj:={ cls:=.type "set",dict:=none,data:=.set #[] 0 (.fresh 0 0 (!w.params.followText "set-order")) }
theorem ZmZ(v:Value){Q₁:Value->Shared->Prop}(h:Q₁ (.ref s.heap.objs.size) { s with heap:=s.heap.push (Zdi w) }) :
  codeAny (model prog w) A (.call (.builtin "set.__new__") ⟨[.type "set",v],[]⟩) (wants Q₁ E) s:=by
 refine codeAny_of_tree ?_;show wpAny _ A.in1 (do checkBuiltinCall "set.__new__" ⟨[.type "set",v],[]⟩; again (.builtin "set.__new__" ⟨[.type "set",v],[]⟩)) _ _ s;refine ZyI (ZDv (PySem.F.newCall_set_1 v) (ZyM ⟨ZA5 ZDB _,ZAe PySem.F.entry_set_new ?_⟩));rw[Zz0 ZDB _];unfold Builtin.«set.__new__» Builtin.Frozenset.newClass;have hsub:=sub_set_self;obtain⟨hp,g,d,tk,os⟩:=s;dsimp only
 wp_walk
 refine ZBJ (ZyM ?_);dsimp only;simp only[newObj];exact ZyI (wpAny_alloc (ZyM (ZyM h)))
theorem Zto(h:Heap):ZdW prog w (h.push (Zdi w)) h.objs.size [] :=
 ⟨_,#[],0,_,Zy4 _ rfl,⟨rfl,rfl,rfl⟩,rfl,λe he=>by simp at he,.nil,rfl,Tab.fresh _⟩
theorem ZhZ:∀(l acc:List Int) (x:Int),HM.dedup acc (l++[x])=stp (HM.dedup acc l) x
 | [],acc,x=>by show HM.dedup acc [x]=stp acc x;unfold HM.dedup stp;split<;>rfl
 | y::l,acc,x=>by
  show HM.dedup acc (y::(l++[x]))=_;unfold HM.dedup;split
  ·exact ZhZ l acc x
  ·exact ZhZ l _ x
variable{R:Result->Shared->Prop}{I:Addr}{fp wr:List Addr}{G:Array GenState->Array GenState->Prop}{P:Nat->Value->Prop}{St:Nat->Shared->Prop}
theorem ZsH{ns:List Int}(W:WalksS prog w A.in1 I fp wr G ns.length P St)(S:Addr)(hSf:S ∉ fp)(hval:∀i v,P i v->∃t,v=.int (ns.getD i 0) t)(hb:∀n∈ns,0<=n/\n<8) :
  ∀(k i:Nat) (s:Shared),ns.length-i=k->i<=ns.length->St i s->ZdW prog w s.heap S (HM.dedup [] (ns.take i)) ->
   (∀s',Moved (S::wr) G s s'->ZdW prog w s'.heap S (HM.dedup [] ns)->R (.ok (.ret .none)) s') ->
   codeAny (model prog w) A (.builtin "set.update.loop" ⟨[.ref S,.ref I],[]⟩) R s:=by
 have hSw:S ∉ wr:=λh=>hSf (W.sub _ h);have hsub:∀b∈wr,b∈S::wr:=λb hb=>ZyQ _ hb;intro k
 induction k with
 | zero =>
  intro i s hk hi hst hS hR;obtain rfl:i=ns.length:=by omega
  rw[List.take_length]at hS;refine ZAe F.entry_set_update_loop ?_;rw[Zz0 F.plain_set_update_loop _];show wpAny _ A.in1 (pyNext (.ref I) >>= _) _ _ s;refine ZyI (W.done s _ _ hst λs' hm=>?_);show wpAny _ A.in1 (ret Zzs) _ _ s';exact ZyM (hR s' (hm.mono hsub) (hS.at' λo e=>hm.heap S o hSw e))
 | succ k ih =>
  intro i s hk hi hst hS hR;have hlt:i<ns.length:=by omega
  refine ZAe F.entry_set_update_loop ?_;rw[Zz0 F.plain_set_update_loop _];show wpAny _ A.in1 (pyNext (.ref I) >>= _) _ _ s;refine ZyI (W.item i s _ _ hlt hst λv s' hP hst' hm=>?_);obtain⟨t,rfl⟩:=hval i v hP;have hS':=hS.at' (h':=s'.heap) λo e=>hm.heap S o hSw e;show wpAny _ A.in1 (holding [ZAH (ns.getD i 0) t] (setAdd S (.int (ns.getD i 0) t)) >>= _) _ _ s';refine ZyI (Zzx ?_);unfold setAdd;refine Zzx (ZyI ((intKind prog w).pyHash (k:=ns.getD i 0) (ZC2 _ _ _ _) ?_));have hbi:=hb (ns.getD i 0) (by rw[ZzP,Zy9 hlt]; exact ZAG hlt);obtain⟨j,ej⟩:∃j:Nat,ns.getD i 0=(j:Int):=⟨(ns.getD i 0).toNat,by omega⟩;have e:stp (HM.dedup [] (ns.take i)) (ns.getD i 0)=HM.dedup [] (ns.take (i+1)):=by rw[<-ZhZ,List.take_succ,ZzP];simp[hlt]
  rw[ej]at e hbi ⊢;refine ZtE (s:={ s' with toks:=s'.toks+1 }) (by omega) hS' λb h' hsb hS2=>?_;rw[e]at hS2;refine ZyM ⟨ZA5 F.plain_set_update_loop _,ih (i+1) _ (by omega) hlt (W.frame _ s' _ _ hst' (Nat.le_succ _) λb hb o e=>?_) hS2 λs'' hm'' hS''=>?_⟩
  ·rw[hsb.2 b (λh:b=S=>hSf (by rw[<-h]; exact hb))]; exact e
  ·refine hR s'' (Moved.trans W.gtrans ((hm.mono hsub).then_heap (Nat.le_succ _) λb o hb e=>?_) hm'') hS''
   rw[hsb.2 b (λh:b=S=>hb (by rw[h]; exact ZyO))]; exact e
set_option maxHeartbeats 3200000 in
theorem ZsB{l:Addr}{items:Array Value}{ns:List Int}{Q:Value->Shared->Prop}(hh:A.handled=none)(hl:s.heap.IsList l items)(hi:IntsAre items.toList ns)(hb:∀n∈ns,0<=n/\n<8)
  (h:∀(h':Heap) (tk:Nat),ZdW prog w h' s.heap.objs.size (HM.dedup [] ns)->(∀b o,b<s.heap.objs.size->s.heap.get? b=some o->h'.get? b=some o)->Q (.ref s.heap.objs.size) { s with heap:=h',toks:=tk }) :
  wpAny (model prog w) A (call (.type "set") [.ref l]) Q E s:=by
 have hsz:items.size=ns.length:=by rw[<-hi.length,Zze]
 obtain⟨c,tl,hmro⟩:=ZAt.mro;have hmade:=ZAt.made;have hsub:=ZAt.sub;refine wpAny_call (codeAny_of_tree ?_);show wpAny _ _ (callAny (.type "set") _) _ _ _;refine ZyM ⟨Code.quiet_builtin _ (by decide +kernel),ZAe PySem.F.entry_type_call ?_⟩;rw[Around.under_plain (weight_type_call_type "set" [.ref l] []) rfl];have h1:=ZAt.notType;have h2:=ZAt.canCreate;have hct:=PySem.F.typeCall_set_1 (.ref l)
 repeat (any_goals (first | assumption | wp_step))
 refine ZAX (ZmZ (.ref l) (E:=E) (Q₁:=λobj s₁=>obj=.ref s.heap.objs.size/\s₁={ s with heap:=s.heap.push (Zdi w) }) ⟨rfl,rfl⟩) λr s₁ hr=>?_;cases r with
 | error e=>exact hr
 | ok fl =>
  cases fl with
  | ret obj =>
   obtain⟨rfl,rfl⟩:=hr;have hX:=Zto (prog:=prog) (w:=w) s.heap;have hS:(s.heap.push (Zdi w)).get? s.heap.objs.size=some (Zdi w):=Zy4 _ rfl;have hT:Shared.TypeIs { s with heap:=s.heap.push (Zdi w) } (.ref s.heap.objs.size) "set":=⟨_,hS,rfl⟩;have hli:=ZAt.init.lookup;have hbi:=ZAt.init.bind (.ref s.heap.objs.size)
   repeat (any_goals (first | assumption | wp_step))
   refine ZAX (codeAny_call_builtin (R:=wants (λr s₂=>r=.none/\∃h' tk,s₂={ s with heap:=h',toks:=tk }/\ZdW prog w h' s.heap.objs.size (HM.dedup [] ns) /\
     (∀b o,b<s.heap.objs.size->s.heap.get? b=some o->h'.get? b=some o)) E) ZAt.init.plain PySem.F.entry_set_init (check_set_init_1 hT ?_)) λr₂ s₂ hr₂=>?_
   ·obtain⟨⟨ocls,odict,odata,oslots⟩,hol,hcl,nl,hdl⟩:=hl
    simp only at hcl hdl;subst hcl; subst hdl;have hol':(s.heap.push (Zdi w)).get? l=some { cls:=.type "list",dict:=odict,data:=.seq items nl,slots:=oslots }:=ZyN _ hol;have hsls:=PySem.F.sub_list_set;have hslf:=PySem.F.sub_list_frozenset;have hne:(ZAm "list" == ZAm "dict")=false:=by decide
    have hl1:(s.heap.push (Zdi w)).IsList l items:=⟨_,hol',rfl,nl,rfl⟩;unfold Builtin.«set.__init__» noKeywords Builtin.Frozenset.updateFrom;generalize hPI:pyIter=PI
    wp_walk
    subst hPI;refine ZCU hl1 (ZyI (wpAny_runValue ?_));have hlS:l<s.heap.objs.size:=Zy1 hol;have hh3:A.in1.in1.in1.handled=none:=by simp[hh]
    have hneI:l≠(s.heap.push (Zdi w)).objs.size:=by rw[ZBB]; exact Zzc (ZA9 hlS)
    have hSf:s.heap.objs.size ∉ [(s.heap.push (Zdi w)).objs.size,l]:=by rw[ZBB]; simp only[Zzb,ZyY,List.not_mem_nil,or_false,not_or];exact⟨Zzc (ZBf _),ZBS hlS⟩
    have Wl:=(Walks.list (prog:=prog) (w:=w) hh3 _ l hneI items).toS;rw[hsz]at Wl;refine ZsH Wl s.heap.objs.size hSf (λi v hv=>IntsAre.int_at hi i v (by rw[Zzy]; exact hv)) hb (ns.length-0) 0 _ (by omega) (ZzN _)
     ⟨⟨_,Zy4 _ rfl,rfl,rfl⟩,hl1.push _⟩ (hX.at' λo e=>ZyN _ e) λs' hm hS'=>?_
    obtain⟨h',g',d',tk',os'⟩:=s';have eg:g'=s.gens:=hm.gens;have ed:d'=s.drawn:=hm.drawn;have eo:os'=s.os:=hm.os;subst eg; subst ed; subst eo
    show wpAny _ _ _ _ _ _;refine ZyM ?_;show wpAny _ _ (ret Zzs) _ _ _;refine ZyM ⟨rfl,h',tk',rfl,hS',λb o hb e=>?_⟩;refine hm.heap b o ?_ (ZyN _ (ZyN _ e));simp only[Zzb,ZyY,List.not_mem_nil,or_false,not_or];exact⟨Zzc hb,by rw[ZBB]; exact Zzc (ZA9 hb)⟩
   ·cases r₂ with
    | error e=>exact hr₂
    | ok fl₂ =>
     cases fl₂ with
     | ret r =>
      obtain⟨rfl,h',tk,rfl,hS',hk'⟩:=hr₂
      repeat (any_goals (first | assumption | wp_step))
      exact h _ _ hS' hk'
     | _=>exact hr₂.elim
  | _=>exact hr.elim
end
end HP
namespace HP
open PySem PyProof.Rows
theorem ZcR:Slot "set_iterator" "__next__" "set_iterator.__next__" :=
 .of (owner:="set_iterator") (n:="__next__") (by rw[typeLookup_type,builtinLookup_eq_fast]; kernel_rfl) (by decide +kernel) (by decide +kernel) (by decide +kernel)
  (by first | exact .inl (by decide +kernel) | exact .inr (by decide +kernel)) (by rw[isSubtype_type]; kernel_rfl)
theorem Ziu:entryFor table "set_iterator.__next__" = some Builtin.«set_iterator.__next__»:=entryFor_of_tree (by kernel_rfl)
theorem ZiZ:Slot "set_iterator" "__iter__" "set_iterator.__iter__" :=
 .of (owner:="set_iterator") (n:="__iter__") (by rw[typeLookup_type,builtinLookup_eq_fast]; kernel_rfl) (by decide +kernel) (by decide +kernel) (by decide +kernel)
  (by first | exact .inl (by decide +kernel) | exact .inr (by decide +kernel)) (by rw[isSubtype_type]; kernel_rfl)
theorem Zm7:entryFor table "set_iterator.__iter__" = some Builtin.«dict_keyiterator.__iter__» :=
 entryFor_alias (id':="dict_keyiterator.__iter__") (by kernel_rfl) rfl (by decide +kernel) (by kernel_rfl)
theorem ZkW:entryFor table "set.__iter__" = some Builtin.«frozenset.__iter__» :=
 entryFor_alias (id':="frozenset.__iter__") (by kernel_rfl) rfl (by decide +kernel) (by kernel_rfl)
theorem Zon:Manifest.owners.lookup (String.ofList ['r','o','t','a','r','e','t','i','_','t','e','s'].reverse)=some Manifest.sig_set_iterator:=by kernel_rfl
theorem Zjn(a:Value):argsOk "set_iterator.__next__" ⟨[a],[]⟩:=by unfold argsOk; rw[signature?_of (id:="set_iterator.__next__") (n:=['_','_','t','x','e','n','_','_']) (o:=['r','o','t','a','r','e','t','i','_','t','e','s']) (by kernel_rfl) Zon]; kernel_rfl
theorem Zpa(a:Value):argsOk "set_iterator.__iter__" ⟨[a],[]⟩:=by unfold argsOk; rw[signature?_of (id:="set_iterator.__iter__") (n:=['_','_','r','e','t','i','_','_']) (o:=['r','o','t','a','r','e','t','i','_','t','e','s']) (by kernel_rfl) Zon]; kernel_rfl
theorem Zlg{α:Type}:∀(l:List α) (i:Nat) (h:i<l.length),(l[i]::l.eraseIdx i).Perm l
 | x::l,0,_=>.refl _
 | x::l,i+1,h=>by
  have h':i<l.length:=by simpa using h
  show(l[i]::x::l.eraseIdx i).Perm (x::l);exact(List.Perm.swap x l[i] _).trans ((Zlg l i h').cons x)
theorem Zmd{α:Type}(next:Nat->Nat):∀(n k:Nat) (left:List α) (out:Array α),left.length=n->(ZDn.go next n k left out).toList.Perm (out.toList++left)
 | 0,k,left,out,h=>by rw[ZAq h,Zzu];exact .refl _
 | n+1,k,left,out,h=>by
  have hl:next k % left.length<left.length:=Nat.mod_lt _ (by omega)
  unfold ZDn.go;rw[Zy9 hl];dsimp only;refine(Zmd next n (k+1) _ _ (by rw[List.length_eraseIdx_of_lt hl]; omega)).trans ?_
  rw[ZA8,ZAQ];refine List.Perm.append_left _ ?_;exact Zlg left _ hl
theorem ZlV{α:Type}(next:Nat->Nat)(xs:Array α):(ZDn next xs).toList.Perm xs.toList:=by
 have:=Zmd next xs.size 0 xs.toList #[] (by simp)
 simpa [ZDn]using this
end HP
namespace HP
open PySem PyProof.Rows
structure ZeN(w:World)(h:Heap)(a:Addr)(es:Array (Int × Value))(ep:Nat)(t:SetTable):Prop where
 obj:∃o,h.get? a=some o/\o.ExactSet/\o.data=.set es ep t
 fit:t.fits es.size=true
 siz:es.size=t.place.size
 tab:Tab (!w.params.followText "set-order") t
theorem ZeN.at'{w:World}{h h':Heap}{a:Addr}{es:Array (Int × Value)}{ep:Nat}{t:SetTable}(x:ZeN w h a es ep t)(k:∀o,h.get? a=some o->h'.get? a=some o):ZeN w h' a es ep t :=
 ⟨let ⟨o,e,r⟩:=x.obj; ⟨o,k o e,r⟩,x.fit,x.siz,x.tab⟩
def Zec(w:World)(a:Addr)(es:Array (Int × Value))(ep:Nat):Array (Int × Value):=if w.params.followText "set-order" then ZDn (w.params.setOrder a ep) es else es
theorem ZiY(w:World)(a:Addr)(es:Array (Int × Value))(ep:Nat):(Zec w a es ep).toList.Perm es.toList:=by
 unfold Zec; split
 ·exact ZlV _ _
 ·exact .refl _
theorem Zjl(w:World)(a:Addr)(es:Array (Int × Value))(ep:Nat):(Zec w a es ep).size=es.size:=by have:=(ZiY w a es ep).length_eq;simpa using this
def Zhg(h:Heap)(it a:Addr)(slot i n ep:Nat):Prop:=∃o,h.get? it=some o/\o.cls=.type "set_iterator"/\o.data=.fields #[.int slot 0,.int i 0,.ref a,.int n 0,.int ep 0]
theorem Zhg.typeIs{s:Shared}{it a:Addr}{slot i n ep:Nat}(x:Zhg s.heap it a slot i n ep):s.TypeIs (.ref it) "set_iterator":=let ⟨o,ho,hc,_⟩:=x; ⟨o,ho,hc⟩
theorem Zhg.at'{h h':Heap}{it a:Addr}{slot i n ep:Nat}(x:Zhg h it a slot i n ep)(k:∀o,h.get? it=some o->h'.get? it=some o):Zhg h' it a slot i n ep:=let ⟨o,e,r⟩:=x; ⟨o,k o e,r⟩
section
variable{prog:Program}{w:World}{A:Around}{E:Value->Shared->Prop}{s:Shared}{it a:Addr}{es:Array (Int × Value)}{ep:Nat}{t:SetTable}
theorem Zul{Q:Value->Shared->Prop}(x:ZeN w s.heap a es ep t)
  (hQ:Q (.ref s.heap.objs.size) { s with heap:=s.heap.push { cls:=.type "set_iterator",data:=.fields #[.int 0 0,.int 0 0,.ref a,.int es.size 0,.int ep 0] } }) :
  wpAny (model prog w) A (pyIter (.ref a)) Q E s:=by
 obtain⟨o,ho,hex,hd⟩:=x.obj;have hT:s.TypeIs (.ref a) "set":=⟨o,ho,hex.1⟩;refine ZCV hT ZDC (ZzF ZDC hT ZkW ?_ (PySem.F.args_set_iter_1 _));unfold Builtin.«frozenset.__iter__» Builtin.Frozenset.slot0 slotArgs Builtin.Frozenset.addrOf Builtin.Frozenset.sizeOf;refine ZyI (ZyI (ZyM (ZyM ?_)));dsimp only;refine ZyI (ZyI (ZCu ho hd x.fit (ZyM ?_)));have hdr:∀{R:Bool->Shared->Prop} {A':Around} {E':Value->Shared->Prop},R false s->wpAny (model prog w) A' (setDrawn a) R E' s:=λ{R A' E'} hR=>by unfold setDrawn setsByText;refine ZyI (ZB3 ho hd x.fit (ZyI (ZyI (ZBJ (ZyM (ZyM ?_))))));obtain⟨mk,pl,dm,fg,ld,mv,pn⟩:=t;obtain rfl:pn=true:=x.tab.plain;show R (!_&&(!true&&_)) s;simpa using hR
 refine ZyI (hdr ?_);rw[if_neg (by simp)];refine ZyI (ZyM (ZyI (wpAny_setEpoch_of ho hd x.fit ?_)));show wpAny (model prog w) A.in1 (newFields "set_iterator" [rawInt 0,rawInt 0,ZzW a,rawInt (es.size:Int),rawInt (ep:Int)] >>= _) _ E s;refine ZyI (Zzz (ZyM ⟨_,rfl,"set_iterator",_,⟨_,Zy4 _ rfl,rfl⟩,ZcR.lookup,?_⟩));simpa [rawInt]using hQ
theorem Zj4{slot i:Nat}{R:Option (Value × Nat)->Shared->Prop}(x:ZeN w s.heap a es ep t)(hs:w.params.followText "set-order" = false->ZyW t.place slot=i)
  (hR:R ((Zec w a es ep)[i]?.map λe=>(e.2,if w.params.followText "set-order" then slot else t.place.getD i 0+1)) s):wpAny (model prog w) A (setNext a slot i ep) R E s:=by
 obtain⟨o,ho,hex,hd⟩:=x.obj;unfold setNext setsByText;refine ZyI (ZB3 ho hd x.fit ?_);dsimp only;refine ZyI (ZyI (ZBJ (ZyM ?_)));dsimp only;cases hb:w.params.followText "set-order" with
 | true=>have hb':(model prog w).w.params.followText "set-order" = true:=hb;rw[hb',if_pos rfl];unfold Zec at hR;rw[hb,if_pos rfl]at hR;simp only[if_pos]at hR;refine ZA1 (λq=>absurd q (by simp)) λ_=>?_;unfold setWalk setsByText;refine ZyI (ZyI (ZB3 ho hd x.fit ?_));dsimp only;refine ZyI (ZyI (ZBJ (ZyM ?_)));dsimp only;rw[hb',if_pos rfl];exact ZyI (ZBJ (ZyM (ZyM hR)))
 | false =>
  have hb':(model prog w).w.params.followText "set-order" = false:=hb;rw[hb',if_neg (by simp)];unfold Zec at hR;rw[hb]at hR;simp only[ZAs,if_false]at hR;have hi:=hs hb;have hled:t.led=true:=by rw[x.tab.led,hb]; rfl
  have hsz:=x.siz;obtain⟨mk,pl,dm,fg,ld,mv,pn⟩:=t;obtain rfl:pn=true:=x.tab.plain;obtain rfl:ld=true:=hled;refine ZA1 (λq=>absurd (show(!true&&_)=true from q) (by simp)) λ_=>?_;refine ZyI ?_;refine ZA1 (λq=>absurd (show(!true&&_)=true from q) (by simp)) λ_=>?_;refine ZyM ?_;dsimp only at hi hsz ⊢;rw[hi];refine ZyM ?_
  by_cases hlt:i<es.size
  ·have h1:es[i]?=some es[i]:=ZBc hlt
   have h2:pl[i]?=some (pl.getD i 0):=by simp[ZAE,show i<pl.size by omega]
   rw[h1]at hR ⊢;rw[h2];exact hR
  ·have h1:es[i]?=none:=ZB6 (by omega)
   rw[h1]at hR ⊢;exact hR
theorem Zue{slot i:Nat}{e:Int × Value}{Q:Option Value->Shared->Prop}(hit:Zhg s.heap it a slot i es.size ep)(x:ZeN w s.heap a es ep t)(hs:w.params.followText "set-order" = false->ZyW t.place slot=i)(he:(Zec w a es ep)[i]?=some e)
  (hQ:∀h',Zhg h' it a (if w.params.followText "set-order" then slot else t.place.getD i 0+1) (i+1) es.size ep->ZAL it s.heap h'->Q (some e.2) { s with heap:=h' }) :
  wpAny (model prog w) A (pyNext (.ref it)) Q E s:=by
 obtain⟨o,ho,hc,hd⟩:=id hit;obtain⟨os,hos,hex,hds⟩:=x.obj;unfold pyNext;refine ZyI (ZCM (wpAny_callSpecial?_slot (name:=Zzd "__next__") hit.typeIs ZcR
  (ZzF ZcR hit.typeIs Ziu ?_ (Zjn _))))
 unfold Builtin.«set_iterator.__next__» slotArgs;refine ZyI (ZyM ?_);dsimp only;refine ZyI (ZCy ho hd ?_);dsimp only;refine ZyI (ZCu hos hds x.fit ?_);refine ZA1 (λq=>absurd q (by simp)) λ_=>?_;simp only[ZBy];refine ZyI (Zj4 x hs ?_);rw[he];dsimp only[Option.map_some];refine ZyI (ZBX ho hd (by simp) ?_);have g1:(s.heap.update it (ZDK (·.setIfInBounds 0 (rawInt ((if w.params.followText "set-order" = true then slot else t.place.getD i 0+1:Nat):Int))))).get? it=some _:=Zz2 _ ho (ZCf (ZAu hd _));refine ZyI (ZBX g1 (ZAu hd _) (by simp) ?_);refine ZyM ⟨_,rfl,ZyM (hQ _ ⟨_,Zz2 _ g1 (ZCf (ZAu (ZAu hd _) _)),?_,?_⟩ ((Zz1 ..).trans (Zz1 ..)))⟩
 ·rw[ZCW,ZCW]; exact hc
 ·rw[ZAu (ZAu hd _)]; simp[rawInt]
theorem ZtD{slot i:Nat}{Q:Option Value->Shared->Prop}(hh:A.handled=none)(hit:Zhg s.heap it a slot i es.size ep)(x:ZeN w s.heap a es ep t)(hs:w.params.followText "set-order" = false->ZyW t.place slot=i)(he:es.size<=i)
  (hQ:∀h',Heap.ExtBut it s.heap h'->Q none { s with heap:=h' }):wpAny (model prog w) A (pyNext (.ref it)) Q E s:=by
 obtain⟨o,ho,hc,hd⟩:=id hit;obtain⟨os,hos,hex,hds⟩:=x.obj;have hn:(Zec w a es ep)[i]?=none:=ZB6 (by rw[Zjl]; exact he);unfold pyNext;refine ZyI (ZCM (wpAny_callSpecial?_slot (name:=Zzd "__next__") hit.typeIs ZcR
  (ZzF ZcR hit.typeIs Ziu ?_ (Zjn _))))
 unfold Builtin.«set_iterator.__next__» slotArgs;refine ZyI (ZyM ?_);dsimp only;refine ZyI (ZCy ho hd ?_);dsimp only;refine ZyI (ZCu hos hds x.fit ?_);refine ZA1 (λq=>absurd q (by simp)) λ_=>?_;simp only[ZBy];refine ZyI (Zj4 x hs ?_);rw[hn];dsimp only[Option.map_none];refine ZyI (ZBX ho hd (by simp) ?_);refine ZyI ?_;simp only[newExc,newTuple];refine ZyI (Zzz ?_ (by size_fits));refine ZyI (m:=ZCz _ _) (ZDv (a:=Zzs) (by first | rfl | (simp only[ZCz]; rfl)) ?_)
 refine Zzz ?_ (by size_fits);simp only[raiseNew];refine ZyI (wpAny_handled ?_);rw[show A.in1.handled=none from hh];refine ZyI (ZyM (wpAny_throw ?_));refine ZyI (ZC9 (T:="StopIteration") (b:=true) ⟨_,Zy4 _ rfl,rfl⟩ isSubtype_stop ?_);exact ZyM (hQ _ (((Zz1 ..).extBut.push _).push _))
theorem ZtL{slot i n:Nat}{Q:Value->Shared->Prop}(hit:Zhg s.heap it a slot i n ep)(h:Q (.ref it) s):wpAny (model prog w) A (pyIter (.ref it)) Q E s:=by refine ZCV hit.typeIs ZiZ (ZzF ZiZ hit.typeIs Zm7 ?_ (Zpa _));show wpAny _ _ (ret (.ref it)) _ _ s;exact ZyM ⟨_,rfl,"set_iterator",_,hit.typeIs,ZcR.lookup,h⟩
theorem Zr5(hh:A.handled=none)(I a:Addr)(hne:a≠I)(es:Array (Int × Value))(ep:Nat)(t:SetTable) :
  Walks prog w A I [I,a] [I] es.size (λi v=>∃e,(Zec w a es ep)[i]?=some e/\v=e.2) (λi h=>∃slot,Zhg h I a slot i es.size ep/\ZeN w h a es ep t/\(w.params.followText "set-order" = false->ZyW t.place slot=i)) where
 sub:=λb hb=>by simp at hb; simp[hb]
 frame:=λ_ _ _ ⟨slot,h1,h2,h3⟩ hk=>⟨slot,h1.at' λo e=>hk I (by simp) o e,h2.at' λo e=>hk a (by simp) o e,h3⟩
 item:=λi s Q E hi ⟨slot,h1,h2,h3⟩ hQ=>by
  have hlt:i<(Zec w a es ep).size:=by rw[Zjl]; exact hi
  have hx:(Zec w a es ep)[i]?=some (Zec w a es ep)[i]:=ZBc hlt;refine Zue h1 h2 h3 hx λh' hit' hs'=>?_;refine hQ _ h' s.toks ⟨_,hx,rfl⟩ ⟨_,hit',h2.at' λo e=>hs'.extBut a o hne e,λhb=>?_⟩ λb o hb e=>hs'.extBut b o (λh=>hb (by simp[h])) e;rw[hb];exact Zq8 h2.tab.rise (by rw[<-h2.siz]; exact hi)
 done:=λs Q E ⟨slot,h1,h2,h3⟩ hQ=>ZtD hh h1 h2 h3 (ZyT _) λh' he'=>hQ h' s.toks λb o hb e=>he' b o (λh=>hb (by simp[h])) e
 self:=λ_ _ _ _ ⟨slot,h1,_⟩ hQ=>ZtL h1 hQ
end
end HP
namespace HP
open PySem PySem.W PyProof.Rows
section
variable{α β:Type}
def ZcN(o:Nat->Nat->Bool)(n:Nat):KasT α->(α->Prop)->Prop
 | .ret a,Q=>Q a
 | .ask i j k,Q=>i<n/\j<n/\ZcN o n (k (o i j)) Q
theorem ZcN.bnd{o:Nat->Nat->Bool}{n:Nat}{f:α->KasT β}{Q:β->Prop}:∀(t:KasT α),ZcN o n t (λa=>ZcN o n (f a) Q)->ZcN o n (t.bind f) Q
 | .ret a,h=>h
 | .ask i j k,h=>⟨h.1,h.2.1,ZcN.bnd (k (o i j)) h.2.2⟩
end
structure Pm(n:Nat)(p:Array Nat):Prop where
 pos:0<n
 perm:p.Perm (List.toArray (ZyP n))
theorem Pm.size{n:Nat}{p:Array Nat}(h:Pm n p):p.size=n:=by have:=h.perm.size_eq;simpa using this
theorem Pm.lt{n:Nat}{p:Array Nat}(h:Pm n p)(i:Nat):p.getD i 0<n:=by
 by_cases hi:i<p.size
 ·have e:p.getD i 0=p[i]:=by simp[ZAE,hi]
  rw[e];have:=(ZBL.mp h.perm).mem_iff (a:=p[i]);have h2:=this.mp (by simp);simpa using h2
 ·have e:p.getD i 0=0:=by simp[ZAE,hi]
  rw[e]; exact h.pos
theorem Pm.rev{n:Nat}{p:Array Nat}(h:Pm n p)(i j:Nat):Pm n (kas_rev p i j):=⟨h.pos,(mirror_perm _ _ _ _).trans h.perm⟩
theorem Pm.bub{n:Nat}{p:Array Nat}(h:Pm n p)(i j:Nat):Pm n (bubble p i j):=⟨h.pos,(bubble_perm _ _ _).trans h.perm⟩
theorem getD_eq?(p:Array Nat)(i:Nat):p.getD i 0=(p[i]?).getD 0:=by simp[Array.getD_eq_getD_getElem?]
section
variable(O:KeyOrd)(key:Nat->O.α)
def Ka(p:Array Nat)(i:Nat):O.α:=key (p.getD i 0)
def Up(p:Array Nat)(k:Nat):Prop:=∀i j,i<=j->j<k->O.kle (Ka O key p i) (Ka O key p j)
def Dn(p:Array Nat)(k:Nat):Prop:=∀i j,i<=j->j<k->O.kle (Ka O key p j) (Ka O key p i)
def Ev(p:Array Nat)(m q:Nat):Prop:=∀i,m-(q+1)<=i->i<m->Ka O key p i=Ka O key p (m-1)
abbrev orc:Nat->Nat->Bool:=λi j=>O.blt (key i) (key j)
variable{O key}{p:Array Nat}{n:Nat}
theorem Zn1{i j:Nat}(hj:j<=p.size)(k:Nat):Ka O key (kas_rev p i j) k=if i<=k/\k<j then Ka O key p (i+j-1-k)else Ka O key p k:=by unfold Ka kas_rev;rw[getD_eq?,getElem?_mirror_all hj];split<;>rw[<-getD_eq?]
theorem Zi1{i j:Nat}(hj:j<=p.size)(h:∀k,i<=k->k<j->Ka O key p k=Ka O key p (j-1))(k:Nat):Ka O key (kas_rev p i j) k=Ka O key p k:=by
 rw[Zn1 hj];split
 ·rename_i hk
  rw[h _ (by omega) (by omega),h k hk.1 hk.2]
 ·rfl
theorem Zsv{s d:Nat}(hs:s<p.size)(hd:d<=s)(k:Nat):Ka O key (bubble p s d) k=if k=s-d then Ka O key p s else if s-d<k/\k<=s then Ka O key p (k-1)else Ka O key p k:=by
 unfold Ka;rw[getD_eq?,getElem?_bubble hs d hd]
 by_cases h1:k=s-d
 ·rw[if_pos h1,if_pos h1,<-getD_eq?]
 ·rw[if_neg h1,if_neg h1]
  by_cases h2:s-d<k/\k<=s
  ·rw[if_pos h2,if_pos h2,<-getD_eq?]
  ·rw[if_neg h2,if_neg h2,<-getD_eq?]
theorem Up.one:Up O key p 1:=λi j h1 h2=>by
 obtain rfl:i=j:=by omega
 exact ZBt _
theorem Up.more{k:Nat}(h:Up O key p k)(hl:O.kle (Ka O key p (k-1)) (Ka O key p k)):Up O key p (k+1):=λi j h1 h2=>by
 by_cases hj:j<k
 ·exact h i j h1 hj
 obtain rfl:j=k:=by omega
 by_cases hi:i=j
 ·subst hi; exact ZBt _
 ·exact ZCd (h i (j-1) (by omega) (by omega)) hl
theorem Dn.more{k:Nat}(h:Dn O key p k)(hl:O.kle (Ka O key p k) (Ka O key p (k-1))):Dn O key p (k+1):=λi j h1 h2=>by
 by_cases hj:j<k
 ·exact h i j h1 hj
 obtain rfl:j=k:=by omega
 by_cases hi:i=j
 ·subst hi; exact ZBt _
 ·exact ZCd hl (h i (j-1) (by omega) (by omega))
theorem Dn.same{p':Array Nat}{k:Nat}(h:Dn O key p k)(e:∀i,Ka O key p' i=Ka O key p i):Dn O key p' k:=λi j h1 h2=>by rw[e,e]; exact h i j h1 h2
theorem Zkw(hp:Pm n p){Q:Nat->Prop}:∀(f m:Nat),Up O key p m->(∀m',m<=m'->m'<=m+f->Up O key p m'->(m'=m+f\/O.klt (Ka O key p m') (Ka O key p (m'-1)))->Q m')->ZcN (orc O key) n (kas_asc p f m) Q
 | 0,m,hu,hq=>hq m (ZyT _) (by omega) hu (.inl rfl)
 | f+1,m,hu,hq=>by
  refine⟨hp.lt _,hp.lt _,?_⟩;dsimp only;split
  ·rename_i h
   exact hq m (ZyT _) (by omega) hu (.inr h)
  ·rename_i h
   refine Zkw hp f (m+1) (hu.more (ZA2 h)) λm' h1 h2 h3 h4=>hq m' (by omega) (by omega) h3 (h4.imp (λe=>by omega) id)
theorem ZgN{Q:Array Nat × Nat × Nat->Prop}:∀(f:Nat) (p:Array Nat) (m q:Nat),Pm n p->Dn O key p m->q+1<=m->Ev O key p m q->m+f<=n ->
  (∀p' m' q',Pm n p'->m<=m'->m'<=m+f->Dn O key p' m'->q'+1<=m'->Ev O key p' m' q'->Q (p',m',q'))->ZcN (orc O key) n (kas_desc f p m q) Q
 | 0,p,m,q,hp,hd,h1,he,hn,hq=>hq p m q hp (ZyT _) (by omega) hd h1 he
 | f+1,p,m,q,hp,hd,h1,he,hn,hq=>by
  have hz:m<=p.size:=by rw[hp.size]; omega
  have e0:∀p',Ev O key p' (m+1) 0:=λp' i h1 h2=>by congr 1; omega
  refine⟨hp.lt _,hp.lt _,?_⟩;dsimp only;split
  ·rename_i h
   have hd':=hd.more (ZB4 h);split
   ·exact ZgN f _ (m+1) 0 (hp.rev _ _) (hd'.same (Zi1 hz he)) (by omega) (e0 _) (by omega) λp' m' q' a b c d e g=>hq p' m' q' a (by omega) (by omega) d e g
   ·exact ZgN f _ (m+1) 0 hp hd' (by omega) (e0 _) (by omega) λp' m' q' a b c d e g=>hq p' m' q' a (by omega) (by omega) d e g
  ·rename_i h
   refine⟨hp.lt _,hp.lt _,?_⟩;dsimp only;split
   ·exact hq p m q hp (ZyT _) (by omega) hd h1 he
   ·rename_i h'
    have l1:=ZA2 h;have l2:=ZA2 h';have ee:Ka O key p m=Ka O key p (m-1):=ZDL l2 l1;refine ZgN f p (m+1) (q+1) hp (hd.more l2) (by omega) (λi a b=>?_) (by omega) λp' m' q' a b c d e g=>hq p' m' q' a (by omega) (by omega) d e g;rw[show m+1-1=m by omega]
    by_cases hi:i=m
    ·rw[hi]
    ·rw[ee]; exact he i (by omega) (by omega)
theorem Zmp{Q:Nat × Array Nat->Prop}{m:Nat}(hp:Pm n p)(hd:Dn O key p m)(h1:1<=m)(hm:m<=n)(hq:∀m' p',1<=m'->m'<=n->Pm n p'->Up O key p' m'->Q (m',p')):ZcN (orc O key) n (kas_tail3 m n p) Q:=by
 have hz:m<=p.size:=by rw[hp.size]; omega
 refine ZcN.bnd _ (Zkw (hp.rev 0 m) (n-m) m (λi j a b=>?_) λm' a b c _=>hq m' _ (by omega) (by omega) (hp.rev 0 m) c);rw[Zn1 hz,Zn1 hz,if_pos (by omega),if_pos (by omega)];exact hd _ _ (by omega) (by omega)
theorem ZmB{Q:Nat × Array Nat->Prop}{m:Nat}(hp:Pm n p)(hd:Dn O key p (m+1))(hm:m+1<=n)(hq:∀m' p',1<=m'->m'<=n->Pm n p'->Up O key p' m'->Q (m',p')):ZcN (orc O key) n (kas_descPart m n p) Q:=by
 refine ZcN.bnd _ (ZgN (n-(m+1)) p (m+1) 0 hp hd (by omega) (λi a b=>by congr 1; omega) (by omega) λp' m' q' h1 h2 h3 h4 h5 h6=>?_);have hz:m'<=p'.size:=by rw[h1.size]; omega
 dsimp only;split
 ·exact Zmp (h1.rev _ _) (h4.same (Zi1 hz h6)) (by omega) (by omega) hq
 ·exact Zmp h1 h4 (by omega) (by omega) hq
theorem ZrC{Q:Nat × Array Nat->Prop}(hp:Pm n p)(hq:∀m' p',1<=m'->m'<=n->Pm n p'->Up O key p' m'->Q (m',p')):ZcN (orc O key) n (kas_count n p) Q:=by
 have h0:=hp.pos;refine ZcN.bnd _ (Zkw hp (n-1) 1 Up.one λm h1 h2 h3 h4=>?_);have hz:m<=p.size:=by rw[hp.size]; omega
 split
 ·exact hq m p (by omega) (by omega) hp h3
 ·rename_i hne
  have hne':m≠n:=by simpa using hne
  have hlt:O.klt (Ka O key p m) (Ka O key p (m-1)):=h4.resolve_left (by omega);split
  ·rename_i hm
   refine⟨hp.lt _,hp.lt _,?_⟩;dsimp only;split
   ·exact hq m p (by omega) (by omega) hp h3
   ·rename_i hr
    have hr':O.kle (Ka O key p (m-1)) (Ka O key p 0):=ZA2 hr;have all:∀k,0<=k->k<m->Ka O key p k=Ka O key p (m-1):=λk _ hk=>ZDL (h3 k (m-1) (by omega) (by omega)) (ZCd hr' (h3 0 k (by omega) hk));refine ZmB (hp.rev _ _) (Dn.same ?_ (Zi1 hz all)) (by omega) hq;refine Dn.more (λi j a b=>?_) (ZB4 hlt);rw[all i (by omega) (by omega),all j (by omega) b]; exact ZBt _
  ·obtain rfl:m=1:=by omega
   refine ZmB hp (Dn.more (λi j a b=>?_) (ZB4 hlt)) (by omega) hq;obtain rfl:i=j:=by omega
   exact ZBt _
theorem ZhR{Q:Nat->Prop}{k:Nat}(hp:Pm n p)(hu:Up O key p k):∀(f l r:Nat),l<=r->r<=k->r-l<=f->(∀i,i<l->O.kle (Ka O key p i) (Ka O key p k))->(∀i,r<=i->i<k->O.klt (Ka O key p k) (Ka O key p i)) ->
  (∀l,l<=k->(∀i,i<l->O.kle (Ka O key p i) (Ka O key p k))->(∀i,l<=i->i<k->O.klt (Ka O key p k) (Ka O key p i))->Q l)->ZcN (orc O key) n (kas_place p k f l r) Q
 | 0,l,r,h1,h2,h3,lo,hi,hq=>by
  obtain rfl:l=r:=by omega
  exact hq l h2 lo hi
 | f+1,l,r,h1,h2,h3,lo,hi,hq=>by
  unfold kas_place;split
  ·obtain rfl:l=r:=by omega
   exact hq l h2 lo hi
  ·refine⟨hp.lt _,hp.lt _,?_⟩
   dsimp only;split
   ·rename_i h
    exact ZhR hp hu f l ((l+r) / 2) (by omega) (by omega) (by omega) lo (λi a b=>KeyOrd.klt_of_klt_of_kle h (hu _ _ a b)) hq
   ·rename_i h
    refine ZhR hp hu f ((l+r) / 2+1) r (by omega) (by omega) (by omega) (λi a=>ZCd (hu i ((l+r) / 2) (by omega) (by omega)) (ZA2 h)) hi hq
theorem ZoV{Q:Array Nat->Prop}:∀(f:Nat) (p:Array Nat) (k:Nat),Pm n p->Up O key p k->k+f=n->(∀p',Pm n p'->Up O key p' n->Q p')->ZcN (orc O key) n (kas_bin f p k) Q
 | 0,p,k,hp,hu,hn,hq=>by
  obtain rfl:k=n:=by omega
  exact hq p hp hu
 | f+1,p,k,hp,hu,hn,hq=>by
  refine ZcN.bnd _ (ZhR hp hu k 0 k (by omega) (ZyT _) (by omega) (λi a=>by omega) (λi a b=>by omega) λl hl lo hi=>?_);refine ZoV f _ (k+1) (hp.bub _ _) (λi j a b=>?_) (by omega) hq;have hk:k<p.size:=by rw[hp.size]; omega
  rw[Zsv hk (by omega),Zsv hk (by omega),show k-(k-l)=l by omega]
  repeat' split
  all_goals first
   | (exfalso; omega)
   | exact ZBt _
   | exact lo _ (by omega)
   | exact ZB4 (hi _ (by omega) (by omega))
   | exact hu _ _ (by omega) (by omega)
theorem Zmi(hn:0<n){Q:Array Nat->Prop}(hq:∀p,Pm n p->Up O key p n->Q p):ZcN (orc O key) n (kas_sort n) Q:=by
 refine ZcN.bnd _ (ZrC ⟨hn,.refl _⟩ λm p h1 h2 h3 h4=>?_);dsimp only;rw[show max m 1=m by omega];split
 ·exact ZoV _ p m h3 h4 (by omega) hq
 ·exact hq p h3 (by rwa [show n=m by omega])
end
theorem lex_irrefl:∀a:List Int,HM.lexLt a a=false
 | []=>rfl
 | x::a=>by show(if x=x then HM.lexLt a a else decide (x<x))=false;rw[if_pos rfl]; exact lex_irrefl a
theorem Zgz(x y:Int)(a b:List Int):HM.lexLt (x::a) (y::b)=if x=y then HM.lexLt a b else decide (x<y):=rfl
theorem lex_trans:∀a b c:List Int,HM.lexLt a b=true->HM.lexLt b c=true->HM.lexLt a c=true
 | [],[],_,h,_=>by cases h
 | [],_::_,[],_,h=>by cases h
 | [],_::_,_::_,_,_=>rfl
 | _::_,[],_,h,_=>by cases h
 | _::_,_::_,[],_,h=>by cases h
 | x::a,y::b,z::c,h1,h2=>by
  rw[Zgz]at *;split at h1
  ·rename_i e
   subst e;split at h2
   ·rename_i e; subst e; rw[if_pos rfl]; exact lex_trans a b c h1 h2
   ·rename_i e; rw[if_neg e]; exact h2
  ·split at h2
   ·rename_i e1 e2; subst e2; rw[if_neg e1]; exact h1
   ·rename_i e1 e2
    have h1:=of_decide_eq_true h1;have h2:=of_decide_eq_true h2;rw[if_neg (by omega)]; exact decide_eq_true (by omega)
theorem ZlZ:∀a b c:List Int,HM.lexLt a c=true->HM.lexLt a b=true\/HM.lexLt b c=true
 | [],[],_,h=>.inr h
 | [],_::_,_,_=>.inl rfl
 | _::_,_,[],h=>by cases h
 | _::_,[],_::_,_=>.inr rfl
 | x::a,y::b,z::c,h=>by
  rw[Zgz]at *;rw[Zgz];split at h
  ·rename_i e
   subst e
   by_cases e:x=y
   ·subst e; rw[if_pos rfl,if_pos rfl]; exact ZlZ a b c h
   ·rw[if_neg e,if_neg (ZzX e)]
    by_cases q:x<y
    ·exact .inl (decide_eq_true q)
    ·exact .inr (decide_eq_true (by omega))
  ·rename_i e
   have h:=of_decide_eq_true h
   by_cases e1:x=y
   ·subst e1; rw[if_neg e]; exact .inr (decide_eq_true h)
   ·rw[if_neg e1]
    by_cases q:x<y
    ·exact .inl (decide_eq_true q)
    ·rw[if_neg (by omega)]; exact .inr (decide_eq_true (by omega))
theorem Zjh:∀a b:List Int,HM.lexLt a b=false->HM.lexLt b a=false->a=b
 | [],[],_,_=>rfl
 | [],_::_,h,_=>by cases h
 | _::_,[],_,h=>by cases h
 | x::a,y::b,h1,h2=>by
  rw[Zgz]at h1 h2
  by_cases e:x=y
  ·subst e
   rw[if_pos rfl]at h1 h2;rw[Zjh a b h1 h2]
  ·rw[if_neg e]at h1
   rw[if_neg (ZzX e)]at h2;have h1:=of_decide_eq_false h1;have h2:=of_decide_eq_false h2;omega
@[reducible] def Zpi:KeyOrd where
 α:=List Int
 blt:=HM.lexLt
 irrefl:=lex_irrefl
 trans:=lex_trans
 negTrans:=ZlZ
 total:=Zjh
theorem ZfL{α:Type}{R:α->α->Prop}(anti:∀a b,R a b->R b a->a=b):∀{l m:List α},l.Perm m->l.Pairwise R->m.Pairwise R->l=m
 | [],m,hp,_,_=>(List.nil_perm.mp hp).symm
 | x::l,[],hp,_,_=>absurd hp.symm (by intro q; exact List.cons_ne_nil _ _ (List.nil_perm.mp q))
 | x::l,y::m,hp,hl,hm=>by
  obtain⟨l1,l2⟩:=ZzJ.mp hl;obtain⟨m1,m2⟩:=ZzJ.mp hm;have e:x=y:=by
   rcases Zzb.mp (hp.mem_iff.mp (ZyO ..))with e | e
   ·exact e
   ·rcases Zzb.mp (hp.mem_iff.mpr (ZyO ..))with e' | e'
    ·exact e'.symm
    ·exact anti x y (l1 y e') (m1 x e)
  subst e;rw[ZfL anti ((List.perm_cons x).mp hp) l2 m2]
def TI(h:Heap)(b:Addr)(t:List Int):Prop:=∃o its n,h.get? b=some o/\o.cls=.type "tuple"/\o.data=.seq its n/\IntsAre its.toList t
theorem TI.keep{h h':Heap}{b:Addr}{t:List Int}(x:TI h b t)(k:∀o,h.get? b=some o->h'.get? b=some o):TI h' b t:=let ⟨o,its,n,e,r⟩:=x; ⟨o,its,n,k o e,r⟩
section
variable{prog:Program}{w:World}{A:Around}{E:Value->Shared->Prop}{s:Shared}
theorem Zr2{fin:Bool}{Q:Bool->Shared->Prop}:∀{vs ws:List Value} {a b:List Int} (i:Nat),IntsAre vs a->IntsAre ws b->fin=decide (vs.length<ws.length)->Q (HM.lexLt a b) s->KatLex prog w A true fin Q (vs.zip ws) i s
 | _,_,_,_,i,.nil,.nil,e,q=>by subst e; exact kat_nil q
 | _,_,_,_,i,.nil,.cons _ _ _,e,q=>by subst e; exact kat_nil q
 | _,_,_,_,i,.cons _ _ _,.nil,e,q=>by subst e; exact kat_nil q
 | _,_,_,_,i,.cons x t hv,.cons y u hw,e,q=>by
  rw[List.zip_cons_cons];refine kat_cons (wpAny_eqBool_int ?_);rw[Zgz]at q
  by_cases h:x=y
  ·rw[if_pos h]at q
   rw[show(x==y)=true by simpa using h];refine kat_yes (Zr2 (i+1) hv hw ?_ q);rw[e,Zy3,Zy3];exact decide_eq_decide.mpr (by omega)
  ·rw[if_neg h]at q
   rw[show(x==y)=false by simpa using h];refine kat_no ?_
   by_cases hi:i=0
   ·rw[show(true&&i==0)=true by simpa using hi]
    exact oneLt_int q
   ·rw[show(true&&i==0)=false by simpa using hi]
    exact kat_one _ _ (PyProof.Rows.lt_int q)
theorem Zwr{x y:Addr}{a b:List Int}{Q:Bool->Shared->Prop}(hx:TI s.heap x a)(hy:TI s.heap y b)(h:Q (HM.lexLt a b) s):wpAny (model prog w) A (keyLt' (tuples' true) (.ref x) (.ref y)) Q E s:=by obtain⟨ox,ix,n,e1,_,d1,r1⟩:=hx;obtain⟨oy,iy,k,e2,_,d2,r2⟩:=hy;refine kat_lt e1 d1 e2 d2 (Zr2 0 r1 r2 ?_ h);rw[Zze,Zze]
theorem ZlN{α:Type}{cmp:Nat->Nat->(Bool->Shared->Prop)->Shared->Prop}{o:Nat->Nat->Bool}{n:Nat}(hc:∀i j C,i<n->j<n->C (o i j) s->cmp i j C s){G:α->Shared->Prop}:∀(t:KasT α),ZcN o n t (λa=>G a s)->t.kasWp cmp G s
 | .ret a,h=>h
 | .ask i j k,h=>hc i j _ h.1 h.2.1 (ZlN hc (k (o i j)) h.2.2)
theorem Zpb{a:Addr}{vs:List Value}{ts:List (List Int)}{n:Nat}{P:PySem.Fin->Shared->Prop}(ho:s.heap.get? a=some (seqObj "list" vs.toArray n))(hl:ts.length=vs.length)
  (hT:∀(i:Nat) t,ts[i]?=some t->∃b,vs[i]?=some (.ref b)/\TI s.heap b t) (hne:vs.length<2\/∀t∈ts,t≠[]) (h64:vs.length<64)
  (h:∀p:List Nat,p.Perm (ZyP vs.length)->(p.map λi=>ts.getD i []).Pairwise (λx y=>HM.lexLt y x=false)->P (.done (.ret .none)) { s with heap:=ZBK s.heap a vs (p.map λi=>vs.getD i Zzs).toArray }) :
  wpAny (model prog w) A (Builtin.«list.sort» ⟨[.ref a],[]⟩) P E s:=by
 rw[list_sort_plain];have ha:a<s.heap.objs.size:=Zy1 ho;refine ZyI (listItems_at ho rfl (ZyI (ZCN ho rfl ?_ (by rw[ZyX,ZzM]; omega) (ZzN _))));obtain⟨e1,ho1⟩:∃e1,(s.heap.update a (ZBr λ_=>#[])).get? a=some (seqObj "list" #[] e1):=⟨_,get?_update_seq ho (λ_=>#[])⟩;refine ZyI (ZDw ho1 rfl ?_);refine ZyI (wpAny_newTuple ?_ (by show vs.length<=_; rw[ZzM]; omega));refine ZyI (ZBM ?_ (ZzN _));refine Zzx ?_;generalize hG:((s.heap.update a (ZBr λ_=>#[])).push (seqObj "tuple" vs.toArray 0)).push (seqObj "list" #[] 0)=g;have ho6:g.get? a=some (seqObj "list" #[] e1):=by rw[<-hG,ZBa _ _ _ (by rw[size_push',ZBh]; exact Zzc (ZA9 ha)),ZBa _ _ _ (by rw[ZBh]; exact Zzc ha)];exact ho1
 have hold:∀b o,b≠a->s.heap.get? b=some o->g.get? b=some o:=λb o hb e=>by have hlt:=Zy1 e;rw[<-hG,ZBa _ _ _ (by rw[size_push',ZBh]; exact Zzc (ZA9 hlt)),ZBa _ _ _ (by rw[ZBh]; exact Zzc hlt),Heap.get?_update_ne _ _ _ _ hb];exact e
 have hT6:∀(i:Nat) t,ts[i]?=some t->∃b,vs[i]?=some (.ref b)/\TI g b t:=λi t e=>by
  obtain⟨b,e1,x⟩:=hT i t e;refine⟨b,e1,x.keep λo q=>hold b o ?_ q⟩
  rintro rfl
  obtain⟨o',_,_,q1,q2,_⟩:=x;rw[ho]at q1;cases q1;injection q2 with q2
  exact absurd q2 (by decide)
 show wpAny (model prog w) A _ P E { s with heap:=g };dsimp only;have fin:∀(st':SortSt) (p:List Nat),p.Perm (ZyP vs.length)->(p.map λi=>ts.getD i []).Pairwise (λx y=>HM.lexLt y x=false)->(arrOf st').map (·.2)=(p.map λi=>vs.getD i Zzs).toArray->ZDa st'=none ->
   wpAny (model prog w) A (do
    let touched:=(<-seqEpoch a) != e1
    ZDj (.ref a) λ_=>(arrOf st').map (·.2)
    if let some e:=ZDa st' then rule "list.sort.comparison-raised"; throw e
    if touched then rule "list.sort.modified"; raiseError "ValueError" "list modified during sort"
    ret .none) P E { s with heap:=g }:=by
  intro st' p hp hs har hf;refine ZyI (ZDw ho6 rfl ?_);rw[har];refine ZyI (ZCN ho6 rfl ?_ (ZzN _) (by show(p.map λi=>vs.getD i Zzs).toArray.size<=_; rw[ZyX,ZyJ,hp.length_eq,ZAa,ZzM]; omega));rw[hf];simp only[bne_self_eq_false,ZAs,if_false];refine ZyM ?_;have:=h p hp hs;unfold ZBK at this;rw[hG]at this;exact this
 by_cases h2:vs.toArray.size<2
 ·rw[if_pos h2,if_pos h2]
  refine ZyI (ZyM ?_);rw[StateT.run_pure];refine ZyI (ZyM ?_);refine fin (SortSt.mk' general' (vs.toArray.zip vs.toArray) #[] 7 none) (ZyP vs.length) (.refl _) ?_ ?_ rfl
  ·rw[ZyX]at h2
   have:vs.length=0\/vs.length=1:=by omega
   rcases this with e | e<;>rw[e]<;>simp
  ·rw[ZyX]at h2
   show Array.map (·.2) (vs.toArray.zip vs.toArray)=_
   match vs,h2 with
   | [],_=>simp
   | [v],_=>simp
 ·rw[if_neg h2,if_neg h2]
  rw[ZyX]at h2;have hne':∀t∈ts,t≠[]:=hne.resolve_left h2;have tups:∀(vs:List Value) (ts:List (List Int)),ts.length=vs.length->(∀(i:Nat) t,ts[i]?=some t->∃b,vs[i]?=some (.ref b)/\TI g b t)->(∀t∈ts,t≠[])->∃fs,KatTups g vs fs/\fs.length=vs.length/\∀v∈fs,∃x t,v=ZAH x t:=by
   intro vs
   induction vs with
   | nil=>intro ts hl _ _; exact⟨[],KatTups.nil,rfl,by simp⟩
   | cons v vs ih =>
    intro ts hl hT hn;cases ts with
    | nil=>simp at hl
    | cons t ts =>
     obtain⟨fs,f1,f2,f3⟩:=ih ts (by simpa using hl) (λi t e=>hT (i+1) t (by simpa using e)) λx hx=>hn x (ZyQ _ hx);obtain⟨b,eb,o,its,m,g1,g2,g3,g4⟩:=hT 0 t rfl;simp at eb;subst eb;cases t with
     | nil=>exact absurd rfl (hn [] (ZyO ..))
     | cons x t =>
      cases hi:its.toList with
      | nil=>rw[hi]at g4; cases g4
      | cons y ys =>
       rw[hi]at g4;cases g4 with
       | cons _ u _ =>
        refine⟨.int x u::fs,KatTups.cons g1 g2 g3 ?_ f1,by simp[f2],λv hv=>?_⟩
        ·rw[<-Zzy,hi]; rfl
        ·rcases Zzb.mp hv with e | e
         ·exact⟨x,u,e⟩
         ·exact f3 v e
  obtain⟨fs,f1,f2,f3⟩:=tups vs ts hl hT6 hne';refine ZyI (kat_kind (s:={ s with heap:=g }) (T:=.type "int") f1 (by omega) (λv hv=>?_) (by rfl) ?_)
  ·obtain⟨x,t,rfl⟩:=f3 v hv
   exact Looks.of_pure rfl
  rw[show(ZAm "int" != ZAm "tuple")=true by decide];refine ZyI (Zz4 (kat_run (ks:=vs) (Q:=λst' s'=>s'={ s with heap:=g }/\∃p:Array Nat,Pm vs.length p/\Up Zpi (λi=>ts.getD i []) p vs.length/\arrOf st'=p.map (kas_item (vs.toArray.zip vs.toArray))/\ZDa st'=none)
   (G:=λp s'=>s'={ s with heap:=g }/\Pm vs.length p/\Up Zpi (λi=>ts.getD i []) p vs.length) rfl (by omega) h64 (λp' st' s' a1 a2 a3 a4=>⟨a4.1,p',a4.2.1,a4.2.2,a2,a3⟩) ?_) ?_ λ_ _ e=>e)
  ·refine ZlN (o:=orc Zpi λi=>ts.getD i []) (n:=vs.length) (λi j C hi hj hC=>?_) _ (Zmi (by omega) λp h1 h2=>⟨rfl,h1,h2⟩)
   have gi:ts[i]?=some (ts.getD i []):=by simp[show i<ts.length by omega]
   have gj:ts[j]?=some (ts.getD j []):=by simp[show j<ts.length by omega]
   obtain⟨b1,v1,x1⟩:=hT6 i _ gi;obtain⟨b2,v2,x2⟩:=hT6 j _ gj;show wpAny (model prog w) A (keyLt' _ (vs.getD i Zzs) (vs.getD j Zzs)) C _ _;rw[show vs.getD i Zzs=.ref b1 by simp[ZzP,v1],show vs.getD j Zzs=.ref b2 by simp[ZzP,v2]];exact Zwr x1 x2 hC
  ·rintro ⟨⟨⟩,st'⟩ s' ⟨rfl,p,hp,hu,har,hf⟩
   refine fin st' p.toList ?_ ?_ (kat_snds rfl har) hf
   ·have:=ZBL.mp hp.perm
    simpa using this
   ·rw[ZCX,ZBR]
    intro i j hi hj hij;have hsz:=hp.size;have q:=hu i j (ZAB hij) (by rw[Zze]at hj; omega);unfold Ka at q;rw[show p.getD i 0=p.toList[i] by simp[ZAE,show i<p.size by simpa using hi],show p.getD j 0=p.toList[j] by simp[ZAE,show j<p.size by simpa using hj]]at q;exact q
end
def ZdC(h:Heap)(d:Addr)(es:Array DictEntry)(ep:Nat):Prop:=∃o,h.get? d=some o/\o.ExactDict/\o.data=.dict es ep
theorem ZdC.at'{h h':Heap}{d:Addr}{es:Array DictEntry}{ep:Nat}(x:ZdC h d es ep)(e:∀o,h.get? d=some o->h'.get? d=some o):ZdC h' d es ep:=let ⟨o,ho,r⟩:=x; ⟨o,e _ ho,r⟩
theorem ZdC.typeIs{s:Shared}{d:Addr}{es:Array DictEntry}{ep:Nat}(x:ZdC s.heap d es ep):s.TypeIs (.ref d) "dict":=let ⟨o,ho,hc,_⟩:=x; ⟨o,ho,hc.1⟩
theorem ZdC.lt{h:Heap}{d:Addr}{es:Array DictEntry}{ep:Nat}(x:ZdC h d es ep):d<h.objs.size:=let ⟨o,ho,_⟩:=x; Zy1 ho
section
variable{prog:Program}{w:World}{A:Around}{E:Value->Shared->Prop}{s:Shared}{it d:Addr}{es:Array DictEntry}{ep i:Nat}
theorem Zpk{Q:Value->Shared->Prop}(hd:(d==Zz8)=false)(hm:ZdC s.heap d es ep)
  (hQ:Q (.ref s.heap.objs.size) { s with heap:=s.heap.push { cls:=.type "dict_keyiterator",data:=.fields #[.ref d,.int 0 0,.int es.size 0,.int ep 0] } }) :
  wpAny (model prog w) A (pyIter (.ref d)) Q E s:=by
 obtain⟨o,ho,hc,hdat⟩:=id hm;have hT:=hm.typeIs;refine ZCV hT F.slot_dict_iter (ZzF F.slot_dict_iter hT F.entry_dict_iter ?_ (F.args_dict_iter_1 _));unfold Builtin.«dict.__iter__»;refine ZyI ?_;unfold Builtin.Dict.dictSlotNone;refine ZyI (wpAny_notOrdered_dict hT ?_);show wpAny _ _ (pure (ZzW d)) _ _ s;refine ZyM ?_;show wpAny _ _ (ZDD d >>= _) _ _ s;unfold ZDD;rw[if_neg (by rw[hd]; exact ZzA)];refine ZyI (ZyM (ZyI (ZBx ho hdat (ZyI (ZDo ho hdat ?_)))));refine ZyI (Zzz (ZyM ⟨_,rfl,"dict_keyiterator",_,⟨_,Zy4 _ rfl,rfl⟩,F.slot_dict_keyiterator_next.lookup,?_⟩));simpa [rawInt]using hQ
theorem ZnZ{e:DictEntry}{Q:Option Value->Shared->Prop}(hit:s.heap.IsKeyIter it d i es.size ep)(hm:ZdC s.heap d es ep)(hx:es[i]?=some e)
  (hQ:∀h',h'.IsKeyIter it d (i+1) es.size ep->ZAL it s.heap h'->Q (some e.key) { s with heap:=h' }) :
  wpAny (model prog w) A (pyNext (.ref it)) Q E s:=by
 obtain⟨o,ho,hc,hd⟩:=id hit;obtain⟨od,hod,hcd,hdd⟩:=id hm;unfold pyNext;refine ZyI (ZCM (wpAny_callSpecial?_slot (name:=Zzd "__next__") hit.typeIs F.slot_dict_keyiterator_next
  (ZzF F.slot_dict_keyiterator_next hit.typeIs F.entry_dict_keyiterator_next ?_ (F.args_dict_keyiterator_next_1 _))))
 refine ZyI (ZyM (ZyI (ZyI ?_)))
 first | refine ZyI (ZAT hit.typeIs (ZyM ?_)) | refine ZyI (ZBi hit.typeIs (ZyM ?_))
 refine ZyI (ZCy ho hd ?_);have hown:ZCA "dict_keyiterator" = false:=by decide
 simp only[hown,ZAs,if_false];show wpAny _ _ (if(ZzW d==Zzs)=true then _ else _) _ _ s;rw[if_neg (show ¬((ZzW d==Zzs)=true) from ZzA)];refine ZyI (ZyM (ZyI (ZBx hod hdd ?_)));rw[if_neg (by simp)];refine ZyI (ZyM (ZyI (ZDo hod hdd ?_)));rw[if_neg (by simp)];refine ZyM ?_;obtain⟨hlt,he⟩:=Array.getElem?_eq_some_iff.mp hx;simp only[show ¬((i:Int)<0) from by omega,if_false,ZBy,ZBc hlt];refine ZyI ?_
 first | refine ZyI (ZAT hit.typeIs (ZyM ?_)) | refine ZyI (ZBi hit.typeIs (ZyM ?_))
 refine ZyI (wpAny_isOneOf_keyiter hit.typeIs ?_);show wpAny _ _ (setField (.ref it) 1 (rawInt ((i:Int)+1)) >>= _) _ _ s;refine ZyI (ZBX ho hd (by simp) ?_);have hit':(s.heap.update it (ZDK (·.setIfInBounds 1 (rawInt ((i:Int)+1))))).IsKeyIter it d (i+1) es.size ep :=
  ⟨_,Zz2 _ ho (ZCf (ZAu hd _)),(ZCW ..).trans hc,by rw[ZAu hd]; simp[rawInt]⟩
 refine ZyI (Zzx ?_);refine ZyI (wpAny_isOneOf_keyiter (s:={ s with heap:=s.heap.update it (ZDK (·.setIfInBounds 1 (rawInt ((i:Int)+1)))) }) hit'.typeIs ?_);show wpAny _ _ (pure es[i].key) _ _ _;refine ZyM (ZyM ⟨_,rfl,ZyM ?_⟩);rw[he];exact hQ _ hit' (Zz1 ..)
theorem Zql{Q:Option Value->Shared->Prop}(hh:A.handled=none)(hit:s.heap.IsKeyIter it d i es.size ep)(hm:ZdC s.heap d es ep)(hx:es.size<=i)
  (hQ:∀h',Heap.ExtBut it s.heap h'->Q none { s with heap:=h' }):wpAny (model prog w) A (pyNext (.ref it)) Q E s:=by
 obtain⟨o,ho,hc,hd⟩:=id hit;obtain⟨od,hod,hcd,hdd⟩:=id hm;unfold pyNext;refine ZyI (ZCM (wpAny_callSpecial?_slot (name:=Zzd "__next__") hit.typeIs F.slot_dict_keyiterator_next
  (ZzF F.slot_dict_keyiterator_next hit.typeIs F.entry_dict_keyiterator_next ?_ (F.args_dict_keyiterator_next_1 _))))
 refine ZyI (ZyM (ZyI (ZyI ?_)))
 first | refine ZyI (ZAT hit.typeIs (ZyM ?_)) | refine ZyI (ZBi hit.typeIs (ZyM ?_))
 refine ZyI (ZCy ho hd ?_);have hown:ZCA "dict_keyiterator" = false:=by decide
 simp only[hown,ZAs,if_false];show wpAny _ _ (if(ZzW d==Zzs)=true then _ else _) _ _ s;rw[if_neg (show ¬((ZzW d==Zzs)=true) from ZzA)];refine ZyI (ZyM (ZyI (ZBx hod hdd ?_)));rw[if_neg (by simp)];refine ZyI (ZyM (ZyI (ZDo hod hdd ?_)));rw[if_neg (by simp)];refine ZyM ?_;simp only[show ¬((i:Int)<0) from by omega,if_false,ZBy,ZB6 hx];refine ZyI ?_
 first | refine ZyI (ZAT hit.typeIs (ZyM ?_)) | refine ZyI (ZBi hit.typeIs (ZyM ?_))
 show wpAny _ _ (setField (.ref it) 0 .none >>= _) _ _ s;refine ZyI (ZBX ho hd (by simp) ?_);show wpAny _ _ (newExc (.type "StopIteration") [] >>= _) _ _ _;refine ZyI ?_;simp only[newExc,newTuple];refine ZyI (Zzz ?_ (by size_fits));refine ZyI (m:=ZCz _ _) (ZDv (a:=Zzs) (by first | rfl | (simp only[ZCz]; rfl)) ?_)
 refine Zzz ?_ (by size_fits);simp only[raiseNew];refine ZyI (wpAny_handled ?_);rw[show A.in1.handled=none from hh];refine ZyI (ZyM (wpAny_throw ?_));refine ZyI (ZC9 (T:="StopIteration") (b:=true) ⟨_,Zy4 _ rfl,rfl⟩ isSubtype_stop ?_);exact ZyM (hQ _ (((Zz1 ..).extBut.push _).push _))
theorem ZsT(hh:A.handled=none)(I d:Addr)(hne:d≠I)(es:Array DictEntry)(ep:Nat) :
  Walks prog w A I [I,d] [I] es.size (λi v=>∃e,es[i]?=some e/\v=e.key) (λi h=>h.IsKeyIter I d i es.size ep/\ZdC h d es ep) where
 sub:=λb hb=>by simp at hb; simp[hb]
 frame:=λ_ _ _ st hk=>⟨st.1.at λo e=>hk I (by simp) o e,st.2.at' λo e=>hk d (by simp) o e⟩
 item:=λi s Q E hi st hQ=>by have hx:es[i]?=some es[i]:=ZBc hi;refine ZnZ st.1 st.2 hx λh' hit' hs'=>?_;exact hQ _ h' s.toks ⟨_,hx,rfl⟩ ⟨hit',st.2.at' λo e=>hs'.extBut d o hne e⟩ λb o hb e=>hs'.extBut b o (λh=>hb (by simp[h])) e
 done:=λs Q E st hQ=>Zql hh st.1 st.2 (ZyT _) λh' he'=>hQ h' s.toks λb o hb e=>he' b o (λh=>hb (by simp[h])) e
 self:=λ_ _ _ _ st hQ=>wpAny_pyIter_keyiter st.1 hQ
end
end HP
namespace HP
open PySem PySem.Spec PySem.W PySem.Calls PyProof.Rows L2
variable[FX]
section
variable{prog:Program}{w:World}{A:Around}{E:Value->Shared->Prop}{s:Shared}
theorem ZtX{r:Addr}{Q:Bool->Shared->Prop}(hT:s.TypeIs (.ref r) "set")(h:Q false s):wpAny (model prog w) A (ZCG (.ref r)) Q E s:=by
 unfold ZCG;refine ZyI (wpAny_specialOf hT PySem.F.slot_set_len.lookup ?_);generalize hid:("set.__len__":String)=id0
 wp_delta
 rw[show splitId id0=some ("set","__len__") from by subst hid; decide +kernel];subst hid;refine ZyI (ZC9 (T:="set") (b:=true) hT (by rw[isSubtype_type]; kernel_rfl) ?_);refine ZA1 (λq=>absurd q (by decide)) λ_=>?_;refine ZA1 (λ_=>?_) (λq=>absurd (by decide +kernel) q);exact ZyI (ZCi hT (ZyM h))
theorem Zqx{d:Addr}{es:Array DictEntry}{ep:Nat}(lo:(d==Zz8)=false):KdlSrc prog w "dict" d d es.size (λi v=>∃e,es[i]?=some e/\v=e.key) (λh=>ZdC h d es ep) where
 type:=λ_ hm=>hm.typeIs
 there:=λ_ hm=>⟨hm.lt,hm.lt⟩
 keep:=λ_ _ hm hk=>hm.at' λo e=>hk d (.inl rfl) o e
 notList:=by decide
 notTuple:=by decide
 hint:=λ_ _ _ _ hm hq=>kdl_hint_dict hm.typeIs hq
 iter:=λ_ _ hh hm=>⟨_,_,(λ_ _ hq=>Zpk lo hm hq),ZsT hh _ d (Zzc hm.lt) es ep,⟨⟨_,Zy4 _ rfl,rfl,rfl⟩,hm.at' λo e=>ZyN _ e⟩⟩
theorem ZeN.typeIs{a:Addr}{es:Array (Int × Value)}{ep:Nat}{t:SetTable}(x:ZeN w s.heap a es ep t):s.TypeIs (.ref a) "set":=let ⟨o,ho,hc,_⟩:=x.obj; ⟨o,ho,hc.1⟩
theorem ZeN.lt{h:Heap}{a:Addr}{es:Array (Int × Value)}{ep:Nat}{t:SetTable}(x:ZeN w h a es ep t):a<h.objs.size:=let ⟨o,ho,_⟩:=x.obj; Zy1 ho
theorem Zu4{a:Addr}{es:Array (Int × Value)}{ep:Nat}{t:SetTable}:KdlSrc prog w "set" a a es.size (λi v=>∃e,(Zec w a es ep)[i]?=some e/\v=e.2) (λh=>ZeN w h a es ep t) where
 type:=λ_ hm=>hm.typeIs
 there:=λ_ hm=>⟨hm.lt,hm.lt⟩
 keep:=λ_ _ hm hk=>hm.at' λo e=>hk a (.inl rfl) o e
 notList:=by decide
 notTuple:=by decide
 hint:=λ_ _ _ _ hm hq=>ZtX hm.typeIs hq
 iter:=λ_ _ hh hm=>⟨_,_,(λ_ _ hq=>Zul hm hq),Zr5 hh _ a (Zzc hm.lt) es ep t,⟨0,⟨_,Zy4 _ rfl,rfl,rfl⟩,hm.at' λo e=>ZyN _ e,λ_=>Zq2 hm.tab.rise⟩⟩
theorem Zfm{T:String}{r d:Addr}{n:Nat}{P:Nat->Value->Prop}{OK:Heap->Prop}{R:List Value->Shared->Prop}(K:KdlSrc prog w T r d n P OK)(hh:A.handled=none)(hok:OK s.heap)(hn:n<=sizeLine)
  (h:∀(h':Heap) (tk:Nat) (acc:Array Value),(∀b o,s.heap.get? b=some o->h'.get? b=some o)->s.heap.objs.size<h'.objs.size->ItemsOf P acc n->R acc.toList { s with heap:=h',toks:=tk }) :
  wpAny (model prog w) A (collect (.ref r)) R E s:=by
 have hlt:=K.there _ hok;unfold collect;refine ZyI (wpAny_runValue (ZAe entry_proto_collect' ?_));rw[Zz0 ZCH _];show wpAny _ A.in1 (newList [] >>= λl=>again (.builtin "list.__iadd__" ⟨[l,.ref r],[]⟩)) _ _ s;refine ZyI (Zzz (ZyM ⟨ZA5 ZBn _,ZAe entry_list_iadd' ?_⟩));rw[Zz0 ZBn _];have hS₁:(s.heap.push { cls:=.type "list",data:=.seq ([]:List Value).toArray }).get? s.heap.objs.size=some { cls:=.type "list",data:=.seq #[] }:=Zy4 _ rfl;show wpAny _ A.in1 (ZCI (.ref s.heap.objs.size) (.ref r) (.ref s.heap.objs.size)) _ _ _;refine Zz4 (kdl_extend (A:=A) (s:={ s with heap:=s.heap.push { cls:=.type "list",data:=.seq ([]:List Value).toArray } })
  (R:=λ(q:Result) (s':Shared)=>∃(h':Heap) (tk:Nat) (acc':Array Value) (c':Nat),q=.ok (.ret (.ref s.heap.objs.size))/\s'={ s with heap:=h',toks:=tk } /\
   (∀b o,s.heap.get? b=some o->h'.get? b=some o)/\h'.get? s.heap.objs.size=some { cls:=.type "list",dict:=none,data:=.seq acc' c',slots:=#[] }/\ItemsOf P acc' n)
  K hh (K.keep _ _ hok λb _ o e=>ZyN _ e) s.heap.objs.size (ZBS hlt.1) (ZBS hlt.2) (.ref s.heap.objs.size) 0 hS₁
  (λh' tk acc' c' hk hS' hacc=>⟨h',tk,acc',c',rfl,rfl,λb o e=>hk b o (Zzc (Zy1 e)) (ZyN _ e),hS',hacc⟩) hn) (λfin s' x=>?_) λe s' x=>?_
 ·have go:∀(h':Heap) (tk:Nat) (acc':Array Value) (c':Nat),(∀b o,s.heap.get? b=some o->h'.get? b=some o)->h'.get? s.heap.objs.size=some { cls:=.type "list",dict:=none,data:=.seq acc' c',slots:=#[] }->ItemsOf P acc' n ->
    wpAny (model prog w) A (load s.heap.objs.size >>= λo=>match o.data with | .seq xs _=>pure xs.toList | _=>unsupported "internal:collect") R E { s with heap:=h',toks:=tk }:=λh' tk acc' c' hk hS' hacc =>
   ZyI (wpAny_load hS' (ZyM (h h' tk acc' hk (Zy1 hS') hacc)))
  cases fin with
  | done f=>obtain⟨h',tk,acc',c',e,rfl,hk,hS',hacc⟩:=x;cases e;exact go h' tk acc' c' hk hS' hacc
  | again c₁=>refine⟨x.1,ZAX x.2 λq s₂ y=>?_⟩;obtain⟨h',tk,acc',c',rfl,rfl,hk,hS',hacc⟩:=y;exact go h' tk acc' c' hk hS' hacc
 ·obtain⟨_,_,_,_,e',_⟩:=x
  cases e'
end
inductive Zhc(K:ZyK)(F H:Hp)(p:Addr):List PyData->Prop where
 | lst {ds:List PyData} {vs:List V} (h:SqL K H p vs) (r:Zs K F ds vs):Zhc K F H p ds
 | tup {ds:List PyData} {vs:List V} (h:SqT K H p vs) (r:Zs K F ds vs):Zhc K F H p ds
 | dk {kvs:List (Key × V)} (h:H p=some (.dK kvs)):Zhc K F H p (kvs.map λq=>HM.Zao q.1)
 | dt {kvs:List (List Key × V)} (h:H p=some (.dT kvs)):Zhc K F H p (kvs.map λq=>.tuple (q.1.map HM.Zao))
theorem Zva{K:ZyK}{F:Hp}(k:Key):Rep K F (HM.Zao k) (kV k):=by
 cases k with
 | inl i=>exact .int i
 | inr x=>exact .str x
theorem Zfs{K:ZyK}{F:Hp}:∀(ks:List Key),Zs K F (ks.map HM.Zao) (ks.map kV)
 | []=>.nil
 | k::ks=>.cons (Zva k) (Zfs ks)
theorem ZuO{P:Program}{w:World}{k:Key}{u:Value}(h:(ZaN P w).is k u=true):RelV (kV k) u:=by
 rw[Zq1]at h;rcases Zbn h with⟨i,t,rfl,rfl⟩ | ⟨x,t,rfl,rfl⟩
 ·exact⟨t,rfl⟩
 ·exact⟨t,rfl⟩
section
variable{X:Cx}{pins:List (Addr × Obj)}{σ:L2.St}{H F:Hp}{s:Shared}{p:Addr}{ds:List PyData}
theorem Zfc:∀{vs:List V} {us:List Value},vs.length=us.length->(∀(i:Nat) v u,vs[i]?=some v->us[i]?=some u->RelV v u)->Vals vs us
 | [],[],_,_=>.nil
 | [],_::_,h,_=>by simp at h
 | _::_,[],h,_=>by simp at h
 | v::vs,u::us,h,k=>.cons (k 0 v u rfl rfl) (Zfc (by simpa using h) λi a b e1 e2=>k (i+1) a b (by simpa using e1) (by simpa using e2))
theorem Zhc.gath(I:Inv X pins σ H s)(sub:Zr F H)(h:Zhc X.K F H p ds):∃vs,Zs X.K (Zbw F H) ds vs/\∀(A:Around) (E:Value->Shared->Prop) (R:List Value->Shared->Prop),A.handled=none ->
  (∀us h' tk,Vals vs us->(∀b o,s.heap.get? b=some o->h'.get? b=some o)->R us { s with heap:=h',toks:=tk })->wpAny (model X.prog X.w) A (collect (.ref p)) R E s:=by
 cases h with
 | @lst _ vs h r=>obtain⟨its,rv,pl,hz⟩:=I.list h;obtain⟨o,ho,hcl,n,hd⟩:=pl.isList;refine⟨vs,r.mono (ZdS sub),λA E R _ k=>wpAny_collect_seq p (.inl rfl) ho hcl hd (λh' kp=>?_) (by rw[ZyX,<-rv.length]; exact hz)⟩;exact k its h' s.toks rv kp
 | @tup _ vs h r=>obtain⟨its,rv,pl,hz⟩:=I.tuple h;obtain⟨o,ho,hcl,n,hd⟩:=pl;refine⟨vs,r.mono (ZdS sub),λA E R _ k=>wpAny_collect_seq p (.inr rfl) ho hcl hd (λh' kp=>?_) (by rw[ZyX,<-rv.length]; exact hz)⟩;exact k its h' s.toks rv kp
 | @dk kvs h =>
  obtain⟨z,lo,vs,rel,dd⟩:=Zrj I.hok h;obtain⟨ep,hat⟩:=dd.dictAt;have hl:kvs.length=vs.length:=ZAS rel;refine⟨kvs.map λq=>kV q.1,?_,λA E R hh k=>Zfm (kdl_dict (knd:=ZaN X.prog X.w) (kvs:=vs) (ep:=ep) lo) hh hat (by omega) λh' tk acc kp hsz hacc=>k _ h' tk ?_ kp⟩
  ·have:=Zfs (K:=X.K) (F:=Zbw F H) (kvs.map (·.1))
   rw[Zza,Zza]at this;exact this
  ·refine Zfc (by have q:acc.toList.length=acc.size:=Zze; rw[ZyJ,q,hacc.1,hl]) λi v u e1 e2=>?_
   obtain⟨kk,x,q1,q2⟩:=hacc.2 i u (by rw[<-Zzy]; exact e2);rw[Zy2]at e1;obtain⟨q,e3,e4⟩:=ZyL.mp e1;subst e4;have key:∀{l:List (Key × V)} {m:List (Key × Value)},KV l m->∀(i:Nat) a b,l[i]?=some a->m[i]?=some b->a.1=b.1:=by
    intro l m r
    induction r with
    | nil=>intro i a b e; simp at e
    | cons hq _ ih =>
     intro i a b e1 e2;cases i with
     | zero=>simp at e1 e2; subst e1; subst e2; exact hq.1
     | succ i=>exact ih i a b (by simpa using e1) (by simpa using e2)
   have ek:=key rel i q (kk,x) e3 q1;rw[ek];exact ZuO q2
 | @dt kvs h =>
  obtain⟨z,lo,xs,rel,o,es,ep,h1,h2,h3,h4,h5⟩:=(show Z1 X.prog X.w H s.heap p (.dT kvs) from I.hok p _ h);have hl:kvs.length=xs.length:=ZAS rel;have hes:es.size=xs.length:=by rw[<-Zze,h4,ZyJ]
  have hm:ZdC s.heap p es ep:=⟨o,h1,h2,h3⟩;refine⟨xs.map λq=>V.ref q.2.1,?_,λA E R hh k=>Zfm (Zqx (es:=es) (ep:=ep) lo) hh hm (by omega) λh' tk acc kp hsz hacc=>k _ h' tk ?_ kp⟩
  ·clear h4 hes hl z h h5
   induction rel with
   | nil=>exact .nil
   | @cons p0 _ _ _ hq _ ih=>obtain⟨q1,q2,_⟩:=hq;rw[ZyS,ZyS];refine .cons ?_ ih;have rk:=Zfs (K:=X.K) (F:=Zbw F H) p0.1;exact .tup (Zkk q2) rk.1 rk.2
  ·refine Zfc (by have q:acc.toList.length=acc.size:=Zze; rw[ZyJ,q,hacc.1,hes]) λi v u e1 e2=>?_
   obtain⟨e,q1,q2⟩:=hacc.2 i u (by rw[<-Zzy]; exact e2);subst q2;rw[Zy2]at e1;obtain⟨q,e3,e4⟩:=ZyL.mp e1;subst e4;rw[<-Zzy,h4,Zy2,e3]at q1;cases q1;rfl
theorem Zcv{K:ZyK}{F:Hp}:∀{ds:List PyData} {vs:List V} {ns:List Int},HM.Za5 ds=some ns->Zs K F ds vs->vs=ns.map V.int
 | [],vs,ns,h,r=>by cases h;exact r.nil_inv
 | d::ds,vs,ns,h,r=>by
  obtain⟨v,us,rfl,r1,r2⟩:=r.cons_inv;cases d with
  | int b=>obtain⟨bs',h1,h2⟩:=ZyL.mp h;subst h2;rw[r1.int_inv,Zcv h1 r2];rfl
  | none=>cases h
  | bool _=>cases h
  | str _=>cases h
  | list _=>cases h
  | tuple _=>cases h
  | dict _=>cases h
theorem ZlR:∀(t:List Int),HM.Za5 (HM.ofInts t)=some t
 | []=>rfl
 | x::t=>by show(HM.Za5 (HM.ofInts t)).map (x::·)=_;rw[ZlR t];rfl
theorem Zoo:∀{ds:List PyData} {ns:List Int},HM.Za5 ds=some ns->ds=HM.ofInts ns
 | [],ns,h=>by cases h; rfl
 | d::ds,ns,h=>by
  cases d with
  | int b=>obtain⟨bs',h1,h2⟩:=ZyL.mp h;subst h2;rw[Zoo h1];rfl
  | none=>cases h
  | bool _=>cases h
  | str _=>cases h
  | list _=>cases h
  | tuple _=>cases h
  | dict _=>cases h
theorem Zen{K:ZyK}{F:Hp}:∀(ns:List Int),Zs K F (HM.ofInts ns) (ns.map V.int)
 | []=>.nil
 | n::ns=>.cons (.int n) (Zen ns)
theorem ZcV:∀{ns:List Int} {us:List Value},Vals (ns.map V.int) us->IntsAre us ns
 | [],_,r=>by rw[ZAN]at r; cases r; exact .nil
 | n::ns,_,r=>by
  rw[ZyS]at r;cases r with
  | cons h t=>obtain⟨u,rfl⟩:=h; exact .cons n u (ZcV t)
theorem ZfW:∀{us:List Value} {ns:List Int},IntsAre us ns->Vals (ns.map V.int) us
 | _,_,.nil=>.nil
 | _,_,.cons n t h=>.cons ⟨t,rfl⟩ (ZfW h)
theorem ZkC:∀{ds:List PyData} {ts:List (List Int)},HM.Zjt ds=some ts->ds=HM.ZcP ts
 | [],ts,h=>by cases h; rfl
 | d::ds,ts,h=>by
  cases d with
  | tuple es =>
   unfold HM.Zjt at h;split at h
   ·rename_i ns hn
    obtain⟨r',h1,h2⟩:=ZyL.mp h;subst h2;rw[Zoo hn,ZkC h1];rfl
   ·cases h
  | none=>cases h
  | bool _=>cases h
  | int _=>cases h
  | str _=>cases h
  | list _=>cases h
  | dict _=>cases h
theorem Zkz{ns ms:List Int}(h:ms.Perm ns)(hs:ms.Pairwise (·<=·)):ms=HM.sortI ns:=by refine ZfL (R:=(·<=·)) (λa b h1 h2=>by omega) (h.trans (ZBP ns _).symm) hs ?_;have:=ZB0 (le:=λa b:Int=>decide (a<=b)) (λa b c h1 h2=>by simp at *; omega) (λa b=>by simp; omega) ns;exact this.imp λh=>by simpa using h
theorem Zot{ts us:List (List Int)}(h:us.Perm ts)(hs:us.Pairwise (λx y=>HM.lexLt y x=false)):us=HM.Zdp ts:=by
 refine ZfL (R:=λx y=>HM.lexLt y x=false) (λa b h1 h2=>Zjh a b h2 h1) (h.trans (ZBP ts _).symm) hs ?_;have:=ZB0 (le:=λa b:List Int=>!HM.lexLt b a) (λa b c h1 h2=>by
  simp only[Bool.not_eq_true']at *;cases q:HM.lexLt c a with
  | false=>rfl
  | true =>
   rcases ZlZ c b a q with z | z
   ·rw[h2]at z; cases z
   ·rw[h1]at z; cases z) (λa b=>by
  cases q:HM.lexLt b a with
  | false=>simp
  | true =>
   cases q2:HM.lexLt a b with
   | false=>simp
   | true=>have:=lex_trans _ _ _ q q2; rw[lex_irrefl]at this; cases this) ts
 exact this.imp λh=>by simpa using h
theorem Zfj{h:Heap}{a:Addr}{vs:List Value}{out:Array Value}{b:Addr}{o:Obj}(hb:b≠a)(e:h.get? b=some o):(ZBK h a vs out).get? b=some o:=by rw[sortedHeap_old hb (Zy1 e)]; exact e
theorem Zjk(hc:X.calm=true):ZaM X (.builtin "sorted") (λxs H Q=>∃p F ds ds',xs=[.ref p]/\Zr F H/\Zhc X.K F H p ds/\HM.ZcX ds=some ds'/\∀l ws,H l=none->Zs X.K (Zbw F H) ds' ws->Q (.ref l) (upd H l (.lst ws))):=by
 intro pins s σ H xs us Q I r h;obtain⟨p,F,ds,ds',rfl,sub,hsrc,hsort,q⟩:=h;obtain⟨u,rfl,rx⟩:=vals1 r;cases rx;obtain⟨vs,rv,go⟩:=hsrc.gath I sub;unfold HM.ZcX at hsort;split at hsort
 ·rename_i h64
  have hvl:=rv.1;refine ZAJ ZDx ZDb ZDc (ZDd _) ?_;unfold Builtin.«sorted»;refine ZyI (m:=checkCount "sorted" 1 1 _) (ZyM ?_);refine ZyI (go _ _ _ (I.ok.hd hc) λus h' tk ru kp=>?_);have hul:=ru.length;refine ZyI (ZBM ?_ (by rw[ZzM]; omega));have hoL:(h'.push (seqObj "list" us.toArray 0)).get? h'.objs.size=some (seqObj "list" us.toArray 0):=Zy4 _ rfl;have fin:∀(out:Array Value) (ws:List V),Vals ws out.toList->Zs X.K (Zbw F H) ds' ws->ws.length<64->EP X pins σ Q (.ref h'.objs.size) { s with heap:=ZBK (h'.push (seqObj "list" us.toArray 0)) h'.objs.size us out,toks:=tk }:=λout ws rw' rd hw=>by obtain⟨e,he⟩:=ZCO (out:=out) hoL;have I1:Inv X pins σ H { s with heap:=h',toks:=tk }:=I.kept kp;refine⟨.ref h'.objs.size,_,I1.laid (a:=h'.objs.size) (o:=.lst ws) (t':=tk) (λb o e1=>?_) (ZyT _) ⟨by rw[ZzM]; omega,out.toList,e,rw',by simpa using he⟩,rfl,q _ ws (I1.hok.fresh (ZyT _)) rd⟩;exact Zfj (Zzc (Zy1 e1)) (ZyN _ e1)
  show wpAny _ _ _ _ _ { s with heap:=h'.push (seqObj "list" us.toArray 0),toks:=tk };split at hsort
  ·rename_i ns hns
   cases hsort;have evs:=Zcv hns rv;rw[evs]at ru;have hI:=ZcV ru;refine ZyI (Zzx (ZzF ZBC ⟨_,hoL,rfl⟩ ZBu (list_sort_tree hoL hI (by omega) λout ns' a1 a2 a3=>⟨_,rfl,?_⟩) (ZBD _)));refine ZyM ⟨_,rfl,?_⟩;have e:=Zkz a2 a3;have hl:ns'.length<64:=by rw[a2.length_eq,<-hI.length,<-hul]; omega
   refine fin out (ns'.map V.int) (ZfW a1) ?_ (by rw[ZyJ]; exact hl);rw[<-e];exact Zen ns'
  ·split at hsort
   ·rename_i ts hts
    split at hsort
    ·rename_i hne
     cases hsort;have eds:=ZkC hts;have hT:∀(i:Nat) t,ts[i]?=some t->∃b,us[i]?=some (.ref b)/\TI (h'.push (seqObj "list" us.toArray 0)) b t:=λi t e=>by
      have ed:ds[i]?=some (.tuple (HM.ofInts t)):=by rw[eds]; unfold HM.ZcP; rw[Zy2,e]; rfl
      obtain⟨v,hv,rp⟩:=rv.get ed;generalize hq:HM.ofInts t=q at rp;cases rp with
      | @tupk b x h1 =>
       exfalso;cases t with
       | nil=>cases hq
       | cons a t =>
        injection hq with e1 _
        cases e1
      | @tup b _ xs hb hl hr=>subst hq;obtain⟨u,hu,ru'⟩:=ru.get hv;cases ru';have ev:=Zcv (F:=Zbw F H) (ZlR t) ⟨hl,hr⟩;subst ev;have hH:H b=some (.tup (t.map V.int)):=(Ext.refl sub).tups.sub _ _ hb;obtain⟨z,its,rt,o,h1,h2,n,h3⟩:=(show Z1 X.prog X.w H s.heap b (.tup (t.map V.int)) from I.hok b _ hH);exact⟨b,hu,o,its.toArray,n,ZyN _ (kp b o h1),h2,h3,by simpa using ZcV rt⟩
     have hlt:ts.length=us.length:=by have:=congrArg Zzw eds;unfold HM.ZcP at this;rw[ZyJ]at this;omega
     refine ZyI (Zzx (ZzF ZBC ⟨_,hoL,rfl⟩ ZBu (Zpb hoL hlt hT ?_ (by omega) λpm hp hs=>⟨_,rfl,?_⟩) (ZBD _)))
     ·rw[Zzt]at hne
      rcases hne with z | z
      ·left
       have:=of_decide_eq_true z;omega
      ·right
       intro t ht e;have:=ZyR.mp z t ht;rw[e]at this;cases this
     ·refine ZyM ⟨_,rfl,?_⟩
      have hpl:pm.length=us.length:=by rw[hp.length_eq,ZAa]
      have hmem:∀i∈pm,i<us.length:=λi hi=>Zy7.mp (hp.mem_iff.mp hi);have e:(pm.map λi=>ts.getD i [])=HM.Zdp ts:=by
       refine Zot ?_ hs;refine(hp.map _).trans ?_;have:(ZyP us.length).map (λi=>ts.getD i [])=ts:=by refine ZDe (by simp[hlt]) λi h1 h2=>?_;simp at h1;simp[ZzP,show i<ts.length by omega]
       rw[this]
      refine fin _ (pm.map λi=>vs.getD i V.non) ?_ ?_ (by rw[ZyJ]; omega)
      ·refine Zfc (by simp) λk v u e1 e2=>?_
       rw[Zy2]at e1;rw[List.toList_toArray,Zy2]at e2;obtain⟨i,hi,rfl⟩:=ZyL.mp e1;rw[hi]at e2;cases e2;have hlt':=hmem i (Zzj hi);have hv:vs[i]?=some (vs.getD i V.non):=by simp[ZzP,show i<vs.length by omega]
       obtain⟨u,hu,ru'⟩:=ru.get hv;have:us.getD i Zzs=u:=by simp[ZzP,hu]
       show RelV _ (us.getD i Zzs);rw[this];exact ru'
      ·rw[<-e]
       refine⟨by unfold HM.ZcP; simp,λk d v e1 e2=>?_⟩;unfold HM.ZcP at e1;rw[Zy2,Zy2]at e1;rw[Zy2]at e2;obtain⟨i,hi,rfl⟩:=ZyL.mp e2;rw[hi]at e1;have hlt':=hmem i (Zzj hi);have hd:ds[i]?=some d:=by
        rw[eds]; unfold HM.ZcP;rw[Zy2];have:ts[i]?=some (ts.getD i []):=by simp[ZzP,show i<ts.length by omega]
        rw[this];exact e1
       have hv:vs[i]?=some (vs.getD i V.non):=by simp[ZzP,show i<vs.length by omega]
       exact rv.2 i d _ hd hv
    ·cases hsort
   ·cases hsort
 ·cases hsort
end
end HP
namespace HP
open PySem PySem.Spec PySem.W PySem.Calls PyProof.Rows L2
variable[FX]
section
variable{prog:Program}{w:World}{A:Around}{E:Value->Shared->Prop}{s:Shared}
theorem Zm2{r:Addr}{a b c:Int}{t u v:Tok}{n:Nat}{R:List Value->Shared->Prop}(hh:A.handled=none)(hr:IsRange s.heap r a b c t u v)(hsmall:ZDM a b c=true)(hn:ZBj a b c=n)(hlen:n<=2 ^ 24)
  (h:∀(h':Heap) (tk:Nat) (acc:Array Value),(∀b o,s.heap.get? b=some o->h'.get? b=some o)->ItemsOf (λi v=>∃t,v=.int (a+i*c) t) acc n->R acc.toList { s with heap:=h',toks:=tk }) :
  wpAny (model prog w) A (collect (.ref r)) R E s:=by
 unfold collect;refine ZyI (wpAny_runValue (ZAe entry_proto_collect' ?_));rw[Zz0 ZCH _];show wpAny _ A.in1 (newList [] >>= λl=>again (.builtin "list.__iadd__" ⟨[l,.ref r],[]⟩)) _ _ s;refine ZyI (Zzz (ZyM ⟨ZA5 ZBn _,ZAe entry_list_iadd' ?_⟩));rw[Zz0 ZBn _];have hS₁:(s.heap.push { cls:=.type "list",data:=.seq ([]:List Value).toArray }).get? s.heap.objs.size=some { cls:=.type "list",data:=.seq #[] }:=Zy4 _ rfl;show wpAny _ A.in1 (ZCI (.ref s.heap.objs.size) (.ref r) (.ref s.heap.objs.size)) _ _ _;have hr1:IsRange (s.heap.push { cls:=.type "list",data:=.seq ([]:List Value).toArray }) r a b c t u v:=ZyN _ hr;refine Zz4 (wpAny_extend_range (A:=A) (s:={ s with heap:=s.heap.push { cls:=.type "list",data:=.seq ([]:List Value).toArray } })
  (R:=λ(q:Result) (s':Shared)=>∃(h':Heap) (tk:Nat) (acc':Array Value) (c':Nat),q=.ok (.ret (.ref s.heap.objs.size))/\s'={ s with heap:=h',toks:=tk } /\
   (∀b o,s.heap.get? b=some o->h'.get? b=some o)/\h'.get? s.heap.objs.size=some { cls:=.type "list",dict:=none,data:=.seq acc' c',slots:=#[] }/\ItemsOf (λi v=>∃t,v=.int (a+i*c) t) acc' n)
  hh hr1 hsmall hn hlen s.heap.objs.size (.ref s.heap.objs.size) 0 hS₁
  (λh' tk acc' c' hk hS' hacc=>⟨h',tk,acc',c',rfl,rfl,λb o e=>hk b o (Zzc (Zy1 e)) (ZyN _ e),hS',hacc⟩)) (λfin s' x=>?_) λe s' x=>?_
 ·have go:∀(h':Heap) (tk:Nat) (acc':Array Value) (c':Nat),(∀b o,s.heap.get? b=some o->h'.get? b=some o)->h'.get? s.heap.objs.size=some { cls:=.type "list",dict:=none,data:=.seq acc' c',slots:=#[] }->ItemsOf (λi v=>∃t,v=.int (a+i*c) t) acc' n ->
    wpAny (model prog w) A (load s.heap.objs.size >>= λo=>match o.data with | .seq xs _=>pure xs.toList | _=>unsupported "internal:collect") R E { s with heap:=h',toks:=tk }:=λh' tk acc' c' hk hS' hacc =>
   ZyI (wpAny_load hS' (ZyM (h h' tk acc' hk hacc)))
  cases fin with
  | done f=>obtain⟨h',tk,acc',c',e,rfl,hk,hS',hacc⟩:=x;cases e;exact go h' tk acc' c' hk hS' hacc
  | again c₁=>refine⟨x.1,ZAX x.2 λq s₂ y=>?_⟩;obtain⟨h',tk,acc',c',rfl,rfl,hk,hS',hacc⟩:=y;exact go h' tk acc' c' hk hS' hacc
 ·obtain⟨_,_,_,_,e',_⟩:=x
  cases e'
end
theorem ZjQ(r:Addr)(a b c:Int)(t u v:Tok)(n:Nat)(hsmall:ZDM a b c=true)(hn:ZBj a b c=n)(hlen:n<=2 ^ 24) :
  Meets (Builtin.«tuple.__new__» ⟨[.type "tuple",.ref r],[]⟩)
   (λA R s=>A.handled=none/\IsRange s.heap r a b c t u v/\∀(h':Heap) (tk:Nat) (acc:Array Value),(∀b o',s.heap.get? b=some o'->h'.get? b=some o')->ItemsOf (λi v=>∃t,v=.int (a+i*c) t) acc n ->
    R (.ok (.ret (.ref h'.objs.size))) { s with heap:=h'.push { cls:=.type "tuple",data:=.seq acc },toks:=tk }) :=
 .of_wp λprog w A R s h=>by
  obtain⟨hp,g,d,tk,os⟩:=s; obtain⟨hh,ht,h⟩:=h;have hsub:=PySem.sub_tuple_self;have hinit:=PySem.init_tuple_lookup;have hmh:=PySem.madeHere_tuple;have hT:Shared.TypeIs ⟨hp,g,d,tk,os⟩ (.ref r) "range":=⟨_,ht,rfl⟩;have hh1:A.in1.handled=none:=hh
  wp_walk using ZCi hT,Zm2 hh1 ht hsmall hn hlen
  intro h' tk' acc hk hacc;show wpAny _ _ (ZAr acc.toList.toArray >>= λv=>ret v) _ _ _;unfold ZAr;have e:acc.toList.toArray=acc:=by simp
  rw[e];refine ZyI (Zzz ?_ (by show acc.size<=sizeLine; rw[hacc.1,ZzM]; omega));exact ZyM ⟨_,rfl,h h' tk' acc hk hacc⟩
section
variable{X:Cx}{a b c e:Expr}{fa fb fc:HM.EF}{pos p:Pos}{f:HM.BF}
theorem ZoC:ZaM X (.type "range") (λxs H Q=>∃j,xs=[.int j]/\∀l,H l=none->Q (.ref l) (upd H l (.rng 0 j))):=by intro pins s σ H xs us Q I r h;obtain⟨j,rfl,q⟩:=h;obtain⟨u,rfl,rx⟩:=vals1 r;obtain⟨t,rfl⟩:=rx;refine call_range_1 ⟨.ref s.heap.objs.size,_,I.laid (a:=s.heap.objs.size) (o:=.rng 0 j) (λb o e=>ZyN _ e) (ZyT _) ?_,rfl,q _ (I.hok.fresh (ZyT _))⟩;exact⟨_,_,_,Zy4 _ rfl⟩
theorem ZpP(hc:X.calm=true):ZaM X (.type "tuple") (λxs H Q=>∃p lo hi,xs=[.ref p]/\H p=some (.rng lo hi)/\-1000000<lo/\lo<1000000/\-1000000<hi/\hi<1000000 /\
  ∀l,H l=none->Q (.ref l) (upd H l (.tup ((ZyP (hi-lo).toNat).map λ(k:Nat)=>V.int (lo+k))))):=by
 intro pins s σ H xs us Q I r h;obtain⟨p,lo,hi,rfl,hp,h1,h2,h3,h4,q⟩:=h;obtain⟨u,rfl,rx⟩:=vals1 r;cases rx;obtain⟨t,u,v,ho⟩:=(show Z1 X.prog X.w H s.heap p (.rng lo hi) from I.hok p _ hp);have hn:ZBj lo hi 1=((hi-lo).toNat:Nat):=by rw[rangeSize_one]; split<;>omega
 refine callType_new PySem.F.called_tuple (by decide) (PySem.F.typeCall_tuple_1 _) (PySem.F.newCall_tuple_1 _) (λobj=>PySem.F.args_object_init_2 obj _) PySem.F.entry_tuple_new
  (ZjQ p lo hi 1 t u v (hi-lo).toNat (small_one (by omega) (by omega) (by omega) (by omega)) hn (by omega)) ⟨I.ok.hd hc,ho,λh' tk' acc kp hacc=>⟨⟨_,Zy4 _ rfl,rfl⟩,?_⟩⟩
 have I1:Inv X pins σ H { s with heap:=h',toks:=tk' }:=I.kept kp;have rv:Vals ((ZyP (hi-lo).toNat).map λ(k:Nat)=>V.int (lo+k)) acc.toList:=by
  refine Zfc (by have z:acc.toList.length=acc.size:=Zze; rw[ZyJ,ZAa,z,hacc.1]) λi v u e1 e2=>?_;rw[Zy2]at e1;obtain⟨k,hk,rfl⟩:=ZyL.mp e1;obtain⟨t,rfl⟩:=hacc.2 i u (by rw[<-Zzy]; exact e2);have:k=i:=by have:=ZyZ.mp hk;obtain⟨_,e⟩:=this;simpa using e.symm
  subst this;exact⟨t,by simp⟩
 have I2:=I1.laid (a:=h'.objs.size) (o:=.tup ((ZyP (hi-lo).toNat).map λ(k:Nat)=>V.int (lo+k))) (h':=h'.push { cls:=.type "tuple",data:=.seq acc }) (t':=tk') (λb o e=>ZyN _ e) (ZyT _)
  ⟨by rw[ZyJ,ZAa,ZzM]; omega,acc.toList,rv,by simpa using ZDR _ _⟩
 exact⟨.ref h'.objs.size,_,I2,rfl,q _ (I1.hok.fresh (ZyT _))⟩
theorem ZpV{K:ZyK}{F:Hp}(lo:Int)(n:Nat):Zs K F (HM.ZcT lo n) ((ZyP n).map λ(k:Nat)=>V.int (lo+k)):=by unfold HM.ZcT;refine⟨by simp,λi d v e1 e2=>?_⟩;rw[Zy2]at e1 e2;obtain⟨k,hk,rfl⟩:=ZyL.mp e1;rw[hk]at e2;cases e2;exact .int _
theorem ZgR(hmt:X.mg "tuple" = none)(hm:X.mg "range" = none)(hc:X.calm=true)(ha:XE X a fa){p' pos':Pos}(hgt:Gl X "tuple":=by rfl)(hg:Gl X "range":=by rfl)(hs:Zy0 [a] X.env=[(false,eval a X.env)]:=by rfl)
  (hs2:Zy0 [ZDS (.Name "range" p') [a] [] pos'] X.env=[(false,eval (ZDS (.Name "range" p') [a] [] pos') X.env)]:=by rfl) :
  XE X (.Call (.Name "tuple" p) [.Call (.Name "range" p') [a] [] pos'] [] pos) (HM.ZcZ (HM.ZbM fa)):=by
 intro r d hd;unfold HM.ZcZ at hd;split at hd
 ·rename_i ds hds
  split at hd
  ·cases hd
   unfold HM.ZbM at hds;split at hds
   ·rename_i j hj
    split at hds
    ·rename_i hok
     cases hds;obtain⟨k1,k2⟩:=Zqk hok;refine PE.imp (ZdF (ZpP hc) hgt hmt ZkE (ZaI (ZdF ZoC hg hm boot_range (ZaI (ha r _ hj) Zcg hs) (he:=hs)) Zcg hs2) (he:=hs2)) λσ H Q ⟨F0,H0,F,at_,k⟩=>?_;refine⟨F0,H0,F,at_,λv F1 H1 x1 r1=>⟨j,by rw[r1.int_inv],λl hl=>?_⟩⟩;refine⟨l,0,j,rfl,ZH,by omega,by omega,by omega,by omega,λl2 hl2=>?_⟩;have x2:=x1.lay' (o:=.rng 0 j) hl;have x3:=x2.lay (o:=.tup ((ZyP (j-0).toNat).map λ(k:Nat)=>V.int (0+k))) hl2;have rp:=ZpV (K:=X.K) (F:=upd F1 l2 (.tup ((ZyP (j-0).toNat).map λ(k:Nat)=>V.int (0+k)))) 0 j.toNat;have ej:(j-0).toNat=j.toNat:=by omega
     refine k _ _ _ x3 (.tup ZH ?_ ?_)
     ·rw[ej]; exact rp.1
     ·rw[ej]at rp ⊢; exact rp.2
    ·cases hds
   ·cases hds
  ·cases hd
 ·cases hd
theorem Zmk{K:ZyK}{F H:Hp}{q:HM.B}{v:V}{fp:List Addr}{ds:List PyData}(sub:Zr F H)(r:Zan K F H q v fp)(h:HM.Zrd q=some ds):∃a,v=.ref a/\Zhc K F H a ds:=by
 cases r with
 | pl r =>
  cases r with
  | tup h1 h2 h3=>cases h; exact⟨_,rfl,.tup (.of (sub _ _ h1)) ⟨h2,h3⟩⟩
  | @tupk a x h1=>cases h; exact⟨_,rfl,.tup (.inr h1) (.one (.str x))⟩
  | lst h1 h2 h3=>cases h; exact⟨_,rfl,.lst (sub.seq h1) ⟨h2,h3⟩⟩
  | dct _ _ _ _=>cases h
  | fn _=>cases h
  | non=>cases h
  | bl _=>cases h
  | int _=>cases h
  | str _=>cases h
 | ol h1 r=>cases h; exact⟨_,rfl,.lst (.of h1) r⟩
 | hd _ _ _ _=>cases h
 | hf _=>cases h
 | @ok a kvs vvs h1 h2 h3 =>
  cases h;refine⟨_,rfl,?_⟩;have e:(kvs.map λp=>HM.Zao p.1)=vvs.map λp=>HM.Zao p.1:=by
   have:=congrArg (ZA3 HM.Zao) h2
   rwa [Zza,Zza]at this
  rw[e];exact .dk h1
 | @ot a kvs vvs h1 h2 h3 =>
  cases h;refine⟨_,rfl,?_⟩;have e:(kvs.map λp=>ZzD (p.1.map HM.Zao))=vvs.map λp=>ZzD (p.1.map HM.Zao):=by
   have:=congrArg (ZA3 λk:List Key=>ZzD (k.map HM.Zao)) h2
   rwa [Zza,Zza]at this
  rw[e];exact .dt h1
 | @otl a kvs vvs ls h1 h2 h3 h4 =>
  cases h;refine⟨_,rfl,?_⟩;have e:(kvs.map λp=>ZzD (p.1.map HM.Zao))=vvs.map λp=>ZzD (p.1.map HM.Zao):=by
   have:=congrArg (ZA3 λk:List Key=>ZzD (k.map HM.Zao)) h2
   rwa [Zza,Zza]at this
  rw[e];exact .dt h1
theorem Ziz(hm:X.mg "sorted" = none)(hc:X.calm=true)(ha:XB X a f)(hg:Gl X "sorted":=by rfl)(hs:Zy0 [a] X.env=[(false,eval a X.env)]:=by rfl):XF X (.Call (.Name "sorted" p) [a] [] pos) (HM.Zhw f):=by
 intro r d h;unfold HM.Zhw at h;split at h
 ·rename_i x hx
  split at h
  ·rename_i ds hds
   obtain⟨ds',h1,h2⟩:=ZyL.mp h;subst h2;refine PE.imp (Zcf (Zjk hc) hg hm ZgJ (ZdD ha hx hs) (he:=hs)) λσ H Q ⟨F0,H0,F,at_,k⟩=>?_;refine⟨F0,H0,F,at_,λv fp F1 H1 x1 r1=>?_⟩;obtain⟨l,e1,src⟩:=Zmk x1.sub r1 hds;subst e1;exact⟨l,F1,ds,ds',rfl,x1.sub,src,h1,λl' ws hl' rs=>ZdE (P:=λv _ H'=>Q v H') x1.tups rs hl' k⟩
  ·cases h
 ·cases h
theorem Zs1(hc:X.calm=true):ZaM X (.type "set") (λxs H Q=>∃p ns,xs=[.ref p]/\SqL X.K H p (ns.map V.int)/\(∀n∈ns,0<=n/\n<8)/\∀l,H l=none->Q (.ref l) (upd H l (.ext λh=>ZdW X.prog X.w h l (HM.dedup [] ns)))):=by intro pins s σ H xs us Q I r h;obtain⟨p,ns,rfl,hq,hb,q⟩:=h;obtain⟨u,rfl,rx⟩:=vals1 r;cases rx;obtain⟨its,rv,pl,hz⟩:=I.list hq;refine ZsB (I.ok.hd hc) pl.isList (by simpa using ZcV rv) hb λh' tk hS kp=>?_;have hS':=hS;obtain⟨o,es,ep,t,ho,_⟩:=hS';refine⟨.ref s.heap.objs.size,_,I.laid (a:=s.heap.objs.size) (o:=.ext λh=>ZdW X.prog X.w h s.heap.objs.size (HM.dedup [] ns)) (λb o e=>kp b o (Zy1 e) e) (ZyT _) ?_,rfl,q _ (I.hok.fresh (ZyT _))⟩;exact⟨hS,⟨o,ho⟩,λh1 h2 x kk=>x.at' kk⟩
theorem Zoc(hc:X.calm=true):ZaM X (.builtin "sorted") (λxs H Q=>∃p L,xs=[.ref p]/\H p=some (.ext λh=>ZdW X.prog X.w h p L)/\∀l,H l=none->Q (.ref l) (upd H l (.lst ((HM.sortI L).map V.int)))):=by
 intro pins s σ H xs us Q I r h;obtain⟨p,L,rfl,hp,q⟩:=h;obtain⟨u,rfl,rx⟩:=vals1 r;cases rx;obtain⟨hX,_,_⟩:=(show Z1 X.prog X.w H s.heap p (.ext λh=>ZdW X.prog X.w h p L) from I.hok p _ hp);obtain⟨o,es,ep,t,ho,hex,hd,hen,hpm,hpl,ht⟩:=hX;have hsz:=size_of hpl;have hfew:=ht.few;have raw:ZeN X.w s.heap p es ep t:=⟨⟨o,ho,hex,hd⟩,by rw[hsz]; exact ht.fits,hsz,ht⟩;refine ZAJ ZDx ZDb ZDc (ZDd _) ?_;unfold Builtin.«sorted»;refine ZyI (m:=checkCount "sorted" 1 1 _) (ZyM ?_);refine ZyI (Zfm (Zu4 (es:=es) (ep:=ep) (t:=t)) (I.ok.hd hc) raw (by rw[ZzM]; omega) λh' tk acc kp _ hacc=>?_);have hal:acc.toList.length=es.size:=by rw[Zze]; exact hacc.1
 have hI:IntsAre acc.toList ((Zec X.w p es ep).toList.map ZeQ):=by
  have key:∀(us:List Value) (xs:List (Int × Value)),us.length=xs.length->(∀(i:Nat) u,us[i]?=some u->∃e,xs[i]?=some e/\u=e.2)->(∀e∈xs,∃n t,e=((intKind X.prog X.w).hash n,ZAH n t))->IntsAre us (xs.map ZeQ):=by
   intro us
   induction us with
   | nil=>intro xs hl _ _; cases xs with | nil=>exact .nil | cons _ _=>simp at hl
   | cons u us ih =>
    intro xs hl hk he;cases xs with
    | nil=>simp at hl
    | cons x xs=>obtain⟨e,e1,e2⟩:=hk 0 u rfl;simp at e1;subst e1;obtain⟨n,t,e3⟩:=he x (ZyO ..);rw[e2,e3];exact .cons n t (ih xs (by simpa using hl) (λi u e=>hk (i+1) u (by simpa using e)) λe h=>he e (ZyQ _ h))
  refine key acc.toList (Zec X.w p es ep).toList (by rw[hal,Zze,Zjl]) (λi u e=>?_) λe h=>hen e ((ZiY X.w p es ep).mem_iff.mp h);obtain⟨e',e1,e2⟩:=hacc.2 i u (by rw[<-Zzy]; exact e);exact⟨e',by rw[Zzy]; exact e1,e2⟩
 refine ZyI (ZBM ?_ (by rw[hal,ZzM]; omega));have hoL:(h'.push (seqObj "list" acc.toList.toArray 0)).get? h'.objs.size=some (seqObj "list" acc.toList.toArray 0):=Zy4 _ rfl;show wpAny _ _ _ _ _ { s with heap:=h'.push (seqObj "list" acc.toList.toArray 0),toks:=tk };refine ZyI (Zzx (ZzF ZBC ⟨_,hoL,rfl⟩ ZBu (list_sort_tree hoL hI (by omega) λout ns' a1 a2 a3=>⟨_,rfl,?_⟩) (ZBD _)));refine ZyM ⟨_,rfl,?_⟩;have e:ns'=HM.sortI L:=Zkz (a2.trans (((ZiY X.w p es ep).map ZeQ).trans hpm)) a3;have hl:ns'.length<64:=by rw[a2.length_eq,<-hI.length,hal]; omega
 obtain⟨ee,he⟩:=ZCO (out:=out) hoL;have I1:Inv X pins σ H { s with heap:=h',toks:=tk }:=I.kept kp;refine⟨.ref h'.objs.size,_,I1.laid (a:=h'.objs.size) (o:=.lst (ns'.map V.int)) (t':=tk) (λb o e1=>?_) (ZyT _) ⟨by rw[ZyJ,ZzM]; omega,out.toList,ee,ZfW a1,by simpa using he⟩,rfl,?_⟩
 ·exact Zfj (Zzc (Zy1 e1)) (ZyN _ e1)
 ·rw[e]; exact q _ (I1.hok.fresh (ZyT _))
theorem Zno(hm:X.mg "sorted" = none)(hm2:X.mg "set" = none)(hc:X.calm=true){p' pos':Pos}(ha:XB X a f)(hg:Gl X "sorted":=by rfl)(hg2:Gl X "set":=by rfl)(hs:Zy0 [a] X.env=[(false,eval a X.env)]:=by rfl)
  (hs2:Zy0 [ZDS (.Name "set" p') [a] [] pos'] X.env=[(false,eval (ZDS (.Name "set" p') [a] [] pos') X.env)]:=by rfl) :
  XF X (.Call (.Name "sorted" p) [.Call (.Name "set" p') [a] [] pos'] [] pos) (HM.Zia f):=by
 intro r d h;unfold HM.Zia at h;split at h
 ·rename_i x hx
  split at h
  ·rename_i ds hds
   split at h
   ·rename_i ns hns
    split at h
    ·rename_i hlow
     cases h;refine PE.imp (Zcf (Zoc hc) hg hm ZgJ (ZaI (ZdF (Zs1 hc) hg2 hm2 ZvU (ZdD ha hx hs) (he:=hs)) Zcg hs2) (he:=hs2)) λσ H Q ⟨F0,H0,F,at_,k⟩=>?_;refine⟨F0,H0,F,at_,λv fp F1 H1 x1 r1=>?_⟩;obtain⟨l,vs,e1,hq,rs⟩:=Zgl x1.sub r1 hds;subst e1;rw[Zcv hns rs]at hq;refine⟨l,ns,rfl,hq,λn hn=>?_,λl2 hl2=>⟨l2,_,rfl,ZH,λl3 hl3=>?_⟩⟩
     ·have:=ZyR.mp hlow n hn
      rw[Zy5,decide_eq_true_eq,decide_eq_true_eq]at this;exact this
     ·have x2:=x1.lay' (o:=.ext λh=>ZdW X.prog X.w h l2 (HM.dedup [] ns)) hl2
      exact ZdE (P:=λv _ H'=>Q v H') x2 (Zen _) hl3 k
    ·cases h
   ·cases h
  ·cases h
 ·cases h
end
end HP
namespace HP
open PySem PySem.Spec PyProof.Rows L2
variable[FX]
section
variable{X:Cx}{a b:Expr}{fa:HM.EF}{f:HM.BF}{pos:Pos}
theorem ZoJ(i:Int):∀ns:List Int,inV (.int i) (ns.map V.int)=ns.contains i
 | []=>rfl
 | n::ns=>by have ih:=ZoJ i ns;unfold inV at ih ⊢;rw[ZyS,ZBo,ih,List.contains_cons];show(n==i||_)=(i==n||_);rw[show(n==i)=(i==n) from ZDp.mpr ⟨λh=>beq_iff_eq.mpr (beq_iff_eq.mp h).symm,λh=>beq_iff_eq.mpr (beq_iff_eq.mp h).symm⟩]
theorem Zms:∀ns:List Int,(ns.map V.int).all ZbT=true
 | []=>rfl
 | n::ns=>by rw[ZyS,ZzV,Zms ns]; rfl
theorem Ztw{r:HM.Env}{d:PyData}(h:HM.Zog fa f r=some d):∃i q ds ns,fa r=some (.int i)/\f r=some q/\HM.ZfC q=some ds/\HM.Za5 ds=some ns/\d=.bool (ns.contains i):=by
 unfold HM.Zog at h;split at h
 ·split at h
  ·split at h
   ·obtain⟨c,h1,h2⟩:=ZyL.mp h
    obtain⟨ns,h3,h4⟩:=ZyL.mp h1;exact⟨_,_,_,ns,by assumption,by assumption,by assumption,h3,by rw[<-h2,<-h4]⟩
   ·cases h
  ·cases h
 ·cases h
theorem Zt0{neg:Bool}{r:HM.Env}{i:Int}{q:HM.B}{ds:List PyData}{ns:List Int}(ha:XE X a fa)(hb:XB X b f)(h1:fa r=some (.int i))(h2:f r=some q)(h3:HM.ZfC q=some ds)(h4:HM.Za5 ds=some ns){op:CmpOp}(ho:OpR X (ZAk op) (rIn X.K neg))(hm:ZAw op b=false) :
  PE X (.Compare a [op] [b] pos) (tAt X.K r λ_ F' _ v=>v=.bl (if neg then !ns.contains i else ns.contains i)):=by
 refine PE.imp (Zp8 ho (ha r _ h1) (hb r q h2) hm) λσ H Q ⟨F0,H0,F,at_,k⟩=>?_;refine⟨F0,H0,F,at_,λv F1 H1 x1 r1=>⟨F0,H0,F1,at_.grow x1,λw F2 H2 x2 ⟨fp,r2⟩=>?_⟩⟩;obtain⟨p,vs,e1,hq,rs⟩:=Zkp x2.sub r2 h3;cases r1;rw[Zcv h4 rs]at hq;refine⟨p,_,e1,hq,rfl,Zms ns,k _ F2 H2 (x1.trans x2) ?_⟩;rw[ZoJ]
theorem ZvG(ha:XE X a fa)(hb:XB X b f)(hm:ZAw .In b=false:=by rfl):XE X (.Compare a [.In] [b] pos) (HM.Zog fa f):=by intro r d h;obtain⟨i,q,ds,ns,h1,h2,h3,h4,rfl⟩:=Ztw h;refine PE.imp (Zt0 ha hb h1 h2 h3 h4 ZsU hm) λσ H Q ⟨F0,H0,F,at_,k⟩=>⟨F0,H0,F,at_,λv F' H' x e=>k v F' H' x ?_⟩;subst e;exact .bl _
end
end HP
namespace HP
open PySem PySem.Spec PyProof.Rows L2
variable[FX]
section
variable{X:Cx}{c e:Expr}{fa:HM.EF}{t:HM.TF}{g:HM.SF}{pos:Pos}{body:List Stmt}
theorem Zkb(n:Nat)(hxe:X.xe=λ_ _=>False)(hc:XT X c t)(hb:XSs X body g):XS X (.While c body [] pos) (HM.Zk7 n t g):=by
 intro r o ho;have ho:HM.Zbh t g n r=some o:=ho;have pb:PSs X body (λE σ H=>∃r o,g r=some o/\tSt X.K r o E σ H):=λpins s σ H E I ⟨r,o,h1,h2⟩=>hb r o h1 pins s σ H E I h2;have pc:PT X c (λσ H Q=>∃r b,t r=some b/\Now X.K r σ H λF0 H0 F=>∀F' H',Ext F H F' H'->Q b H'):=λpins s σ H Q I ⟨r,b,h1,h2⟩=>hc r b h1 pins s σ H Q I h2;refine PS.imp (Zt8 (Zmf hxe) pc pb) λE σ H ⟨F0,H0,F,at_,k⟩=>?_;refine⟨λm σ H=>∃F r,At X.K F0 H0 F H r σ/\HM.Zbh t g m r=some o,⟨n,F,r,at_,ho⟩,?_⟩
 rintro m σ H ⟨F2,r2,at2,go⟩
 cases m with
 | zero=>cases go
 | succ m =>
  unfold HM.Zbh at go;split at go
  ·rename_i ht
   refine⟨r2,true,ht,F0,H0,F2,at2,λF' H' x=>?_⟩;dsimp only;rw[if_pos rfl];have at3:=at2.grow x;have a4:=at3.rebase;refine⟨λσ' H'=>∃F r,At X.K F0 H0 F H' r σ'/\HM.Zbh t g m r=some o,λσ' H' q=>⟨m,ZBf m,q⟩,?_⟩;split at go
   ·rename_i r' hr
    exact⟨_,_,hr,F',H0,F',a4,λσ' F' H' a'=>⟨F',r',a'.unbase at3.ext at3.nt0,go⟩⟩
   ·rename_i r' hr
    exact⟨_,_,hr,F',H0,F',a4,λσ' F' H' a'=>⟨F',r',a'.unbase at3.ext at3.nt0,go⟩⟩
   ·rename_i r' hr
    cases go;exact⟨_,_,hr,F',H0,F',a4,λσ' F' H' a'=>k σ' F' H' (a'.unbase at3.ext at3.nt0)⟩
   ·rename_i d hr
    cases go;exact⟨_,_,hr,F',H0,F',a4,λv F' H' x q=>k v F' H' (at3.ext.unbase x) q⟩
   ·cases go
  ·rename_i ht
   cases go;refine⟨r2,false,ht,F0,H0,F2,at2,λF' H' x=>?_⟩;dsimp only;rw[if_neg (by simp)];exact k σ F' H' (at2.grow x)
  ·cases go
end
end HP
namespace HP
open PySem PySem.Spec PyProof.Rows L2
variable[FX]
section
variable{X:Cx}{a b:Expr}{fa:HM.EF}{f:HM.BF}{pos:Pos}
open Classical in
end
end HP
namespace HP
open PySem PySem.Spec PyProof.Rows L2
variable[FX]
section
variable{X:Cx}{a b c e:Expr}{fa fb fc:HM.EF}{f:HM.BF}{pos p:Pos}{es:List Expr}
theorem rdT{F F':Hp}{a:Addr}{vvs:List (List Key × V)}(r:Rd F a (.dT vvs))(s:ZaF F F'):Rd F' a (.dT vvs):=r.imp (λh=>s _ _ h) λ⟨o,h⟩=>⟨o,s _ _ h⟩
theorem Znc{H:Hp}{a b:Addr}{kvs:List (List Key × V)}{k:List Key}(e:Rd H a (.dT kvs))(eb:H b=some (.tup (k.map kV))):Zei H a (.ref b) (ZaR kvs k):=.inr ⟨kvs,k,b,e,rfl,eb,rfl⟩
theorem ZhY{K:ZyK}{F H:Hp}{q:HM.B}{v:V}{fp:List Addr}{kvs:List (List Key × PyData)}(sub:Zr F H)(r:Zan K F H q v fp)(h:HM.ZlC q=some kvs):∃l vvs,v=.ref l/\Rd H l (.dT vvs)/\Za1 K F kvs vvs:=by
 cases r with
 | pl r =>
  cases r with
  | @dct l es kvs' vvs h1 h2 h3 h4=>subst h2;have h:HM.ZdV (HM.Ze kvs')=some kvs:=h;rw[HM.dec_enc]at h;cases h;refine⟨l,vvs,rfl,ZhB h1 sub,h3,?_,h4⟩;have:=congrArg Zzw h3;rw[ZyJ,ZyJ]at this;rw[ZyJ,ZyJ,this]
  | fn _=>cases h
  | tupk _=>cases h
  | tup _ _ _=>cases h
  | lst _ _ _=>cases h
  | non=>cases h
  | bl _=>cases h
  | int _=>cases h
  | str _=>cases h
 | ol _ _=>cases h
 | ok _ _ _=>cases h
 | @ot l kvs vvs h1 h2 h3=>cases h; exact⟨l,vvs,rfl,.inl h1,h2,h3⟩
 | @hd l o es kvs' vvs h1 h2 h3 h4=>subst h2;have h:HM.ZdV (HM.Ze kvs')=some kvs:=h;rw[HM.dec_enc]at h;cases h;exact⟨l,vvs,rfl,.inr ⟨o,sub _ _ h1⟩,h3,h4⟩
 | hf _=>cases h
 | otl _ _ _ _=>cases h
theorem Zom{r:HM.Env}{d:PyData}(h:HM.ZbV fa f r=some d):∃x q kvs y,fa r=some x/\f r=some q/\HM.ZlC q=some kvs/\HM.Zbe x=some y/\d=.bool (HM.Zm kvs y).isSome:=by
 unfold HM.ZbV at h;split at h
 ·split at h
  ·split at h
   ·obtain⟨y,h1,h2⟩:=ZyL.mp h
    exact⟨_,_,_,y,by assumption,by assumption,by assumption,h1,h2.symm⟩
   ·cases h
  ·cases h
 ·cases h
theorem ZpT{r:HM.Env}{d:PyData}(h:HM.Zep fa f r=some d):∃x q kvs y,fa r=some x/\f r=some q/\HM.ZlC q=some kvs/\HM.Zbe x=some y/\d=.bool (!(HM.Zm kvs y).isSome):=by
 unfold HM.Zep at h;split at h
 ·split at h
  ·split at h
   ·obtain⟨y,h1,h2⟩:=ZyL.mp h
    exact⟨_,_,_,y,by assumption,by assumption,by assumption,h1,h2.symm⟩
   ·cases h
  ·cases h
 ·cases h
theorem ZrJ(hu:X.A.units+1<cLine)(ha:XE X a fa)(hb:XB X b f)(hm:ZAw .In b=false:=by rfl):XE X (.Compare a [.In] [b] pos) (HM.ZbV fa f):=by intro r d h;obtain⟨x,q,kvs,y,h1,h2,h3,h4,rfl⟩:=Zom h;refine PE.imp (Zwq (ZsF hu (ha r x h1) (hb r q h2)) hm) λσ H Q ⟨F0,H0,F,at_,k⟩=>?_;refine⟨F0,H0,F,at_,λv F1 H1 x1 r1=>⟨F0,H0,F1,at_.grow x1,λw F2 H2 x2 ⟨fp,r2⟩=>?_⟩⟩;obtain⟨l,vvs,e1,e2,T⟩:=ZhY x2.sub r2 h3;obtain⟨bb,rfl,hbb⟩:=Zdz h4 (r1.mono x2.ff);exact⟨l,_,e1,Znc e2 (x2.sub _ _ hbb),k _ F2 H2 (x1.trans x2) (by rw[T.some_iff]; exact .bl _)⟩
theorem Znp(hu:X.A.units+1<cLine)(ha:XE X a fa)(hb:XB X b f)(hm:ZAw .In b=false:=by rfl):XT X (.Compare a [.In] [b] pos) (HM.tV (HM.ZbV fa f)):=by intro r d h;obtain⟨x,q,kvs,y,h1,h2,h3,h4,e⟩:=Zom (Zlk h);cases e;refine PT.imp (ZsZ (ZsF hu (ha r x h1) (hb r q h2)) hm) λσ H Q ⟨F0,H0,F,at_,k⟩=>?_;refine⟨F0,H0,F,at_,λv F1 H1 x1 r1=>⟨F0,H0,F1,at_.grow x1,λw F2 H2 x2 ⟨fp,r2⟩=>?_⟩⟩;obtain⟨l,vvs,e1,e2,T⟩:=ZhY x2.sub r2 h3;obtain⟨bb,rfl,hbb⟩:=Zdz h4 (r1.mono x2.ff);exact⟨l,_,e1,Znc e2 (x2.sub _ _ hbb),_,rfl,by rw[T.some_iff]; exact k F2 H2 (x1.trans x2)⟩
theorem Zl8(hu:X.A.units+1<cLine)(ha:XE X a fa)(hb:XB X b f)(hm:ZAw .NotIn b=false:=by rfl):XT X (.Compare a [.NotIn] [b] pos) (HM.tV (HM.Zep fa f)):=by intro r d h;obtain⟨x,q,kvs,y,h1,h2,h3,h4,e⟩:=ZpT (Zlk h);cases e;refine PT.imp (ZsZ (Zr0 hu (ha r x h1) (hb r q h2)) hm) λσ H Q ⟨F0,H0,F,at_,k⟩=>?_;refine⟨F0,H0,F,at_,λv F1 H1 x1 r1=>⟨F0,H0,F1,at_.grow x1,λw F2 H2 x2 ⟨fp,r2⟩=>?_⟩⟩;obtain⟨l,vvs,e1,e2,T⟩:=ZhY x2.sub r2 h3;obtain⟨bb,rfl,hbb⟩:=Zdz h4 (r1.mono x2.ff);exact⟨l,_,e1,Znc e2 (x2.sub _ _ hbb),_,rfl,by rw[T.some_iff]; exact k F2 H2 (x1.trans x2)⟩
theorem Zck(hu:X.A.units+1<cLine)(ha:XB X a f)(hk:XE X b fb)(hs:Zrf b:=by intro _ _; rfl):XE X (.Subscript a b pos) (HM.ZT f fb):=by
 intro r d h;unfold HM.ZT at h;split at h
 ·rename_i q hq
  split at h
  ·rename_i kvs hd
   split at h
   ·rename_i x hx
    split at h
    ·rename_i y hy
     refine PE.imp (Zp6 hu (ha r q hq) (hk r x hx) hs) λσ H Q ⟨F0,H0,F,at_,kk⟩=>?_;refine⟨F0,H0,F,at_,λv F1 H1 x1 ⟨fp,r1⟩=>⟨F0,H0,F1,at_.grow x1,λw F2 H2 x2 r2=>?_⟩⟩;obtain⟨l,vvs,e1,e2,T⟩:=ZhY x1.sub r1 hd;have e2':=rdT e2 x2.hh;have T':Za1 X.K F2 kvs vvs:=⟨T.1,T.2.mono x2.ff⟩;obtain⟨bb,rfl,hbb⟩:=Zdz hy r2;obtain⟨u,q1,q2⟩:=T'.look.1 d h;exact⟨l,u,e1,by rw[<-q1]; exact Znc e2' (x2.sub _ _ hbb),kk u F2 H2 (x1.trans x2) q2⟩
    ·cases h
   ·cases h
  ·cases h
 ·cases h
structure XAL(X:Cx)(es:List Expr)(f:HM.AF):Prop where
 len:∀r ds,f r=some ds->ds.length=es.length
 pa:∀r ds,f r=some ds->PA X es λσ H Q=>Now X.K r σ H λF0 H0 F=>∀vs F' H',Ext F H F' H'->Zs X.K H' ds vs->Q vs H'
theorem Zan.lent{K:ZyK}{F H:Hp}{q:HM.B}{v:V}{fp:List Addr}{d:PyData}(sub:Zr F H)(r:Zan K F H q v fp)(h:HM.frz q=some d):Rep K H d v:=by
 cases r with
 | pl r=>cases h; exact r.mono sub
 | ol h1 r=>cases h; exact .lst (.of h1) r.1 (r.mono sub).2
 | ok _ _ _=>cases h
 | hd h1 he hk r=>cases h; exact(Rep.dct (.inr ⟨_,h1⟩) he hk r.2).mono sub
 | hf h1=>cases h; exact(Rep.fn h1).mono sub
 | ot h1 hk r=>cases h; exact .dct (.inl h1) rfl hk (r.mono sub).2
 | otl _ _ _ _=>cases h
end
end HP
namespace HP
open PySem PySem.Spec PyProof.Rows L2
variable[FX]
section
variable{X:Cx}{a b c e:Expr}{fa fb fc:HM.EF}{f:HM.BF}{pos p:Pos}{es:List Expr}
theorem ZvH{g:HM.AF}(h:XA X es g):XAL X es g :=
 ⟨h.len,λr ds hd=>PA.imp (h.pa r ds hd) λσ H Q ⟨F0,H0,F,at_,k⟩=>⟨F0,H0,F,at_,λvs F' H' x q=>k vs F' H' x (q.mono x.sub)⟩⟩
theorem Znq{g:HM.AF}(ha:XE X e fa)(hr:XAL X es g)(hs:Zy0 (e::es) X.env=(false,eval e X.env)::Zy0 es X.env:=by rfl):XAL X (e::es) (HM.Za fa g):=by
 refine⟨λr ds h=>?_,λr ds h=>?_⟩
 ·unfold HM.Za at h
  split at h
  ·obtain⟨xs,h1,h2⟩:=ZyL.mp h
   subst h2;rw[Zy3,Zy3,hr.len r xs h1]
  ·cases h
 unfold HM.Za at h;split at h
 ·rename_i x hx
  obtain⟨xs,h1,h2⟩:=ZyL.mp h;subst h2;refine PA.imp (ZaI (ha r x hx) (hr.pa r xs h1) hs) λσ H Q ⟨F0,H0,F,at_,k⟩=>?_;exact⟨F0,H0,F,at_,λv F1 H1 x1 r1=>⟨F0,H0,F1,at_.grow x1,λvs F2 H2 x2 r2=>k (v::vs) F2 H2 (x1.trans x2) (.cons ((r1.mono x2.ff).mono x2.sub) r2)⟩⟩
 ·cases h
theorem Ztd{g:HM.AF}(ha:XB X e f)(hr:XAL X es g)(hs:Zy0 (e::es) X.env=(false,eval e X.env)::Zy0 es X.env:=by rfl):XAL X (e::es) (HM.Za (HM.ZrB f) g):=by
 refine⟨λr ds h=>?_,λr ds h=>?_⟩
 ·unfold HM.Za at h
  split at h
  ·obtain⟨xs,h1,h2⟩:=ZyL.mp h
   subst h2;rw[Zy3,Zy3,hr.len r xs h1]
  ·cases h
 unfold HM.Za at h;split at h
 ·rename_i x hx
  obtain⟨xs,h1,h2⟩:=ZyL.mp h;subst h2;obtain⟨q,hq,hf⟩:=ZBZ.mp hx;refine PA.imp (ZaI (ha r q hq) (hr.pa r xs h1) hs) λσ H Q ⟨F0,H0,F,at_,k⟩=>?_;exact⟨F0,H0,F,at_,λv F1 H1 x1 ⟨fp,r1⟩=>⟨F0,H0,F1,at_.grow x1,λvs F2 H2 x2 r2=>k (v::vs) F2 H2 (x1.trans x2) (.cons ((r1.lent x1.sub hf).monoT x2.hh) r2)⟩⟩
 ·cases h
theorem Rep.flat{K:ZyK}{F F':Hp}{d:PyData}{v:V}(r:Rep K F d v)(h:HM.Zln d=true):Rep K F' d v:=by
 cases r with
 | non=>exact .non
 | bl b=>exact .bl b
 | int i=>exact .int i
 | str x=>exact .str x
 | tupk _=>cases h
 | tup _ _ _=>cases h
 | lst _ _ _=>cases h
 | dct _ _ _ _=>cases h
 | fn _=>cases h
theorem Ext.forget{F H F'' H'':Hp}(s:Zr F H)(n:NoT F)(x:Ext (Zc4 H) H F'' H''):Ext F H F H'' :=
 ⟨Zr.refl F,x.hh,(n.sub s).trans (x.ff.trans x.sub),λ_ _ z=>.inl z,x.tab,id⟩
theorem ZsN(hc:X.calm=true):ZaM X (.builtin "max") (λxs H Q=>∃(p:Addr) (ns:List Int),xs=[.ref p]/\SqL X.K H p (ns.map V.int)/\0<ns.length/\∀M,M∈ns->(∀a,a∈ns->a<=M)->Q (.int M) H):=by
 intro pins s σ H xs us Q I r h;obtain⟨p,ns,rfl,hq,hne,q⟩:=h;obtain⟨u,rfl,rx⟩:=vals1 r;cases rx;obtain⟨its,rv,pl,hz⟩:=I.list hq;have hi:=ZcV rv;obtain⟨xs,e⟩:=hi.allInts.items;have hns:ns=xs.toList.map (·.1):=by rw[<-hi.numsOf,<-nums_intItems,<-e]
 have hsz:0<xs.size:=by have h3:=hne; rw[hns,ZyJ,Zze]at h3; exact h3
 have hl:=pl.isList;rw[e]at hl;refine max_intList (I.ok.hd hc) hl hsz λv h' tk hv hk=>?_;obtain⟨t,rfl⟩:=intItems_at hv;obtain⟨h1,h2⟩:=argBest_gt (numAt xs) (xs.size-1);refine⟨.int _,H,I.kept (t':=tk) hk,⟨t,rfl⟩,q _ ?_ λa ha=>?_⟩
 ·rw[hns,numAt_eq]; exact getD_mem (by rw[ZyJ,Zze]; omega)
 ·rw[hns]at ha
  obtain⟨j,hj,rfl⟩:=mem_getD ha;rw[ZyJ,Zze]at hj;rw[<-numAt_eq]; exact h2 j (by omega)
theorem Zux(hm:X.mg "max" = none)(hc:X.calm=true)(ha:XB X a f)(hg:Gl X "max":=by rfl)(hs:Zy0 [a] X.env=[(false,eval a X.env)]:=by rfl):XE X (.Call (.Name "max" p) [a] [] pos) (HM.ZkP f):=by
 intro r d h;unfold HM.ZkP at h;split at h
 ·rename_i x hx
  split at h
  ·rename_i ds hds
   split at h
   ·rename_i ns hns
    obtain⟨m,h1,h2⟩:=ZyL.mp h;subst h2;refine PE.imp (Zcf (ZsN hc) hg hm Zsj (ZdD ha hx hs) (he:=hs)) λσ H Q ⟨F0,H0,F,at_,k⟩=>?_;refine⟨F0,H0,F,at_,λv fp F1 H1 x1 r1=>?_⟩;obtain⟨l,vs,e1,hq,rs⟩:=Zgl x1.sub r1 hds;rw[Zcv hns rs]at hq;obtain⟨m1,m2⟩:=ZDE.mp h1;refine⟨l,ns,by rw[e1],hq,List.length_pos_of_mem m1,λM k1 k2=>?_⟩;have:M=m:=Int.le_antisymm (m2 M k1) (k2 m m1);subst this;exact k _ F1 H1 x1 (.int _)
   ·cases h
  ·cases h
 ·cases h
end
end HP
namespace HP
open PySem PySem.Spec PyProof.Rows L2
variable[FX]
end HP
namespace HP
open PySem PySem.Spec PyProof.Rows L2
variable[FX]
section
variable{X:Cx}{a b c e:Expr}{fa fb fc:HM.EF}{f:HM.BF}{pos p:Pos}{es:List Expr}
theorem ZrK(i:Nat){x:Str}{p1 p2 p3:Pos}(ha:XB X a f)(hN:X.N[i]?=some x:=by rfl)(hv:Vis X.env.scope x:=by first | exact ZzO rfl | exact Zzi (ZzO rfl) | exact Zzi (Zzi rfl))(hd:(x==("__debug__":Str))=false:=by decide)(hcd:(x==("__classdict__":Str))=false:=by decide)
  (hbase:ZBp (.Name x p1) "extend" X.env (eval (.Name x p1) X.env)=eval (.Name x p1) X.env:=by rfl)
  (hfew:((backTo p3 (Zy0 [a] X.env)).all (λx=>!x.1)&&(backToKw p3 (ZCB [] X.env)).all (λx=>x.1.isSome)&&decide (([a]:List Expr).length+([]:List Keyword).length+(if([]:List Keyword).isEmpty then 0 else 1)<30))=true:=by rfl)
  (hline:(p2.endLine==p3.line)=true:=by rfl) (hs:Zy0 [a] X.env=[(false,eval a X.env)]:=by rfl):XS X (.Expr (.Call (.Attribute (.Name x p1) "extend" p2) [a] [] p3) pos) (HM.ZjD i f):=by
 intro r o h;unfold HM.ZjD at h;split at h
 ·rename_i ds hds
  split at h
  ·rename_i es hes
   split at h
   ·rename_i hz
    cases h;refine PS.imp (ZjE (Zrv ZBm PySem.F.slot_list_extend PySem.F.type_list_extend Zs2 (ZcQ hN hv hd hcd) (ZaI (ha r _ hes) Zcg hs) hbase hfew hline hs rfl)) λE σ H ⟨F0,H0,F,at_,k⟩=>?_;obtain⟨l,vs,e1,e2,e3,_⟩:=at_.chgList (es:=ds) hds;refine⟨.ref l,e1,.inl ⟨rfl,_,SqL.of e2⟩,F0,H0,F,at_,λv F1 H1 x1 ⟨fp,r1⟩=>?_⟩;have at1:=at_.grow x1;obtain⟨l',vs',f1,f2,f3,f4⟩:=at1.chgList (es:=ds++es) hds;rw[e1]at f1;cases f1;cases r1 with
    | @ol b _ us hb rs =>
     refine⟨_,b,vs',us,rfl,rfl,f2,hb,?_,k _ F1 _ (f4 _ (f3.append rs))⟩;have e4:=f3.1;have e6:=rs.1;have e5:(1000000:Nat)<=sizeLine:=by decide
     unfold HM.big at hz;omega
   ·cases h
  ·cases h
 ·cases h
theorem ZvI(i j:Nat){x y:Str}{p1 p2 p3 p4:Pos}(hN:X.N.Nodup)(hNi:X.N[i]?=some x:=by rfl)(hNj:X.N[j]?=some y:=by rfl)(hx:Loc X.env.scope x:=by first | exact ZzO rfl | exact Zzi rfl)(hv:Vis X.env.scope y:=by first | exact ZzO rfl | exact Zzi (ZzO rfl) | exact Zzi (Zzi rfl))(hd:(y==("__debug__":Str))=false:=by decide)(hcd:(y==("__classdict__":Str))=false:=by decide)
  (hbase:ZBp (.Name y p1) "pop" X.env (eval (.Name y p1) X.env)=eval (.Name y p1) X.env:=by rfl) (hline:(p2.endLine==p3.line)=true:=by rfl)
  (hs:ZBq (.Call (.Attribute (.Name y p1) "pop" p2) [] [] p3) (some (.Name x p4)) pos.line X.env=pure false:=by rfl) (hf:X.fn x=true\/X.env.scope.names.lookup x=some .local:=by first | exact .inl rfl | exact .inr rfl) :
  XS X (.Assign [.Name x p4] (.Call (.Attribute (.Name y p1) "pop" p2) [] [] p3) pos) (HM.ZtM i j):=by
 intro r o h;unfold HM.ZtM at h;split at h
 ·rename_i ds hds
  split at h
  ·rename_i d hd'
   cases h;refine PS.imp (ZoR hN hNi hx (ZwE ZBm PySem.F.slot_list_pop PySem.F.type_list_pop ZwJ (ZcQ hNj hv hd hcd) hbase hline) hs hf) λE σ H ⟨F0,H0,F,at_,k⟩=>?_;obtain⟨l,vs,e1,e2,e3,e4⟩:=at_.chgList (es:=ds.dropLast) hds;obtain⟨v,q1,q2⟩:=e3.get hd';refine⟨.ref l,e1,.inl ⟨rfl,_,SqL.of e2⟩,l,vs,v,rfl,rfl,e2,by rw[<-e3.1]; exact q1,k _ F _ ((e4 _ ?_).set q2)⟩;rw[ZDF,ZDF,<-e3.1];exact e3.take _
  ·cases h
 ·cases h
def spF(K:ZyK)(n:Nat)(M:List PyData->Option PyData):Sp:=λvs H Q _=>∃F ds ys,vs.length=n/\Zr F H/\Tb H/\NoT F/\Zs K F ds vs/\M ds=some (.list ys)/\∀l us F' H',Ext F H F' H'->H' l=some (.lst us)->Zs K F' ys us->F' l=none->H l=none->Q (.ref l) H'
structure Zeo(P:Program)(w:World)(K:ZyK)(mg:Str->Option Value)(base:Heap)(k:Nat)(x:Str)(M:List PyData->Option PyData):Prop where
 ex:∃f fd ps,(∀ds d,M ds=some d->ds.length=ps.length)/\ZdB P w K mg base CX0 k f fd ps (spF K ps.length M)/\mg x=some (.ref f)/\ZAh K (.ref f)=true/\Binds K fd ps []
theorem Zeo.mono{P:Program}{w:World}{K:ZyK}{mg:Str->Option Value}{base:Heap}{j k:Nat}{x:Str}{M:List PyData->Option PyData}(C:Zeo P w K mg base j x M)(h:j<=k):Zeo P w K mg base k x M:=by obtain⟨f,fd,ps,l,F,r⟩:=C.ex;exact⟨f,fd,ps,l,F.mono h,r⟩
theorem Zte{k:Nat}{x:Str}{g:HM.AF}{M:List PyData->Option PyData}(C:Zeo X.prog X.w X.K X.mg X.base k x M)(hr:ZaE k X.A)(ha:XA X (e::es) g)(hg:Gl X x:=by rfl)(hdb:(x==("__debug__":Str))=false:=by decide)
  (he:Zy0 (e::es) X.env=(false,eval e X.env)::Zy0 es X.env:=by rfl) (hpl:(backTo pos (Zy0 es X.env)).any (·.1)=false:=by rfl):XF X (.Call (.Name x p) (e::es) [] pos) (HM.ZiX M g):=by
 intro r d hd;unfold HM.ZiX at hd;split at hd
 ·rename_i ds hds
  split at hd
  ·rename_i ys hM
   cases hd;obtain⟨fa,fd,ps,hl,F,hm,hk,hb⟩:=C.ex;refine PE.imp (ZlO (E:=E0) F hr hg hm hk hb .nil ZrG (ha.pa r ds hds) hdb he hpl) λσ H Q ⟨F0,H0,F1,at_,k⟩=>?_;refine⟨F0,H0,F1,at_,λvs F' H' x q=>?_⟩;show spF X.K ps.length M (vs++[]) H' Q E0;rw[Zzu];refine⟨F',ds,ys,by rw[<-q.1]; exact hl ds _ hM,x.sub,at_.tbx x,at_.ntx x,q,hM,λl us F2 H2 x2 h1 h2 h3 h4=>k _ F2 H2 (x.trans x2) ⟨[l],.ol h1 h2,by simp,λa ha=>?_⟩⟩;obtain rfl:a=l:=by simpa using ha
   exact⟨h3,x.hh.free h4⟩
  ·cases hd
 ·cases hd
theorem Zq4{P:Program}{w:World}{K:ZyK}{mg:Str->Option Value}{base:Heap}{k:Nat}{x qual:Str}{st:Stmt}{f:Addr}{fd:FuncData}{N ps:List Str}{e:Expr}{g:HM.BF}{p1:Pos}(Fn:Fun K x qual st f fd)(S:Zz N ps (Zh st))(hm:mg x=some (.ref f))(hb:Binds K fd ps [])
  (hst:ZaY st=[.Return (some e) p1]) (hol:∀r b,g r=some b->∃ys,b=.ol ys)
  (body:∀(cdv:Value) (A:Around) (outer:List Env) (s:Shared) (H:Hp) (E:XK),ZaE k (A.deeper (envOfC qual (Zh st) s.heap.objs.size f cdv))->XF (Zgq CX0 P w K mg base N qual (Zh st) f cdv A outer s H E).nox e g) :
  Zeo P w K mg base (k+1) x (HM.fnOf ps.length N.length (HM.ZG (HM.eOf g))):=by
 have hpl:ps.length<=N.length:=by have:=congrArg Zzw S.pre; rw[Zz6]at this; omega
 refine⟨f,fd,ps,λds d h=>?_,Fn.ok S (λvs H Q E h=>?_) (λcdv A outer s H vs Q E hr h=>?_),hm,Fn.kp,hb⟩
 ·unfold HM.fnOf at h
  split at h
  ·assumption
  ·cases h
 ·obtain⟨_,_,_,h,_⟩:=h
  exact h
 ·obtain⟨F,ds,ys,hl,sub,tb,nt,q,hM,kk⟩:=h
  unfold HM.fnOf at hM;split at hM
  ·rename_i hds
   have a0:=ZgD (N:=N) sub tb nt q (by omega);have hg:g (HM.ZeU N.length ds)=some (.ol ys):=by
    split at hM
    ·rename_i r hr'
     cases hq:HM.eOf g (HM.ZeU N.length ds)with
     | none=>unfold HM.ZG at hr'; rw[hq]at hr'; cases hr'
     | some d=>unfold HM.ZG at hr'; rw[hq]at hr'; cases hr'
    ·rename_i d' hr'
     cases hM;obtain⟨d,h1,h2⟩:=ZyL.mp hr';cases h2;obtain⟨b,h3,h4⟩:=ZBZ.mp h1;obtain⟨zs,rfl⟩:=hol _ _ h3;cases h4;exact h3
    ·cases hM
   rw[hst];refine⟨_,Zqb (Zoz (body cdv A outer s H E hr _ _ hg)),F,H,F,a0,λv F' H' x ⟨fp,r1,nd,hn⟩=>?_⟩;cases r1 with
   | @ol l _ us h1 h2=>exact kk l us F' H' x h1 h2 (hn l (by simp)).1 (hn l (by simp)).2
  ·cases hM
theorem Zui(i:HM.IF)(c:HM.TF)(e:HM.EF)(r:HM.Env)(b:HM.B)(h:HM.ZC i c e r=some b):∃ys,b=.ol ys:=by
 unfold HM.ZC at h;split at h
 ·split at h
  ·obtain⟨ys,_,h2⟩:=ZyL.mp h
   exact⟨ys,h2.symm⟩
  ·cases h
 ·cases h
end
end HP
namespace HP
open PySem PySem.Spec PyProof.Rows L2
variable[FX]
section
variable{K:ZyK}{F H F0 H0 G:Hp}{a b:Addr}{ob u:HO}{vvs:List (List Key × V)}{d:PyData}{v:V}{ds:List PyData}{vs:List V}{r:HM.Env}{σ:L2.St}{i:Nat}{es:List (PyData × PyData)}
theorem Zbj(h:b≠a):sw a ob G b=G b:=by unfold sw; rw[if_neg h]
theorem ZfQ:sw a ob G a=(G a).map λ_=>ob:=by unfold sw; rw[if_pos rfl]
theorem Zqq(s:Zr F H):Zr (sw a ob F) (sw a ob H):=λb o z=>by
 by_cases hb:b=a
 ·subst hb
  rw[ZfQ]at z ⊢;obtain⟨x,h1,h2⟩:=ZyL.mp z;rw[s _ _ h1,<-h2]; rfl
 ·rw[Zbj hb]at z ⊢; exact s b o z
theorem Zup(hG:∀u,G a=some u->u=.dT vvs):sw a (.dT vvs) (sw a ob G)=G:=by
 funext b
 by_cases hb:b=a
 ·subst hb
  rw[ZfQ,ZfQ];cases h:G b with
  | none=>rfl
  | some u=>rw[hG u h]; rfl
 ·rw[Zbj hb,Zbj hb]
theorem Dk.nt(h:Dk vvs u):(∀xs,u≠.tup xs)/\(∀xs,u≠.lst xs)/\(∀o xs,u≠.frz o (.lst xs))/\(∀ps,u≠.tbl ps)/\(∀x,u≠.own x):=by rcases h with h | ⟨o,h⟩<;>subst h<;>exact⟨λ_ z=>(by cases z),λ_ z=>(by cases z),λ_ _ z=>(by cases z),λ_ z=>(by cases z),λ_ z=>(by cases z)⟩
theorem Rep.sw(hF:∀u,F a=some u->Dk vvs u)(hob:Dk vvs ob)(r:Rep K F d v):Rep K (HP.sw a ob F) d v:=by
 induction r with
 | non=>exact .non
 | bl b=>exact .bl b
 | int i=>exact .int i
 | str x=>exact .str x
 | fn h=>exact .fn (FX.sw hF hob h)
 | tupk h=>exact .tupk h
 | @tup b ds vs h hl _ ih=>exact .tup (by rw[Zbj (λz=>(hF _ (z▸h)).nt.1 _ rfl)]; exact h) hl ih
 | @lst b ds vs h hl _ ih =>
  refine .lst ?_ hl ih;rcases h with h | h
  ·refine .inl ?_
   have hb:b≠a:=λz=>by
    rcases h with h | ⟨o,h⟩
    ·exact(hF _ (z▸h)).nt.2.1 _ rfl
    ·exact(hF _ (z▸h)).nt.2.2.1 _ _ rfl
   unfold Rd;rw[Zbj hb];exact h
  ·exact .inr h
 | @dct b es kvs vvs' h he hk _ ih =>
  refine .dct ?_ he hk ih
  by_cases hb:b=a
  ·subst hb
   have:vvs'=vvs/\∃u,F b=some u:=by
    rcases h with h | ⟨o,h⟩
    ·rcases hF _ h with z | ⟨o',z⟩
     ·cases z; exact⟨rfl,_,h⟩
     ·cases z
    ·rcases hF _ h with z | ⟨o',z⟩
     ·cases z
     ·cases z; exact⟨rfl,_,h⟩
   obtain⟨rfl,u,hu⟩:=this;unfold Rd;rw[ZfQ,hu];rcases hob with z | ⟨o,z⟩
   ·subst z; exact .inl rfl
   ·subst z; exact .inr ⟨o,rfl⟩
  ·unfold Rd
   rw[Zbj hb];exact h
theorem Zs.sw(hF:∀u,F a=some u->Dk vvs u)(hob:Dk vvs ob)(r:Zs K F ds vs):Zs K (HP.sw a ob F) ds vs:=⟨r.1,λi d v h1 h2=>(r.2 i d v h1 h2).sw hF hob⟩
theorem Ext.sw(x:Ext F0 H0 F H)(hH:∀u,H a=some u->Dk vvs u)(hob:Dk vvs ob):Ext (HP.sw a ob F0) (HP.sw a ob H0) (HP.sw a ob F) (HP.sw a ob H) :=
 ⟨Zqq x.ff,x.hh.sw,Zqq x.sub,λb o z=>by
  by_cases hb:b=a
  ·subst hb
   rw[ZfQ]at z;obtain⟨u,h1,h2⟩:=ZyL.mp z;rcases x.new b u h1 with q | q | ⟨xs,e,q⟩
   ·exact .inl (by rw[ZfQ,q,<-h2]; rfl)
   ·exact .inr (.inl (by rw[ZfQ,q]; rfl))
   ·exact absurd e ((hH _ (x.sub _ _ h1)).nt.1 xs)
  ·rw[Zbj hb]at z
   rcases x.new b o z with q | q
   ·exact .inl (by rw[Zbj hb]; exact q)
   ·refine .inr ?_
    unfold Fre;rw[Zbj hb];exact q,λt=>(x.tab (t.unsw hob)).sw hH,λt b o z=>by
  unfold HP.sw at z;split at z
  ·obtain⟨u,_,e⟩:=ZyL.mp z
   subst e; exact hob.ntt
  ·rename_i hb
   refine x.nts (λc u y=>?_) b o z
   by_cases hc:c=a
   ·subst hc; exact(hH _ (x.sub _ _ (x.ff _ _ y))).ntt
   ·exact t c u (by rw[Zbj hc]; exact y)⟩
theorem At.sw(e:At K F0 H0 F H r σ)(hFa:F a=some u)(hu:Dk vvs u)(hob:Dk vvs ob)(nh:∀(i:Nat) (es:List (PyData × PyData)),r[i]?≠some (some (HM.B.hd es))):At K (HP.sw a ob F0) (HP.sw a ob H0) (HP.sw a ob F) (HP.sw a ob H) r σ:=by
 obtain⟨fp,e⟩:=e;have hF:∀u,F a=some u->Dk vvs u:=λu' h=>by rw[hFa]at h; cases h; exact hu
 have hH:∀u,H a=some u->Dk vvs u:=λu' h=>by rw[e.sub _ _ hFa]at h; cases h; exact hu
 have own:∀i,∀c∈fp i,c≠a:=λi c hc z=>by rw[<-z,(e.own i c hc).1]at hFa; cases hFa
 refine⟨fp,e.ext.sw hH hob,e.len,λi b h=>?_,e.emp,λi b h=>?_,e.nd,e.dis,e.tb.sw (vvs:=vvs) (λu' z=>by have q:=e.ext.hh.back z (e.sub _ _ hFa) hu.nt.2.2.2.1;rw[q]; exact hu),λb o z=>?_⟩
 rotate_left 2
 ·unfold HP.sw at z
  split at z
  ·obtain⟨u,_,e⟩:=ZyL.mp z
   subst e; exact hob.ntt
  ·exact e.nt b o z
 ·obtain⟨v,h1,h2⟩:=e.at_ i b h
  refine⟨v,h1,?_⟩;have own:=own i;generalize fp i=f at h2 own;cases h2 with
  | pl q=>exact .pl (q.sw hF hob)
  | ol k q=>exact .ol (by rw[Zbj (own _ (by simp))]; exact k) (q.sw hF hob)
  | ok k hk q=>exact .ok (by rw[Zbj (own _ (by simp))]; exact k) hk (q.sw hF hob)
  | ot k hk q=>exact .ot (by rw[Zbj (own _ (by simp))]; exact k) hk (q.sw hF hob)
  | otl k hk hv q=>refine .otl (by rw[Zbj (own _ (by simp))]; exact k) hk hv λi ds l h1 h2=>?_;obtain⟨vs,q1,q2⟩:=q i ds l h1 h2;exact⟨vs,by rw[Zbj (own l (ZyQ _ (Zzj h2)))]; exact q1,q2.sw hF hob⟩
  | hd _ _ _ _=>exact absurd h (nh _ _)
  | hf _=>exact absurd h (nh _ _)
 ·rw[Zbj (own i b h),Zbj (own i b h)]
  exact e.own i b h
theorem set_same{x:Option V}(h:σ[i]?=some x):σ.set i x=σ:=by obtain⟨h1,h2⟩:=ZyZ.mp h;rw[<-h2];exact ZBA h1
theorem At.say{b':HM.B}(e:At K F0 H0 F H r σ)(h1:σ[i]?=some (some v))(q:Zan K F H b' v []):At K F0 H0 F H (r.set i (some b')) σ:=by
 have:=e.store (i:=i) q ZAI (λa h=>by simp at h) λ_ _ _ _ _ _ h=>by simp at h
 rwa [set_same h1]at this
theorem At.loosen(e:At K F0 H0 F H r σ)(h:r[i]?=some (some (.hd es))):At K F0 H0 F H (r.set i (some (.pl (.dict es)))) σ:=by
 obtain⟨v,fp,h1,h2⟩:=e.any h;cases h2 with
 | hd k1 k2 k3 k4=>exact e.say h1 (.pl (.dct (.inr ⟨_,k1⟩) k2 k3 k4.2))
 | hf k1=>exact e.say h1 (.pl (.fn k1))
theorem Zuu(h:r.all (λq=>!HM.Za9 q)=true)(i:Nat)(es:List (PyData × PyData)):r[i]?≠some (some (.hd es)):=λz=>by have:=ZyR.mp h _ (Zzj z);cases this
theorem ZsG{b':HM.B}(h:(r.set i none).all (λq=>!HM.Za9 q)=true)(hb:∀es,b'≠.hd es)(j:Nat)(es:List (PyData × PyData)):(r.set i (some b'))[j]?≠some (some (.hd es)):=λz=>by
 by_cases hj:i=j
 ·subst hj
  by_cases hi:i<r.length
  ·rw[ZzL hi]at z
   injection z with z
   injection z with z
   exact hb _ z
  ·rw[ZDz (by rw[Zz5]; omega)]at z
   cases z
 ·rw[Zzn hj]at z
  exact Zuu h j es (by rw[Zzn hj]; exact z)
end
section
variable{X:Cx}{pins:List (Addr × Obj)}{σ:L2.St}{H:Hp}{s:Shared}{a:Addr}{u ob:HO}{vvs:List (List Key × V)}
theorem Znf{h:Heap}{o:HO}{b:Addr}(ha:H a=some u)(hu:Dk vvs u)(x:Z1 X.prog X.w H h b o):Z1 X.prog X.w (sw a ob H) h b o :=
 x.stay (λ_ _ _ q=>q) (λc q=>by rw[Zbj (λz=>by rw[z,ha]at q; cases q; exact hu.nt.2.2.2.2 _ rfl)]; exact q) λc xs q=>by rw[Zbj (λz=>by rw[z,ha]at q; cases q; exact hu.nt.1 _ rfl)]; exact q
theorem Zoy(I:Inv X pins σ H s)(ha:H a=some u)(hu:Dk vvs u)(ok:Z1 X.prog X.w (sw a ob H) s.heap a ob)(hn:∀o w,X.H₀ a≠some (.frz o w)):Inv X pins σ (HP.sw a ob H) s:=by
 have none':∀b,H b=none->HP.sw a ob H b=none:=λb h=>by rw[Zbj (λz=>by rw[z,ha]at h; cases h)]; exact h
 refine⟨I.ok,I.os,I.bare,⟨I.base.keep,I.base.slot,λb o h1 h2 h3=>none' b (I.base.free b o h1 h2 h3),I.base.there,λb xs h=>?_,λb o w h=>?_,λb ps h=>?_⟩,I.loc,I.cell,none' _ I.free,λx c h=>none' _ (I.freeC x c h),λp hp=>?_,λb o h=>?_,I.len⟩
 ·have q:=I.base.tups b xs h
  rw[Zbj (λz=>by rw[z,ha]at q; cases q; exact hu.nt.1 _ rfl)];exact q
 ·have q:=I.base.frzs b o w h
  rw[Zbj (λz=>hn o w (by rw[<-z]; exact h))];exact q
 ·obtain⟨m,q⟩:=I.base.tbls b ps h
  exact⟨m,by rw[Zbj (λz=>by rw[z,ha]at q; cases q; exact hu.nt.2.2.2.1 _ rfl)]; exact q⟩
 ·have q:=I.pin p hp
  exact⟨q.1,none' _ q.2.1,q.2.2⟩
 ·by_cases hb:b=a
  ·subst hb
   rw[ZfQ,ha]at h;cases h;exact ok
  ·rw[Zbj hb]at h
   exact Znf ha hu (I.hok b o h)
theorem Zhn(i:Nat){st:Stmt}{g:HM.SF}(h:XS X st g):XS X st (HM.ZeO i g):=by
 intro r o ho;unfold HM.ZeO at ho;split at ho
 case h_2=>exact h r o ho
 rename_i es hr;split at ho
 case isFalse=>cases ho
 rename_i hall;have nh:=Zuu hall;intro pins s σ H E I ⟨F0,H0,F,at_,k⟩;obtain⟨v,h1,h2⟩:=at_.plain hr;cases h2 with
 | @dct a _ kvs vvs hd he hk hrr =>
  have rs:∀{F':Hp},Zr F F'->Zs X.K F' (kvs.map (·.2)) (vvs.map (·.2)):=λs=>by refine Zs.mono ⟨?_,hrr⟩ s;have:=congrArg Zzw hk;rw[ZyJ,ZyJ]at this ⊢;exact this
  rcases hd with hd | ⟨q,hd⟩
  ·have hHa:=at_.sub _ _ hd
   obtain⟨z,y,xs,rl,q,es1,ep,e1,c1⟩:=(show Z1 X.prog X.w H s.heap a (.dT vvs) from I.hok a _ hHa);have hn:∀o w,X.H₀ a≠some (.frz o w):=λo w z=>by have:=I.base.frzs _ _ _ z;rw[hHa]at this; cases this
   have I1:=Zoy (ob:=.frz q (.dT vvs)) I hHa (.inl rfl) ⟨e1,Znf hHa (.inl rfl) ⟨z,y,xs,rl,q,es1,ep,e1,c1⟩⟩ hn;have at1:=at_.sw (ob:=.frz q (.dT vvs)) hd (.inl rfl) (.inr ⟨q,rfl⟩) nh;have Ra:HP.sw a (.frz q (.dT vvs)) F a=some (.frz q (.dT vvs)):=by rw[ZfQ,hd]; rfl
   have hFd:∀u,F a=some u->Dk vvs u:=λu z=>by rw[hd]at z; cases z; exact .inl rfl
   have at2:=(at1.say (i:=i) h1 (.hd Ra he hk (Zs.sw hFd (.inr ⟨q,rfl⟩) (rs (Zr.refl F))))).rebase;have e0:HP.sw a (.dT vvs) (HP.sw a (.frz q (.dT vvs)) F0)=F0:=Zup λu z=>by have:=at_.ext.ff _ _ z;rw[hd]at this; cases this; rfl
   have e1:HP.sw a (.dT vvs) (HP.sw a (.frz q (.dT vvs)) H0)=H0:=Zup λu z=>by exact at_.ext.hh.back z hHa λ_ w=>by cases w
   split at ho
   ·rename_i r' hg
    split at ho
    case h_2=>cases ho
    rename_i es' hr';split at ho
    case isFalse=>cases ho
    rename_i hall';cases ho;refine thn (h _ _ hg pins s σ _ { nx:=λσ' H'=>∃F',At X.K (HP.sw a (.frz q (.dT vvs)) F) (HP.sw a (.frz q (.dT vvs)) H0) F' H' r' σ',rt:=λ_ _=>False,bk:=λ_ _=>False,ct:=λ_ _=>False } I1 ⟨_,_,_,at2,λσ' F' H' a'=>⟨F',a'⟩⟩) λfl s' z=>?_;cases fl with
    | next=>obtain⟨σ',H',I',F',a'⟩:=z;have Fa:=a'.ext.ff _ _ Ra;have Ha:=a'.sub _ _ Fa;have a3:=((At.unbase at1.ext (at1.nt0) a').loosen hr').sw (ob:=.dT vvs) Fa (.inr ⟨q,rfl⟩) (.inl rfl) (ZsG hall' λ_ z=>by cases z);rw[e0,e1]at a3;exact⟨σ',_,Zoy I' Ha (.inr ⟨q,rfl⟩) (Znf Ha (.inr ⟨q,rfl⟩) (Zlj I'.hok (.inr ⟨q,Ha⟩))) hn,k σ' _ _ a3⟩
    | brk=>obtain⟨_,_,_,z⟩:=z; exact z.elim
    | cont=>obtain⟨_,_,_,z⟩:=z; exact z.elim
    | ret u=>obtain⟨_,_,_,_,_,z⟩:=z; exact z.elim
   ·rename_i d hg
    cases ho;refine thn (h _ _ hg pins s σ _ { nx:=λ_ _=>False,bk:=λ_ _=>False,ct:=λ_ _=>False,rt:=λv' H'=>∃F',Ext (HP.sw a (.frz q (.dT vvs)) F) (HP.sw a (.frz q (.dT vvs)) H0) F' H'/\Rep X.K F' d v' } I1 ⟨_,_,_,at2,λv' F' H' x q=>⟨F',x,q⟩⟩) λfl s' z=>?_;cases fl with
    | ret u=>obtain⟨v',σ',H',I',rv,F',x',r'⟩:=z;have Fa:=x'.ff _ _ Ra;have Ha:=x'.sub _ _ Fa;have x3:=(Ext.unbase at1.ext x').sw (a:=a) (vvs:=vvs) (ob:=.dT vvs) (λu z=>by rw[Ha]at z; cases z; exact .inr ⟨q,rfl⟩) (.inl rfl);rw[e0,e1]at x3;exact⟨v',σ',_,Zoy I' Ha (.inr ⟨q,rfl⟩) (Znf Ha (.inr ⟨q,rfl⟩) (Zlj I'.hok (.inr ⟨q,Ha⟩))) hn,rv,k v' _ _ x3 (r'.sw (λu z=>by rw[Fa]at z; cases z; exact .inr ⟨q,rfl⟩) (.inl rfl))⟩
    | next=>obtain⟨_,_,_,z⟩:=z; exact z.elim
    | brk=>obtain⟨_,_,_,z⟩:=z; exact z.elim
    | cont=>obtain⟨_,_,_,z⟩:=z; exact z.elim
   ·cases ho
  ·have at2:=at_.say (i:=i) h1 (.hd hd he hk (rs (Zr.refl F)))
   split at ho
   ·rename_i r' hg
    split at ho
    case h_2=>cases ho
    rename_i es' hr';split at ho
    case isFalse=>cases ho
    cases ho;exact h _ _ hg pins s σ H E I ⟨F0,H0,F,at2,λσ' F' H' a'=>k σ' F' H' (a'.loosen hr')⟩
   ·rename_i d hg
    cases ho;exact h _ _ hg pins s σ H E I ⟨F0,H0,F,at2,k⟩
   ·cases ho
 | fn hv =>
  have at2:=at_.say (i:=i) h1 (.hf hv);split at ho
  ·rename_i r' hg
   split at ho
   case h_2=>cases ho
   rename_i es' hr';split at ho
   case isFalse=>cases ho
   cases ho;exact h _ _ hg pins s σ H E I ⟨F0,H0,F,at2,λσ' F' H' a'=>k σ' F' H' (a'.loosen hr')⟩
  ·rename_i d hg
   cases ho;exact h _ _ hg pins s σ H E I ⟨F0,H0,F,at2,k⟩
  ·cases ho
def Itd(a:Addr)(o:Obj):It :=
 ⟨λi H=>∃vvs q,H a=some (.frz o (.dT vvs))/\vvs[i]?=some q,λi H x H'=>H'=H/\∀vvs,H a=some (.frz o (.dT vvs))->∃q b,vvs[i]?=some q/\x=.ref b/\H b=some (.tup (q.1.map kV)),λi H=>∃vvs,H a=some (.frz o (.dT vvs))/\vvs.length<=i⟩
theorem Zrn{α β:Type}{R:α->β->Prop}{l:List α}{m:List β}(r:Paired R l m):∀{i:Nat} {x:α},l[i]?=some x->∃y,m[i]?=some y/\R x y:=by
 induction r with
 | nil=>intro i x e; simp at e
 | @cons p q _ _ hq _ ih =>
  intro i x e;cases i with
  | zero=>rw[ZBl]at e; cases e; exact⟨q,rfl,hq⟩
  | succ i=>rw[Zzv]at e ⊢; exact ih e
theorem ZsX{P:Program}{w:World}{K:ZyK}{tg:Expr}(a it:Addr)(o:Obj)(es:Array DictEntry)(ep:Nat)(hd:o.data=.dict es ep):Turn P w K tg (Itd a o) [it] it (λi h=>h.IsKeyIter it a i es.size ep) where
 mem:=by simp
 obj:=λi h st b hb=>by
  have e:b=it:=by simpa using hb
  subst e;obtain⟨o,e,c,d⟩:=st;exact⟨o,e,λv z=>by rw[d]at z; cases z⟩
 keep:=λi h h' st k=>st.at λo e=>k it (by simp) o e
 item:=by
  intro X hP hw hK hc i pins s σ H E I hf st hg;subst hP hw hK;obtain⟨vvs,q,hH,hq⟩:=hg;obtain⟨h1,z,lo,xs,rel,o2,es2,ep2,h2,h3,h4,h5,h6⟩:=(show Z1 X.prog X.w H s.heap a (.frz o (.dT vvs)) from I.hok a _ hH);rw[h1]at h2;cases h2;rw[hd]at h4;cases h4;obtain⟨f0,f1,f2,f3,f4,f5⟩:=hf it (by simp);obtain⟨p,hp,hr1,hr2,_⟩:=Zrn rel hq;have he:es[i]?=some (entryOfKey (ZCe (ZaN X.prog X.w)) p):=by rw[<-Zzy,h5,Zy2,hp]; rfl
  refine ZnZ st ⟨o,h1,h3,hd⟩ he λh' st' sb=>?_;have I1:Inv X pins σ H { s with heap:=h' }:=I.turned (t':=s.toks) (λb o hb e=>(sb.2 b hb).trans e) f0 f1 f3 f4 f5;obtain⟨oi,e,c,d⟩:=id st';refine⟨_,rfl,Znb (s:={ s with heap:=h' }) e c d (by decide) ⟨.ref p.2.1,H,I1,rfl,⟨rfl,λvv hv=>?_⟩,st',λb hb=>(hf b hb).1⟩⟩;rw[hH]at hv;cases hv;exact⟨q,p.2.1,hq,rfl,hr2⟩
 done:=by
  intro X hP hw hK hc i pins s σ H E I hf st hg;subst hP hw hK;obtain⟨vvs,hH,hq⟩:=hg;obtain⟨h1,z,lo,xs,rel,o2,es2,ep2,h2,h3,h4,h5,h6⟩:=(show Z1 X.prog X.w H s.heap a (.frz o (.dT vvs)) from I.hok a _ hH);rw[h1]at h2;cases h2;rw[hd]at h4;cases h4;obtain⟨f0,f1,f2,f3,f4,f5⟩:=hf it (by simp);have hl:vvs.length=xs.length:=ZAS rel;have hes:es.size=xs.length:=by rw[<-Zze,h5,ZyJ]
  exact Zql (I.ok.hd hc) st ⟨o,h1,h3,hd⟩ (by omega) λh' eb=>⟨rfl,I.turned (t':=s.toks) (λb o hb e=>eb b o hb e) f0 f1 f3 f4 f5⟩
 self:=λ_ _ _ _ _ st h=>wpAny_pyIter_keyiter st h
theorem Zu1{tg l:Expr}{tl:TE}(hl:PE X l tl):PI X tg l (λσ H R=>tl σ H λx H1=>∃a o vvs,x=.ref a/\H1 a=some (.frz o (.dT vvs))/\R (Itd a o) H1):=by
 intro pins s σ H R I h;refine thn (hl pins s σ H _ I h) λv s1 ⟨x,H1,I1,r1,a,o,vvs,e,hH,q⟩=>?_;subst e;cases r1;obtain⟨h1,z,lo,xs,rel,o2,es,ep,h2,h3,h4,h5,h6⟩:=(show Z1 X.prog X.w H1 s1.heap a (.frz o (.dT vvs)) from I1.hok a _ hH);rw[h1]at h2;cases h2;refine Zpk lo ⟨o,h1,h3,h4⟩ ⟨s1.heap.objs.size,[s1.heap.objs.size],_,_,H1,rfl,I1.kept (t':=s1.toks) λb o e=>ZyN _ e,ZsX a _ o es ep h4,⟨_,Zy4 _ rfl,rfl,rfl⟩,λb hb=>?_,q⟩;obtain rfl:b=s1.heap.objs.size:=by simpa using hb
 exact I1.fpOk (ZyT _) (I1.hok.fresh (ZyT _))
theorem Zt2{K:ZyK}{F:Hp}{a:Addr}{o:Obj}{kvs:List (List Key × PyData)}{vvs:List (List Key × V)}(h:F a=some (.frz o (.dT vvs)))(hk:kvs.map (·.1)=vvs.map (·.1)):ItD K (Itd a o) (kvs.map λp=>.tuple (p.1.map HM.Zao)) F:=by
 intro F' H s1 s2;have hH:=s2 _ _ (s1 _ _ h);have hl:kvs.length=vvs.length:=by
  have:=congrArg Zzw hk
  rwa [ZyJ,ZyJ]at this
 refine⟨λi d hd=>?_,vvs,hH,by rw[ZyJ,hl]; exact ZyT _⟩;rw[Zy2]at hd;obtain⟨q,hq,hd⟩:=ZyL.mp hd;subst hd;have hi:i<vvs.length:=by rw[<-hl]; exact(ZyZ.mp hq).1
 have hw:vvs[i]?=some vvs[i]:=Zy9 hi;have hw1:vvs[i].1=q.1:=by
  have:(kvs.map (·.1))[i]?=(vvs.map (·.1))[i]?:=by rw[hk]
  rw[Zy2,Zy2,hq,hw]at this;exact(ZzU this).symm
 refine⟨⟨vvs,_,hH,hw⟩,λx H' hy=>?_⟩;obtain⟨e,y⟩:=hy;refine⟨e,?_⟩;obtain⟨q',b,e1,e2,e3⟩:=y vvs hH;rw[hw]at e1;cases e1;subst e2;rw[hw1]at e3;have rk:=Zfs (K:=K) (F:=Zbw F' H) q.1;exact .tup (Zkk e3) rk.1 rk.2
theorem Zho(i:Nat){tg:Expr}{x:Str}{pos:Pos}(hN:X.N[i]?=some x:=by rfl)(hv:Vis X.env.scope x:=by first | exact ZzO rfl | exact Zzi (ZzO rfl) | exact Zzi (Zzi rfl))(hd:(x==("__debug__":Str))=false:=by decide)
  (hcd:(x==("__classdict__":Str))=false:=by decide):XI X tg (.Name x pos) (HM.ZaP i):=by
 intro r ds h;have row:∀{d:PyData},r[i]?=some (some (.pl d))->HM.ZfC (.pl d)=some ds->HM.ZN (HM.bOf (HM.Zb i)) r=some ds:=λ{d} h1 h2=>by
  have e:HM.Zb i r=some d:=by unfold HM.Zb; rw[h1]
  unfold HM.ZN HM.bOf;rw[e];exact h2
 unfold HM.ZaP at h;split at h
 ·rename_i q; exact Z5 (Zd i hN hv hd hcd) r ds (row q h)
 ·rename_i q; exact Z5 (Zd i hN hv hd hcd) r ds (row q h)
 ·rename_i es q
  obtain⟨kvs,h1,h2⟩:=ZyL.mp h;subst h2;refine PI.imp (Zu1 (ZcQ hN hv hd hcd)) λσ H R ⟨F0,H0,F,at_,k⟩=>?_;obtain⟨v,fp,g1,g2⟩:=at_.any q;cases g2 with
  | @hd a o _ kvs' vvs k1 k2 k3 k4=>subst k2;rw[HM.dec_enc]at h1;cases h1;exact⟨.ref a,g1,a,o,vvs,rfl,at_.sub _ _ k1,k _ F H at_.refl (Zt2 k1 k3)⟩
  | hf _=>cases h1
 ·cases h
end
end HP
namespace HP
open PySem PySem.Spec PyProof.Rows L2
variable[FX]
section
variable{X:Cx}{a b c e:Expr}{fa fb fc:HM.EF}{f:HM.BF}{pos p:Pos}
theorem ZlD{K:ZyK}{F:Hp}{ds:List PyData}{v:V}(r:Rep K F (.tuple ds) v):∃l vs,v=.ref l/\SqT K F l vs/\Zs K F ds vs:=by
 cases r with
 | tup h1 h2 h3=>exact⟨_,_,rfl,.of h1,h2,h3⟩
 | @tupk a x h1=>exact⟨_,_,rfl,.inr h1,.one (.str x)⟩
theorem Zuy(ha:XE X a fa)(hb:XE X b fb):XE X (.BinOp a .Add b pos) (HM.Zna fa fb):=by
 intro r d h;unfold HM.Zna at h;split at h
 ·rename_i xs hx
  split at h
  ·rename_i ys hy
   split at h
   ·cases h
   ·rename_i hno
    cases h;rw[Bool.not_eq_true,Bool.or_eq_false_iff,Bool.or_eq_false_iff]at hno;obtain⟨⟨n1,n2⟩,n3⟩:=hno;refine PE.imp (Znh Zvd (ha r _ hx) (hb r _ hy)) λσ H Q ⟨F0,H0,F,at_,k⟩=>?_;refine⟨F0,H0,F,at_,λv F1 H1 x1 r1=>⟨F0,H0,F1,at_.grow x1,λw F2 H2 x2 r2=>?_⟩⟩;obtain⟨l,vs,e1,h1,s1⟩:=ZlD (r1.mono x2.ff);obtain⟨l',us,e2,h2,s2⟩:=ZlD r2;subst e1 e2;have e3:=s1.1;have e4:=s2.1;have hnv:vs≠[]:=λz=>by rw[z]at e3;rw[ZAq e3]at n1;cases n1
    have hnu:us≠[]:=λz=>by rw[z]at e4;rw[ZAq e4]at n2;cases n2
    have hz:xs.length+ys.length<1000000:=by have:¬HM.big<=xs.length+ys.length:=of_decide_eq_false n3;unfold HM.big at this;omega
    have e5:(1000000:Nat)<=sizeLine:=by decide
    refine⟨l,l',vs,us,rfl,rfl,Zgu h1 x2.sub,Zgu h2 x2.sub,hnv,by omega,λz=>absurd z hnu,λ_ p hp=>?_⟩;have rc:=s1.append s2;exact k _ (upd F2 p (.tup (vs++us))) _ ((x1.trans x2).lay hp) (.tup ZH rc.1 (rc.mono (Zr.upd' (x2.sub.free hp))).2)
  ·cases h
 ·cases h
end
end HP
namespace HP
open PySem PySem.Spec PyProof.Rows L2
variable[FX]
end HP
namespace HP
open PySem
abbrev mdA(I S:Addr)(dv:Value):Args:=⟨[.ref I,.none,.ref S],[(Zzd "default",dv)]⟩
theorem ZjB:(toString "min" ++ toString ".loop":String) = "min.loop":=by decide
theorem Zu0(a dv:Value):argsOk "min" ⟨[a],[(Zzd "default",dv)]⟩:=by unfold argsOk; kernel_rfl
section
variable{prog:Program}{w:World}{A:Around}{R:Result->Shared->Prop}{I:Addr}{fp wr:List Addr}{n:Nat}{P:Nat->Value->Prop}{St:Nat->Heap->Prop}
theorem ZuG(W:Walks prog w A.in1 I fp wr n P St)(bt:Nat->Nat->Bool)(hc:CmpOf prog w A.in1 .Lt P bt){S:Addr}(hf:S ∉ fp)(dv:Value):∀(k j:Nat) (s:Shared) (b:Value) (ep:Nat),n=j+1+k->St (j+1) s.heap->P (argBest bt j) b ->
  s.heap.get? S=some { cls:=.type "list",dict:=none,data:=.seq #[b,b] ep,slots:=#[] } ->
  (∀v h' tk,P (argBest bt (n-1)) v->(∀x o,x ∉ wr->x≠S->s.heap.get? x=some o->h'.get? x=some o)->R (.ok (.ret v)) { s with heap:=h',toks:=tk }) ->
  codeAny (model prog w) A (.builtin "min.loop" (mdA I S dv)) R s:=by
 have hw:S ∉ wr:=λh=>hf (W.sub _ h);intro k
 induction k with
 | zero =>
  intro j s b ep hn st pb gS out;have hn:n=j+1:=by omega
  subst hn;refine ZAe ZB7 ?_;rw[Zz0 ZAj _];show wpAny _ A.in1 (seqItems? (.ref S) >>= _) _ _ s;refine ZyI (wpAny_seqItems gS rfl ?_);show wpAny _ A.in1 (tryCatch (pyNext (.ref I)) _ >>= _) _ _ s;refine ZyI (ZBY (W.done s _ _ st λh1 tk keep=>?_));have gS1:=keep S _ hw gS;show wpAny _ A.in1 (updateSeq S (λ_=>#[]) >>= _) _ _ _;exact ZyI (ZDq gS1 rfl (ZyI (ZCC (ZyM (out b _ tk pb λx o hx hS e=>(ZAi _ _ (ZzX hS)).trans (keep x o hx e))))))
 | succ k ih =>
  intro j s b ep hn st pb gS out;refine ZAe ZB7 ?_;rw[Zz0 ZAj _];show wpAny _ A.in1 (seqItems? (.ref S) >>= _) _ _ s;refine ZyI (wpAny_seqItems gS rfl ?_);show wpAny _ A.in1 (tryCatch (pyNext (.ref I)) _ >>= _) _ _ s;refine ZyI (ZBY (W.item (j+1) s _ _ (by omega) st λv h1 tk pv st1 keep=>?_));have gS1:=keep S _ hw gS;show wpAny _ A.in1 (tryCatch (holding [v,v] (richCompare .Lt v b >>= _)) _ >>= _) _ _ _;refine ZyI (ZBY (Zzx (ZyI (hc (j+1) (argBest bt j) v b _ _ _ pv pb (ZyI (Zzx (ZAy (ZyI (ZCC (ZyM ?_))))))))));have best:argBest bt (j+1)=if bt (j+1) (argBest bt j)then j+1 else argBest bt j:=rfl
  cases hb:bt (j+1) (argBest bt j)with
  | true =>
   rw[hb,if_pos rfl]at best;simp only[if_true];refine ZyI (ZDq gS1 rfl (ZyI (ZCC ?_)));rw[ZjB];refine ZyM ⟨ZA5 ZAj _,ih (j+1) _ v _ (by omega) (W.frame _ _ _ st1 λx hx o e=>?_) (by rw[best]; exact pv) (Zz2 _ gS1 rfl) λv' h2 tk2 p' keep2=>?_⟩
   ·exact(ZAi _ _ (λz:S=x=>hf (by rw[z]; exact hx))).trans e
   ·exact out v' h2 tk2 p' λx o hx hS e=>keep2 x o hx hS ((ZAi _ _ (ZzX hS)).trans (keep x o hx e))
  | false=>rw[hb,if_neg (by simp)]at best;simp only[ZAs,if_false];refine ZyI (ZCC ?_);rw[ZjB];exact ZyM ⟨ZA5 ZAj _,ih (j+1) _ b ep (by omega) st1 (by rw[best]; exact pb) gS1 λv' h2 tk2 p' keep2=>out v' h2 tk2 p' λx o hx hS e=>keep2 x o hx hS (keep x o hx e)⟩
theorem ZtW(W:Walks prog w A.in1 I fp wr n P St)(bt:Nat->Nat->Bool)(hc:CmpOf prog w A.in1 .Lt P bt){S:Addr}(hf:S ∉ fp)(dv:Value){s:Shared}{ep:Nat}(st:St 0 s.heap)
  (gS:s.heap.get? S=some { cls:=.type "list",dict:=none,data:=.seq #[] ep,slots:=#[] })
  (o0:n=0->∀h' tk,(∀x o,x ∉ wr->x≠S->s.heap.get? x=some o->h'.get? x=some o)->R (.ok (.ret dv)) { s with heap:=h',toks:=tk })
  (o1:0<n->∀v h' tk,P (argBest bt (n-1)) v->(∀x o,x ∉ wr->x≠S->s.heap.get? x=some o->h'.get? x=some o)->R (.ok (.ret v)) { s with heap:=h',toks:=tk }) :
  codeAny (model prog w) A (.builtin "min.loop" (mdA I S dv)) R s:=by
 have hw:S ∉ wr:=λh=>hf (W.sub _ h);refine ZAe ZB7 ?_;rw[Zz0 ZAj _];show wpAny _ A.in1 (seqItems? (.ref S) >>= _) _ _ s;refine ZyI (wpAny_seqItems gS rfl ?_);show wpAny _ A.in1 (tryCatch (pyNext (.ref I)) _ >>= _) _ _ s
 by_cases h0:n=0
 ·subst h0
  refine ZyI (ZBY (W.done s _ _ st λh1 tk keep=>?_));show wpAny _ A.in1 (rule _ >>= _) _ _ _;exact ZyI (ZC1 (ZyM (o0 rfl h1 tk λx o hx _ e=>keep x o hx e)))
 ·refine ZyI (ZBY (W.item 0 s _ _ (by omega) st λv h1 tk pv st1 keep=>?_))
  have gS1:=keep S _ hw gS;show wpAny _ A.in1 (updateSeq S (λ_=>#[v,v]) >>= _) _ _ _;refine ZyI (ZDq gS1 rfl ?_);rw[ZjB];refine ZyM ⟨ZA5 ZAj _,ZuG W bt hc hf dv (n-1) 0 _ v _ (by omega) (W.frame _ _ _ st1 λx hx o e=>?_) pv (Zz2 _ gS1 rfl) λv' h2 tk2 p' keep2=>?_⟩
  ·exact(ZAi _ _ (λz:S=x=>hf (by rw[z]; exact hx))).trans e
  ·exact o1 (by omega) v' h2 tk2 p' λx o hx hS e=>keep2 x o hx hS ((ZAi _ _ (ZzX hS)).trans (keep x o hx e))
end
end HP
namespace HP
open PySem PySem.Spec PyProof.Rows L2
variable[FX]
theorem Rep.fn_inv{K:ZyK}{F:Hp}{t:Nat}{cs:List PyData}{v:V}(h:Rep K F (HM.fnD t cs) v):∃a,v=.ref a/\FX.fv t cs F a:=by
 cases h with
 | @dct a es kvs vvs h he hk hr =>
  cases kvs with
  | nil=>cases he
  | cons p r =>
   injection he with h1 _
   injection h1 with h2 _
   cases h2
 | fn h=>exact⟨_,rfl,h⟩
theorem Ztn{d:PyData}{t:Nat}{cs:List PyData}(h:HM.Zko d=some (t,cs)):d=HM.fnD t cs:=by
 unfold HM.Zko at h;split at h
 ·cases h; rfl
 ·cases h
structure GFn(mg:Str->Option Value)(x:Str)(t:Nat):Prop where
 ex:∃f,mg x=some (.ref f)/\∀F,FX.fv t [] F f
section
variable{X:Cx}{pos p:Pos}{e a b:Expr}{es:List Expr}{f:HM.AF}
theorem Zhp{x:Str}{t:Nat}(h:GFn X.mg x t)(hg:Gl X x:=by rfl)(hd:(x==("__debug__":Str))=false:=by decide):XE X (.Name x pos) (HM.eC (HM.fnD t [])):=by obtain⟨f,hm,hv⟩:=h.ex;exact ZeW (Zqr hg hm (v:=.ref f) rfl hd) λF=>.fn (hv F)
structure ZcS(P:Program)(w:World)(K:ZyK)(mg:Str->Option Value)(base:Heap)(k:Nat)(ap:HM.AP):Prop where
 fn:∀{t:Nat} {cs:List PyData} {F:Hp} {a:Addr},FX.fv t cs F a->∀{A:Around} {outer:List Env} {s:Shared} {H:Hp},Ze4 P w K mg base A outer s H->Zr F H->ZDT a s.heap
 run:∀{t:Nat} {cs:List PyData} {F:Hp} {a:Addr},FX.fv t cs F a->∀{A:Around} {outer:List Env} {s:Shared} {H:Hp},Ze4 P w K mg base A outer s H->Zr F H ->
  ∀{us:List Value} {vs:List V} {ds:List PyData} {d:PyData} {Q:VK},ZaE k A->Tb H->NoT F->Vals vs us->Zs K F ds vs->ap t cs ds=some d->(∀v F' H',Ext F H F' H'->Rep K F' d v->Q v H') ->
   codeAny (model P w) A (.call (.ref a) ⟨us,[]⟩) (CR CX0 outer P w H s Q E0) s
theorem ZcS.mono{P:Program}{w:World}{K:ZyK}{mg:Str->Option Value}{base:Heap}{j k:Nat}{ap:HM.AP}(C:ZcS P w K mg base j ap)(h:j<=k):ZcS P w K mg base k ap :=
 ⟨C.fn,by intro t cs F a q A outer s H e z us vs ds d Q hr; exact C.run q e z (hr.mono h)⟩
theorem Zkc{k:Nat}{ap:HM.AP}(C:ZcS X.prog X.w X.K X.mg X.base k ap)(hr:ZaE k X.A)(i:Nat){x:Str}(ha:XA X (e::es) f)(hN:X.N[i]?=some x:=by rfl)
  (hv:Vis X.env.scope x:=by first | exact ZzO rfl | exact Zzi (ZzO rfl) | exact Zzi (Zzi rfl)) (hd:(x==("__debug__":Str))=false:=by decide) (hcd:(x==("__classdict__":Str))=false:=by decide)
  (he:Zy0 (e::es) X.env=(false,eval e X.env)::Zy0 es X.env:=by rfl) (hpl:(backTo pos (Zy0 es X.env)).any (·.1)=false:=by rfl):XE X (.Call (.Name x p) (e::es) [] pos) (HM.Zdb ap i f):=by
 intro r d h;unfold HM.Zdb at h;split at h
 case h_2=>cases h
 rename_i d0 hs;split at h
 case h_2=>cases h
 rename_i t cs hu;split at h
 case h_2=>cases h
 rename_i ds hds;obtain rfl:=Ztn hu;intro pins s σ H Q I ⟨F0,H0,F1,at_,kk⟩;obtain⟨v,h1,h2⟩:=at_.plain hs;obtain⟨q,rfl,fv⟩:=h2.fn_inv;refine ZAY (thn (ZcQ hN hv hd hcd pins s σ H (λv' H'=>v'=.ref q/\H'=H) I ⟨_,h1,rfl,rfl⟩) λu s1 ⟨v',H1,I1,r1,e1,e2⟩=>?_);subst e1 e2;obtain rfl:u=ZzW q:=r1;refine PySem.W.callWith_F (C.fn fv I1.env0 at_.sub) (thn (ha.pa r ds hds pos pins s1 σ H1 (λvs H2=>∃F2,Ext F1 H1 F2 H2/\Zs X.K F2 ds vs) I1 ⟨F0,H0,F1,at_,λvs F2 H2 x2 q2=>⟨F2,x2,q2⟩⟩) λus s2 ⟨vs,H2,I2,r2,F2,x2,q2⟩=>?_) he hpl;have fv2:=FX.mono fv x2.ff;refine⟨C.fn fv2 I2.env0 x2.sub,wpAny_call (ZAX (C.run fv2 I2.env0 x2.sub hr (at_.tbx x2) (at_.ntx x2) r2 q2 h λv F' H' x3 q3=>kk v F' H' (x2.trans x3) q3) λrs s' hq=>?_)⟩;cases rs with
 | error e=>exact ZzZ hq
 | ok fl =>
  cases fl with
  | ret u=>exact I2.after hq
  | next=>exact ZzZ hq
  | brk=>exact ZzZ hq
  | cont=>exact ZzZ hq
def spN(K:ZyK)(n:Nat)(M:List PyData->Option (List (List Key × PyData))):Sp:=λvs H Q _=>∃F ds kvs,vs.length=n/\Zr F H/\Tb H/\NoT F/\Zs K F ds vs/\M ds=some kvs /\
 ∀l vvs F' H',Ext F H F' H'->H' l=some (.dT vvs)->kvs.map (·.1)=vvs.map (·.1)->Zs K F' (kvs.map (·.2)) (vvs.map (·.2))->F' l=none->H l=none->Q (.ref l) H'
structure Zem(P:Program)(w:World)(K:ZyK)(mg:Str->Option Value)(base:Heap)(k:Nat)(x:Str)(M:List PyData->Option (List (List Key × PyData))):Prop where
 ex:∃f fd ps,(∀ds d,M ds=some d->ds.length=ps.length)/\ZdB P w K mg base CX0 k f fd ps (spN K ps.length M)/\mg x=some (.ref f)/\ZAh K (.ref f)=true/\Binds K fd ps []
theorem Zem.mono{P:Program}{w:World}{K:ZyK}{mg:Str->Option Value}{base:Heap}{j k:Nat}{x:Str}{M:List PyData->Option (List (List Key × PyData))}(C:Zem P w K mg base j x M)(h:j<=k):Zem P w K mg base k x M:=by obtain⟨f,fd,ps,l,F,r⟩:=C.ex;exact⟨f,fd,ps,l,F.mono h,r⟩
theorem Zs.flat{K:ZyK}{F F':Hp}{ds:List PyData}{vs:List V}(r:Zs K F ds vs)(h:∀d∈ds,HM.Zln d=true):Zs K F' ds vs :=
 ⟨r.1,λi d v h1 h2=>(r.2 i d v h1 h2).flat (h d (Zzj h1))⟩
theorem Ztf{k:Nat}{x:Str}{g:HM.AF}{M:List PyData->Option (List (List Key × PyData))}(C:Zem X.prog X.w X.K X.mg X.base k x M)(hr:ZaE k X.A)(ha:XAL X (e::es) g)(hg:Gl X x:=by rfl)(hdb:(x==("__debug__":Str))=false:=by decide)
  (he:Zy0 (e::es) X.env=(false,eval e X.env)::Zy0 es X.env:=by rfl) (hpl:(backTo pos (Zy0 es X.env)).any (·.1)=false:=by rfl):XF X (.Call (.Name x p) (e::es) [] pos) (HM.ZiW M g):=by
 intro r d hd;unfold HM.ZiW at hd;split at hd
 case h_2=>cases hd
 rename_i ds hds;split at hd
 case h_2=>cases hd
 rename_i kvs hM;split at hd
 case isFalse=>cases hd
 rename_i hfl;cases hd;obtain⟨fa,fd,ps,hl,F,hm,hk,hb⟩:=C.ex;refine PE.imp (ZlO (E:=E0) F hr hg hm hk hb .nil ZrG (ha.pa r ds hds) hdb he hpl) λσ H Q ⟨F0,H0,F1,at_,kk⟩=>?_;refine⟨F0,H0,F1,at_,λvs F' H' x q=>?_⟩;show spN X.K ps.length M (vs++[]) H' Q E0;rw[Zzu];refine⟨Zc4 H',ds,kvs,by rw[<-q.1]; exact hl ds _ hM,Zmt,at_.tbx x,.drop,q.drop',hM,λl vvs F2 H2 x2 h1 h2 h3 h4 h5=>?_⟩;refine kk _ F' H2 (x.trans (Ext.forget x.sub (at_.ntx x) x2)) ⟨[l],.ot h1 h2 (h3.flat λd hd=>?_),by simp,λc hc=>?_⟩
 ·obtain⟨q,h6,rfl⟩:=ZyU.mp hd
  exact ZyR.mp hfl q h6
 ·obtain rfl:c=l:=by simpa using hc
  exact⟨x.sub.free h5,x.hh.free h5⟩
def tSn(K:ZyK)(r:HM.Env)(kvs:List (List Key × PyData)):TS:=λE σ H=>Now K r σ H λF0 H0 F=>∀l vvs F' H',Ext F0 H0 F' H'->H' l=some (.dT vvs)->kvs.map (·.1)=vvs.map (·.1)->Zs K F' (kvs.map (·.2)) (vvs.map (·.2))->F' l=none->H0 l=none->E.rt (.ref l) H'
def XSn(X:Cx)(sts:List Stmt)(m:HM.NF):Prop:=∀r kvs,m r=some kvs->PSs X sts (tSn X.K r kvs)
theorem Zpl{st:Stmt}{rest:List Stmt}{g:HM.SF}{m:HM.NF}(h1:XS X st g)(h2:XSn X rest m):XSn X (st::rest) (HM.ZkB g m):=by
 intro r kvs h;unfold HM.ZkB at h;split at h
 ·rename_i r' q
  refine PSs.imp (ZhU (h1 r _ q) (h2 r' kvs h)) λE σ H ⟨F0,H0,F,at_,k⟩=>?_;exact⟨F0,H0,F,at_,λσ' F' H' at'=>⟨F0,H0,F',at',k⟩⟩
 ·cases h
theorem Zvl(j:Nat){x:Str}{p1:Pos}(hN:X.N[j]?=some x:=by rfl)(hv:Vis X.env.scope x:=by first | exact ZzO rfl | exact Zzi (ZzO rfl) | exact Zzi (Zzi rfl))(hd:(x==("__debug__":Str))=false:=by decide)
  (hcd:(x==("__classdict__":Str))=false:=by decide):XSn X [.Return (some (.Name x p)) p1] (HM.Zoe j):=by
 intro r kvs h;unfold HM.Zoe at h;split at h
 ·rename_i kvs' hs
  cases h;refine PSs.imp (ZhU (Zoz (ZcQ hN hv hd hcd)) ZgM) λE σ H ⟨F0,H0,F,⟨fp,at_⟩,k⟩=>?_;obtain⟨v,h1,h2⟩:=at_.at_ j _ hs;generalize hfp:fp j=fj at h2;cases h2 with
  | @ot l _ vvs hl hk q=>have ho:=at_.own j l (by rw[hfp]; simp);exact⟨_,h1,k l vvs F H at_.ext hl hk q ho.1 ho.2⟩
 ·cases h
theorem Zrh{P:Program}{w:World}{K:ZyK}{mg:Str->Option Value}{base:Heap}{k:Nat}{x qual:Str}{st:Stmt}{f:Addr}{fd:FuncData}{N ps:List Str}{m:HM.NF}(Fn:Fun K x qual st f fd)(S:Zz N ps (Zh st))(hm:mg x=some (.ref f))(hb:Binds K fd ps [])
  (body:∀(cdv:Value) (A:Around) (outer:List Env) (s:Shared) (H:Hp) (E:XK),ZaE k (A.deeper (envOfC qual (Zh st) s.heap.objs.size f cdv))->XSn (Zgq CX0 P w K mg base N qual (Zh st) f cdv A outer s H E).nox (ZaY st) m) :
  Zem P w K mg base (k+1) x (HM.newOf ps.length N.length m):=by
 have hpl:ps.length<=N.length:=by have:=congrArg Zzw S.pre; rw[Zz6]at this; omega
 refine⟨f,fd,ps,λds d h=>?_,Fn.ok S (λvs H Q E h=>?_) (λcdv A outer s H vs Q E hr h=>?_),hm,Fn.kp,hb⟩
 ·unfold HM.newOf at h
  split at h
  ·assumption
  ·cases h
 ·obtain⟨_,_,_,h,_⟩:=h
  exact h
 ·obtain⟨F,ds,kvs,hl,sub,tb,nt,q,hM,kk⟩:=h
  unfold HM.newOf at hM;split at hM
  ·rename_i hds
   exact⟨_,body cdv A outer s H E hr _ _ hM,F,H,F,ZgD (N:=N) sub tb nt q (by omega),λl vvs F' H' x h1 h2 h3 h4 h5=>kk l vvs F' H' x h1 h2 h3 h4 h5⟩
  ·cases hM
theorem ZrW(hc:X.calm=true){pins:List (Addr × Obj)}{s:Shared}{σ:L2.St}{H:Hp}{l:Addr}{ns:List Int}{Q:VK}(I:Inv X pins σ H s)(hq:SqL X.K H l (ns.map V.int))(q:Q (match ns.min? with | some i=>.int i | none=>.non) H) :
  wpAny (model X.prog X.w) X.A (call (.builtin "min") [.ref l] [(Zzd "default",.none)]) (EP X pins σ Q) X.xe s:=by
 obtain⟨its,rv,pl,hz⟩:=I.list hq;have hi:=ZcV rv;obtain⟨xs,e⟩:=hi.allInts.items;have hns:ns=xs.toList.map (·.1):=by rw[<-hi.numsOf,<-nums_intItems,<-e]
 have hl:=pl.isList;rw[e]at hl;refine PyProof.Rows.kmk_tree PySem.F.kind_min PySem.F.plain_min PySem.F.entry_min (Zu0 _ _) ?_;refine ZyI (ZDv (show Builtin.Builtins.bindParams "min" ["key","default"] 0 ⟨[],[(Zzd "default",.none)]⟩=pure [none,some .none] from rfl) ?_);refine ZyI (ZyM ?_);refine ZyI (iter_intList hl λs2 e2 st hfp hlI=>?_);subst e2;refine ZyI (Zzz ?_);rw[ZjB];generalize hIT:s.heap.push { cls:=.type "list_iterator",data:=.fields #[.ref l,.int 0 0] }=h1 at st hfp;have z1:h1.objs.size=s.heap.objs.size+1:=by rw[<-hIT]; exact ZBB ..
 have k1:∀b o,s.heap.get? b=some o->h1.get? b=some o:=λb o e=>by rw[<-hIT]; exact ZyN _ e
 have W:=Walks.list (prog:=X.prog) (w:=X.w) (A:=X.A.in1) (I.ok.hd hc) s.heap.objs.size l hlI (intItems xs);have hSf:h1.objs.size ∉ [s.heap.objs.size,l]:=λz=>ZAD _ (hfp _ z);have old:∀{h':Heap} {oS:Obj},(∀x o,x ∉ [s.heap.objs.size]->x≠h1.objs.size->(h1.push oS).get? x=some o->h'.get? x=some o)->∀b o,s.heap.get? b=some o->h'.get? b=some o:=λhk b o e=>by have hb:=Zy1 e;exact hk b o (λz=>by rw[ZyY.mp z]at hb; exact ZAD _ hb) (Zzc (by rw[z1]; exact ZA9 hb)) (ZyN _ (k1 b o e))
 refine ZyM ⟨ZA5 ZAj _,ZtW W (λi j=>decide (numAt xs i<numAt xs j)) (CmpOf.ints_lt (numAt xs) λ_ _=>intItems_at) hSf .none (W.frame _ _ _ st λb _ o e=>ZyN _ e) (Zy4 _ rfl) (λh0 h' tk hk=>?_) λh0 v h' tk hP hk=>?_⟩
 ·have e0:ns=[]:=by
   rw[hns];have:xs.size=0:=by simpa [intItems]using h0
   rw[Array.eq_empty_of_size_eq_zero this]; rfl
  subst e0;exact⟨.non,H,I.kept (t':=tk) (old hk),rfl,q⟩
 ·have h0':0<xs.size:=by simpa [intItems]using h0
  have hP':(intItems xs)[argBest (λi j=>decide (numAt xs i<numAt xs j)) (xs.size-1)]?=some v:=by simpa [intItems]using hP
  obtain⟨t,rfl⟩:=intItems_at hP';obtain⟨g1,g2⟩:=argBest_lt (numAt xs) (xs.size-1);have hm:ns.min?=some (numAt xs (argBest (λi j=>decide (numAt xs i<numAt xs j)) (xs.size-1))):=by
   refine ZAd.mpr ⟨?_,λa ha=>?_⟩
   ·rw[hns,numAt_eq]; exact getD_mem (by rw[ZyJ,Zze]; omega)
   ·rw[hns]at ha
    obtain⟨j,hj,rfl⟩:=mem_getD ha;rw[ZyJ,Zze]at hj;rw[<-numAt_eq]; exact g2 j (by omega)
  rw[hm]at q;exact⟨.int _,H,I.kept (t':=tk) (old hk),⟨t,rfl⟩,q⟩
theorem Zjp{f:HM.BF}{kp p2:Pos}{j:Nat}(hm:X.mg "min" = none)(hc:X.calm=true)(ha:XB X a f)(hg:Gl X "min":=by rfl)(hs:Zy0 [a] X.env=[(false,eval a X.env)]:=by rfl)
  (he:backTo pos (Zy0 [a] X.env)=(false,eval a X.env)::backTo pos (Zy0 [] X.env):=by rfl) (hpl:(backTo pos (Zy0 [a] X.env)).any (·.1)=false:=by rfl) :
  XE X (.Call (.Name "min" p) [a] [⟨some "default",.Constant .none j p2,kp⟩] pos) (HM.ZdQ f):=by
 intro r d h;unfold HM.ZdQ at h;split at h
 case h_2=>cases h
 rename_i x hx;split at h
 case h_2=>cases h
 rename_i ds hds;split at h
 case h_2=>cases h
 rename_i ns hns;cases h;intro pins s σ H Q I ⟨F0,H0,F,at_,k⟩;refine ZAY (Zjc I hg hm Zs4 ?_);refine callWith_kw (thn (ZdD ha hx hs pos pins s σ H (λvs H1=>∃v fp F1,vs=[v]/\Ext F H F1 H1/\Zan X.K F1 H1 x v fp) I ⟨F0,H0,F,at_,λv fp F' H' x1 r1=>⟨v,fp,F',rfl,x1,r1⟩⟩) λus s1 ⟨vs,H1,I1,rv,v,fp,F1,e1,x1,r1⟩=>?_) he hpl;subst e1;obtain⟨u,rfl,ru⟩:=vals1 rv;obtain⟨l,ws,rfl,hq,rs⟩:=Zgl x1.sub r1 hds;obtain rfl:u=ZzW l:=ru;rw[Zcv hns rs]at hq;refine kws_cons (thn (ZsP pins s1 σ H1 (λv' H'=>v'=.non/\H'=H1) I1 ⟨rfl,rfl⟩) λu2 s2 ⟨v',H2,I2,r2,e2,e3⟩=>?_);subst e2 e3;obtain rfl:u2=Zzs:=r2;refine kws_nil ?_;refine ZrW hc I2 hq ?_;refine k _ F1 H2 x1 ?_;cases ns.min? with
 | none=>exact .non
 | some i=>exact .int i
end
end HP
namespace HP
open PySem PySem.Spec PyProof.Rows L2
abbrev FX0:FX where
 tl:=[]
 fv:=λ_ _ _ _=>False
 sw:=λ_ _ h=>h
 drop:=λh=>h
 mono:=λh _=>h
structure Clo(K:ZyK)(F:Hp)(p:Addr)(params:Arguments)(body:Expr)(scope:Scope)(names:List Str)(cs:List PyData):Prop where
 ex:∃(qual:Str) (pm ctv:Value) (c:Addr) (oc:Obj) (clos:List (Str × Addr)),
  F p=some (Zbq p (ZCo "<lambda>" qual params body scope clos pm c ctv))/\F c=some (Zbq c oc)/\Zl5 oc qual /\
  (∀x y a,clos.lookup x=some a->clos.lookup y=some a->x=y)/\(∀y∈scope.names,y.2=.free->(clos.lookup y.1).isSome=true) /\
  (∀x a,clos.lookup x=some a->∃o v,F a=some (Zbq a o)/\o.data=.cell v) /\
  names.length=cs.length/\∀(i:Nat) (x:Str) (d:PyData),names[i]?=some x->cs[i]?=some d->∃a o u v,clos.lookup x=some a/\F a=some (Zbq a o)/\o.data=.cell (some u)/\RelV v u/\@Rep FX0 K F d v
section
variable{K:ZyK}{F F':Hp}{p:Addr}{params:Arguments}{body:Expr}{scope:Scope}{names:List Str}{cs:List PyData}
theorem Clo.mono(h:Clo K F p params body scope names cs)(s:Zr F F'):Clo K F' p params body scope names cs:=by
 obtain⟨qual,pm,ctv,c,oc,clos,h1,h2,h3,h4,h5,h6,h7,h8⟩:=h.ex;refine⟨qual,pm,ctv,c,oc,clos,s _ _ h1,s _ _ h2,h3,h4,h5,λx a e=>?_,h7,λi x d e1 e2=>?_⟩
 ·obtain⟨o,u,q1,q2⟩:=h6 x a e
  exact⟨o,u,s _ _ q1,q2⟩
 ·obtain⟨a,o,u,v,q1,q2,q3,q4,q5⟩:=h8 i x d e1 e2
  exact⟨a,o,u,v,q1,s _ _ q2,q3,q4,@Rep.mono FX0 _ _ _ _ _ q5 s⟩
theorem Clo.drop(h:Clo K F p params body scope names cs):Clo K (Zc4 F) p params body scope names cs:=by
 obtain⟨qual,pm,ctv,c,oc,clos,h1,h2,h3,h4,h5,h6,h7,h8⟩:=h.ex;refine⟨qual,pm,ctv,c,oc,clos,Zcy h1 rfl,Zcy h2 rfl,h3,h4,h5,λx a e=>?_,h7,λi x d e1 e2=>?_⟩
 ·obtain⟨o,u,q1,q2⟩:=h6 x a e
  exact⟨o,u,Zcy q1 rfl,q2⟩
 ·obtain⟨a,o,u,v,q1,q2,q3,q4,q5⟩:=h8 i x d e1 e2
  exact⟨a,o,u,v,q1,Zcy q2 rfl,q3,q4,@Rep.drop FX0 _ _ _ _ q5⟩
theorem Clo.sw{a:Addr}{ob:HO}{vvs:List (List Key × V)}(hF:∀u,F a=some u->Dk vvs u)(hob:Dk vvs ob)(h:Clo K F p params body scope names cs):Clo K (HP.sw a ob F) p params body scope names cs:=by
 have key:∀{b:Addr} {o:Obj},F b=some (Zbq b o)->HP.sw a ob F b=some (Zbq b o):=λ{b o} e=>by
  have hb:b≠a:=λz=>by subst z;have:=@Dk.te FX0 _ _ (hF _ e);cases this
  unfold HP.sw; rw[if_neg hb]; exact e
 obtain⟨qual,pm,ctv,c,oc,clos,h1,h2,h3,h4,h5,h6,h7,h8⟩:=h.ex;refine⟨qual,pm,ctv,c,oc,clos,key h1,key h2,h3,h4,h5,λx a e=>?_,h7,λi x d e1 e2=>?_⟩
 ·obtain⟨o,u,q1,q2⟩:=h6 x a e
  exact⟨o,u,key q1,q2⟩
 ·obtain⟨a,o,u,v,q1,q2,q3,q4,q5⟩:=h8 i x d e1 e2
  exact⟨a,o,u,v,q1,key q2,q3,q4,@Rep.sw FX0 _ _ _ _ _ _ _ hF hob q5⟩
end
theorem Rep.up[FX]{K:ZyK}{F:Hp}{d:PyData}{v:V}(r:@Rep FX0 K F d v):Rep K F d v:=by
 induction r with
 | non=>exact .non
 | bl b=>exact .bl b
 | int i=>exact .int i
 | str x=>exact .str x
 | tup h hl _ ih=>exact .tup h hl ih
 | tupk h=>exact .tupk h
 | lst h hl _ ih=>exact .lst h hl ih
 | dct h he hk _ ih=>exact .dct h he hk ih
 | fn h=>exact h.elim
theorem Rep.cutF[FX]{K:ZyK}{F F':Hp}(hF:∀b o,F b=some o->te o=false->F' b=some o){d:PyData}{v:V}(r:Rep K F d v):∀n,HM.noF n d=true->@Rep FX0 K F' d v:=by
 induction r with
 | non=>intro _ _; exact @Rep.non FX0 _ _
 | bl b=>intro _ _; exact @Rep.bl FX0 _ _ b
 | int i=>intro _ _; exact @Rep.int FX0 _ _ i
 | str x=>intro _ _; exact @Rep.str FX0 _ _ x
 | tupk h=>intro _ _; exact @Rep.tupk FX0 _ _ _ _ h
 | tup h hl _ ih =>
  intro n hn;cases n with
  | zero=>cases hn
  | succ n=>exact @Rep.tup FX0 _ _ _ _ _ (hF _ _ h rfl) hl λi d v h1 h2=>ih i d v h1 h2 n (ZyR.mp hn d (Zzj h1))
 | lst h hl _ ih =>
  intro n hn;cases n with
  | zero=>cases hn
  | succ n =>
   refine @Rep.lst FX0 _ _ _ _ _ ?_ hl λi d v h1 h2=>ih i d v h1 h2 n (ZyR.mp hn d (Zzj h1));rcases h with(h | ⟨o,h⟩) | h
   ·exact .inl (.inl (hF _ _ h rfl))
   ·exact .inl (.inr ⟨o,hF _ _ h rfl⟩)
   ·exact .inr h
 | @dct a es kvs vvs h he hk _ ih =>
  intro n hn;cases n with
  | zero=>cases hn
  | succ n =>
   refine @Rep.dct FX0 _ _ _ _ kvs vvs ?_ he hk λi d v h1 h2=>ih i d v h1 h2 n ?_
   ·rcases h with h | ⟨o,h⟩
    ·exact .inl (hF _ _ h rfl)
    ·exact .inr ⟨o,hF _ _ h rfl⟩
   ·subst he
    rw[Zy2]at h1;obtain⟨q,h3,h4⟩:=ZyL.mp h1;subst h4;have hm:(ZzD (q.1.map HM.Zao),q.2)∈HM.Ze kvs:=ZyU.mpr ⟨q,Zzj h3,rfl⟩;have:=ZyR.mp hn _ hm;rw[Zy5]at this;exact this.2
 | fn h =>
  intro n hn;cases n with
  | zero=>cases hn
  | succ n=>have:=ZyR.mp hn _ (ZyO ..);cases this
end HP
namespace HP
open PySem PySem.Spec PyProof.Rows L2
theorem Rep0.cut{K:ZyK}{F F':Hp}(hF:∀b o,F b=some o->te o=false->F' b=some o){d:PyData}{v:V}(r:@Rep FX0 K F d v):@Rep FX0 K F' d v:=by
 induction r with
 | non=>exact @Rep.non FX0 _ _
 | bl b=>exact @Rep.bl FX0 _ _ b
 | int i=>exact @Rep.int FX0 _ _ i
 | str x=>exact @Rep.str FX0 _ _ x
 | tupk h=>exact @Rep.tupk FX0 _ _ _ _ h
 | tup h hl _ ih=>exact @Rep.tup FX0 _ _ _ _ _ (hF _ _ h rfl) hl ih
 | lst h hl _ ih =>
  refine @Rep.lst FX0 _ _ _ _ _ ?_ hl ih;rcases h with(h | ⟨o,h⟩) | h
  ·exact .inl (.inl (hF _ _ h rfl))
  ·exact .inl (.inr ⟨o,hF _ _ h rfl⟩)
  ·exact .inr h
 | @dct a es kvs vvs h he hk _ ih =>
  refine @Rep.dct FX0 _ _ _ _ kvs vvs ?_ he hk ih;rcases h with h | ⟨o,h⟩
  ·exact .inl (hF _ _ h rfl)
  ·exact .inr ⟨o,hF _ _ h rfl⟩
 | fn h=>exact h.elim
def Zbf(C:List Addr)(H:Hp):Hp:=λb=>if b∈C then none else H b
theorem ZhC{C:List Addr}{H:Hp}{b:Addr}(h:b∈C):Zbf C H b=none:=by unfold Zbf; rw[if_pos h]
theorem Zar{C:List Addr}{H:Hp}{b:Addr}(h:b ∉ C):Zbf C H b=H b:=by unfold Zbf; rw[if_neg h]
theorem Zh3{C:List Addr}{H:Hp}{b:Addr}{o:HO}(h:Zbf C H b=some o):b ∉ C/\H b=some o:=by
 unfold Zbf at h;split at h
 ·cases h
 ·exact⟨by assumption,h⟩
def Zhb(C:List Addr)(G H:Hp):Hp:=λb=>if b∈C then G b else H b
theorem Zfa{C:List Addr}{G H:Hp}{b:Addr}(h:b∈C):Zhb C G H b=G b:=by unfold Zhb; rw[if_pos h]
theorem Zbs{C:List Addr}{G H:Hp}{b:Addr}(h:b ∉ C):Zhb C G H b=H b:=by unfold Zhb; rw[if_neg h]
section
variable{P:Program}{w:World}{C:List Addr}{G H H':Hp}{h h':Heap}
theorem Zcx{a:Addr}{o:Obj}(x:Z1 P w H h a (Zbq a o)):h.get? a=some o:=x.1
theorem Zjq{a:Addr}{o:Obj}(e:h.get? a=some o):Z1 P w H h a (Zbq a o):=⟨e,⟨o,e⟩,λh1 h2 q k=>k o q⟩
theorem HOk.cut(x:HOk P w H h)(hC:∀c∈C,∀o,H c=some o->te o=true):HOk P w (Zbf C H) h:=λa o e=>by
 obtain⟨_,e⟩:=Zh3 e;have out:∀{b:Addr} {u:HO},H b=some u->te u=false->Zbf C H b=some u:=λ{b u} q t=>by rw[Zar λz=>by rw[hC b z u q]at t; cases t]; exact q
 exact(x a o e).stay (λ_ _ _ q=>q) (λb q=>out q rfl) λb xs q=>out q rfl
theorem HOk.put(x:HOk P w H h)(hn:∀c∈C,H c=none)(hC:∀c∈C,∀u,G c=some u->∃o,u=Zbq c o/\h.get? c=some o):HOk P w (Zhb C G H) h:=λa o e=>by
 have out:∀{b:Addr} {u:HO},H b=some u->Zhb C G H b=some u:=λ{b u} q=>by rw[Zbs λz=>by rw[hn b z]at q; cases q]; exact q
 by_cases ha:a∈C
 ·rw[Zfa ha]at e
  obtain⟨ob,rfl,hb⟩:=hC a ha o e;exact Zjq hb
 ·rw[Zbs ha]at e
  exact(x a o e).stay (λ_ _ _ q=>q) (λb q=>out q) λb xs q=>out q
end
structure Zh4(scope:Scope)(x:Str)(names:List Str):Prop where
 kind:scope.kind=.function
 co:scope.isCoroutine=false
 gen:scope.isGenerator=false
 nocell:∀y∈scope.names,y.2≠.cell
 par:scope.names.lookup x=some .local
 free:∀n∈names,scope.names.lookup n=some .free
 nd:(x::names).Nodup
def ZkS(P:Program)(w:World)(K:ZyK)(mg:Str->Option Value)(base:Heap)(N:List Str)(qual:Str)(scope:Scope)(f:Addr)(cd:Value)(clos:List (Str × Addr))(A:Around)(outer:List Env)(s:Shared)(H:Hp):Cx where
 prog:=P
 w:=w
 K:=K
 mg:=mg
 base:=base
 A:=A.deeper (ZBE qual scope s.heap.objs.size f cd clos)
 N:=N
 s₀:=s
 H₀:=H
 env:=ZBE qual scope s.heap.objs.size f cd clos
 outer:=outer
 stack:=ZBE qual scope s.heap.objs.size f cd clos::outer
 ex:=[]
 calm:=true
 fn:=λ_=>false
 pn:=[]
 xe:=λ_ _=>False
section
variable{P:Program}{w:World}{K:ZyK}{mg:Str->Option Value}{base:Heap}{A:Around}{outer:List Env}{s:Shared}{H:Hp}{k:Nat}
theorem ZsO{qual x:Str}{scope:Scope}{names:List Str}{f:Addr}{cd:Value}{clos:List (Str × Addr)}(S:Zh4 scope x names)(hd:A.handled=none)(e0:Ze4 P w K mg base A outer s H)
  (inj:∀y z a,clos.lookup y=some a->clos.lookup z=some a->y=z) (has:∀y∈scope.names,y.2=.free->(clos.lookup y.1).isSome=true)
  (hcell:∀y a,clos.lookup y=some a->H a=none/\∃o v,s.heap.get? a=some o/\o.data=.cell v)
  {v:V} {u:Value} (rv:RelV v u) {vs:List V} (hlen:names.length=vs.length) (hcap:∀(i:Nat) (y:Str) (v':V),names[i]?=some y->vs[i]?=some v'->∃a o u',clos.lookup y=some a/\s.heap.get? a=some o/\o.data=.cell (some u')/\RelV v' u')
  {h':Heap} {tk:Nat} (hns:h'.Ns s.heap.objs.size λy=>[(x,u)].reverse.lookup y) (hsb:ZAL s.heap.objs.size (s.heap.push { cls:=.type "frame",data:=.dict #[] }) h') :
  Inv (ZkS P w K mg base (x::names) qual scope f cd clos A outer s H) [] (some v::vs.map some) H { s with heap:=h',toks:=tk }:=by
 have hk:∀b o,s.heap.get? b=some o->h'.get? b=some o:=λb o e=>hsb.extBut b o (Zzc (Zy1 e)) (ZyN _ e);have noA:∀b:Addr,b ∉ (ZkS P w K mg base (x::names) qual scope f cd clos A outer s H).ex:=λb z=>absurd (show b∈([]:List Addr) from z) (by simp);refine⟨⟨e0.mod,S.kind,rfl,rfl,ZyT _,inj,λy hy=>?_,λy c z=>absurd (show false=true from z) (by simp),λ_=>hd,ZDH e0.frames,.inr ⟨rfl,rfl⟩,λb z=>absurd z (noA b),e0.bs,e0.bsz,λb _ _=>noA b,λb z=>absurd z (noA b),e0.funs,e0.frf⟩,
  rfl,e0.bare,Un.kept hk,⟨_,hns,λi y v' h1 h2 h3=>?_⟩,λy c e=>?_,e0.hok.fresh (ZyT _),λy c e=>(hcell y c e).1,λp hp=>absurd (show p∈([]:List (Addr × Obj)) from hp) (by simp),e0.hok.kept hk,?_⟩
 ·have hy:scope.names.lookup y=some .cell\/scope.names.lookup y=some .free:=hy
  rcases hy with hy | hy
  ·exact absurd rfl (S.nocell _ (ZAl hy))
  ·exact Zzf.mp (has _ (ZAl hy) rfl)
 ·cases i with
  | zero=>have e1:x=y:=ZzU h1;have e2:v=v':=ZzU (ZzU h2);subst e1 e2;exact⟨u,rv,.inl ⟨S.par,by simp⟩⟩
  | succ i=>have h1:names[i]?=some y:=h1;have h2:(vs.map some)[i]?=some (some v'):=h2;rw[Zy2]at h2;obtain⟨v2,h4,h5⟩:=ZyL.mp h2;cases h5;obtain⟨a,o,u',q1,q2,q3,q4⟩:=hcap i y v' h1 h4;exact⟨u',q4,.inr ⟨.inr (S.free y (Zzj h1)),a,q1,o,hk _ _ q2,q3⟩⟩
 ·obtain⟨_,o,v',q1,q2⟩:=hcell y c e
  exact⟨v',o,hk _ _ q1,q2⟩
 ·show(some v::vs.map some).length=(x::names).length
  rw[Zy3,Zy3,ZyJ,hlen]
end
end HP
namespace HP
open PySem PySem.Spec PyProof.Rows L2
variable[FX]
def cellsOf(clos:List (Str × Addr)):List Addr:=clos.filterMap λq=>clos.lookup q.1
theorem ZmA{clos:List (Str × Addr)}{a:Addr}:a∈cellsOf clos↔∃y,clos.lookup y=some a:=by unfold cellsOf;rw[Zzm];exact⟨λ⟨q,_,h⟩=>⟨q.1,h⟩,λ⟨y,h⟩=>⟨(y,a),ZAl h,h⟩⟩
theorem Tb.cut{P:Program}{w:World}{C:List Addr}{H:Hp}{h:Heap}(t:Tb H)(x:HOk P w H h)(hC:∀c∈C,∃o v,H c=some (Zbq c o)/\o.data=.cell v):Tb (Zbf C H):=λT q hT=>by
 obtain⟨ps,h1,h2,h3⟩:=t T q hT;refine⟨ps,?_,h2,λpos c hc=>?_⟩
 ·rw[Zar λz=>by
   obtain⟨o,v,e,_⟩:=hC T z;rw[h1]at e; cases e]
  exact h1
 ·obtain⟨a,o,e1,e2,e3⟩:=h3 pos c hc
  refine⟨a,o,e1,?_,e3⟩;rw[Zar λz=>by obtain⟨o',v,f1,f2⟩:=hC a z;have g1:=Zcx (x a _ e2);have g2:=Zcx (x a _ f1);rw[g1]at g2;cases g2;obtain⟨vs,tt,d1,_⟩:=e3;rw[d1]at f2; cases f2];exact e2
section
variable{P:Program}{w:World}{K:ZyK}{mg:Str->Option Value}{base:Heap}{k:Nat}
theorem ZlM{params:Arguments}{body:Expr}{scope:Scope}{x:Str}{names:List Str}{g:HM.EF}(S:Zh4 scope x names)
  (hbind:∀(qual:Str) (clos:List (Str × Addr)) (pm cd ctv u:Value),bindArgs (PySem.W.kla_fn "<lambda>" qual params body scope clos pm cd ctv) ⟨[u],[]⟩=pure [(x,u)])
  (hbody:∀(qual:Str) (f:Addr) (cd:Value) (clos:List (Str × Addr)) (A:Around) (outer:List Env) (s:Shared) (H:Hp),ZaE k (A.deeper (ZBE qual scope s.heap.objs.size f cd clos))->XE (ZkS P w K mg base (x::names) qual scope f cd clos A outer s H) body g)
  {A:Around} {outer:List Env} {s:Shared} {F H:Hp} {p:Addr} {cs:List PyData} (C:Clo K F p params body scope names cs) (e0:Ze4 P w K mg base A outer s H) (sub:Zr F H) (hr:ZaE (k+1) A) (tb:Tb H) (nt:NoT F)
  {us:List Value} {vs:List V} {ds:List PyData} {d:PyData} {Q:VK} (rv:Vals vs us) (rs:Zs K F ds vs) (hap:HM.ZfN 1 names.length g cs ds=some d) (kk:∀v F' H',Ext F H F' H'->Rep K F' d v->Q v H') :
  codeAny (model P w) A (.call (.ref p) ⟨us,[]⟩) (CR CX0 outer P w H s Q E0) s:=by
 unfold HM.ZfN at hap;split at hap
 case isFalse=>cases hap
 rename_i hc;obtain⟨hl1,hl2,hnf⟩:=hc;obtain⟨d0,rfl⟩:=List.length_eq_one_iff.mp hl1;obtain⟨v0,vs',rfl,r0,rs'⟩:=rs.cons_inv;obtain rfl:=rs'.nil_inv;obtain⟨u0,rfl,ru0⟩:=vals1 rv;have hnf0:HM.noF 20 d0=true:=by rw[ZzV,Zy5]at hnf; exact hnf.1
 obtain⟨qual,pm,ctv,c,oc,clos,h1,h2,h3,h4,h5,h6,h7,h8⟩:=C.ex;generalize hCs:cellsOf clos=Cs;have hCm:∀a,a∈Cs↔∃y,clos.lookup y=some a:=λa=>by rw[<-hCs]; exact ZmA
 have hCo:∀a∈Cs,∃o v,F a=some (Zbq a o)/\o.data=.cell v/\s.heap.get? a=some o:=λa ha=>by obtain⟨y,e⟩:=(hCm a).mp ha;obtain⟨o,v,q1,q2⟩:=h6 y a e;exact⟨o,v,q1,q2,Zcx (e0.hok a _ (sub _ _ q1))⟩
 have hCt:∀a∈Cs,∀o,H a=some o->te o=true:=λa ha o e=>by obtain⟨ob,v,q1,_,_⟩:=hCo a ha;rw[sub _ _ q1]at e; cases e; rfl
 have hCn:∀a∈Cs,H a≠none:=λa ha z=>by obtain⟨ob,v,q1,_,_⟩:=hCo a ha;rw[sub _ _ q1]at z; cases z
 have none1:∀b,H b=none->Zbf Cs H b=none:=λb e=>by
  by_cases hb:b∈Cs
  ·exact ZhC hb
  ·rw[Zar hb]; exact e
 have e1:Ze4 P w K mg base A outer s (Zbf Cs H):=⟨e0.frames,e0.mod,λb o e=>⟨(e0.bs b o e).1,none1 b (e0.bs b o e).2⟩,e0.bsz,e0.funs,λb hb=>none1 b (e0.frf b hb),HOk.cut e0.hok hCt,e0.bare⟩;have KX:K.In s.heap:=e0.mod.kin.keeps λb o e=>(e0.bs b o e).1;have lim:s.heap.NoLimit:=e0.mod.nolimit.keeps λb o e=>(e0.bs b o e).1;have hcd:s.heap.CodeRec (.ref c) qual:=by obtain⟨vs,t,d1,d2⟩:=h3;exact⟨c,oc,vs,t,rfl,Zcx (e0.hok c _ (sub _ _ h2)),d1,d2⟩
 refine PySem.W.kla_callFunE hr.depth (Zcx (e0.hok p _ (sub _ _ h1))) rfl S.co S.gen rfl hcd ?_;rw[hbind];refine ZyM (ZCm S.nocell (λy hy=>by rw[ZyY.mp hy]; exact S.par) (λh' hns hsb=>⟨lim.fresh _ hsb,?_⟩) S.kind);show codeAny _ _ (.expr body (ZBE qual scope s.heap.objs.size p (.ref c) clos)) _ _;have hvs:∃wv:List V,names.length=wv.length/\(∀(i:Nat) (y:Str) (v':V),names[i]?=some y->wv[i]?=some v'->∃a o u',clos.lookup y=some a/\s.heap.get? a=some o/\o.data=.cell (some u')/\RelV v' u')/\Zs K (Zbf Cs F) cs wv:=by
  have step:∀n,n<=cs.length->∃wv:List V,wv.length=n/\∀(i:Nat) (y:Str) (d:PyData) (v':V),names[i]?=some y->cs[i]?=some d->wv[i]?=some v'->(∃a o u',clos.lookup y=some a/\s.heap.get? a=some o/\o.data=.cell (some u')/\RelV v' u')/\Rep K (Zbf Cs F) d v':=by
   intro n
   induction n with
   | zero=>exact λ_=>⟨[],rfl,λi y d v' _ _ h=>by simp at h⟩
   | succ n ih =>
    intro hn;obtain⟨wv,l1,l2⟩:=ih (by omega);have hy:n<names.length:=by omega
    have hd:n<cs.length:=by omega
    obtain⟨a,o,u',v',q1,q2,q3,q4,q5⟩:=h8 n names[n] cs[n] (Zy9 hy) (Zy9 hd);refine⟨wv++[v'],by rw[Zy8,l1]; rfl,λi y d v2 g1 g2 g3=>?_⟩
    by_cases hi:i<n
    ·rw[ZzK (by omega)]at g3
     exact l2 i y d v2 g1 g2 g3
    ·have hin:i=n:=by
      have:=(ZyZ.mp g3).1;rw[Zy8,l1]at this;have:i<n+1:=this;omega
     subst hin;rw[ZzE (by omega),l1,Nat.sub_self]at g3;rw[Zy9 hy]at g1;rw[Zy9 hd]at g2;cases g1; cases g2; cases g3;refine⟨⟨a,o,u',q1,Zcx (e0.hok a _ (sub _ _ q2)),q3,q4⟩,?_⟩;refine(Rep0.cut (λb ob z t=>?_) q5).up;rw[Zar λhb=>by obtain⟨ob',v,w1,_,_⟩:=hCo b hb;rw[w1]at z; cases z; cases t];exact z
  obtain⟨wv,l1,l2⟩:=step cs.length (ZyT _);refine⟨wv,by omega,λi y v' g1 g3=>?_,by omega,λi d v' g2 g3=>?_⟩
  ·have hi:=(ZyZ.mp g3).1
   exact(l2 i y cs[i] v' g1 (Zy9 (by omega)) g3).1
  ·have hi:=(ZyZ.mp g3).1
   exact(l2 i names[i] d v' (Zy9 (by omega)) g2 g3).2
 obtain⟨wv,wl,wc,wr⟩:=hvs;have cutF:∀b o,F b=some o->te o=false->Zbf Cs F b=some o:=λb ob z t=>by rw[Zar λhb=>by obtain⟨ob',v,w1,_,_⟩:=hCo b hb;rw[w1]at z; cases z; cases t];exact z
 have r0':Rep K (Zbf Cs F) d0 v0:=(Rep.cutF cutF r0 20 hnf0).up;have sub1:Zr (Zbf Cs F) (Zbf Cs H):=λb o e=>by obtain⟨hb,e⟩:=Zh3 e;rw[Zar hb]; exact sub _ _ e
 have nt1:NoT (Zbf Cs F):=λb o e=>nt b o (Zh3 e).2;have tb1:Tb (Zbf Cs H):=tb.cut e0.hok λa ha=>by obtain⟨o,v,q1,q2,_⟩:=hCo a ha;exact⟨o,v,sub _ _ q1,q2⟩
 have I:=ZsO (qual:=qual) (f:=p) (cd:=.ref c) (tk:=s.toks+1) S hr.hd e1 h4 h5 (λy a e=>by obtain⟨o,v,q1,q2,q3⟩:=hCo a ((hCm a).mpr ⟨y,e⟩);exact⟨ZhC ((hCm a).mpr ⟨y,e⟩),o,v,q3,q2⟩) ru0 wl wc hns hsb;have a0:At K (Zbf Cs F) (Zbf Cs H) (Zbf Cs F) (Zbf Cs H) ((d0::cs).map λd=>some (HM.B.pl d)) (some v0::wv.map some):=by
  have:=ZgD (N:=x::names) sub1 tb1 nt1 (Zs.cons r0' wr) (by rw[Zy3,Zy3]; omega);have e3:HM.ZeU (x::names).length (d0::cs)=(d0::cs).map λd=>some (HM.B.pl d):=by unfold HM.ZeU;rw[Zy3,Zy3,show names.length+1-(cs.length+1)=0 by omega];exact Zzu _
  have e4:L2.start (x::names) (v0::wv)=some v0::wv.map some:=by unfold L2.start;rw[Zy3,Zy3,show names.length+1-(wv.length+1)=0 by omega];exact Zzu _
  rw[e3,e4]at this;exact this
 refine PySem.W.kla_codeExpr (Zz4 (hbody qual p (.ref c) clos A outer s (Zbf Cs H) (hr.deeper _) _ _ hap [] _ _ _ (λv' H'=>∃F',Ext (Zbf Cs F) (Zbf Cs H) F' H'/\Rep K F' d v') I ⟨_,_,_,a0,λv' F' H' x' q'=>⟨F',x',q'⟩⟩) (λu' s' hq=>?_) λe s' hq=>ZzZ hq);obtain⟨v',H',I',ru',F',x',q'⟩:=hq;have un:Un (frs outer) [] (Zbf Cs H) H' s.heap s'.heap:=I'.base;have nfs:∀a∈Cs,a ∉ frs outer:=λa ha hb=>hCn a ha (e0.frf a hb);have kc:∀a∈Cs,∃o,H a=some (Zbq a o)/\F a=some (Zbq a o)/\s'.heap.get? a=some o/\H' a=none:=λa ha=>by obtain⟨o,v,q1,q2,q3⟩:=hCo a ha;exact⟨o,sub _ _ q1,q1,un.keep a o q3 (ZhC ha) (nfs a ha) (by simp),un.free a o q3 (ZhC ha) (by simp)⟩
 have out:∀{b:Addr} {o:HO},H b=some o->te o=false->b ∉ Cs:=λ{b o} e t hb=>by rw[hCt b hb o e]at t; cases t
 have outN:∀{b:Addr},H b=none->b ∉ Cs:=λ{b} e hb=>hCn b hb e;have outT:∀{b:Addr} {ps:Array Value},H b=some (.tbl ps)->b ∉ Cs:=λ{b ps} e hb=>by obtain⟨o,q,_⟩:=kc b hb;rw[e]at q; cases q
 refine⟨v',Zhb Cs H H',I'.os,I'.bare,⟨λb o e n hb hx=>?_,λb o e n hb hx=>?_,λb o e n hx=>?_,un.there,λb xs e=>?_,λb o u e=>?_,λb ps e=>?_⟩,HOk.put I'.hok (λa ha=>by obtain⟨_,_,_,_,q⟩:=kc a ha; exact q) (λa ha u e=>?_),ru',kk v' (Zhb Cs F F') (Zhb Cs H H') ⟨λb o e=>?_,λb o e=>?_,λb o e=>?_,λb o e=>?_,λt=>?_,λn b o e=>?_⟩ (q'.mono λb o e=>?_)⟩
 ·exact un.keep b o e (none1 b n) hb hx
 ·exact un.slot b o e (none1 b n) hb hx
 ·rw[Zbs (outN n)]; exact un.free b o e (none1 b n) hx
 ·have hb:=out e rfl
  rw[Zbs hb]; exact un.tups b xs (by rw[Zar hb]; exact e)
 ·have hb:=out e rfl
  rw[Zbs hb]; exact un.frzs b o u (by rw[Zar hb]; exact e)
 ·have hb:=outT e
  rw[Zbs hb]; exact un.tbls b ps (by rw[Zar hb]; exact e)
 ·obtain⟨o,q1,_,q3,_⟩:=kc a ha
  rw[q1]at e; cases e;exact⟨o,rfl,q3⟩
 ·by_cases hb:b∈Cs
  ·rw[Zfa hb]; exact e
  ·rw[Zbs hb]; exact x'.ff b o (by rw[Zar hb]; exact e)
 ·by_cases hb:b∈Cs
  ·exact .of (by rw[Zfa hb]; exact e)
  ·exact(x'.hh b o (by rw[Zar hb]; exact e)).cong (Zbs hb)
 ·by_cases hb:b∈Cs
  ·rw[Zfa hb]at e ⊢; exact sub _ _ e
  ·rw[Zbs hb]at e ⊢; exact x'.sub _ _ e
 ·by_cases hb:b∈Cs
  ·rw[Zfa hb]at e; exact .inl e
  ·rw[Zbs hb]at e
   rcases x'.new b o e with q | q
   ·exact .inl (Zh3 q).2
   ·refine .inr ?_
    unfold Fre at q ⊢;rw[Zar hb]at q;exact q
 ·exact(x'.tab tb1).keep λa o e _=>by rw[Zbs λhb=>by obtain⟨_,_,_,_,q⟩:=kc a hb;rw[e]at q; cases q];exact e
 ·by_cases hb:b∈Cs
  ·rw[Zfa hb]at e; exact n b o e
  ·rw[Zbs hb]at e; exact x'.nts nt1 b o e
 ·rw[Zbs λhb=>by
   obtain⟨_,_,_,_,q⟩:=kc b hb;rw[x'.sub _ _ e]at q; cases q]
  exact e
end
end HP
namespace HP
open PySem PySem.Spec PyProof.Rows L2
variable[FX]
theorem Zro{a b:Int}{cv:Value}(l:List Value)(h:TriplesOk l):∀(pos:Pos) (c:Value),ZCF pos (l++[rawInt a,rawInt b,cv])=some c->ZCF pos l=some c\/c=cv:=by
 fun_induction TriplesOk l with
 | case1 =>
  intro pos c e;simp only[ZA0,ZCF,rawInt]at e;split at e
  ·cases e; exact .inr rfl
  ·cases e
 | case2 x t y u z rest ih =>
  intro pos c e;simp only[ZDf,ZCF]at e ⊢;split at e
  ·rename_i hq
   rw[if_pos hq];exact .inl e
  ·rename_i hq
   rw[if_neg hq];exact ih h pos c e
 | case3=>exact h.elim
def BMod(base:Heap)(mg:Str->Option Value):Prop:=∃bm o,mg "__builtins__" = some (.ref bm)/\bm≠ZCY/\bm≠Zzr/\base.get? bm=some o/\o.cls=.type "module"/\o.dict=some ZCY/\o.data=.plain
structure Zrp(X:Cx)(t:Nat)(params:Arguments)(body:Expr)(scope:Scope)(names:List Str)(is:List Nat):Prop where
 code:∃c P,X.env.code=.ref c/\ZAf X.K c P=true/\(P,X.env.qual ++ "<lambda>")∈FX.tl/\∀q,(P,q)∈FX.tl->q=X.env.qual ++ "<lambda>"
 bm:BMod X.base X.mg
 dflt:defaultsOf params X.env=([],[])
 len:is.length=names.length
 at_:∀(j i:Nat) (x:Str),is[j]?=some i->names[j]?=some x->X.N[i]?=some x/\X.env.scope.names.lookup x=some .cell
 cells:∀y∈scope.names,y.2=.free->X.env.scope.names.lookup y.1=some .cell
 free:∀x∈names,(x,ZA4)∈scope.names
 own:∀x,X.fn x=true
 good:∀F p cs,Clo X.K F p params body scope names cs->FX.fv t cs F p
section
variable{X:Cx}{t:Nat}{params:Arguments}{body:Expr}{scope:Scope}{names:List Str}{is:List Nat}{pos lpos p:Pos}
structure Made(X:Cx)(params:Arguments)(body:Expr)(scope:Scope)(H H':Hp)(q:Addr)(clos:List (Str × Addr)):Prop where
 ex:∃(pm ctv:Value) (c:Addr) (oc:Obj),H' q=some (Zbq q (ZCo "<lambda>" (X.env.qual ++ "<lambda>") params body scope clos pm c ctv))/\H' c=some (Zbq c oc)/\Zl5 oc (X.env.qual ++ "<lambda>")
 hh:ZaF H H'
 tb:Tb H'
theorem ZtU(L:Zrp X t params body scope names is){pins:List (Addr × Obj)}{s:Shared}{σ:L2.St}{H:Hp}(I:Inv X pins σ H s)(tb:Tb H){clos:List (Str × Addr)}(hcl:closureFor scope X.env=pure clos) :
  wpAny (model X.prog X.w) X.A (eval (.Lambda params body scope lpos) X.env) (λu s'=>∃q H',u=.ref q/\Inv X pins σ H' s'/\Made X params body scope H H' q clos) X.xe s:=by
 obtain⟨c,P,hc,hh,hm,hu⟩:=L.code;obtain⟨ps,hP,ht,hg⟩:=tb P _ hm;have gP:s.heap.get? P=some (ZBF ps):=I.hok P _ hP;have Ns:=I.mod.glob.keeps I.bk;have CH:PySem.W.CodeHd s.heap c P:=ZDN I.kIn hh;obtain⟨bm,ob,b1,b2,b3,b4,b5,b6,b7⟩:=L.bm;have gb:=I.bk _ _ b4;have hbP:bm≠P:=λz=>by rw[z,gP]at gb; cases gb; cases b5
 have hgP:Zzr≠P:=λz=>by obtain⟨o,es,ep,e,hd,_⟩:=Ns;rw[z,gP]at e; cases e; cases hd
 have BA:s.heap.BuiltinsAt X.mg P:=⟨bm,ob,b1,b2,b3,hbP,gb,b5,b6,b7⟩;refine PySem.W.kla_eval L.dflt ?_;cases hq:ZCF lpos ps.toList with
 | some cv =>
  obtain⟨a,oc,rfl,h1,h2⟩:=hg lpos cv hq;refine PySem.W.kla_makeFunctionHit hcl I.ok.glob Ns hc CH gP ht hq BA λctv h' tk hk hz=>?_;generalize hob:ZCo "<lambda>" (X.env.qual ++ "<lambda>") params body scope clos ((X.mg "__name__").getD .none) a ctv=fo;have hn:H h'.objs.size=none:=I.hok.fresh hz;have hk2:∀b o,s.heap.get? b=some o->(h'.push fo).get? b=some o:=λb o e=>ZyN _ (hk b o e);have gq:(h'.push fo).get? h'.objs.size=some fo:=by rw[<-hob]; exact Zy4 _ rfl
  refine⟨h'.objs.size,upd H h'.objs.size (Zbq h'.objs.size fo),rfl,?_,⟨_,ctv,a,oc,by rw[ZH,<-hob],?_,h2⟩,.of (Zkq hn),tb.same (Zkq hn)⟩
  ·subst hob
   exact I.laid (t':=tk) hk2 hz (Zjq gq)
  ·rw[ZE (Zay h1 hn)]; exact h1
 | none =>
  refine PySem.W.kla_makeFunction hcl I.ok.glob Ns hc CH gP ht hq hgP BA λc' ctv h' tk hx hge hlt hrec htab=>?_;generalize hob:ZCo "<lambda>" (X.env.qual ++ "<lambda>") params body scope clos ((X.mg "__name__").getD .none) c' ctv=fo;generalize hps:ps++#[rawInt lpos.line,rawInt lpos.col,ZzW c']=ps2 at htab;obtain⟨c2,oc,vs,tq,e2,goc,d1,d2⟩:=hrec;cases e2;have hcn:H c'=none:=I.hok.fresh hge;have hqn:H h'.objs.size=none:=I.hok.fresh (ZzH hge (ZAB hlt));have hcq:c'≠h'.objs.size:=Zzc hlt;have hcP:c'≠P:=λz=>by rw[z,hP]at hcn; cases hcn
  have hqP:h'.objs.size≠P:=λz=>by rw[z,hP]at hqn; cases hqn
  have gq:(h'.push fo).get? h'.objs.size=some fo:=by rw[<-hob]; exact Zy4 _ rfl
  have gc:(h'.push fo).get? c'=some oc:=ZyN _ goc;have gP2:(h'.push fo).get? P=some (ZBF ps2):=ZyN _ htab;have hk2:∀b o,b≠P->s.heap.get? b=some o->(h'.push fo).get? b=some o:=λb o hb e=>ZyN _ (hx b o hb e);generalize hH':upd (upd (upd H P (.tbl ps2)) c' (Zbq c' oc)) h'.objs.size (Zbq h'.objs.size fo)=H';have aq:H' h'.objs.size=some (Zbq h'.objs.size fo):=by rw[<-hH',ZH]
  have ac:H' c'=some (Zbq c' oc):=by rw[<-hH',ZE hcq,ZH]
  have aP:H' P=some (.tbl ps2):=by rw[<-hH',ZE (ZzX hqP),ZE (ZzX hcP),ZH]
  have ao:∀b,b≠h'.objs.size->b≠c'->b≠P->H' b=H b:=λb n1 n2 n3=>by rw[<-hH',ZE n1,ZE n2,ZE n3]
  have at1:∀b o,H b=some o->b≠P->H' b=some o:=λb o e n=>by rw[ao b (Zay e hqn) (Zay e hcn) n]; exact e
  have nP:∀b o,H b=some o->(∀ps,o≠.tbl ps)->b≠P:=λb o e n z=>by rw[z,hP]at e; cases e; exact n _ rfl
  have old:∀b o,s.heap.get? b=some o->b≠h'.objs.size/\b≠c':=λb o e=>by have hb:=Zy1 e;exact⟨Zzc (Zzh hb (ZzH hge (ZAB hlt))),Zzc (Zzh hb hge)⟩
  have hokN:HOk X.prog X.w H' (h'.push fo):=λb o e=>by
   by_cases n1:b=h'.objs.size
   ·subst n1; rw[aq]at e; cases e; exact Zjq gq
   ·by_cases n2:b=c'
    ·subst n2; rw[ac]at e; cases e; exact Zjq gc
    ·by_cases n3:b=P
     ·subst n3; rw[aP]at e; cases e; exact gP2
     ·rw[ao b n1 n2 n3]at e
      refine(I.hok b o e).stay (λd u hd z=>hk2 d u (λy=>?_) z) (λd z=>at1 d _ z (nP d _ z λ_ y=>by cases y)) λd xs z=>at1 d _ z (nP d _ z λ_ y=>by cases y);rcases hd with y2 | y2
      ·exact n3 (y2▸y)
      ·exact nP d _ y2 (λ_ q=>by cases q) y
  have un:Un X.fs [] H H' s.heap (h'.push fo):=by
   refine⟨λb o e n hb hx=>?_,λb o e n hb hx=>?_,λb o e n hx=>?_,λb o e hx=>?_,λb xs e=>at1 b _ e (nP b _ e λ_ y=>by cases y),λb o u e=>at1 b _ e (nP b _ e λ_ y=>by cases y),λb pp e=>?_⟩
   ·exact hk2 b o (λz=>by rw[z,hP]at n; cases n) e
   ·exact⟨o.slots,hk2 b o (λz=>by rw[z,hP]at n; cases n) e⟩
   ·obtain⟨n1,n2⟩:=old b o e
    rw[ao b n1 n2 (λz=>by rw[z,hP]at n; cases n)]; exact n
   ·by_cases n3:b=P
    ·exact⟨_,by rw[n3]; exact gP2⟩
    ·exact⟨o,hk2 b o n3 e⟩
   ·by_cases n3:b=P
    ·subst n3
     rw[hP]at e; cases e;exact⟨_,by rw[aP,<-hps]⟩
    ·exact⟨#[],by rw[at1 b _ e n3]; simp⟩
  refine⟨h'.objs.size,H',rfl,?_,⟨_,ctv,c',oc,by rw[aq,<-hob],ac,vs,tq,d1,d2⟩,λb o e=>?_,λT q hT=>?_⟩
  ·exact I.un (t':=tk) un hokN
  ·by_cases n3:b=P
   ·subst n3
    rw[hP]at e; cases e;exact⟨_,aP⟩
   ·exact .of (at1 b o e n3)
  ·by_cases n3:T=P
   ·subst n3
    obtain rfl:=hu q hT;refine⟨ps2,aP,?_,λpos' cc hcc=>?_⟩
    ·rw[<-hps,Array.toList_append]
     exact TriplesOk_snoc _ _ _ _ ht
    ·rw[<-hps,Array.toList_append]at hcc
     rcases Zro _ ht _ _ hcc with e | e
     ·obtain⟨a,o,q1,q2,q3⟩:=hg pos' cc e
      exact⟨a,o,q1,at1 a _ q2 (nP a _ q2 λ_ y=>by cases y),q3⟩
     ·exact⟨c',oc,e,ac,vs,tq,d1,d2⟩
   ·obtain⟨ps',w1,w2,w3⟩:=tb T q hT
    refine⟨ps',at1 T _ w1 n3,w2,λpos' cc hcc=>?_⟩;obtain⟨a,o,q1,q2,q3⟩:=w3 pos' cc hcc;exact⟨a,o,q1,at1 a _ q2 (nP a _ q2 λ_ y=>by cases y),q3⟩
theorem Zo1{r:HM.Env}:∀{is:List Nat} {cs:List PyData},HM.ZkU is r=some cs->cs.length=is.length/\∀(j i:Nat),is[j]?=some i->∃d,cs[j]?=some d/\r[i]?=some (some (.pl d))
 | [],cs,h=>by cases h; exact⟨rfl,λj i e=>by simp at e⟩
 | i::is,cs,h=>by
  unfold HM.ZkU at h;split at h
  ·rename_i d hd
   obtain⟨cs',h1,h2⟩:=ZyL.mp h;subst h2;obtain⟨l,k⟩:=Zo1 h1;refine⟨by rw[Zy3,Zy3,l],λj i' e=>?_⟩;cases j with
   | zero=>cases e; exact⟨d,rfl,hd⟩
   | succ j=>exact k j i' e
  ·cases h
def Ze1(F H:Hp):Hp:=λb=>match H b with
 | some (.ext φ)=>some (.ext φ)
 | _=>F b
theorem ZhX{F H:Hp}{a:Addr}{o:Obj}(h:H a=some (Zbq a o)):Ze1 F H a=some (Zbq a o):=by unfold Ze1 Zbq at *;rw[h]
theorem ZkD{F H:Hp}{b:Addr}{o:HO}(h:Ze1 F H b=some o):(H b=some o/\te o=true)\/F b=some o:=by
 unfold Ze1 at h;split at h
 ·rename_i φ e
  cases h;exact .inl ⟨e,rfl⟩
 ·exact .inr h
theorem Zu6{F H:Hp}(s:Zr F H){b:Addr}{o:HO}(h:F b=some o):Ze1 F H b=some o:=by have h2:=s b o h;unfold Ze1;rw[h2];cases o<;>first | rfl | exact h
theorem ZkG{k:Nat}{x:Str}{M:List PyData->Option PyData}{e:Expr}{fa:HM.EF}(C:Callee X.prog X.w X.K X.mg X.base k x M)(hr:ZaE k X.A)(L:Zrp X t params body scope names is)(ha:XE X e fa)(hg:Gl X x:=by rfl)(hdb:(x==("__debug__":Str))=false:=by decide)
  (he:Zy0 [e,.Lambda params body scope lpos] X.env=(false,eval e X.env)::Zy0 [.Lambda params body scope lpos] X.env:=by rfl) (he2:Zy0 [.Lambda params body scope lpos] X.env=[(false,eval (.Lambda params body scope lpos) X.env)]:=by rfl)
  (hpl:(backTo pos (Zy0 [.Lambda params body scope lpos] X.env)).any (·.1)=false:=by rfl):XE X (.Call (.Name x p) [e,.Lambda params body scope lpos] [] pos) (HM.Zej M t is fa):=by
 intro r d hd;unfold HM.Zej at hd;split at hd
 case h_2=>cases hd
 rename_i d1 hd1;split at hd
 case h_2=>cases hd
 rename_i cs hcs;split at hd
 case isFalse=>cases hd
 rename_i hnc;split at hd
 case h_2=>cases hd
 rename_i d' hM;split at hd
 case isFalse=>cases hd
 rename_i hnd;cases hd;obtain⟨fa',fd,ps,hl,FN,hm,hk,hb⟩:=C.ex;intro pins s σ H Q I ⟨F0,H0,F,at_,kk⟩;obtain⟨clos,hcl,hc1,hc2⟩:=ZfB (scope:=scope) (env:=X.env) λy hy hf=>I.ok.has _ (.inl (L.cells y hy hf));refine ZAY (ZlJ I hg hm ?_ hdb);have lamPE:PE X (.Lambda params body scope lpos) λσ' H' Q'=>Tb H'/\∀q H2,Made X params body scope H' H2 q clos->Q' (.ref q) H2:=λpins' s' σ' H' Q' I' ⟨tb',k'⟩=>thn (ZtU L I' tb' hcl) λu s2 ⟨q,H2,e1,I2,m⟩=>by subst e1; exact⟨.ref q,H2,I2,rfl,k' q H2 m⟩
 refine ZDQ (h₀:=X.base) I.ok.mod.kin hk (thn (ZaI (ha r d1 hd1) (ZaI lamPE Zcg he2) he pos pins s σ H (λvs H2=>∃v1 F1 H1 q,vs=[v1,.ref q]/\Ext F H F1 H1/\Rep X.K F1 d1 v1/\Made X params body scope H1 H2 q clos) I
  ⟨F0,H0,F,at_,λv F1 H1 x1 r1=>⟨at_.tbx x1,λq H2 m=>⟨v,F1,H1,q,rfl,x1,r1,m⟩⟩⟩) λus s2 ⟨vs,H2,I2,rv,v1,F1,H1,q,ev,x1,r1,m⟩=>⟨I2.kIn,?_⟩) he hpl
 subst ev;have at1:=at_.grow x1;have tb1:=at_.tbx x1;have nt1:=at_.ntx x1;generalize hCs:cellsOf clos=Cs;have hCm:∀a,a∈Cs↔∃y,clos.lookup y=some a:=λa=>by rw[<-hCs]; exact ZmA
 have hCc:∀a∈Cs,∃y o v,X.env.cells.lookup y=some a/\s2.heap.get? a=some o/\o.data=.cell v/\H2 a=none:=λa ha=>by obtain⟨y,e⟩:=(hCm a).mp ha;have e1:=hc1 y a e;obtain⟨v,o,h1,h2⟩:=I2.cell y a e1;exact⟨y,o,v,e1,h1,h2,I2.freeC y a e1⟩
 generalize hG:(λa:Addr=>(s2.heap.get? a).map (Zbq a))=G;have hGo:∀{a:Addr} {o:Obj},s2.heap.get? a=some o->G a=some (Zbq a o):=λ{a o} e=>by rw[<-hG]; show ZAP _ _=_; rw[e]; rfl
 generalize hH3:Zhb Cs G H2=H3;have h3in:∀{a:Addr},a∈Cs->∃o v,H3 a=some (Zbq a o)/\s2.heap.get? a=some o/\o.data=.cell v:=λ{a} ha=>by obtain⟨y,o,v,_,g1,g2,_⟩:=hCc a ha;exact⟨o,v,by rw[<-hH3,Zfa ha]; exact hGo g1,g1,g2⟩
 have h3out:∀{a:Addr},a ∉ Cs->H3 a=H2 a:=λ{a} ha=>by rw[<-hH3,Zbs ha]
 have s23:Zr H2 H3:=λb o z=>by rw[h3out λhb=>by obtain⟨_,_,_,_,_,_,g⟩:=hCc b hb;rw[g]at z; cases z];exact z
 have cge:∀a∈Cs,X.s₀.heap.objs.size<=a:=λa ha=>by obtain⟨y,_,_,e1,_⟩:=hCc a ha;exact I.ok.cab y a (L.own y) e1
 have hok3:HOk X.prog X.w H3 s2.heap:=by rw[<-hH3];refine HOk.put I2.hok (λa ha=>by obtain⟨_,_,_,_,_,_,g⟩:=hCc a ha; exact g) λa ha u e=>?_;obtain⟨y,o,v,_,g1,g2,_⟩:=hCc a ha;rw[hGo g1]at e; cases e;exact⟨o,rfl,g1⟩
 have E2:=I2.env0;have cfr:∀b∈frs X.stack,b ∉ Cs:=λb hb hc=>by
  obtain⟨y,o,v,e1,g1,g2,_⟩:=hCc b hc;rcases Zzb.mp (I2.stkSub b hb)with z | z
  ·exact I2.cne y b e1 z
  ·obtain⟨_,o',ho',_⟩:=I.ok.funs.mem z
   exact absurd (Zzh (Zy1 ho') (cge b hc)) (ZAD _)
 have E3:Ze4 X.prog X.w X.K X.mg X.base X.A X.stack s2 H3:=⟨E2.frames,E2.mod,λb o z=>⟨(E2.bs b o z).1,by rw[h3out λhb=>absurd (Zzh (Zy1 z) (ZzH I.ok.bsz (cge b hb))) (ZAD _)];exact(E2.bs b o z).2⟩,E2.bsz,E2.funs,λb hb=>by rw[h3out (cfr b hb)]; exact E2.frf b hb,hok3,E2.bare⟩;have s12:Zr F1 H2:=λb o z=>m.hh.ntb (x1.sub b o z) (nt1 b o z);have s13:Zr F1 H3:=s12.trans s23;have ff:Zr F1 (Ze1 F1 H3):=λb o z=>Zu6 s13 z;have s33:Zr (Ze1 F1 H3) H3:=λb o z=>by
  rcases ZkD z with⟨w,_⟩ | w
  ·exact w
  ·exact s13 b o w
 have nt3:NoT (Ze1 F1 H3):=λb o z=>by
  rcases ZkD z with⟨w1,w2⟩ | w
  ·unfold Ze1 at z
   split at z
   ·cases z; rfl
   ·exact nt1 b o z
  ·exact nt1 b o w
 have tb3:Tb H3:=m.tb.same s23;obtain⟨pm,ctv,c,oc,m1,m2,m3⟩:=m.ex;obtain⟨cl1,cl2⟩:=Zo1 hcs;have clo:Clo X.K (Ze1 F1 H3) q params body scope names cs:=by
  refine⟨_,pm,ctv,c,oc,clos,ZhX (s23 _ _ m1),ZhX (s23 _ _ m2),m3,λy z a g1 g2=>I.ok.inj y z a (hc1 y a g1) (hc1 z a g2),hc2,λy a g=>?_,by rw[cl1,L.len],λj y dj g1 g2=>?_⟩
  ·obtain⟨o,v,w1,w2,w3⟩:=h3in ((hCm a).mpr ⟨y,g⟩)
   exact⟨o,v,ZhX w1,w3⟩
  ·have hj:j<is.length:=by rw[L.len]; exact(ZyZ.mp g1).1
   obtain⟨dj',g3,g4⟩:=cl2 j is[j] (Zy9 hj);rw[g2]at g3;cases g3;obtain⟨hN,hkind⟩:=L.at_ j is[j] y (Zy9 hj) g1;obtain⟨v,w1,w2⟩:=at1.plain g4;obtain⟨mm,_,hloc⟩:=I2.loc;obtain⟨u,ru,lk⟩:=hloc is[j] y v hN w1 (.inr (.inl hkind));have hfr:=hc2 _ (L.free y (Zzj g1)) rfl;obtain⟨a,hal⟩:=Zzf.mp hfr;rcases lk with⟨k1,_⟩ | ⟨_,a',k1,o,k2,k3⟩
   ·rw[show X.env.kindOf y=some .cell from hkind]at k1; cases k1
   ·rw[hc1 y a hal]at k1
    cases k1;obtain⟨o',v',z1,z2,z3⟩:=h3in ((hCm a).mpr ⟨y,hal⟩);rw[k2]at z2;cases z2;refine⟨a,o,u,v,hal,ZhX z1,k3,ru,Rep.cutF (λb ob z _=>ff b ob z) w2 20 ?_⟩;exact ZyR.mp hnc dj (Zzj g2)
 have fv:=L.good _ _ _ clo;have hlen:=hl _ _ hM;refine wpAny_call (ZAX (FN.run X.A X.stack s2 H3 ⟨us,[]⟩ us [v1,.ref q] (λv H4=>∃F4,Ext (Ze1 F1 H3) H3 F4 H4/\Rep X.K F4 d v) E0 hr E3 (by
  have:=hb s2 us I2.kIn (by rw[Zzu,<-rv.length]; exact hlen)
  rwa [Zzu]at this) rv ⟨Ze1 F1 H3,_,d,hlen,s33,tb3,nt3,.cons (r1.mono ff) (.one (.fn fv)),hM,λv F4 H4 x4 q4=>⟨F4,x4,q4⟩⟩) λrs s4 hq=>?_)
 cases rs with
 | error e=>exact ZzZ hq
 | ok fl =>
  cases fl with
  | next=>exact ZzZ hq
  | brk=>exact ZzZ hq
  | cont=>exact ZzZ hq
  | ret u =>
   obtain⟨v,H4,os,bare,un,hok4,ru,F4,x4,q4⟩:=hq;have c4:∀{a:Addr},a∈Cs->∃o v,H4 a=some (Zbq a o)/\s2.heap.get? a=some o/\s4.heap.get? a=some o/\o.data=.cell v:=λ{a} ha=>by obtain⟨o,v,w1,w2,w3⟩:=h3in ha;have w4:H4 a=some (Zbq a o):=x4.hh.ntb w1 rfl;exact⟨o,v,w4,w2,Zcx (hok4 a _ w4),w3⟩
   have out4:∀{b:Addr} {o:HO},H2 b=some o->b ∉ Cs:=λ{b o} z hb=>by obtain⟨_,_,_,_,_,_,g⟩:=hCc b hb;rw[g]at z; cases z
   generalize hF5:(λb:Addr=>match F4 b with | some o=>if te o=true then F1 b else some o | none=>none)=F5;have f5:∀{b:Addr} {o:HO},F5 b=some o->(F4 b=some o/\te o=false)\/F1 b=some o:=λ{b o} z=>by
    rw[<-hF5]at z;dsimp only at z;split at z
    ·rename_i o' w
     split at z
     ·exact .inr z
     ·rename_i n
      cases z;exact .inl ⟨w,by simpa using n⟩
    ·cases z
   have f5a:∀{b:Addr} {o:HO},F4 b=some o->te o=false->F5 b=some o:=λ{b o} z n=>by rw[<-hF5]; dsimp only; rw[z]; dsimp only; rw[if_neg (by rw[n]; simp)]
   have f5b:∀{b:Addr} {o:HO},F1 b=some o->F5 b=some o:=λ{b o} z=>by
    have w:=x4.ff b o (ff b o z)
    by_cases n:te o=true
    ·rw[<-hF5]; dsimp only; rw[w]; dsimp only; rw[if_pos n]; exact z
    ·exact f5a w (by simpa using n)
   have sub5:Zr F5 (Zbf Cs H4):=λb o z=>by
    rcases f5 z with⟨w,n⟩ | w
    ·rw[Zar λhb=>by
      obtain⟨_,_,g,_⟩:=c4 hb;rw[x4.sub b o w]at g; cases g; cases n]
     exact x4.sub b o w
    ·rw[Zar (out4 (s12 b o w))]
     exact x4.sub b o (x4.ff b o (ff b o w))
   refine I2.after ⟨v,Zbf Cs H4,os,bare,⟨λb o e n hb hx=>?_,λb o e n hb hx=>?_,λb o e n hx=>?_,un.there,λb xs e=>?_,λb o w e=>?_,λb pp e=>?_⟩,HOk.cut hok4 (λa ha o e=>?_),ru,kk v F5 (Zbf Cs H4) (x1.trans ⟨λb o z=>f5b z,λb o z=>?_,sub5,λb o z=>?_,λtb=>?_,λ_ b o z=>?_⟩) ((Rep.cutF (λb o z n=>f5a z n) q4 20 hnd).up)⟩
   ·by_cases hc:b∈Cs
    ·obtain⟨o',_,_,w2,w3,_⟩:=c4 hc
     rw[e]at w2; cases w2; exact w3
    ·exact un.keep b o e (by rw[h3out hc]; exact n) hb hx
   ·exact un.slot b o e (by rw[h3out (cfr b hb)]; exact n) hb hx
   ·by_cases hc:b∈Cs
    ·exact ZhC hc
    ·rw[Zar hc]; exact un.free b o e (by rw[h3out hc]; exact n) hx
   ·rw[Zar (out4 e)]; exact un.tups b xs (s23 _ _ e)
   ·rw[Zar (out4 e)]; exact un.frzs b o w (s23 _ _ e)
   ·rw[Zar (out4 e)]; exact un.tbls b pp (s23 _ _ e)
   ·obtain⟨o',_,g,_⟩:=c4 ha
    rw[g]at e; cases e; rfl
   ·-- tracked things stay
    have z2:=m.hh b o z;have key:∀{u:HO},H2 b=some u->Zdq (Zbf Cs H4) b u:=λ{u} w=>(x4.hh b u (s23 b u w)).cong (Zar (out4 w));cases o<;>first | exact key z2 | (obtain⟨pp,w⟩:=z2; exact(show ∃ps',_ from key w))
   ·rcases f5 z with⟨w,n⟩ | w
    ·rcases x4.new b o w with y | y
     ·rcases ZkD y with⟨_,y2⟩ | y2
      ·rw[n]at y2; cases y2
      ·exact .inl y2
     ·refine .inr ?_
      have hcb:b ∉ Cs:=λhb=>by
       obtain⟨o',_,g,_⟩:=h3in hb;rcases y with y | ⟨xs,_,y⟩
       ·rw[g]at y; cases y
       ·rw[g]at y; cases y
      rcases y with y | ⟨xs,y1,y2⟩
      ·rw[h3out hcb]at y
       exact .inl (m.hh.free y)
      ·rw[h3out hcb]at y2
       cases w1:H1 b with
       | none=>exact .inl w1
       | some u =>
        have:=m.hh.back w1 y2 λ_ q=>by cases q
        subst this;exact .inr ⟨xs,y1,w1⟩
    ·exact .inl w
   ·refine(x4.tab tb3).cut hok4 λa ha=>?_
    obtain⟨o,v',g1,_,_,g4⟩:=c4 ha;exact⟨o,v',g1,g4⟩
   ·rcases f5 z with⟨w,_⟩ | w
    ·exact x4.nts nt3 b o w
    ·exact nt1 b o w
end
end HP
namespace HP
open PySem PySem.Spec PyProof.Rows L2
structure Zoa(K:ZyK)(x qual:Str)(st:Stmt)(f:Addr)(fd:FuncData)(c:Addr):Prop where
 ex:∃(oc:Value) (od:Option Addr) (kV doc pm:Value) (an:Option Addr) (ct:Value) (osl:Array (Option Value)),
  fd=ZAb x qual (Zcn st) (ZaY st) (Zh st) .none kV doc pm an (.ref c) ct/\K.lookup f=some ⟨oc,od,.func fd,osl⟩/\ZAV K (.ref c) qual=true
 kp:ZAh K (.ref f)=true
theorem Zvc{K:ZyK}{x qual:Str}{st:Stmt}{f c:Addr}{oc:Value}{od an:Option Addr}{osl:Array (Option Value)}{kV doc pm ct:Value}(l:K.lookup f=some ⟨oc,od,.func (ZAb x qual (Zcn st) (ZaY st) (Zh st) .none kV doc pm an (.ref c) ct),osl⟩)
  (h:ZAV K (.ref c) qual=true) (k:ZAh K (.ref f)=true):Zoa K x qual st f (ZAb x qual (Zcn st) (ZaY st) (Zh st) .none kV doc pm an (.ref c) ct) c:=⟨⟨oc,od,kV,doc,pm,an,ct,osl,rfl,l,h⟩,k⟩
section
variable[FX]
theorem Zk4{P:Program}{w:World}{K:ZyK}{mg:Str->Option Value}{base:Heap}{k:Nat}{x qual:Str}{st:Stmt}{f c:Addr}{fd:FuncData}{N ps:List Str}{g:HM.SF}(Fn:Zoa K x qual st f fd c)(S:Zz N ps (Zh st))(hm:mg x=some (.ref f))(hb:Binds K fd ps [])
  (body:∀(A:Around) (outer:List Env) (s:Shared) (H:Hp) (E:XK),ZaE k (A.deeper (envOfC qual (Zh st) s.heap.objs.size f (.ref c)))->XSs (Zgq CX0 P w K mg base N qual (Zh st) f (.ref c) A outer s H E).nox (ZaY st) g) :
  Callee P w K mg base (k+1) x (HM.fnOf ps.length N.length g):=by
 have hpl:ps.length<=N.length:=by have:=congrArg Zzw S.pre; rw[Zz6]at this; omega
 refine⟨f,fd,ps,λds d h=>?_,?_,hm,Fn.kp,hb⟩
 ·unfold HM.fnOf at h
  split at h
  ·assumption
  ·cases h
 ·obtain⟨oc,od,kV,doc,pm,an,ct,osl,rfl,lk,hcd⟩:=Fn.ex
  refine Zum lk hcd S (λvs H Q E h=>by obtain⟨_,_,_,h,_⟩:=h; exact h) λA outer s H vs Q E hr h=>?_;obtain⟨F,ds,d,hl,sub,tb,nt,q,hM,kk⟩:=h;unfold HM.fnOf at hM;split at hM
  ·rename_i hds
   have a0:=ZgD (N:=N) sub tb nt q (by omega);split at hM
   ·rename_i r hr'
    cases hM;exact⟨_,(body A outer s H E hr _ _ hr').nox,F,H,F,a0,λσ F' H' a'=>kk .non F' H' a'.ext .non⟩
   ·rename_i d' hr'
    cases hM;exact⟨_,(body A outer s H E hr _ _ hr').nox,F,H,F,a0,λv F' H' x q=>kk v F' H' x q⟩
   ·cases hM
  ·cases hM
def Zne(N:List Str)(sc scope:Scope)(names:List Str)(is:List Nat):Bool :=
 decide (is.length=names.length)&&(is.zip names).all (λq=>decide (N[q.1]?=some q.2)&&decide (sc.names.lookup q.2=some .cell))&&scope.names.all (λy=>decide (y.2≠.free)||decide (sc.names.lookup y.1=some .cell))&&names.all λx=>decide ((x,ZA4)∈scope.names)
theorem Zoh{X:Cx}{t:Nat}{params:Arguments}{body:Expr}{scope sc:Scope}{names N:List Str}{is:List Nat}{c T:Addr}{q:Str}(ck:Zne N sc scope names is=true)(h1:ZAf X.K c T=true)(h2:(T,q)∈FX.tl)(h3:∀q',(T,q')∈FX.tl->q'=q)(bm:BMod X.base X.mg)
  (good:∀F p cs,Clo X.K F p params body scope names cs->FX.fv t cs F p) (hN:X.N=N:=by rfl) (hs:X.env.scope=sc:=by rfl) (hc:X.env.code=.ref c:=by rfl) (hq:X.env.qual ++ "<lambda>" = q:=by rfl) (hd:defaultsOf params X.env=([],[]):=by rfl) (ho:∀x,X.fn x=true:=by exact λ_=>rfl) :
  Zrp X t params body scope names is:=by
 unfold Zne at ck;rw[Zy5,Zy5,Zy5]at ck;obtain⟨⟨⟨k1,k2⟩,k3⟩,k4⟩:=ck;refine⟨⟨c,T,hc,h1,by rw[hq]; exact h2,λq' z=>by rw[hq]; exact h3 q' z⟩,bm,hd,of_decide_eq_true k1,λj i x e1 e2=>?_,λy hy hf=>?_,λx hx=>?_,ho,good⟩
 ·have:(i,x)∈is.zip names:=Zzj (i:=j) (by rw[List.getElem?_zip_eq_some]; exact⟨e1,e2⟩)
  have:=ZyR.mp k2 _ this;rw[Zy5]at this;rw[hN,hs];exact⟨of_decide_eq_true this.1,of_decide_eq_true this.2⟩
 ·have:=ZyR.mp k3 y hy
  rw[Zzt]at this;rw[hs];rcases this with z | z
  ·exact absurd hf (of_decide_eq_true z)
  ·exact of_decide_eq_true z
 ·exact of_decide_eq_true (ZyR.mp k4 x hx)
theorem ZjG{P:Program}{w:World}{K:ZyK}{mg:Str->Option Value}{base:Heap}{x qual:Str}{st:Stmt}{f a:Addr}{fd:FuncData}(Fn:Fun K x qual st f fd)(hm:mg x=some (.ref f))(ha:mg x=some (.ref a)){A:Around}{outer:List Env}{s:Shared}{H:Hp}(e0:Ze4 P w K mg base A outer s H):ZDT a s.heap:=by rw[hm]at ha;cases ha;obtain⟨oc,od,kV,doc,pm,an,cdv,ct,osl,rfl,lk,hcd⟩:=Fn.ex;have KX:K.In s.heap:=e0.mod.kin.keeps λb o e=>(e0.bs b o e).1;exact⟨_,_,_,_,KX _ _ lk⟩
theorem Zh7{P:Program}{w:World}{K:ZyK}{mg:Str->Option Value}{base:Heap}{k:Nat}{x:Str}{M:List PyData->Option PyData}{a:Addr}(C:Callee P w K mg base k x M)(ha:mg x=some (.ref a)){A:Around}{outer:List Env}{s:Shared}{F H:Hp}(e0:Ze4 P w K mg base A outer s H)(sub:Zr F H)
  {us:List Value} {vs:List V} {ds:List PyData} {d:PyData} {Q:VK} (hr:ZaE k A) (tb:Tb H) (nt:NoT F) (rv:Vals vs us) (rs:Zs K F ds vs) (hM:M ds=some d) (kk:∀v F' H',Ext F H F' H'->Rep K F' d v->Q v H') :
  codeAny (model P w) A (.call (.ref a) ⟨us,[]⟩) (CR CX0 outer P w H s Q E0) s:=by
 obtain⟨f,fd,ps,hl,FN,hm,hk,hb⟩:=C.ex;rw[hm]at ha;cases ha;have KX:K.In s.heap:=e0.mod.kin.keeps λb o e=>(e0.bs b o e).1;have hlen:vs.length=ps.length:=by rw[<-rs.1]; exact hl _ _ hM
 refine FN.run A outer s H ⟨us,[]⟩ us vs Q E0 hr e0 ?_ rv ⟨F,ds,d,hlen,sub,tb,nt,rs,hM,kk⟩;have:=hb s us KX (by rw[Zzu,<-rv.length]; exact hlen)
 rwa [Zzu]at this
end
def Zni(tabs:List Addr)(H:Hp):Prop:=(∀b,H b=none\/(∃o xs,H b=some (.frz o (.lst xs)))\/H b=some (.tbl #[]))/\∀T∈tabs,H T=some (.tbl #[])
theorem Zsq{P:Program}{w:World}{K:ZyK}{mg mb:Str->Option Value}{k:Nat}{fa a:Addr}{fd:FuncData}{x:Str}{sp:Sp}{s₁:Shared}{vs:List Value}{ns:List Int}{tabs:List (Addr × Addr)}
  (hT:∀q∈tabs,ZAf K q.1 q.2=true/\K.lookup q.2=none/\s₁.heap.get? q.2=some (ZBF #[]))
  (KX:K.In s₁.heap) (hns:s₁.heap.Ns Zzr mg) (hb:s₁.heap.Ns ZCY mb) (hbb:∀x:Str,x ≠ "__name__"->mb x=ZzS x) (hlim:s₁.heap.NoLimit) (hg:s₁.gens=#[])
  (ha:s₁.heap.get? a=some { cls:=.type "list",data:=.seq vs.toArray }) (hi:IntsAre vs ns) (hl:ns.length<=sizeLine) (hr:ZaE k callerA)
  (hbm:PyProof.Rows.BMain s₁.heap mg) (F:∀base:Heap,K.In base->base.Ns Zzr mg->BMod base mg->ZdB P w K mg base CX0 k fa fd [x] sp) (hbind:∀(s:Shared) (u:Value),BindsTo s fd ⟨[u],[]⟩ [(x,u)])
  (hsp:∀H:Hp,Zni (tabs.map (·.2)) H->SqL K H a (ns.map V.int)->sp [.ref a] H (λv _=>v=.bl true) λ_ _ _=>False) :
  codeAny (model P w) callerA (.call (.ref fa) ⟨[.ref a],[]⟩) (λr s'=>r=.ok (.ret (.bool true))/\OldK s₁.heap s'.heap/\s'.os=s₁.os/\AllBare s'.gens) s₁:=by
 have rv:=Zmx hi;have lenV:=hi.length;have tne:∀q∈tabs,q.2≠a:=λq hq z=>by have:=(hT q hq).2.2;rw[z,ha]at this; cases this
 have core:∀oS:Option HO,(oS=none\/∃o xs,oS=some (.frz o (.lst xs)))->(∀H:Hp,H a=oS->SqL K H a (ns.map V.int))->(∀H:Hp,∀u,oS=some u->Z1 P w H s₁.heap a u)->(oS≠none->K.lookup a=none) ->
   codeAny (model P w) callerA (.call (.ref fa) ⟨[.ref a],[]⟩) (λr s'=>r=.ok (.ret (.bool true))/\OldK s₁.heap s'.heap/\s'.os=s₁.os/\AllBare s'.gens) s₁:=by
  intro oS hO hS hok0 hK;generalize hH:(λb:Addr=>if b=a then oS else if b∈tabs.map (·.2)then some (HO.tbl #[])else none)=H;have Ha:H a=oS:=by rw[<-hH]; exact if_pos rfl
  have Ht:∀T∈tabs.map (·.2),H T=some (.tbl #[]):=λT hT'=>by obtain⟨q,hq,e⟩:=ZyU.mp hT';rw[<-hH];show(if T=a then oS else if T∈tabs.map (·.2)then some (HO.tbl #[])else none)=_;rw[if_neg (by rw[<-e]; exact tne q hq),if_pos hT']
  have Hc:∀b u,H b=some u->(b=a/\oS=some u)\/(b∈tabs.map (·.2)/\u=.tbl #[]):=λb u e=>by
   rw[<-hH]at e;dsimp only at e;split at e
   ·rename_i h; exact .inl ⟨h,e⟩
   ·split at e
    ·rename_i h; cases e; exact .inr ⟨h,rfl⟩
    ·cases e
  have tget:∀T∈tabs.map (·.2),s₁.heap.get? T=some (ZBF #[])/\K.lookup T=none/\∃c,ZAf K c T=true:=λT hT'=>by obtain⟨q,hq,e⟩:=ZyU.mp hT';subst e;exact⟨(hT q hq).2.2,(hT q hq).2.1,q.1,(hT q hq).1⟩
  have hok:HOk P w H s₁.heap:=λb u e=>by
   rcases Hc b u e with⟨rfl,e'⟩ | ⟨h,rfl⟩
   ·exact hok0 H u e'
   ·exact(tget b h).1
  have base_of:∀{b:Addr} {o:Obj},s₁.heap.get? b=some o->H b=none->(Zhe s₁.heap H).get? b=some o:=λe n=>ZtT e n;have noA:∀{b:Addr} {o:Obj} {es:Array DictEntry} {ep:Nat},s₁.heap.get? b=some o->o.data=.dict es ep->H b=none:=λ{b o es ep} e d=>by
   cases q:H b with
   | none=>rfl
   | some u =>
    rcases Hc b u q with⟨rfl,_⟩ | ⟨h,_⟩
    ·rw[ha]at e; cases e
     have d':Data.seq vs.toArray _=Data.dict es ep:=d;cases d'
    ·rw[(tget b h).1]at e; cases e; cases d
  have nsK:∀{b:Addr} {m:Str->Option Value},s₁.heap.Ns b m->(Zhe s₁.heap H).Ns b m:=λ{b m} ⟨o,es,ep,e,d,r⟩=>⟨o,es,ep,base_of e (noA e d),d,r⟩;have hKb:K.In (Zhe s₁.heap H):=λb o e=>base_of (KX b o e) (by
   cases q:H b with
   | none=>rfl
   | some u =>
    rcases Hc b u q with⟨rfl,e'⟩ | ⟨h,_⟩
    ·rw[hK (by rw[e']; simp)]at e; cases e
    ·rw[(tget b h).2.1]at e; cases e)
  have hM:Mod K mg (Zhe s₁.heap H):=⟨hKb,nsK hns,⟨mb,nsK hb,hbb⟩,let ⟨mc,h1,h2⟩:=hlim; ⟨mc,nsK h1,h2⟩⟩;have e0:Ze4 P w K mg (Zhe s₁.heap H) callerA [] s₁ H:=⟨rfl,hM,λb o e=>Zvg e,ZCl (Zsc _ _),trivial,λb hb=>absurd (show b∈([]:List Addr) from hb) (by simp),hok,.of_eq hg⟩;have hOT:Zni (tabs.map (·.2)) H:=⟨λb=>by
   cases q:H b with
   | none=>exact .inl rfl
   | some u =>
    rcases Hc b u q with⟨_,e'⟩ | ⟨_,rfl⟩
    ·rcases hO with z | ⟨o,xs,z⟩
     ·rw[z]at e'; cases e'
     ·rw[z]at e'; cases e'; exact .inr (.inl ⟨o,xs,rfl⟩)
    ·exact .inr (.inr rfl),Ht⟩
  have hBM:BMod (Zhe s₁.heap H) mg:=by
   obtain⟨bm,ob,b1,b2,b3,b4,b5,b6⟩:=hbm;refine⟨bm,ob,b1,b2,λz=>?_,base_of b3 ?_,b4,b5,b6⟩
   ·obtain⟨o,es,ep,e,d,_⟩:=hns
    rw[z,e]at b3; cases b3; rw[b6]at d; cases d
   ·cases q:H bm with
    | none=>rfl
    | some u =>
     rcases Hc bm u q with⟨z,_⟩ | ⟨h,_⟩
     ·rw[z,ha]at b3; cases b3; exact absurd (show(ZAm "list":Value)=.type "module" from b4) (by decide)
     ·rw[(tget bm h).1]at b3; cases b3; cases b4
  refine ZAX ((F _ hKb (nsK hns) hBM).run callerA [] s₁ H ⟨[.ref a],[]⟩ [.ref a] [.ref a] _ _ hr e0 (hbind s₁ (.ref a)) (.cons rfl .nil) (hsp H hOT (hS H Ha))) λr s' h=>?_;cases r with
  | error e=>exact ZzZ h
  | ok fl =>
   cases fl with
   | next=>exact ZzZ h
   | brk=>exact ZzZ h
   | cont=>exact ZzZ h
   | ret u =>
    obtain⟨v,H',os,bare,un,hok',r',q⟩:=h;have q':v=.bl true:=q;subst q';obtain rfl:u=ZzT true:=r';refine⟨rfl,⟨λb o e=>?_,λb o e=>un.there b o e (by simp)⟩,os,bare⟩;cases q:H b with
    | none=>exact .inl (un.keep b o e q (by intro z; exact absurd (show b∈([]:List Addr) from z) (by simp)) (by simp))
    | some u =>
     rcases Hc b u q with⟨rfl,e'⟩ | ⟨h,rfl⟩
     ·rcases hO with z | ⟨ob,xs,z⟩
      ·rw[z]at e'; cases e'
      ·rw[z]at e'; cases e'
       have z2:=un.frzs _ ob _ q;obtain⟨e1,_⟩:=hok _ _ q;obtain⟨e2,_⟩:=hok' _ _ z2;rw[e]at e1; cases e1;exact .inl e2
     ·obtain⟨g1,_,c,g3⟩:=tget b h
      rw[g1]at e; cases e;obtain⟨more,z2⟩:=un.tbls b _ q;have z3:s'.heap.get? b=some { cls:=.none,data:=.fields (#[]++more) }:=hok' b _ z2;refine .inr (.inl ⟨((ZDN KX g3).tab g1).isCodeTable,rfl,#[],more,rfl,z3⟩)
 cases hk:K.lookup a with
 | some o=>have e:=KX a o hk;rw[ha]at e;cases e;exact core none (.inl rfl) (λH _=>.inr ⟨_,vs.toArray,_,hk,rfl,rfl,rfl,by rw[ZyX,lenV]; exact hl,by simpa using rv⟩) (λH u z=>by cases z) λz=>absurd rfl z
 | none=>refine core (some (.frz { cls:=.type "list",data:=.seq vs.toArray } (.lst (ns.map V.int)))) (.inr ⟨_,_,rfl⟩) (λH e=>.inl (.inr ⟨_,e⟩)) (λH u z=>?_) λ_=>hk;cases z;exact⟨ha,by rw[ZyJ]; exact hl,vs,_,rv,ha⟩
theorem Zt3{l:ZDr}{n k:Nat}{q:Program}{loose:List Str}{XP:(Str->Option Value)->Heap->Prop}{YP:World->Heap->Prop}{d:DefRec}{K:Params->ZyK}{sp:World->Sp}{x:Str}{tabs:List (Addr × Addr)}
  (hn:l.most=some n) (hn2:n<=sizeLine) (hdf:d.params.defaults=[]) (hr:ZaE k callerA)
  (hY:∀(w:World) (h:Heap),YP w h->(K w.params).In h) (hYT:∀(w:World) (h:Heap),YP w h->∀q∈tabs,h.get? q.2=some (ZBF #[]))
  (hT:∀(w:World),∀q∈tabs,ZAf (K w.params) q.1 q.2=true/\(K w.params).lookup q.2=none)
  (F:∀(w:World) (mg:Str->Option Value) (fa:Addr) (h:Heap),(K w.params).In h->h.Ns Zzr mg->mg d.name=some (.ref fa) ->
   ∃fd:FuncData,(∀(s:Shared) (u:Value),BindsTo s fd ⟨[u],[]⟩ [(x,u)]) /\
    ∀base:Heap,(K w.params).In base->base.Ns Zzr mg->BMod base mg->ZdB l.prog w (K w.params) mg base CX0 k fa fd [x] (sp w))
  (hsp:∀(w:World) (H:Hp) (a:Addr) (ns:List Int),ns.length<=n->Zni (tabs.map (·.2)) H->SqL (K w.params) H a (ns.map V.int)->sp w [.ref a] H (λv _=>v=.bl true) λ_ _ _=>False) :
  PySem.W.WalkO q loose XP YP l.row.toRowW d [] (λf vs=>PySem.call f vs):=by
 refine Att.ZpO hn hdf λw s₀ s₁ mg mb fa o pm cd doc a vs ns G Y ho hd hcd hmg hobj hints hlen hg=>?_;have KX:=hY w _ Y;obtain⟨fd,hb,hF⟩:=F w mg fa _ KX G.T.g hmg;exact Zsq (λq hq=>⟨(hT w q hq).1,(hT w q hq).2,hYT w _ Y q hq⟩) KX G.T.g G.T.b G.T.builtins G.T.nolimit hg hobj hints (ZzH hlen hn2) hr G.T.bmain hF hb λH hO hS=>hsp w H a ns hlen hO hS
end HP
namespace HP
open PySem PySem.Spec PyProof.Rows L2
def Zxa:Stmt->Option (Arguments × Expr × Scope)
 | .Return (some (.Call _ [_,.Lambda a b s _] _ _)) _=>some (a,b,s)
 | .Assign _ (.Call _ [_,.Lambda a b s _] _ _) _=>some (a,b,s)
 | _=>none
def ZlW(st:Stmt):Arguments × Expr × Scope:=((ZaY st).findSome? Zxa).getD default
abbrev Zrg(st:Stmt):Arguments:=(ZlW st).1
abbrev Zl3(st:Stmt):Expr:=(ZlW st).2.1
abbrev ZfA(st:Stmt):Scope:=(ZlW st).2.2
theorem Zk3{P:Program}{w:World}{K:ZyK}{mg:Str->Option Value}{base:Heap}{A:Around}{outer:List Env}{s:Shared}{F H:Hp}{p:Addr}{params:Arguments}{body:Expr}{scope:Scope}{names:List Str}{cs:List PyData}
  (C:Clo K F p params body scope names cs) (e0:Ze4 P w K mg base A outer s H) (sub:Zr F H):ZDT p s.heap:=by
 obtain⟨qual,pm,ctv,c,oc,clos,h1,_⟩:=C.ex;exact⟨_,_,_,_,Zcx (e0.hok p _ (sub _ _ h1))⟩
section
variable[FX]
theorem Zv0{K:ZyK}{M:List PyData->Option PyData}{H:Hp}{a:Addr}{ns:List Int}{tabs:List Addr}(hO:Zni tabs H)(ht:∀T q,(T,q)∈FX.tl->T∈tabs)(hS:SqL K H a (ns.map V.int))(hM:M [.list (HM.ofInts ns)]=some (.bool true)) :
  spD K 1 M [.ref a] H (λv _=>v=.bl true) λ_ _ _=>False:=by
 refine⟨Zc4 H,[.list (HM.ofInts ns)],.bool true,rfl,Zmt,λT q hT=>⟨#[],hO.2 T (ht T q hT),trivial,λpos c hc=>by cases hc⟩,.drop,.one (Rep.drop (.lst hS (Zen (K:=K) (F:=H) ns).1 (Zen ns).2)),hM,λv F1 H1 _ r=>r.bool_inv⟩
end
end HP
namespace HP
open PySem PySem.Spec PyProof.Rows L2
variable[FX]
end HP
namespace HP
open PySem PySem.Spec PyProof.Rows L2
variable[FX]
end HP
namespace HP
open PySem PySem.W PyProof.Rows
@[reducible] def ZlF:KeyOrd where
 α:=Bool
 blt:=λa b=>!a&&b
 irrefl:=by decide
 trans:=by decide
 negTrans:=by decide
 total:=by decide
theorem Zgj:∀(bs:List Bool),(bs.map ZzT).mapM firstOfTuple'=pure ((bs.map ZzT).map λ_=>none)
 | []=>by simp
 | b::bs=>by rw[ZyS,List.mapM_cons,show firstOfTuple' (.bool b)=pure none from rfl,Zgj bs]; simp
theorem ZfG:∀(bs:List Bool),(bs.map ZzT).mapM typeOf=pure ((bs.map ZzT).map λ_=>ZAm "bool")
 | []=>by simp
 | b::bs=>by rw[ZyS,List.mapM_cons,ZfG bs];show(pure (ZAm "bool") >>= λb=>pure _ >>= λbs=>pure (b::bs))=_;simp
theorem Zm3{bs:List Bool}(h:2<=bs.length):keyKind' (bs.map ZzT).toArray=pure oneType':=by
 obtain⟨b,c,bs,rfl⟩:∃b c r,bs=b::c::r:=by
  match bs,h with
  | b::c::r,_=>exact⟨b,c,r,rfl⟩
 rw[keyKind'_eq,List.mapM_toArray,Zgj];simp only[map_pure,pure_bind];rw[if_neg (by simp),if_neg (by simp)];rw[oneTypeOnly'_eq,List.mapM_toArray,ZfG];simp only[map_pure,pure_bind];have hall:((ZA3 (λ_=>ZAm "bool") (ZA3 ZzT (b::c::bs))).toArray.all λx=>x==ZAm "bool")=true:=by simp only[List.all_toArray,ZDU,ZyR];intro _ _;rfl
 have h0:(ZA3 (λ_=>ZAm "bool") (ZA3 ZzT (b::c::bs))).toArray[0]?=some (ZAm "bool"):=by simp
 rw[h0];simp only[hall,if_true,pure_bind,Option.isSome_some]
section
variable{prog:Program}{w:World}{A:Around}{E:Value->Shared->Prop}{s:Shared}
theorem ZuQ{a b:Bool}{Q:Bool->Shared->Prop}(h:Q (!a&&b) s):wpAny (model prog w) A (keyLt' oneType' (.bool a) (.bool b)) Q E s:=by
 rw[keyLt'_oneType,oneLt'_eq];simp only[if_true];refine ZyI (wpAny_cRoomFor_byValue rfl ?_);refine ZyI (wpAny_callSpecialIfBound?_slot (PySem.typeIs_bool s a) F.slot_bool_lt ?_);refine ZzF F.slot_bool_lt (PySem.typeIs_bool s a) entry_int_lt ?_ (args_int_lt _ _);have e:Builtin.«int.__lt__» { pos:=[ZzT a,ZzT b] }=ret (.bool (!a&&b)):=by cases a<;>cases b<;>rfl
 rw[e];exact ZyM ⟨_,rfl,ZAy h⟩
theorem Zsz{a:Addr}{vs:List Value}{ts:List Bool}{n:Nat}{P:PySem.Fin->Shared->Prop}(ho:s.heap.get? a=some (seqObj "list" vs.toArray n))(hl:ts.length=vs.length)
  (hT:vs=ts.map ZzT) (h64:vs.length<64)
  (h:∀p:List Nat,p.Perm (ZyP vs.length)->(p.map λi=>ts.getD i false).Pairwise (λx y=>(!y&&x)=false)->P (.done (.ret .none)) { s with heap:=ZBK s.heap a vs (p.map λi=>vs.getD i Zzs).toArray }) :
  wpAny (model prog w) A (Builtin.«list.sort» ⟨[.ref a],[]⟩) P E s:=by
 rw[list_sort_plain];have ha:a<s.heap.objs.size:=Zy1 ho;refine ZyI (listItems_at ho rfl (ZyI (ZCN ho rfl ?_ (by rw[ZyX,ZzM]; omega) (ZzN _))));obtain⟨e1,ho1⟩:∃e1,(s.heap.update a (ZBr λ_=>#[])).get? a=some (seqObj "list" #[] e1):=⟨_,get?_update_seq ho (λ_=>#[])⟩;refine ZyI (ZDw ho1 rfl ?_);refine ZyI (wpAny_newTuple ?_ (by show vs.length<=_; rw[ZzM]; omega));refine ZyI (ZBM ?_ (ZzN _));refine Zzx ?_;generalize hG:((s.heap.update a (ZBr λ_=>#[])).push (seqObj "tuple" vs.toArray 0)).push (seqObj "list" #[] 0)=g;have ho6:g.get? a=some (seqObj "list" #[] e1):=by rw[<-hG,ZBa _ _ _ (by rw[size_push',ZBh]; exact Zzc (ZA9 ha)),ZBa _ _ _ (by rw[ZBh]; exact Zzc ha)];exact ho1
 show wpAny (model prog w) A _ P E { s with heap:=g };dsimp only;have fin:∀(st':SortSt) (p:List Nat),p.Perm (ZyP vs.length)->(p.map λi=>ts.getD i false).Pairwise (λx y=>(!y&&x)=false)->(arrOf st').map (·.2)=(p.map λi=>vs.getD i Zzs).toArray->ZDa st'=none ->
   wpAny (model prog w) A (do
    let touched:=(<-seqEpoch a) != e1
    ZDj (.ref a) λ_=>(arrOf st').map (·.2)
    if let some e:=ZDa st' then rule "list.sort.comparison-raised"; throw e
    if touched then rule "list.sort.modified"; raiseError "ValueError" "list modified during sort"
    ret .none) P E { s with heap:=g }:=by
  intro st' p hp hs har hf;refine ZyI (ZDw ho6 rfl ?_);rw[har];refine ZyI (ZCN ho6 rfl ?_ (ZzN _) (by show(p.map λi=>vs.getD i Zzs).toArray.size<=_; rw[ZyX,ZyJ,hp.length_eq,ZAa,ZzM]; omega));rw[hf];simp only[bne_self_eq_false,ZAs,if_false];refine ZyM ?_;have:=h p hp hs;unfold ZBK at this;rw[hG]at this;exact this
 by_cases h2:vs.toArray.size<2
 ·rw[if_pos h2,if_pos h2]
  refine ZyI (ZyM ?_);rw[StateT.run_pure];refine ZyI (ZyM ?_);refine fin (SortSt.mk' general' (vs.toArray.zip vs.toArray) #[] 7 none) (ZyP vs.length) (.refl _) ?_ ?_ rfl
  ·rw[ZyX]at h2
   have:vs.length=0\/vs.length=1:=by omega
   rcases this with e | e<;>rw[e]<;>simp
  ·rw[ZyX]at h2
   show Array.map (·.2) (vs.toArray.zip vs.toArray)=_
   match vs,h2 with
   | [],_=>simp
   | [v],_=>simp
 ·rw[if_neg h2,if_neg h2]
  rw[ZyX]at h2;refine ZyI ?_;rw[show keyKind' vs.toArray=pure oneType' by rw[hT]; exact Zm3 (by rw[hT,ZyJ]at h2; omega)];refine ZyM ?_;refine ZyI (Zz4 (kat_run (ks:=vs) (Q:=λst' s'=>s'={ s with heap:=g }/\∃p:Array Nat,Pm vs.length p/\Up ZlF (λi=>ts.getD i false) p vs.length/\arrOf st'=p.map (kas_item (vs.toArray.zip vs.toArray))/\ZDa st'=none)
   (G:=λp s'=>s'={ s with heap:=g }/\Pm vs.length p/\Up ZlF (λi=>ts.getD i false) p vs.length) rfl (by omega) h64 (λp' st' s' a1 a2 a3 a4=>⟨a4.1,p',a4.2.1,a4.2.2,a2,a3⟩) ?_) ?_ λ_ _ e=>e)
  ·refine ZlN (o:=orc ZlF λi=>ts.getD i false) (n:=vs.length) (λi j C hi hj hC=>?_) _ (Zmi (by omega) λp h1 h2=>⟨rfl,h1,h2⟩)
   have gi:vs.getD i Zzs=.bool (ts.getD i false):=by rw[hT]; simp[ZzP,show i<ts.length by omega]
   have gj:vs.getD j Zzs=.bool (ts.getD j false):=by rw[hT]; simp[ZzP,show j<ts.length by omega]
   show wpAny (model prog w) A (keyLt' _ (vs.getD i Zzs) (vs.getD j Zzs)) C _ _;rw[gi,gj];exact ZuQ hC
  ·rintro ⟨⟨⟩,st'⟩ s' ⟨rfl,p,hp,hu,har,hf⟩
   refine fin st' p.toList ?_ ?_ (kat_snds rfl har) hf
   ·have:=ZBL.mp hp.perm
    simpa using this
   ·rw[ZCX,ZBR]
    intro i j hi hj hij;have hsz:=hp.size;have q:=hu i j (ZAB hij) (by rw[Zze]at hj; omega);unfold Ka at q;rw[show p.getD i 0=p.toList[i] by simp[ZAE,show i<p.size by simpa using hi],show p.getD j 0=p.toList[j] by simp[ZAE,show j<p.size by simpa using hj]]at q;exact q
end
end HP
namespace HP
open PySem PySem.Spec PyProof.Rows L2
variable[FX]
section
variable{X:Cx}{a b c e:Expr}{f:HM.BF}{pos p:Pos}{es:List Expr}
omit [FX]in
theorem Zmz:∀{ds:List PyData} {bs:List Bool},HM.ZbQ ds=some bs->ds=bs.map Zzl
 | [],bs,h=>by cases h; rfl
 | d::ds,bs,h=>by
  cases d with
  | bool b=>obtain⟨r,h1,rfl⟩:=ZyL.mp h;rw[Zmz h1];rfl
  | none=>cases h
  | int _=>cases h
  | str _=>cases h
  | list _=>cases h
  | tuple _=>cases h
  | dict _=>cases h
theorem ZmD{K:ZyK}{F:Hp}:∀{bs:List Bool} {vs:List V},Zs K F (bs.map Zzl) vs->vs=bs.map V.bl
 | [],vs,h=>by
  have:=h.1;cases vs with
  | nil=>rfl
  | cons _ _=>simp at this
 | b::bs,vs,h=>by
  cases vs with
  | nil=>have:=h.1; simp at this
  | cons v vs=>have h0:=h.2 0 (.bool b) v rfl rfl;cases h0;rw[ZmD (bs:=bs) (vs:=vs) ⟨by have:=h.1; simpa using this,λi d v e1 e2=>h.2 (i+1) d v (by simpa using e1) (by simpa using e2)⟩];rfl
omit [FX]in
theorem Zlm:∀{bs:List Bool} {us:List Value},Vals (bs.map V.bl) us->us=bs.map ZzT
 | [],us,h=>by cases h; rfl
 | b::bs,us,h=>by
  cases h with
  | cons r h=>rw[Zlm h];cases r;rfl
omit [FX]in
theorem Zli:∀(bs:List Bool),Vals (bs.map V.bl) (bs.map ZzT)
 | []=>.nil
 | b::bs=>.cons rfl (Zli bs)
theorem ZqZ{K:ZyK}{F:Hp}(bs:List Bool):Zs K F (bs.map Zzl) (bs.map V.bl):=by refine⟨by simp,λi d v e1 e2=>?_⟩;rw[Zy2]at e1 e2;obtain⟨b,hb,rfl⟩:=ZyL.mp e1;rw[hb]at e2;cases e2;exact .bl b
omit [FX]in
theorem Zuj{bs ms:List Bool}(h:ms.Perm bs)(hs:ms.Pairwise (λx y=>(!y&&x)=false)):ms=HM.ZdO bs:=by
 refine ZfL (R:=λx y=>(!y&&x)=false) (by decide) (h.trans ?_) hs ?_
 ·unfold HM.ZdO
  have:=List.filter_append_perm (λb=>!b) bs;have e:(λx=>decide ¬(!x)=true)=λb:Bool=>b:=by funext x; cases x<;>rfl
  first
  | (rw[e]at this; exact this.symm)
  | (simp at this; exact this.symm)
 ·unfold HM.ZdO
  rw[ZCn];refine⟨?_,?_,λx hx y hy=>?_⟩
  ·refine ZDg (R:=λ_ _=>True) (λ{x y} hx hy _=>?_) (ZDk λ_ _=>trivial)
   have:=(Zy6.mp hx).2;cases x<;>cases y<;>simp_all
  ·refine ZDg (R:=λ_ _=>True) (λ{x y} hx hy _=>?_) (ZDk λ_ _=>trivial)
   have:=(Zy6.mp hy).2;cases x<;>cases y<;>simp_all
  ·have:=(Zy6.mp hx).2
   cases x<;>cases y<;>simp_all
theorem Zo3(hc:X.calm=true):ZaM X (.builtin "sorted") (λxs H Q=>∃p F ds bs,xs=[.ref p]/\Zr F H/\Zhc X.K F H p ds/\HM.ZbQ ds=some bs/\ds.length<64/\∀l ws,H l=none->Zs X.K (Zbw F H) ((HM.ZdO bs).map Zzl) ws->Q (.ref l) (upd H l (.lst ws))):=by
 intro pins s σ H xs us Q I r h;obtain⟨p,F,ds,bs,rfl,sub,hsrc,hbs,h64,q⟩:=h;obtain⟨u,rfl,rx⟩:=vals1 r;cases rx;obtain⟨vs,rv,go⟩:=hsrc.gath I sub;have eds:=Zmz hbs;subst eds;rw[ZyJ]at h64;have evs:=ZmD rv;subst evs;refine ZAJ ZDx ZDb ZDc (ZDd _) ?_;unfold Builtin.«sorted»;refine ZyI (m:=checkCount "sorted" 1 1 _) (ZyM ?_);refine ZyI (go _ _ _ (I.ok.hd hc) λus h' tk ru kp=>?_);have eus:=Zlm ru;subst eus;refine ZyI (ZBM ?_ (by rw[ZzM]; simp; omega));have hoL:(h'.push (seqObj "list" (bs.map ZzT).toArray 0)).get? h'.objs.size=some (seqObj "list" (bs.map ZzT).toArray 0):=Zy4 _ rfl;have fin:∀(out:Array Value) (ws:List V),Vals ws out.toList->Zs X.K (Zbw F H) ((HM.ZdO bs).map Zzl) ws->ws.length<64->EP X pins σ Q (.ref h'.objs.size) { s with heap:=ZBK (h'.push (seqObj "list" (bs.map ZzT).toArray 0)) h'.objs.size (bs.map ZzT) out,toks:=tk }:=λout ws rw' rd hw=>by obtain⟨e,he⟩:=ZCO (out:=out) hoL;have I1:Inv X pins σ H { s with heap:=h',toks:=tk }:=I.kept kp;refine⟨.ref h'.objs.size,_,I1.laid (a:=h'.objs.size) (o:=.lst ws) (t':=tk) (λb o e1=>?_) (ZyT _) ⟨by rw[ZzM]; omega,out.toList,e,rw',by simpa using he⟩,rfl,q _ ws (I1.hok.fresh (ZyT _)) rd⟩;exact Zfj (Zzc (Zy1 e1)) (ZyN _ e1)
 show wpAny _ _ _ _ _ { s with heap:=h'.push (seqObj "list" (bs.map ZzT).toArray 0),toks:=tk };refine ZyI (Zzx (ZzF ZBC ⟨_,hoL,rfl⟩ ZBu (Zsz (ts:=bs) hoL (by simp) rfl (by simp; omega) λpm hp hs=>⟨_,rfl,?_⟩) (ZBD _)));refine ZyM ⟨_,rfl,?_⟩;rw[ZyJ]at hp;have hmem:∀i∈pm,i<bs.length:=λi hi=>Zy7.mp (hp.mem_iff.mp hi);have e:(pm.map λi=>bs.getD i false)=HM.ZdO bs:=by
  refine Zuj ?_ hs;refine(hp.map _).trans ?_;have:(ZyP bs.length).map (λi=>bs.getD i false)=bs:=by refine ZDe (by simp) λi h1 h2=>?_;simp[ZzP,h2]
  rw[this]
 have ev:(pm.map λi=>(bs.map ZzT).getD i Zzs)=(HM.ZdO bs).map ZzT:=by rw[<-e,Zza];refine Zz7 λi hi=>?_;have:=hmem i hi;simp[ZzP,this]
 rw[ev];have hl:(HM.ZdO bs).length<64:=by rw[<-e,ZyJ,hp.length_eq,ZAa]; exact h64
 exact fin _ ((HM.ZdO bs).map V.bl) (by simpa using Zli (HM.ZdO bs)) (ZqZ _) (by rw[ZyJ]; exact hl)
theorem ZqB(hm:X.mg "sorted" = none)(hc:X.calm=true)(ha:XB X a f)(hg:Gl X "sorted":=by rfl)(hs:Zy0 [a] X.env=[(false,eval a X.env)]:=by rfl):XF X (.Call (.Name "sorted" p) [a] [] pos) (HM.Zky f):=by
 intro r d h;unfold HM.Zky at h;split at h
 ·rename_i x hx
  split at h
  ·rename_i ds hds
   split at h
   ·rename_i bs hbs
    split at h
    ·rename_i h64
     cases h;refine PE.imp (Zcf (Zo3 hc) hg hm ZgJ (ZdD ha hx hs) (he:=hs)) λσ H Q ⟨F0,H0,F,at_,k⟩=>?_;refine⟨F0,H0,F,at_,λv fp F1 H1 x1 r1=>?_⟩;obtain⟨l,e1,src⟩:=Zmk x1.sub r1 hds;subst e1;exact⟨l,F1,ds,bs,rfl,x1.sub,src,hbs,h64,λl' ws hl' rs=>ZdE (P:=λv _ H'=>Q v H') x1.tups rs hl' k⟩
    ·cases h
   ·cases h
  ·cases h
 ·cases h
end
end HP
namespace HP
open PySem PySem.Spec PyProof.Rows L2
variable[FX]
inductive Zoq(K:ZyK)(F H:Hp)(p:Addr):List PyData->Prop where
 | fz {o0:Obj} {kvs:List (List Key × V)} (h:H p=some (.frz o0 (.dT kvs))):Zoq K F H p (kvs.map λq=>.tuple (q.1.map HM.Zao))
section
variable{X:Cx}{pins:List (Addr × Obj)}{σ:L2.St}{H F:Hp}{s:Shared}{p:Addr}{ds:List PyData}
theorem Zoq.gath(I:Inv X pins σ H s)(sub:Zr F H)(h:Zoq X.K F H p ds):∃vs,Zs X.K (Zbw F H) ds vs/\∀(A:Around) (E:Value->Shared->Prop) (R:List Value->Shared->Prop),A.handled=none ->
  (∀us h' tk,Vals vs us->(∀b o,s.heap.get? b=some o->h'.get? b=some o)->R us { s with heap:=h',toks:=tk })->wpAny (model X.prog X.w) A (collect (.ref p)) R E s:=by
 cases h with
 | @fz o0 kvs h =>
  obtain⟨_,z,lo,xs,rel,o,es,ep,h1,h2,h3,h4,h5⟩:=(show Z1 X.prog X.w H s.heap p (.frz o0 (.dT kvs)) from I.hok p _ h);have hl:kvs.length=xs.length:=ZAS rel;have hes:es.size=xs.length:=by rw[<-Zze,h4,ZyJ]
  have hm:ZdC s.heap p es ep:=⟨o,h1,h2,h3⟩;refine⟨xs.map λq=>V.ref q.2.1,?_,λA E R hh k=>Zfm (Zqx (es:=es) (ep:=ep) lo) hh hm (by omega) λh' tk acc kp hsz hacc=>k _ h' tk ?_ kp⟩
  ·clear h4 hes hl z h h5
   induction rel with
   | nil=>exact .nil
   | @cons p0 _ _ _ hq _ ih=>obtain⟨q1,q2,_⟩:=hq;rw[ZyS,ZyS];refine .cons ?_ ih;have rk:=Zfs (K:=X.K) (F:=Zbw F H) p0.1;exact .tup (Zkk q2) rk.1 rk.2
  ·refine Zfc (by have q:acc.toList.length=acc.size:=Zze; rw[ZyJ,q,hacc.1,hes]) λi v u e1 e2=>?_
   obtain⟨e,q1,q2⟩:=hacc.2 i u (by rw[<-Zzy]; exact e2);subst q2;rw[Zy2]at e1;obtain⟨q,e3,e4⟩:=ZyL.mp e1;subst e4;rw[<-Zzy,h4,Zy2,e3]at q1;cases q1;rfl
theorem Zo8(hc:X.calm=true):ZaM X (.builtin "sorted") (λxs H Q=>∃p F ds ds',xs=[.ref p]/\Zr F H/\Zoq X.K F H p ds/\HM.ZcX ds=some ds'/\∀l ws,H l=none->Zs X.K (Zbw F H) ds' ws->Q (.ref l) (upd H l (.lst ws))):=by
 intro pins s σ H xs us Q I r h;obtain⟨p,F,ds,ds',rfl,sub,hsrc,hsort,q⟩:=h;obtain⟨u,rfl,rx⟩:=vals1 r;cases rx;obtain⟨vs,rv,go⟩:=hsrc.gath I sub;unfold HM.ZcX at hsort;split at hsort
 ·rename_i h64
  have hvl:=rv.1;refine ZAJ ZDx ZDb ZDc (ZDd _) ?_;unfold Builtin.«sorted»;refine ZyI (m:=checkCount "sorted" 1 1 _) (ZyM ?_);refine ZyI (go _ _ _ (I.ok.hd hc) λus h' tk ru kp=>?_);have hul:=ru.length;refine ZyI (ZBM ?_ (by rw[ZzM]; omega));have hoL:(h'.push (seqObj "list" us.toArray 0)).get? h'.objs.size=some (seqObj "list" us.toArray 0):=Zy4 _ rfl;have fin:∀(out:Array Value) (ws:List V),Vals ws out.toList->Zs X.K (Zbw F H) ds' ws->ws.length<64->EP X pins σ Q (.ref h'.objs.size) { s with heap:=ZBK (h'.push (seqObj "list" us.toArray 0)) h'.objs.size us out,toks:=tk }:=λout ws rw' rd hw=>by obtain⟨e,he⟩:=ZCO (out:=out) hoL;have I1:Inv X pins σ H { s with heap:=h',toks:=tk }:=I.kept kp;refine⟨.ref h'.objs.size,_,I1.laid (a:=h'.objs.size) (o:=.lst ws) (t':=tk) (λb o e1=>?_) (ZyT _) ⟨by rw[ZzM]; omega,out.toList,e,rw',by simpa using he⟩,rfl,q _ ws (I1.hok.fresh (ZyT _)) rd⟩;exact Zfj (Zzc (Zy1 e1)) (ZyN _ e1)
  show wpAny _ _ _ _ _ { s with heap:=h'.push (seqObj "list" us.toArray 0),toks:=tk };split at hsort
  ·rename_i ns hns
   cases hsort;have evs:=Zcv hns rv;rw[evs]at ru;have hI:=ZcV ru;refine ZyI (Zzx (ZzF ZBC ⟨_,hoL,rfl⟩ ZBu (list_sort_tree hoL hI (by omega) λout ns' a1 a2 a3=>⟨_,rfl,?_⟩) (ZBD _)));refine ZyM ⟨_,rfl,?_⟩;have e:=Zkz a2 a3;have hl:ns'.length<64:=by rw[a2.length_eq,<-hI.length,<-hul]; omega
   refine fin out (ns'.map V.int) (ZfW a1) ?_ (by rw[ZyJ]; exact hl);rw[<-e];exact Zen ns'
  ·split at hsort
   ·rename_i ts hts
    split at hsort
    ·rename_i hne
     cases hsort;have eds:=ZkC hts;have hT:∀(i:Nat) t,ts[i]?=some t->∃b,us[i]?=some (.ref b)/\TI (h'.push (seqObj "list" us.toArray 0)) b t:=λi t e=>by
      have ed:ds[i]?=some (.tuple (HM.ofInts t)):=by rw[eds]; unfold HM.ZcP; rw[Zy2,e]; rfl
      obtain⟨v,hv,rp⟩:=rv.get ed;generalize hq:HM.ofInts t=q at rp;cases rp with
      | @tupk b x h1 =>
       exfalso;cases t with
       | nil=>cases hq
       | cons a t =>
        injection hq with e1 _
        cases e1
      | @tup b _ xs hb hl hr=>subst hq;obtain⟨u,hu,ru'⟩:=ru.get hv;cases ru';have ev:=Zcv (F:=Zbw F H) (ZlR t) ⟨hl,hr⟩;subst ev;have hH:H b=some (.tup (t.map V.int)):=(Ext.refl sub).tups.sub _ _ hb;obtain⟨z,its,rt,o,h1,h2,n,h3⟩:=(show Z1 X.prog X.w H s.heap b (.tup (t.map V.int)) from I.hok b _ hH);exact⟨b,hu,o,its.toArray,n,ZyN _ (kp b o h1),h2,h3,by simpa using ZcV rt⟩
     have hlt:ts.length=us.length:=by have:=congrArg Zzw eds;unfold HM.ZcP at this;rw[ZyJ]at this;omega
     refine ZyI (Zzx (ZzF ZBC ⟨_,hoL,rfl⟩ ZBu (Zpb hoL hlt hT ?_ (by omega) λpm hp hs=>⟨_,rfl,?_⟩) (ZBD _)))
     ·rw[Zzt]at hne
      rcases hne with z | z
      ·left
       have:=of_decide_eq_true z;omega
      ·right
       intro t ht e;have:=ZyR.mp z t ht;rw[e]at this;cases this
     ·refine ZyM ⟨_,rfl,?_⟩
      have hpl:pm.length=us.length:=by rw[hp.length_eq,ZAa]
      have hmem:∀i∈pm,i<us.length:=λi hi=>Zy7.mp (hp.mem_iff.mp hi);have e:(pm.map λi=>ts.getD i [])=HM.Zdp ts:=by
       refine Zot ?_ hs;refine(hp.map _).trans ?_;have:(ZyP us.length).map (λi=>ts.getD i [])=ts:=by refine ZDe (by simp[hlt]) λi h1 h2=>?_;simp at h1;simp[ZzP,show i<ts.length by omega]
       rw[this]
      refine fin _ (pm.map λi=>vs.getD i V.non) ?_ ?_ (by rw[ZyJ]; omega)
      ·refine Zfc (by simp) λk v u e1 e2=>?_
       rw[Zy2]at e1;rw[List.toList_toArray,Zy2]at e2;obtain⟨i,hi,rfl⟩:=ZyL.mp e1;rw[hi]at e2;cases e2;have hlt':=hmem i (Zzj hi);have hv:vs[i]?=some (vs.getD i V.non):=by simp[ZzP,show i<vs.length by omega]
       obtain⟨u,hu,ru'⟩:=ru.get hv;have:us.getD i Zzs=u:=by simp[ZzP,hu]
       show RelV _ (us.getD i Zzs);rw[this];exact ru'
      ·rw[<-e]
       refine⟨by unfold HM.ZcP; simp,λk d v e1 e2=>?_⟩;unfold HM.ZcP at e1;rw[Zy2,Zy2]at e1;rw[Zy2]at e2;obtain⟨i,hi,rfl⟩:=ZyL.mp e2;rw[hi]at e1;have hlt':=hmem i (Zzj hi);have hd:ds[i]?=some d:=by
        rw[eds]; unfold HM.ZcP;rw[Zy2];have:ts[i]?=some (ts.getD i []):=by simp[ZzP,show i<ts.length by omega]
        rw[this];exact e1
       have hv:vs[i]?=some (vs.getD i V.non):=by simp[ZzP,show i<vs.length by omega]
       exact rv.2 i d _ hd hv
    ·cases hsort
   ·cases hsort
 ·cases hsort
def Zw4(K:ZyK)(F H:Hp)(p:Addr)(ds:List PyData):Prop:=Zhc K F H p ds\/Zoq K F H p ds
theorem ZoW(hc:X.calm=true):ZaM X (.builtin "sorted") (λxs H Q=>∃p F ds ds',xs=[.ref p]/\Zr F H/\Zw4 X.K F H p ds/\HM.ZcX ds=some ds'/\∀l ws,H l=none->Zs X.K (Zbw F H) ds' ws->Q (.ref l) (upd H l (.lst ws))):=by
 intro pins s σ H xs us Q I r ⟨p,F,ds,ds',e,sub,src,hs,q⟩;rcases src with src | src
 ·exact Zjk hc pins s σ H xs us Q I r ⟨p,F,ds,ds',e,sub,src,hs,q⟩
 ·exact Zo8 hc pins s σ H xs us Q I r ⟨p,F,ds,ds',e,sub,src,hs,q⟩
end
section
variable{X:Cx}{a b c e:Expr}{f:HM.BF}{pos p:Pos}{es:List Expr}
theorem ZqC(hm:X.mg "sorted" = none)(hc:X.calm=true)(ha:XB X a f)(hg:Gl X "sorted":=by rfl)(hs:Zy0 [a] X.env=[(false,eval a X.env)]:=by rfl):XF X (.Call (.Name "sorted" p) [a] [] pos) (HM.Zed f):=by
 intro r d h;unfold HM.Zed at h;split at h
 case h_2=>cases h
 rename_i es hx;split at h
 case h_2=>cases h
 rename_i kvs hk;obtain⟨ds',h1,h2⟩:=ZyL.mp h;subst h2;refine PE.imp (Zcf (ZoW hc) hg hm ZgJ (ZdD ha hx hs) (he:=hs)) λσ H Q ⟨F0,H0,F,at_,k⟩=>?_;refine⟨F0,H0,F,at_,λv fp F1 H1 x1 r1=>?_⟩;have key:∃l,v=.ref l/\Zw4 X.K F1 H1 l (kvs.map λp=>.tuple (p.1.map HM.Zao)):=by
  cases r1 with
  | pl r =>
   cases r with
   | @dct a es' kvs' vvs hr he hkk _ =>
    subst he;have e:kvs=kvs':=by rw[HM.dec_enc]at hk;cases hk;rfl
    subst e;have e2:(kvs.map λp=>ZzD (p.1.map HM.Zao))=vvs.map λp=>ZzD (p.1.map HM.Zao):=by
     have:=congrArg (ZA3 λk:List Key=>ZzD (k.map HM.Zao)) hkk
     rwa [Zza,Zza]at this
    refine⟨a,rfl,?_⟩;rw[e2];rcases hr with hr | ⟨o,hr⟩
    ·exact .inl (.dt (x1.sub _ _ hr))
    ·exact .inr (.fz (x1.sub _ _ hr))
   | fn _=>cases hk
 obtain⟨l,rfl,src⟩:=key;exact⟨l,F1,_,ds',rfl,x1.sub,src,h1,λl' ws hl' rs=>ZdE (P:=λv _ H'=>Q v H') x1.tups rs hl' k⟩
end
end HP
namespace HP
open PySem PySem.Spec PyProof.Rows L2
section
variable{prog:Program}{w:World}{A:Around}{E:Value->Shared->Prop}{s:Shared}
theorem Zm1{d:Addr}{n:Nat}(hd:(d==Zz8)=false) :
  MeetsIn prog w (Builtin.«dict.__len__» ⟨[.ref d],[]⟩) (λ_ R s=>(∃es ep,ZdC s.heap d es ep/\es.size=n)/\R (.ok (.ret (.int n s.toks))) { s with toks:=s.toks+1 }) :=
 .of_wp λA R s ⟨⟨es,ep,⟨o,ho,hc,hdat⟩,hn⟩,h⟩=>by show wpAny _ _ (dictSize d >>= _) _ _ s;unfold dictSize;refine ZyI (ZyI (ZBx ho hdat (ZyM ?_)));show wpAny _ _ (Builtin.Dict.pendingCount d >>= _) _ _ s;refine ZyI (wpAny_pendingCount_other hd ?_);refine wpAny_ret_mkInt ?_;rw[Nat.add_zero,hn];exact h
theorem Zvv{d:Addr}{es:Array DictEntry}{ep:Nat}{Q:Value->Shared->Prop}(hd:(d==Zz8)=false)(hm:ZdC s.heap d es ep)(hfit:(es.size:Int)<2 ^ 63)
  (h:Q (.int es.size (s.toks+1)) { s with toks:=s.toks+1+1 }):wpAny (model prog w) A (call (.builtin "len") [.ref d]) Q E s:=by
 refine ZAJ kind_len plain_len entry_len (args_len1 _) ?_;unfold Builtin.«len»;refine ZyI (m:=oneArg "len" _) (ZyM ?_);refine ZyI (m:=callSpecial? (.ref d) (Zzd "__len__")) (wpAny_callSpecial?_slot (name:=Zzd "__len__") hm.typeIs F.slot_dict_len
  (call_meetsIn F.slot_dict_len hm.typeIs F.entry_dict_len (F.args_dict_len_1 _) (Zm1 (n:=es.size) hd) ⟨⟨es,ep,hm,rfl⟩,?_⟩))
 show wpAny _ _ _ _ _ { s with toks:=s.toks+1 };refine ZyI (Zzx (ZyM ?_));refine ZyI (ZCC ?_);show wpAny _ _ (if((es.size:Nat):Int)<0 then _ else _) _ _ _;rw[if_neg (by omega)];show wpAny _ _ (if((es.size:Nat):Int) ≥ 2 ^ 63 then _ else _) _ _ _;rw[if_neg (by omega)];exact ZyI (wpAny_mkInt (ZyM ⟨_,rfl,h⟩))
end
variable[FX]
section
variable{X:Cx}{a b c e:Expr}{f:HM.BF}{pos p:Pos}{es:List Expr}
omit [FX]in
theorem ZsW:ZaM X (.builtin "len") (λxs H Q=>∃p kvs,xs=[.ref p]/\Rd H p (.dT kvs)/\Q (.int kvs.length) H):=by
 intro pins s σ H xs us Q I r h;obtain⟨p,kvs,rfl,hr,q⟩:=h;obtain⟨u,rfl,ru⟩:=vals1 r;cases ru;have ob:Z1 X.prog X.w H s.heap p (.dT kvs):=by
  rcases hr with hr | ⟨o,hr⟩
  ·exact I.hok p _ hr
  ·exact(show Z1 X.prog X.w H s.heap p (.frz o (.dT kvs)) from I.hok p _ hr).2
 obtain⟨z,lo,xs,rel,o,es,ep,h1,h2,h3,h4,h5⟩:=ob;have hl:kvs.length=xs.length:=ZAS rel;have hes:es.size=xs.length:=by rw[<-Zze,h4,ZyJ]
 have hm:ZdC s.heap p es ep:=⟨o,h1,h2,h3⟩;have e:es.size=kvs.length:=by omega
 refine Zvv lo hm (by rw[ZzM]at z; omega) ?_;rw[e];exact⟨.int kvs.length,H,I.tok _,⟨s.toks+1,rfl⟩,q⟩
theorem Zp0(hm:X.mg "len" = none)(ha:XB X a f)(hg:Gl X "len":=by rfl)(hs:Zy0 [a] X.env=[(false,eval a X.env)]:=by rfl):XE X (.Call (.Name "len" p) [a] [] pos) (HM.Zfl f):=by
 intro r d h;unfold HM.Zfl at h;split at h
 case h_2=>cases h
 rename_i es hx;split at h
 case h_2=>cases h
 rename_i kvs hk;cases h;refine PE.imp (Zcf ZsW hg hm Zr9 (ZdD ha hx hs) (he:=hs)) λσ H Q ⟨F0,H0,F,at_,k⟩=>?_;refine⟨F0,H0,F,at_,λv fp F1 H1 x1 r1=>?_⟩;cases r1 with
 | pl r =>
  cases r with
  | @dct a es' kvs' vvs hr he hkk _ =>
   subst he;have e:kvs=kvs':=by rw[HM.dec_enc]at hk;cases hk;rfl
   subst e;have e2:kvs.length=vvs.length:=by
    have:=congrArg Zzw hkk
    rwa [ZyJ,ZyJ]at this
   refine⟨a,vvs,rfl,ZhB hr x1.sub,?_⟩;rw[<-e2];exact k (.int kvs.length) F1 H1 x1 (.int _)
  | fn _=>cases hk
end
end HP
namespace HT
open PySem PySem.Spec PyProof.Rows L2
section
variable{prog:Program}{w:World}{A:Around}{E:Value->Shared->Prop}{s:Shared}
theorem Zix{t sl:Addr}{items:Array Value}{vl vu:Value}{lo hi:Option Int}{Q:Value->Shared->Prop}(ht:IsTup s.heap t items)(hs:s.heap.IsSliceOf sl vl vu .none)(pl:IsPart vl lo)(pu:IsPart vu hi)
  (hw:sIx items.size 0 lo=0/\sIx items.size items.size hi=items.size)
  (h:Q (.ref t) s):wpAny (model prog w) A (getItem (.ref t) (.ref sl)) Q E s:=by
 have hj:sIx items.size items.size hi<=items.size:=ZsA _ _ (ZyT _) hi;obtain⟨os,hos,hcs,hds⟩:=id hs;have hTs:s.TypeIs (.ref sl) "slice":=⟨os,hos,hcs⟩;unfold getItem
 try with_reducible refine Zzx ?_
 first | refine ZyI (ZyM ?_) | skip
 refine ZyI (wpAny_sequenceKey ht.typeIs (by decide) ?_);refine ZyI (wpAny_callSpecial?_slot (name:=Zzd "__getitem__") ht.typeIs Zz3
  (ZzF Zz3 ht.typeIs entry_tuple_getitem ?_ (args_tuple_getitem _ _)))
 show wpAny _ _ (ZCL (.ref t) >>= _) _ _ s;refine ZyI (tupleItemsOf_ ht ?_);refine ZyI (ZCi hTs ?_);rw[if_pos (by decide)];refine ZyI (Zgp hs pl pu ?_);have hyes:(((sIx items.size 0 lo:Nat):Int)==0&&(1:Int)==1&&(sIx items.size items.size hi-sIx items.size 0 lo)==items.size)=true:=by rw[hw.1,hw.2];simp
 show wpAny _ _ (if(((sIx items.size 0 lo:Nat):Int)==0&&(1:Int)==1&&(sIx items.size items.size hi-sIx items.size 0 lo)==items.size)=true then _ else _) _ _ s;rw[if_pos hyes];refine ZyI (m:=ZCP _) ?_;unfold ZCP;refine ZyI (ZCi ht.typeIs (ZyM ?_));rw[if_pos (show(ZAm "tuple" == ZAm "tuple")=true by decide)];refine ZyI (ZC1 ?_);exact ZyM ⟨_,rfl,ZyM h⟩
end
end HT
namespace HP
open PySem PySem.Spec PyProof.Rows L2
section
variable{X:Cx}{a:Expr}{fa:HM.EF}{pos:Pos}
def ZxV(K:ZyK):V->Option Int->Option Int->Hp->VK->Prop:=λx lo hi H Q=>∃a xs,x=.ref a/\SqT K H a xs/\(HT.sIx xs.length 0 lo=0/\HT.sIx xs.length xs.length hi=xs.length)/\Q (.ref a) H
theorem ZuV:SlR X (ZxV X.K):=by
 intro pins s σ H x v vl vu lo hi sl Q I rx hs pl pu h;obtain⟨a,xs,rfl,hx,hw,q⟩:=h;cases rx;obtain⟨its,r,ht,hz⟩:=I.tuple hx;have hlen:its.toArray.size=xs.length:=by rw[ZyX]; exact r.length.symm
 refine⟨"tuple",_,Zz3.lookup,ht.typeIs,?_⟩;exact HT.Zix ht hs pl pu (by rw[hlen]; exact hw) ⟨.ref a,H,I,rfl,q⟩
variable[FX]
theorem Znr{lo hi:Option Expr}{fl fh:Option HM.EF}{p2:Pos}(ha:XE X a fa)(hl:XO X lo fl)(hh:XO X hi fh):XE X (.Subscript a (.Slice lo hi none p2) pos) (HM.ZeP fa fl fh):=by
 intro r d h;unfold HM.ZeP at h;split at h
 case h_2=>cases h
 rename_i xs hx;split at h
 case h_2=>cases h
 rename_i l hl';split at h
 case h_2=>cases h
 rename_i u hu';cases h;refine PE.imp (Zof (ZwQ.or ZuV) (ha r _ hx) (hl r _ hl') (hh r _ hu')) λσ H Q ⟨F0,H0,F,at_,k⟩=>?_;refine⟨F0,H0,F,at_,λv F1 H1 x1 r1=>⟨F0,H0,F1,at_.grow x1,λF2 H2 x2=>⟨F0,H0,F2,(at_.grow x1).grow x2,λF3 H3 x3=>?_⟩⟩⟩;have x23:=x2.trans x3;have r1':=r1.mono x23.ff;obtain⟨l',vs,e1,hq,rs⟩:=ZlD r1'
 by_cases hw:HM.sIx xs.length 0 l=0/\HM.sIx xs.length xs.length u=xs.length
 ·refine .inr ⟨l',vs,e1,Zgu hq x3.sub,by rw[<-rs.1]; exact hw,?_⟩
  have e:HM.cutD xs l u=xs:=by unfold HM.cutD;rw[hw.1,hw.2];simp
  rw[e]at k;rw[<-e1];exact k _ F3 H3 (x1.trans x23) r1'
 ·refine .inl ⟨l',vs,e1,Zgu hq x3.sub,by rw[<-rs.1]; exact hw,λl2 hl2=>?_⟩
  have rc:Zs X.K F3 (HM.cutD xs l u) (Zhl vs l u):=by unfold HM.cutD Zhl;rw[<-rs.1];exact(rs.drop _).take _
  exact k _ (upd F3 l2 (.tup (Zhl vs l u))) _ ((x1.trans x23).lay hl2) (.tup ZH rc.1 (rc.mono (Zr.upd' (x3.sub.free hl2))).2)
end
end HP
namespace HM
open PySem
theorem ZbX{α:Type}{c:TF}{e:EF}{r:Env}(g:α->D)(p:α->Bool)(f:α->D):∀(xs:List α),(∀x∈xs,c (some (.pl (g x))::r)=some (p x))->(∀x∈xs,p x=true->e (some (.pl (g x))::r)=some (f x))->Zaq c e r (xs.map g)=some ((xs.filter p).map f)
 | [],_,_=>rfl
 | x::xs,h1,h2=>by
  have ih:=ZbX g p f xs (λy hy=>h1 y (ZyQ _ hy)) (λy hy=>h2 y (ZyQ _ hy));have hc:=h1 x (ZyO ..);rw[ZyS];unfold Zaq;rw[hc];cases hp:p x with
  | true=>have he:=h2 x (ZyO ..) hp;dsimp only;rw[he];dsimp only;rw[ih,List.filter_cons_of_pos hp];rfl
  | false=>dsimp only;rw[ih,List.filter_cons_of_neg (by simp[hp])]
theorem Za2{α:Type}{e:EF}{r:Env}(g:α->D)(f:α->D)(xs:List α)(h:∀x∈xs,e (some (.pl (g x))::r)=some (f x)):Zaq ZU e r (xs.map g)=some (xs.map f):=by rw[ZbX g (λ_=>true) f xs (λ_ _=>rfl) λx hx _=>h x hx,ZCv.mpr λ_ _=>rfl]
theorem Zjz{α:Type}{i:Nat}{body:SF}(g:α->D)(P:List α->Env->Prop)(xs:List α)(r:Env)(h0:P [] r)
  (hs:∀pre x post r,xs=pre++x::post->P pre r->∃r',body (r.set i (some (.pl (g x))))=some (.nx r')/\P (pre++[x]) r'):∃r',Zbc i body (xs.map g) r=some (.nx r')/\P xs r':=by
 have key:∀(post pre:List α) (r:Env),xs=pre++post->P pre r->∃r',Zbc i body (post.map g) r=some (.nx r')/\P xs r':=by
  intro post
  induction post with
  | nil=>intro pre r e h; rw[Zzu]at e; subst e; exact⟨r,rfl,h⟩
  | cons x post ih=>intro pre r e h;obtain⟨r1,h1,h2⟩:=hs pre x post r e h;obtain⟨r2,h3,h4⟩:=ih (pre++[x]) r1 (by rw[e,ZAQ]; rfl) h2;refine⟨r2,?_,h4⟩;rw[ZyS];unfold Zbc;rw[h1];exact h3
 exact key xs [] r rfl h0
def Zv5{α S:Type}(q:S->α->Bool)(step:S->α->S):S->List α->Bool
 | _,[]=>true
 | s,x::xs=>q s x&&Zv5 q step (step s x) xs
abbrev dI(i:Int):D:=ZzR i
abbrev dN(k:Nat):D:=ZzR (k:Int)
theorem Zh1(ns:List Int):ofInts ns=ns.map dI:=rfl
theorem Zat(n:Nat):ZcT 0 n=(ZyP n).map dN:=by unfold ZcT;refine Zz7 λk _=>?_;show ZzR (0+(k:Int))=ZzR (k:Int);rw[Int.zero_add]
theorem Ze7(ns:List Int):Za5 (ns.map dI)=some ns:=by
 induction ns with
 | nil=>rfl
 | cons n ns ih=>show(Za5 (ns.map dI)).map (n::·)=_; rw[ih]; rfl
theorem ZfV(bs:List Bool):ZbQ (bs.map λb=>Zzl b)=some bs:=by
 induction bs with
 | nil=>rfl
 | cons b bs ih=>show(ZbQ (bs.map λb=>Zzl b)).map (b::·)=_; rw[ih]; rfl
abbrev tupI(ns:List Int):D:=ZzD (ns.map dI)
theorem Zdj{ds:List D}{j:Nat}{d:D}(h:ds[j]?=some d):atD ds (j:Int)=some d:=by have hj:j<ds.length:=(ZyZ.mp h).1;unfold atD ixN;rw[if_pos (by omega),if_pos (by omega)];simpa using h
theorem Zju{ds:List D}{i:Int}{d:D}(h0:0<=i)(h:ds[i.toNat]?=some d):atD ds i=some d:=by
 have e:i=((i.toNat:Nat):Int):=by omega
 rw[e]; exact Zdj (by simpa using h)
@[simp] theorem ZyC(d:D)(r:List D):atD (d::r) 0=some d:=Zdj (j:=0) rfl
@[simp] theorem Zyv(a d:D)(r:List D):atD (a::d::r) 1=some d:=Zdj (j:=1) rfl
@[simp] theorem Zyw(a b d:D)(r:List D):atD (a::b::d::r) 2=some d:=Zdj (j:=2) rfl
@[simp] theorem Zyx(a b c d:D)(r:List D):atD (a::b::c::d::r) 3=some d:=Zdj (j:=3) rfl
@[simp] theorem ZyB(a b c e d:D)(r:List D):atD (a::b::c::e::d::r) 4=some d:=Zdj (j:=4) rfl
theorem Zyc(i j:Int)(h:(Z2 i||Z2 j)=true):Zdk (.int i) (.int j)=some (.int (i*j)):=by show(if Z2 i||Z2 j then some (ZzR (i*j))else none)=_;rw[if_pos h]
@[simp] theorem Zx7:Z2 7=true:=rfl
@[simp] theorem ZxS:Z2 11=true:=rfl
@[simp] theorem ZxF:Z2 13=true:=rfl
@[simp] theorem ZxQ:Z2 17=true:=rfl
@[simp] theorem ZxK:Z2 19=true:=rfl
@[simp] theorem ZxR:Z2 23=true:=rfl
@[simp] theorem ZxC:Z2 29=true:=rfl
@[simp] theorem ZxD:Z2 31=true:=rfl
@[simp] theorem ZxM:Z2 37=true:=rfl
@[simp] theorem ZxP:Z2 41=true:=rfl
@[simp] theorem ZxL:Z2 43=true:=rfl
@[simp] theorem ZxJ:Z2 47=true:=rfl
@[simp] theorem ZxN:Z2 53=true:=rfl
@[simp] theorem ZxE:Z2 59=true:=rfl
@[simp] theorem ZxH:Z2 61=true:=rfl
@[simp] theorem ZxI:Z2 67=true:=rfl
@[simp] theorem ZxO:Z2 71=true:=rfl
@[simp] theorem ZxG:Z2 73=true:=rfl
@[simp] theorem ZvX:Z2 48271=true:=rfl
@[simp] theorem Zyp:Z2 2=true:=rfl
@[simp] theorem Zye:Z2 3=true:=rfl
@[simp] theorem ZxY:Z2 5=true:=rfl
theorem Zi0{i:Int}(h1:-1000000000<i)(h2:i<1000000000):Z2 i=true:=by
 unfold Z2;have:i.natAbs<18446744073709551616:=by omega
 exact ZBV.mpr this
theorem ZdT{n:Nat}(h:n<1000000):okR (n:Int)=true:=ZBV.mpr (by omega)
@[simp] theorem Zxz(i:Int):Za0 (.int i)=true:=rfl
@[simp] theorem Zw6(i:Bool):Za0 (.bool i)=true:=rfl
@[simp] theorem Zw5:Za0 .none=true:=rfl
@[simp] theorem Zyq(i j:Int):ZAx (.int i) (.int j)=(i==j):=rfl
structure Wk where
 many:Nat
 deeds:List (List (List Int))
 looks:List (List Int)
 beg:List Int
 goal:List Int
def ZF(dd:List (List Int)):D:=.tuple (dd.map tupI)
def Wk.d(w:Wk):D:=.tuple [.int w.many,.tuple (w.deeds.map ZF),.tuple (w.looks.map tupI),tupI w.beg,tupI w.goal]
def Cr(n:Nat)(c:List Int):Prop:=c.Pairwise (· < ·)/\∀x∈c,0<=x/\x<(n:Int)
structure Wk.Ok(w:Wk):Prop where
 m1:2<=w.many
 m2:w.many<=5
 d1:1<=w.deeds.length
 d2:w.deeds.length<=3
 dl:∀dd∈w.deeds,dd.length=w.many
 dc:∀dd∈w.deeds,∀c∈dd,Cr w.many c
 l2:w.looks.length<=3
 ll:∀l∈w.looks,l.length=w.many
 lc:∀l∈w.looks,∀x∈l,0<=x/\x<=9
 b1:w.beg≠[]
 bc:Cr w.many w.beg
 g1:w.goal≠[]
 gc:Cr w.many w.goal
theorem Cr.len{n:Nat}:∀{c:List Int},Cr n c->c.length<=n:=by
 have key:∀(c:List Int) (l:Int),c.Pairwise (· < ·)->(∀x∈c,l<=x/\x<(n:Int))->(c.length:Int)<=max 0 ((n:Int)-l):=by
  intro c
  induction c with
  | nil=>intro l _ _; simp; omega
  | cons x c ih=>intro l hp hb;have h1:=hb x (ZyO ..);have h2:=ih (x+1) (ZzJ.mp hp).2 λy hy=>⟨by have:=(ZzJ.mp hp).1 y hy; omega,(hb y (ZyQ _ hy)).2⟩;rw[Zy3];omega
 intro c h;have:=key c 0 h.1 h.2;omega
theorem sortI_perm(ns:List Int):(sortI ns).Perm ns:=ZBP ns _
theorem Zt5(ns:List Int):(sortI ns).Pairwise (·<=·):=by have h:=ZB0 (le:=λa b:Int=>decide (a<=b)) (λa b c h1 h2=>by simp at *; omega) (λa b=>by simp; omega) ns;exact h.imp λh=>by simpa using h
theorem Zj3:∀{ns:List Int},ns.Pairwise (·<=·)->ns.Nodup->ns.Pairwise (· < ·)
 | [],_,_=>.nil
 | n::ns,h,hn=>by obtain⟨h1,h2⟩:=ZzJ.mp h;obtain⟨n1,n2⟩:=ZzB.mp hn;refine ZzJ.mpr ⟨λx hx=>?_,Zj3 h2 n2⟩;have:=h1 x hx;have:n≠x:=λe=>n1 (e▸hx);omega
theorem Zh6{n:Nat}{ns:List Int}(hn:ns.Nodup)(hb:∀x∈ns,0<=x/\x<(n:Int)):Cr n (sortI ns) :=
 ⟨Zj3 (Zt5 ns) ((sortI_perm ns).nodup_iff.mpr hn),λx hx=>hb x ((sortI_perm ns).mem_iff.mp hx)⟩
theorem Zik(ns:List Int)(h:ns.length<64):ZcX (ns.map dI)=some ((sortI ns).map dI):=by unfold ZcX;rw[if_pos (by rw[ZyJ]; exact h),Ze7];rfl
theorem Zfp:∀(ns acc:List Int) (x:Int),x∈dedup acc ns↔x∈acc\/x∈ns
 | [],acc,x=>by simp[dedup]
 | n::ns,acc,x=>by
  unfold dedup;split
  ·rename_i h
   have h':n∈acc:=by simpa using h
   rw[Zfp ns acc x]
   constructor
   ·rintro (h | h)
    ·exact .inl h
    ·exact .inr (ZyQ _ h)
   ·rintro (h | h)
    ·exact .inl h
    ·rcases Zzb.mp h with e | e
     ·exact .inl (e▸h')
     ·exact .inr e
  ·rw[Zfp ns _ x,Zzp,ZyY,Zzb]
   constructor
   ·rintro ((h | h) | h)
    ·exact .inl h
    ·exact .inr (.inl h)
    ·exact .inr (.inr h)
   ·rintro (h | h | h)
    ·exact .inl (.inl h)
    ·exact .inl (.inr h)
    ·exact .inr h
theorem Zfk:∀(ns acc:List Int),acc.Nodup->(dedup acc ns).Nodup
 | [],acc,h=>h
 | n::ns,acc,h=>by
  unfold dedup;split
  ·exact Zfk ns acc h
  ·rename_i hc
   have hc':n ∉ acc:=by simpa using hc
   refine Zfk ns _ ?_;rw[ZAR];exact⟨h,by simp,λa ha b hb=>by simp at hb; subst hb; exact λe=>hc' (e▸ha)⟩
end HM
namespace HG
open PySem HM
def ZiA:SF :=
 (Zt (sIf (tOr (tV (Zh5 (Zb 0) .bool)) (Zdl (tV (Zh5 (Zb 0) .int)))) (ZG (eC (.bool false))) ZaL)
  (ZG (Zla gLe gLe (Zb 1) (Zb 0) (Zb 2))))
def Za6:List D->Option D:=fnOf 3 3 ZiA
def Zl9:SF :=
 (ZG (Zim (Zh5 (Zb 0) .tuple) (Zla gLe gLe (Zb 1) (ZaS (Zn 0)) (Zb 2))))
def Za4:List D->Option D:=fnOf 3 3 Zl9
def ZaA:SF :=
 (Zt (sIf (Zdl (tV (Zf Za6 (Za (Zb 3) (Za (Zb 2) (Za (op2 ZlP (Zb 1) (eC (.int 1))) Zg)))))) (ZG (eC (.bool false))) ZaL)
  (ZW 2 (op2 ZbH (Zb 3) (eC (.int 1)))))
def Zew:SF :=
 (Zt (sIf (Zdl (tV (Zh5 (Zb 0) .tuple))) (ZG (eC (.bool false))) ZaL)
  (Zt (ZW 2 (eC (.int 0)))
  (Zt (ZbG 3 (ZN (bOf (Zb 0))) ZaA)
  (ZG (eC (.bool true))))))
def Z9:List D->Option D:=fnOf 2 4 Zew
def ZhF:SF :=
 (ZG (Zim (Zf Za4 (Za (Zb 0) (Za (Zb 1) (Za (Zb 1) Zg)))) (ZcM (ZC (ZN (bOf (Zb 0))) ZU (Zf Z9 (Za (Zb 0) (Za (Zb 2) Zg)))))))
def Zcq:List D->Option D:=fnOf 2 2 ZhF
def ZhG:SF :=
 (ZG (Zim (Zf Za4 (Za (Zb 0) (Za (Zb 1) (Za (Zb 1) Zg)))) (ZcM (ZC (ZN (bOf (Zb 0))) ZU (Zf Za6 (Za (Zb 0) (Za (eC (.int 0)) (Za (eC (.int 9)) Zg))))))))
def Zcr:List D->Option D:=fnOf 2 2 ZhG
def ZiB:SF :=
 (ZG (Zim (Zf Za4 (Za (Zb 0) (Za (eC (.int 1)) (Za (eC (.int 5)) Zg)))) (ZcM (ZC (ZN (bOf (Zb 0))) ZU (Zf Zcq (Za (Zb 0) (Za (Zb 2) Zg)))))))
def ZcD:List D->Option D:=fnOf 2 2 ZiB
def ZiC:SF :=
 (ZG (Zim (Zf Za4 (Za (Zb 0) (Za (eC (.int 0)) (Za (eC (.int 4)) Zg)))) (ZcM (ZC (ZN (bOf (Zb 0))) ZU (Zf Zcr (Za (Zb 0) (Za (Zb 2) Zg)))))))
def ZcE:List D->Option D:=fnOf 2 2 ZiC
def ZjT:SF :=
 (ZG (Zim (Zf Z9 (Za (Zb 0) (Za (Zb 1) Zg))) (op2 gGt (ZaS (Zn 0)) (eC (.int 0)))))
def Zdd:List D->Option D:=fnOf 2 2 ZjT
def ZiD:SF :=
 (Zt (sIf (tOr (Zdl (tV (Zf Za4 (Za (Zb 0) (Za (eC (.int 5)) (Za (eC (.int 5)) Zg)))))) (Zdl (tV (Zf Za6 (Za (eIx (Zn 0) (eC (.int 0))) (Za (eC (.int 1)) (Za (eC (.int 8)) Zg))))))) (ZG (eC (.bool false))) ZaL)
  (Zt (ZW 1 (eIx (Zn 0) (eC (.int 0))))
  (Zt (sIf (tOr (Zdl (tV (Zf ZcD (Za (eIx (Zn 0) (eC (.int 1))) (Za (Zb 1) Zg))))) (Zdl (tV (Zf ZcE (Za (eIx (Zn 0) (eC (.int 2))) (Za (Zb 1) Zg)))))) (ZG (eC (.bool false))) ZaL)
  (ZG (Zim (Zf Zdd (Za (eIx (Zn 0) (eC (.int 3))) (Za (Zb 1) Zg))) (Zf Z9 (Za (eIx (Zn 0) (eC (.int 4))) (Za (Zb 1) Zg))))))))
def ZcF:List D->Option D:=fnOf 1 2 ZiD
def ZjU:SF :=
 (ZG (eIx (Zn 0) (eC (.int 1))))
def Zbl:List D->Option D:=fnOf 1 1 ZjU
def ZjV:SF :=
 (ZG (eIx (Zn 0) (eC (.int 2))))
def Zbm:List D->Option D:=fnOf 1 1 ZjV
def ZkH:SF :=
 (Zt (sIf (Zdl (tV (Zf ZcF (Za (Zb 0) Zg)))) Zn4 ZaL)
  (ZG (Zb 0)))
def Zba:List D->Option D:=fnOf 1 1 ZkH
def Zf1:SF :=
 (Zt (sIf (Zdl (tV (Zf Z9 (Za (Zb 1) (Za (ZaS (bOf (Zf Zbm (Za (Zb 0) Zg)))) Zg))))) Zn4 ZaL)
  (ZG (Zb 1)))
def Zaj:List D->Option D:=fnOf 2 2 Zf1
def ZkI:SF :=
 (ZG (Zam (ZC (ZN (bOf (Zb 1))) ZU (eIx (bOf (eIx (bOf (Zf Zbm (Za (Zb 1) Zg))) (Zb 0))) (Zb 3)))))
def ZdG:List D->Option D:=fnOf 3 3 ZkI
def Zhq:SF :=
 (Zt (ZW 3 (eIx (bOf (Zf Zbl (Za (Zb 0) Zg))) (Zb 2)))
  (ZG (ZcM (ZC (ZN (bOf (Zb 1))) ZU (op2 gGt (ZaS (bOf (eIx (Zn 4) (Zb 0)))) (eC (.int 0)))))))
def Zb7:List D->Option D:=fnOf 3 4 Zhq
def Zio:SF :=
 (ZG (eOf (ZC (ZbM (ZaS (bOf (Zf Zbl (Za (Zb 0) Zg))))) (tV (Zf Zb7 (Za (Zb 1) (Za (Zb 2) (Za (Zb 0) Zg))))) (Zb 0))))
def Zcl:List D->Option D:=fnOf 2 2 Zio
def Zex:SF :=
 (ZhV 4 (Zb 6) (eC (.bool true)))
def Zey:SF :=
 (ZbG 6 (ZN (bOf (eIx (Zn 3) (Zb 5)))) Zex)
def Zma:SF :=
 (Zt (ZW 3 (eIx (bOf (Zf Zbl (Za (Zb 0) Zg))) (Zb 2)))
  (Zt (Zaa 4 fDk)
  (Zt (ZbG 5 (ZN (bOf (Zb 1))) Zey)
  (ZG (Zam (Zhw (Zn 4)))))))
def Zds:List D->Option D:=fnOf 3 7 Zma
def Zez:SF :=
 (Zoj 3 (Zf ZdG (Za (Zb 0) (Za (Zb 1) (Za (Zb 4) Zg)))) (Zb 4))
def Zmb:SF :=
 (Zt (Zaa 3 Zwy)
  (Zt (ZbG 4 (ZN (bOf (Zb 2))) Zez)
  (ZG (eOf (ZC (ZN (bOf (eOf (Zhw (Zn 3))))) ZU (ZbW (Za (Zb 0) (Za (Zam (Zrq 4 (Zb 0))) Zg))))))))
def Zag:List D->Option D:=fnOf 3 5 Zmb
def ZjW:SF :=
 (Zt (sIf (tV (op2 gLt (Zb 1) (ZaS (Zn 0)))) (ZG (eIx (Zn 0) (Zb 1))) ZaL)
  (ZG (eC (.int 0))))
def Zak:List D->Option D:=fnOf 2 2 ZjW
def ZkJ:SF :=
 (ZG (op2 Ztu (op2 Ztu (op2 Zdk (Zb 0) (eC (.int 48271))) (Zb 1)) (Zb 2)))
def ZP:List D->Option D:=fnOf 3 3 ZkJ
def Zf2:SF :=
 (Zt (Zaa 3 (ZC (ZbM (Zb 1)) (tV (op2 gLt (Zf ZP (Za (op2 ZbH (op2 ZbH (Zb 1) (op2 Zdk (op2 Zdk (eC (.int 31)) (Zb 0)) (Zb 0))) (op2 Zdk (eC (.int 7)) (Zb 0))) (Za (eC (.int 9973)) (Za (eC (.int 5)) Zg)))) (eC (.int 2)))) (Zb 0)))
  (Zt (sIf (tV (op2 gLt (ZaS (Zn 3)) (Zb 2))) (Zaa 3 (ZeV (Za (Zf ZP (Za (Zb 0) (Za (eC (.int 9967)) (Za (Zb 1) Zg)))) Zg))) ZaL)
  (ZG (Zam (Zn 3)))))
def ZbN:List D->Option D:=fnOf 3 4 Zf2
def Zca:SF :=
 (Zt (ZW 4 (op2 ZbH (op2 ZbH (Zb 0) (op2 Zdk (op2 Zdk (eC (.int 43)) (Zb 3)) (Zb 3))) (op2 Zdk (eC (.int 11)) (Zb 3))))
  (Zt (ZW 5 (Zf ZP (Za (Zb 4) (Za (eC (.int 9949)) (Za (eC (.int 10)) Zg)))))
  (Zt (Zaa 6 (Zol (Zf ZP (Za (Zb 4) (Za (eC (.int 9941)) (Za (Zb 1) Zg)))) (eC (.bool true))))
  (Zt (sIf (tV (op2 gLt (Zb 5) (eC (.int 3)))) (ZhV 6 (Zf ZP (Za (Zb 4) (Za (eC (.int 9931)) (Za (Zb 1) Zg)))) (eC (.bool true))) ZaL)
  (Zt (ZdP 2 (Zam (Zhw (Zn 6))))
  (sIf (tV (op2 gEq (Zb 5) (eC (.int 9)))) (Zq3 2 (eC (.int (-1))) (ZbW Zg)) ZaL))))))
def ZjX:SF :=
 (Zt (Zaa 2 (ZeV Zg))
  (Zt (ZbG 3 (ZbM (Zb 1)) Zca)
  (ZG (Zam (Zn 2)))))
def Zde:List D->Option D:=fnOf 2 7 ZjX
def Zdt:SF :=
 (Zt (ZW 5 (op2 ZwZ (op2 ZlP (Zb 4) (eC (.int 1))) (eC (.int 0))))
  (Zt (ZW 6 (op2 ZvT (op2 ZbH (Zb 4) (eC (.int 1))) (op2 ZlP (Zb 1) (eC (.int 1)))))
  (Zt (ZW 7 (op2 gEq (Zf ZP (Za (op2 ZbH (Zb 0) (op2 Zdk (eC (.int 17)) (Zb 4))) (Za (eC (.int 9929)) (Za (eC (.int 6)) Zg)))) (eC (.int 1))))
  (Zt (ZdP 2 (Zam (Zia (ZrA (ZeV (Za (Zb 5) Zg)) (Ztk (ZeV (Za (Zb 4) Zg)) (Zn5 (Zb 7)))))))
  (ZdP 3 (ZbW (Za (Zb 6) Zg)))))))
def ZjY:SF :=
 (Zt (Zaa 2 (ZeV Zg))
  (Zt (Zaa 3 (ZeV Zg))
  (Zt (ZbG 4 (ZbM (Zb 1)) Zdt)
  (ZG (ZbW (Za (Zam (Zn 2)) (Za (Zam (Zn 3)) Zg)))))))
def Zdf:List D->Option D:=fnOf 2 8 ZjY
def Zc8:SF :=
 (Zt (ZW 7 (op2 ZbH (Zf Zak (Za (Zb 0) (Za (op2 ZbH (op2 ZbH (Zb 1) (eC (.int 4))) (Zb 5)) Zg))) (op2 Zdk (eC (.int 71)) (Zb 5))))
  (Zt (ZW 8 (op2 ZbH (eC (.int 2)) (Zf ZP (Za (Zb 7) (Za (eC (.int 9883)) (Za (eC (.int 2)) Zg))))))
  (ZdP 6 (Zam (ZC (ZbM (Zb 3)) ZU (Zf ZP (Za (op2 ZbH (Zb 8) (op2 Zdk (op2 Zdk (eC (.int 13)) (Zb 0)) (Zb 0))) (Za (eC (.int 9871)) (Za (Zb 9) Zg)))))))))
def Zd2:SF :=
 (ZdP 4 (Zf Zde (Za (op2 ZbH (Zf Zak (Za (Zb 0) (Za (op2 ZbH (op2 ZbH (Zb 1) (eC (.int 1))) (Zb 5)) Zg))) (op2 Zdk (eC (.int 61)) (Zb 5))) (Za (Zb 3) Zg))))
def Zdu:SF :=
 (Zt (ZW 2 (Zf Zak (Za (Zb 0) (Za (Zb 1) Zg))))
  (Zt (ZW 3 (op2 ZbH (eC (.int 2)) (Zf ZP (Za (Zb 2) (Za (eC (.int 9923)) (Za (eC (.int 4)) Zg))))))
  (Zt (sIf (tV (op2 gGt (ZaS (Zn 0)) (eC (.int 63)))) (ZW 3 (op2 ZbH (eC (.int 2)) (Zf ZP (Za (Zb 2) (Za (eC (.int 9923)) (Za (eC (.int 6)) Zg)))))) ZaL)
  (Zt (Zaa 4 (ZeV Zg))
  (Zt (ZbG 5 (ZbM (op2 ZbH (eC (.int 1)) (Zf ZP (Za (Zb 2) (Za (eC (.int 9907)) (Za (eC (.int 3)) Zg)))))) Zd2)
  (Zt (sIf (tV (op2 gEq (Zf ZP (Za (Zb 2) (Za (eC (.int 9901)) (Za (eC (.int 3)) Zg)))) (eC (.int 1)))) (Zaa 4 (ZrA (Zjv (bOf (Zf Zdf (Za (Zf Zak (Za (Zb 0) (Za (op2 ZbH (Zb 1) (eC (.int 1))) Zg))) (Za (Zb 3) Zg))))) (ZtF (Zn 4) none (some (eC (.int 1)))))) ZaL)
  (Zt (Zaa 6 (ZeV Zg))
  (Zt (ZbG 5 (ZbM (Zf ZP (Za (Zb 2) (Za (eC (.int 9887)) (Za (eC (.int 4)) Zg))))) Zc8)
  (Zt (ZW 9 (Zf ZbN (Za (Zf Zak (Za (Zb 0) (Za (op2 ZbH (Zb 1) (eC (.int 7))) Zg))) (Za (Zb 3) (Za (eC (.int 1)) Zg)))))
  (Zt (sIf (tV (op2 gEq (Zf ZP (Za (Zb 2) (Za (eC (.int 9859)) (Za (eC (.int 3)) Zg)))) (eC (.int 1)))) (ZW 9 (ZcZ (ZbM (Zb 3)))) ZaL)
  (Zt (ZW 10 (Zf ZbN (Za (Zf Zak (Za (Zb 0) (Za (op2 ZbH (Zb 1) (eC (.int 8))) Zg))) (Za (Zb 3) (Za (eC (.int 1)) Zg)))))
  (ZG (ZbW (Za (Zb 3) (Za (Zam (Zn 4)) (Za (Zam (Zn 6)) (Za (Zb 9) (Za (Zb 10) Zg))))))))))))))))))
def Za7:List D->Option D:=fnOf 2 11 Zdu
def ZiE:SF :=
 (ZG (Zam (ZC (ZbM (ZaS (bOf (eIx (Zn 0) (eC (.int 2)))))) (tV (op2 gGt (Zf ZP (Za (op2 ZbH (Zb 2) (op2 Zdk (eC (.int 19)) (Zb 0))) (Za (eC (.int 9857)) (Za (eC (.int 4)) Zg)))) (eC (.int 0)))) (Zb 0))))
def ZcG:List D->Option D:=fnOf 2 2 ZiE
end HG
namespace HG
open PySem HM
def ZB(ns:List Int)(k:Nat):Int:=if k<ns.length then ns.getD k 0 else 0
theorem Zer(ns:List Int)(k:Nat):Zak [.list (ns.map dI),.int k]=some (.int (ZB ns k)):=by
 simp[Zak,ZjW,ZB]
 by_cases h:k<ns.length
 ·have h':(k:Int)<(ns.length:Int):=by omega
  have e:atD (ns.map dI) (k:Int)=some (.int ns[k]):=Zdj (by simp[h]);simp[h,h',e]
 ·have h':¬(k:Int)<(ns.length:Int):=by omega
  simp[h,h']
def ZZ(c p m:Int):Int:=c*48271 % p % m
theorem Zcu(c p m:Int)(hp:0<p)(hm:0<m):ZP [.int c,.int p,.int m]=some (.int (ZZ c p m)):=by simp[ZP,ZkJ,hp,hm,ZZ]
theorem ZaU(c p m:Int)(hm:0<m):0<=ZZ c p m/\ZZ c p m<m:=⟨Int.emod_nonneg _ (by omega),Int.emod_lt_of_pos _ hm⟩
def crP(c:Int)(k:Nat):Bool:=decide (ZZ (c+31*(k:Int)*(k:Int)+7*(k:Int)) 9973 5<2)
def crF(c:Int)(n:Nat):List Int:=((ZyP n).filter (crP c)).map λ(k:Nat)=>(k:Int)
def crV(c:Int)(n:Nat):List Int:=if(crF c n).length<1 then[ZZ c 9967 n]else crF c n
theorem Zh8(n:Nat)(p:Nat->Bool):Cr n (((ZyP n).filter p).map λ(k:Nat)=>(k:Int)):=by
 refine⟨?_,λx hx=>?_⟩
 ·rw[ZCX]
  refine List.Pairwise.imp (λ{a b} h=>?_) (List.Pairwise.filter p ZDy);omega
 ·obtain⟨k,hk,rfl⟩:=ZyU.mp hx
  have:=Zy7.mp (Zy6.mp hk).1;omega
theorem ZsY(c:Int)(n:Nat)(hn:0<n):Cr n (crV c n)/\crV c n≠[]:=by
 unfold crV;split
 ·refine⟨⟨by simp,λx hx=>?_⟩,by simp⟩
  have e:x=ZZ c 9967 n:=by simpa using hx
  rw[e];have:=ZaU c 9967 n (by omega);omega
 ·rename_i h
  exact⟨Zh8 n _,λe=>h (by rw[e]; simp)⟩
theorem Zo6(c:Int)(n:Nat)(hn:0<n)(hb:n<1000):ZbN [.int c,.int n,.int 1]=some (tupI (crV c n)):=by
 have hn':(0:Int)<(n:Int):=by omega
 have key:Zaq (tV (op2 gLt (Zf ZP (Za (op2 ZbH (op2 ZbH (Zb 1) (op2 Zdk (op2 Zdk (eC (.int 31)) (Zb 0)) (Zb 0))) (op2 Zdk (eC (.int 7)) (Zb 0))) (Za (eC (.int 9973)) (Za (eC (.int 5)) Zg)))) (eC (.int 2)))) (Zb 0)
   [some (.pl (.int c)),some (.pl (.int n)),some (.pl (.int 1)),none] (ZcT 0 n)=some ((crF c n).map dI):=by
  rw[Zat];rw[ZbX dN (crP c) dN]
  ·unfold crF
   rw[Zza];rfl
  ·intro k hk
   have hk':=Zy7.mp hk;have s2:Z2 (31*(k:Int))=true:=Zi0 (by omega) (by omega);simp[Zcu,crP,s2]
  ·intro k hk _
   simp
 have h1:okR (n:Int)=true:=ZdT (by omega);have h2:(ZcT 0 n).length<1000000:=by rw[Zat]; simp; omega
 by_cases hl:(crF c n).length<1
 ·have hl':((crF c n).length:Int)<1:=by omega
  have hm:=Zcu c 9967 n (by decide) hn';simp[ZbN,Zf2,h1,h2,key];simp[hl',crV,hl,hm]
 ·have hl':¬((crF c n).length:Int)<1:=by omega
  simp[ZbN,Zf2,h1,h2,key];simp[hl',crV,hl]
def Zug(c:Int)(n k:Nat):List Int :=
 let s:=c+43*(k:Int)*(k:Int)+11*(k:Int)
 if ZZ s 9949 10<3/\ZZ s 9941 n≠ZZ s 9931 n then[ZZ s 9941 n,ZZ s 9931 n]else[ZZ s 9941 n]
def Zfy(c:Int)(n k:Nat):List Int:=if ZZ (c+43*(k:Int)*(k:Int)+11*(k:Int)) 9949 10=9 then[]else sortI (Zug c n k)
theorem ZuL(c:Int)(n k:Nat)(hn:0<n):Cr n (Zfy c n k):=by
 unfold Zfy;split
 ·exact⟨.nil,λx hx=>by simp at hx⟩
 ·unfold Zug
  dsimp only;have b1:=ZaU (c+43*(k:Int)*(k:Int)+11*(k:Int)) 9941 n (by omega);have b2:=ZaU (c+43*(k:Int)*(k:Int)+11*(k:Int)) 9931 n (by omega);split
  ·rename_i h
   refine Zh6 (by simp[h.2]) λx hx=>?_;simp at hx;rcases hx with e | e<;>(subst e; assumption)
  ·refine Zh6 (by simp) λx hx=>?_
   simp at hx;subst hx; assumption
theorem ZtP(n:Nat):ixN (n+1) (-1)=some n:=by unfold ixN;rw[if_neg (by decide),if_pos (by omega)];congr 1;omega
theorem Zsm(c:Int)(n k:Nat)(rows:List D)(o4 o5 o6:Option B)(hn:0<n)(hk:k<1000)(hl:rows.length<1000) :
  ∃r5 r6 r7,Zca [some (.pl (.int c)),some (.pl (.int n)),some (.ol rows),some (.pl (dN k)),o4,o5,o6]=some (.nx [some (.pl (.int c)),some (.pl (.int n)),some (.ol (rows++[tupI (Zfy c n k)])),some (.pl (dN k)),r5,r6,r7]):=by
 have hn':(0:Int)<(n:Int):=by omega
 have s2:Z2 (43*(k:Int))=true:=Zi0 (by omega) (by omega);have hl':rows.length<1000000:=by omega
 have m1:=Zcu (c+43*(k:Int)*(k:Int)+11*(k:Int)) 9949 10 (by decide) (by decide);have m2:=Zcu (c+43*(k:Int)*(k:Int)+11*(k:Int)) 9941 n (by decide) hn';have m3:=Zcu (c+43*(k:Int)*(k:Int)+11*(k:Int)) 9931 n (by decide) hn';unfold Zfy Zug;dsimp only;generalize ZZ (c+43*(k:Int)*(k:Int)+11*(k:Int)) 9949 10=wy at *;generalize ZZ (c+43*(k:Int)*(k:Int)+11*(k:Int)) 9941 n=a at *;generalize ZZ (c+43*(k:Int)*(k:Int)+11*(k:Int)) 9931 n=b at *;have t1:ZcX [ZzR a]=some ((sortI [a]).map dI):=Zik [a] (by simp);have t2:ZcX [ZzR a,ZzR b]=some ((sortI [a,b]).map dI):=Zik [a,b] (by simp)
 by_cases w3:wy<3
 ·have w9:(wy==9)=false:=by simp; omega
  have w9':¬wy=9:=by omega
  by_cases ab:a=b
  ·subst ab
   simp[Zca,s2,m1,m2,m3,w3,w9,w9',putD,Zao,hl',t1]
  ·simp[Zca,s2,m1,m2,m3,w3,w9,w9',putD,ab,Zao,hl',t2]
 ·by_cases w9:wy=9
  ·subst w9
   simp[Zca,s2,m1,m2,putD,Zao,hl',t1,ZtP]
  ·have w9':(wy==9)=false:=by simp[w9]
   simp[Zca,s2,m1,m2,w3,w9',w9,putD,Zao,hl',t1]
theorem ZuW(c:Int)(n:Nat)(hn:0<n)(hb:n<1000):Zde [.int c,.int n]=some (ZF ((ZyP n).map λk=>Zfy c n k)):=by
 have h1:okR (n:Int)=true:=ZdT (by omega);have h2:(ZcT 0 n).length<1000000:=by rw[Zat]; simp; omega
 obtain⟨r',e1,o3,o4,o5,o6,p1⟩:=Zjz (i:=3) (body:=Zca) dN (λ(s:List Nat) r=>∃o3 o4 o5 o6,r=[some (.pl (.int c)),some (.pl (.int n)),some (.ol (s.map λk=>tupI (Zfy c n k))),o3,o4,o5,o6]) (ZyP n)
  [some (.pl (.int c)),some (.pl (.int n)),some (.ol []),none,none,none,none] ⟨none,none,none,none,rfl⟩ (by
   rintro s k post r hxs ⟨o3,o4,o5,o6,rfl⟩
   have hk':k<n:=Zy7.mp (by rw[hxs]; simp);have hs:s.length<n:=by have:=congrArg Zzw hxs; simp at this; omega
   obtain⟨r5,r6,r7,e⟩:=Zsm c n k (s.map λk=>tupI (Zfy c n k)) o4 o5 o6 hn (by omega) (by simp; omega);exact⟨_,e,some (.pl (dN k)),r5,r6,r7,by simp⟩)
 subst p1;have hl:n<1000000:=by omega
 simp[Zde,ZjX,h1,Zat,hl,e1,ZF]
end HG
namespace HG
open PySem HM
def ahV(k:Nat):Int:=if(0:Int) > (k:Int)-1 then 0 else(k:Int)-1
def beV(n k:Nat):Int:=if(n:Int)-1<(k:Int)+1 then(n:Int)-1 else(k:Int)+1
def wlV(c:Int)(k:Nat):List Int:=sortI (dedup [] (ahV k::(if ZZ (c+17*(k:Int)) 9929 6=1 then[(k:Int)]else[])))
theorem ZwA(c:Int)(n k:Nat)(hk:k<n):Cr n (wlV c k):=by
 unfold wlV;have ha:0<=ahV k/\ahV k<n:=by unfold ahV; split<;>omega
 refine Zh6 (Zfk _ _ (by simp)) λx hx=>?_;rw[Zfp]at hx;rcases hx with h | h
 ·simp at h
 ·rcases Zzb.mp h with e | e
  ·subst e; exact ha
  ·split at e
   ·simp at e; subst e; omega
   ·simp at e
theorem Zw2(n k:Nat)(hk:k<n):Cr n [beV n k]:=by
 have ha:0<=beV n k/\beV n k<n:=by unfold beV; split<;>omega
 exact⟨by simp,λx hx=>by simp at hx; subst hx; exact ha⟩
theorem ZrV(c:Int)(n k:Nat)(ls rs:List D)(o4 o5 o6 o7:Option B)(hk:k<8)(h1:ls.length<1000)(h2:rs.length<1000) :
  ∃r4 r5 r6,Zdt [some (.pl (.int c)),some (.pl (.int n)),some (.ol ls),some (.ol rs),some (.pl (dN k)),o5,o6,o7]=some (.nx [some (.pl (.int c)),some (.pl (.int n)),some (.ol (ls++[tupI (wlV c k)])),some (.ol (rs++[tupI [beV n k]])),some (.pl (dN k)),r4,r5,r6]):=by
 have h1':ls.length<1000000:=by omega
 have h2':rs.length<1000000:=by omega
 have m1:=Zcu (c+17*(k:Int)) 9929 6 (by decide) (by decide);have hk8:k=0\/k=1\/k=2\/k=3\/k=4\/k=5\/k=6\/k=7:=by omega
 have l1:Ztp [if(k:Int)-1<0 then 0 else(k:Int)-1,(k:Int)]=true:=by rcases hk8 with rfl | rfl | rfl | rfl | rfl | rfl | rfl | rfl<;>rfl
 have l2:Ztp [if(k:Int)-1<0 then 0 else(k:Int)-1]=true:=by rcases hk8 with rfl | rfl | rfl | rfl | rfl | rfl | rfl | rfl<;>rfl
 unfold wlV;generalize ZZ (c+17*(k:Int)) 9929 6=a at *
 by_cases e:a=1
 ·subst e
  simp[Zdt,m1,h1',h2',ahV,beV,Za5,Zh1,l1]
 ·have e':(a==1)=false:=by simp[e]
  simp[Zdt,m1,h1',h2',ahV,beV,e,e',Za5,Zh1,l2]
theorem Zu2(c:Int)(n:Nat)(hb:n<=8):Zdf [.int c,.int n]=some (.tuple [ZF ((ZyP n).map λk=>wlV c k),ZF ((ZyP n).map λk=>[beV n k])]):=by
 have h1:okR (n:Int)=true:=ZdT (by omega);obtain⟨r',e1,o4,o5,o6,o7,p1⟩:=Zjz (i:=4) (body:=Zdt) dN (λ(s:List Nat) r=>∃o4 o5 o6 o7,r=[some (.pl (.int c)),some (.pl (.int n)),some (.ol (s.map λk=>tupI (wlV c k))),some (.ol (s.map λk=>tupI [beV n k])),o4,o5,o6,o7]) (ZyP n)
  [some (.pl (.int c)),some (.pl (.int n)),some (.ol []),some (.ol []),none,none,none,none] ⟨none,none,none,none,rfl⟩ (by
   rintro s k post r hxs ⟨o4,o5,o6,o7,rfl⟩
   have hk':k<n:=Zy7.mp (by rw[hxs]; simp);have hs:s.length<n:=by have:=congrArg Zzw hxs; simp at this; omega
   obtain⟨r5,r6,r7,e⟩:=ZrV c n k (s.map λk=>tupI (wlV c k)) (s.map λk=>tupI [beV n k]) o4 o5 o6 o7 (by omega) (by simp; omega) (by simp; omega);exact⟨_,e,some (.pl (dN k)),r5,r6,r7,by simp⟩)
 subst p1;have hl:n<1000000:=by omega
 simp[Zdf,ZjY,h1,Zat,hl,e1,ZF]
section
variable(ns:List Int)(at_:Nat)
def ZX:Nat:=(2+ZZ (ZB ns at_) 9923 4).toNat
def Zb1:List (List (List Int)):=(ZyP (1+ZZ (ZB ns at_) 9907 3).toNat).map λk=>(ZyP (ZX ns at_)).map λs=>Zfy (ZB ns (at_+1+k)+61*(k:Int)) (ZX ns at_) s
def Zgy:List (List (List Int)) :=
 if ZZ (ZB ns at_) 9901 3=1 then[(ZyP (ZX ns at_)).map λk=>wlV (ZB ns (at_+1)) k,(ZyP (ZX ns at_)).map λk=>[beV (ZX ns at_) k]]++(Zb1 ns at_).take 1 else Zb1 ns at_
def ZgH(k:Nat):List Int:=(ZyP (ZX ns at_)).map λ(s:Nat)=>ZZ (ZB ns (at_+4+k)+71*(k:Int)+13*(s:Int)*(s:Int)) 9871 (2+ZZ (ZB ns (at_+4+k)+71*(k:Int)) 9883 2)
def Zgm:List (List Int):=(ZyP (ZZ (ZB ns at_) 9887 4).toNat).map (ZgH ns at_)
def Zn6:List Int:=if ZZ (ZB ns at_) 9859 3=1 then(ZyP (ZX ns at_)).map λ(k:Nat)=>(k:Int)else crV (ZB ns (at_+7)) (ZX ns at_)
def Zuv:List Int:=crV (ZB ns (at_+8)) (ZX ns at_)
def wkV:Wk:=⟨ZX ns at_,Zgy ns at_,Zgm ns at_,Zn6 ns at_,Zuv ns at_⟩
theorem Zjx:2<=ZX ns at_/\ZX ns at_<=5:=by have:=ZaU (ZB ns at_) 9923 4 (by decide);unfold ZX; omega
theorem Zvx:((ZX ns at_:Nat):Int)=2+ZZ (ZB ns at_) 9923 4:=by have:=ZaU (ZB ns at_) 9923 4 (by decide);unfold ZX; omega
theorem ZvJ:(wkV ns at_).Ok:=by
 have hm:=Zjx ns at_;have hd3:=ZaU (ZB ns at_) 9907 3 (by decide);have dk:∀dd∈Zb1 ns at_,dd.length=ZX ns at_/\∀c∈dd,Cr (ZX ns at_) c:=by intro dd h;unfold Zb1 at h;obtain⟨k,_,rfl⟩:=ZyU.mp h;refine⟨by simp,λc hc=>?_⟩;obtain⟨s,_,rfl⟩:=ZyU.mp hc;exact ZuL _ _ _ (by omega)
 have dv:∀dd∈Zgy ns at_,dd.length=ZX ns at_/\∀c∈dd,Cr (ZX ns at_) c:=by
  intro dd h;unfold Zgy at h;split at h
  ·rcases Zzp.mp h with h | h
   ·simp at h
    rcases h with rfl | rfl
    ·refine⟨by simp,λc hc=>?_⟩
     obtain⟨s,hs,rfl⟩:=ZyU.mp hc;exact ZwA _ _ _ (Zy7.mp hs)
    ·refine⟨by simp,λc hc=>?_⟩
     obtain⟨s,hs,rfl⟩:=ZyU.mp hc;exact Zw2 _ _ (Zy7.mp hs)
   ·exact dk dd (List.mem_of_mem_take h)
  ·exact dk dd h
 have lk:(Zb1 ns at_).length=(1+ZZ (ZB ns at_) 9907 3).toNat:=by unfold Zb1; simp
 have lv:1<=(Zgy ns at_).length/\(Zgy ns at_).length<=3:=by
  unfold Zgy;split
  ·simp; omega
  ·omega
 have hl4:=ZaU (ZB ns at_) 9887 4 (by decide);have lo:∀l∈Zgm ns at_,l.length=ZX ns at_/\∀x∈l,0<=x/\x<=9:=by intro l h;unfold Zgm at h;obtain⟨k,_,rfl⟩:=ZyU.mp h;unfold ZgH;refine⟨by simp,λx hx=>?_⟩;obtain⟨s,_,rfl⟩:=ZyU.mp hx;have h2:=ZaU (ZB ns (at_+4+k)+71*(k:Int)) 9883 2 (by decide);have h3:=ZaU (ZB ns (at_+4+k)+71*(k:Int)+13*(s:Int)*(s:Int)) 9871 (2+ZZ (ZB ns (at_+4+k)+71*(k:Int)) 9883 2) (by omega);omega
 have ll:(Zgm ns at_).length<=3:=by unfold Zgm; simp; omega
 have cb:=ZsY (ZB ns (at_+7)) (ZX ns at_) (by omega);have cg:=ZsY (ZB ns (at_+8)) (ZX ns at_) (by omega);have hb:Zn6 ns at_≠[]/\Cr (ZX ns at_) (Zn6 ns at_):=by
  unfold Zn6;split
  ·refine⟨λe=>?_,?_⟩
   ·have:=congrArg Zzw e
    simp at this;omega
   ·have:=Zh8 (ZX ns at_) λ_=>true
    rwa [ZCv.mpr λ_ _=>rfl]at this
  ·exact⟨cb.2,cb.1⟩
 exact⟨hm.1,hm.2,lv.1,lv.2,λdd h=>(dv dd h).1,λdd h=>(dv dd h).2,ll,λl h=>(lo l h).1,λl h=>(lo l h).2,hb.1,hb.2,cg.2,cg.1⟩
theorem Zyi(k:Int)(h:0<=k):Zak [.list (ns.map dI),.int k]=some (.int (ZB ns k.toNat)):=by
 have:=Zer ns k.toNat
 rwa [ZAU h]at this
theorem ZqQ(k n:Nat)(c:Option B)(ds:List D)(o6 o7 o8 o9 o10:Option B)(hk:k<1000)(h1:ds.length<1000)(hn:0<n)(hb:n<1000) :
  Zd2 [some (.pl (.list (ns.map dI))),some (.pl (.int at_)),c,some (.pl (.int n)),some (.ol ds),some (.pl (dN k)),o6,o7,o8,o9,o10] =
   some (.nx [some (.pl (.list (ns.map dI))),some (.pl (.int at_)),c,some (.pl (.int n)),some (.ol (ds++[ZF ((ZyP n).map λs=>Zfy (ZB ns (at_+1+k)+61*(k:Int)) n s)])),some (.pl (dN k)),o6,o7,o8,o9,o10]):=by
 have h1':ds.length<1000000:=by omega
 have hc:=Zer ns (at_+1+k);have e:((at_+1+k:Nat):Int)=(at_:Int)+1+(k:Int):=by omega
 rw[e]at hc;have hd:=ZuW (ZB ns (at_+1+k)+61*(k:Int)) n hn hb;simp[Zd2,hc,hd,h1']
theorem Zra(k n:Nat)(c o4:Option B)(ls:List D)(o7 o8 o9 o10:Option B)(hk:k<1000)(h1:ls.length<1000)(hn:n=ZX ns at_) :
  ∃r7 r8,Zc8 [some (.pl (.list (ns.map dI))),some (.pl (.int at_)),c,some (.pl (.int n)),o4,some (.pl (dN k)),some (.ol ls),o7,o8,o9,o10] =
   some (.nx [some (.pl (.list (ns.map dI))),some (.pl (.int at_)),c,some (.pl (.int n)),o4,some (.pl (dN k)),some (.ol (ls++[tupI (ZgH ns at_ k)])),r7,r8,o9,o10]):=by
 have hb:=Zjx ns at_;have h1':ls.length<1000000:=by omega
 have hc:=Zer ns (at_+4+k);have e:((at_+4+k:Nat):Int)=(at_:Int)+4+(k:Int):=by omega
 rw[e]at hc;have m1:=Zcu (ZB ns (at_+4+k)+71*(k:Int)) 9883 2 (by decide) (by decide);have b1:=ZaU (ZB ns (at_+4+k)+71*(k:Int)) 9883 2 (by decide);have hok:okR (n:Int)=true:=ZdT (by omega);have hl:n<1000000:=by omega
 unfold ZgH;rw[<-hn];generalize ZZ (ZB ns (at_+4+k)+71*(k:Int)) 9883 2=mo at *;generalize ZB ns (at_+4+k)=cc at *;simp[Zc8,hc,m1,hok,h1',Zat,hl];rw[Za2 dN λ(s:Nat)=>dI (ZZ (cc+71*(k:Int)+13*(s:Int)*(s:Int)) 9871 (2+mo))]
 ·refine⟨some (.pl (.int (cc+71*(k:Int)))),some (.pl (.int (2+mo))),?_⟩
  simp
 ·intro s hs
  have hs':=Zy7.mp hs;have s2:Z2 (13*(s:Int))=true:=Zi0 (by omega) (by omega);have m2:=Zcu (cc+71*(k:Int)+13*(s:Int)*(s:Int)) 9871 (2+mo) (by decide) (by omega);simp[s2,m2]
theorem Zt1(h:ns.length<=63):Za7 [.list (ns.map dI),.int at_]=some (wkV ns at_).d:=by
 have hb:=Zjx ns at_;have hmc:=Zvx ns at_;have c0:=Zer ns at_;have c1:=Zer ns (at_+1);have c7:=Zer ns (at_+7);have c8:=Zer ns (at_+8);have e1:((at_+1:Nat):Int)=(at_:Int)+1:=by omega
 have e7:((at_+7:Nat):Int)=(at_:Int)+7:=by omega
 have e8:((at_+8:Nat):Int)=(at_:Int)+8:=by omega
 rw[e1]at c1;rw[e7]at c7;rw[e8]at c8;have m4:=Zcu (ZB ns at_) 9923 4 (by decide) (by decide);have m3:=Zcu (ZB ns at_) 9907 3 (by decide) (by decide);have b3:=ZaU (ZB ns at_) 9907 3 (by decide);have mw:=Zcu (ZB ns at_) 9901 3 (by decide) (by decide);have ml:=Zcu (ZB ns at_) 9887 4 (by decide) (by decide);have bl:=ZaU (ZB ns at_) 9887 4 (by decide);have mb:=Zcu (ZB ns at_) 9859 3 (by decide) (by decide);have wk:=Zu2 (ZB ns (at_+1)) (ZX ns at_) (by omega);have k7:=Zo6 (ZB ns (at_+7)) (ZX ns at_) (by omega) (by omega);have k8:=Zo6 (ZB ns (at_+8)) (ZX ns at_) (by omega) (by omega);have hlen:¬(63:Int)<(ns.length:Int):=by omega
 have ok3:okR (1+ZZ (ZB ns at_) 9907 3)=true:=ZBV.mpr (by omega);have okl:okR (ZZ (ZB ns at_) 9887 4)=true:=ZBV.mpr (by omega);have okm:okR ((ZX ns at_:Nat):Int)=true:=ZdT (by omega);obtain⟨r1,f1,o5,q1⟩:=Zjz (i:=5) (body:=Zd2) dN (λ(s:List Nat) r=>∃o5,r=[some (.pl (.list (ns.map dI))),some (.pl (.int at_)),some (.pl (.int (ZB ns at_))),some (.pl (.int (ZX ns at_))),
   some (.ol (s.map λk=>ZF ((ZyP (ZX ns at_)).map λs=>Zfy (ZB ns (at_+1+k)+61*(k:Int)) (ZX ns at_) s))),o5,none,none,none,none,none]) (ZyP (1+ZZ (ZB ns at_) 9907 3).toNat)
  [some (.pl (.list (ns.map dI))),some (.pl (.int at_)),some (.pl (.int (ZB ns at_))),some (.pl (.int (ZX ns at_))),some (.ol []),none,none,none,none,none,none] ⟨none,rfl⟩ (by
   rintro s k post r hxs ⟨o5,rfl⟩
   have hk':=Zy7.mp (show k∈ZyP (1+ZZ (ZB ns at_) 9907 3).toNat by rw[hxs]; simp);have hs:s.length<4:=by have:=congrArg Zzw hxs; simp at this; omega
   have e:=ZqQ ns at_ k (ZX ns at_) (some (.pl (.int (ZB ns at_)))) (s.map λk=>ZF ((ZyP (ZX ns at_)).map λs=>Zfy (ZB ns (at_+1+k)+61*(k:Int)) (ZX ns at_) s)) none none none none none (by omega) (by simp; omega) (by omega) (by omega);exact⟨_,e,some (.pl (dN k)),by simp⟩)
 subst q1;have lks:∀(o4 o5:Option B),∃r2,Zbc 5 Zc8 ((ZyP (ZZ (ZB ns at_) 9887 4).toNat).map dN) [some (.pl (.list (ns.map dI))),some (.pl (.int at_)),some (.pl (.int (ZB ns at_))),some (.pl (.int (ZX ns at_))),o4,o5,some (.ol []),none,none,none,none]=some (.nx r2) /\
   ∃o5 o7 o8,r2=[some (.pl (.list (ns.map dI))),some (.pl (.int at_)),some (.pl (.int (ZB ns at_))),some (.pl (.int (ZX ns at_))),o4,o5,some (.ol ((ZyP (ZZ (ZB ns at_) 9887 4).toNat).map λk=>tupI (ZgH ns at_ k))),o7,o8,none,none]:=by
  intro o4 o5;refine Zjz (i:=5) (body:=Zc8) dN (λ(s:List Nat) r=>∃o5 o7 o8,r=[some (.pl (.list (ns.map dI))),some (.pl (.int at_)),some (.pl (.int (ZB ns at_))),some (.pl (.int (ZX ns at_))),
   o4,o5,some (.ol (s.map λk=>tupI (ZgH ns at_ k))),o7,o8,none,none]) (ZyP (ZZ (ZB ns at_) 9887 4).toNat) _ ⟨o5,none,none,rfl⟩ ?_
  rintro s k post r hxs ⟨o5,o7,o8,rfl⟩
  have hk':=Zy7.mp (show k∈ZyP (ZZ (ZB ns at_) 9887 4).toNat by rw[hxs]; simp);have hs:s.length<4:=by have:=congrArg Zzw hxs; simp at this; omega
  obtain⟨r7,r8,e⟩:=Zra ns at_ k (ZX ns at_) (some (.pl (.int (ZB ns at_)))) o4 (s.map λk=>tupI (ZgH ns at_ k)) o7 o8 none none (by omega) (by simp; omega) rfl;exact⟨_,e,some (.pl (dN k)),r7,r8,by simp⟩
 have n3:(1+ZZ (ZB ns at_) 9907 3).toNat<1000000:=by omega
 have nl:(ZZ (ZB ns at_) 9887 4).toNat<1000000:=by omega
 have nm:ZX ns at_<1000000:=by omega
 have hdk:((ZyP (1+ZZ (ZB ns at_) 9907 3).toNat).map λk=>ZF ((ZyP (ZX ns at_)).map λs=>Zfy (ZB ns (at_+1+k)+61*(k:Int)) (ZX ns at_) s))=(Zb1 ns at_).map ZF:=by unfold Zb1; simp
 have hlk:((ZyP (ZZ (ZB ns at_) 9887 4).toNat).map λk=>tupI (ZgH ns at_ k))=(Zgm ns at_).map tupI:=by unfold Zgm; simp
 rw[hdk]at f1;simp only[hlk]at lks;have dkl:(Zb1 ns at_).length<10:=by unfold Zb1; simp; omega
 unfold wkV Wk.d Zgy Zn6 Zuv;simp only
 by_cases w1:ZZ (ZB ns at_) 9901 3=1
 ·have w1':(ZZ (ZB ns at_) 9901 3==1)=true:=by simp[w1]
  have cut:cutD ((Zb1 ns at_).map ZF) none (some 1)=((Zb1 ns at_).take 1).map ZF:=by unfold cutD sIx;simp
  obtain⟨r2,f2,p5,p7,p8,q2⟩:=lks (some (.ol (ZF ((ZyP (ZX ns at_)).map λk=>wlV (ZB ns (at_+1)) k)::ZF ((ZyP (ZX ns at_)).map λk=>[beV (ZX ns at_) k])::List.take 1 ((Zb1 ns at_).map ZF)))) o5;subst q2;have c2:min 1 (Zb1 ns at_).length+1+1<1000000:=by omega
  have c3:(2:Nat)+min 1 (Zb1 ns at_).length<1000000:=by omega
  by_cases w2:ZZ (ZB ns at_) 9859 3=1
  ·have w2':(ZZ (ZB ns at_) 9859 3==1)=true:=by simp[w2]
   simp[Za7,Zdu,c0,m4,<-hmc,hlen,m3,ok3,Zat,n3,f1,mw,w1',c1,wk,cut,w1,ml,okl,nl,f2,c7,k7,mb,w2',okm,nm,c8,k8,w2,c2,c3]
  ·have w2':(ZZ (ZB ns at_) 9859 3==1)=false:=by simp[w2]
   simp[Za7,Zdu,c0,m4,<-hmc,hlen,m3,ok3,Zat,n3,f1,mw,w1',c1,wk,cut,w1,ml,okl,nl,f2,c7,k7,mb,w2',okm,nm,c8,k8,w2,c2,c3]
 ·have w1':(ZZ (ZB ns at_) 9901 3==1)=false:=by simp[w1]
  obtain⟨r2,f2,p5,p7,p8,q2⟩:=lks (some (.ol ((Zb1 ns at_).map ZF))) o5;subst q2
  by_cases w2:ZZ (ZB ns at_) 9859 3=1
  ·have w2':(ZZ (ZB ns at_) 9859 3==1)=true:=by simp[w2]
   simp[Za7,Zdu,c0,m4,<-hmc,hlen,m3,ok3,Zat,n3,f1,mw,w1',w1,ml,okl,nl,f2,c7,k7,mb,w2',okm,nm,c8,k8,w2]
  ·have w2':(ZZ (ZB ns at_) 9859 3==1)=false:=by simp[w2]
   simp[Za7,Zdu,c0,m4,<-hmc,hlen,m3,ok3,Zat,n3,f1,mw,w1',w1,ml,okl,nl,f2,c7,k7,mb,w2',okm,nm,c8,k8,w2]
end
end HG
namespace HG
open PySem HM
theorem ZoZ{e:EF}{r:HM.Env}{f:D->D}(xs:List D)(h:∀x∈xs,e (some (.pl x)::r)=some (f x)):Zaq ZU e r xs=some (xs.map f):=by
 have:=Za2 (e:=e) (r:=r) id f xs h
 rwa [List.map_id]at this
theorem ZoE(xs:List D)(p:D->Bool):ZbQ (xs.map λx=>Zzl (p x))=some (xs.map p):=by
 have:=ZfV (xs.map p)
 rwa [Zza]at this
def Zhf(d:D)(lo hi:Int):Bool:=match d with
 | .int i=>decide (lo<=i)&&decide (i<=hi)
 | _=>false
def ndD:D->Prop
 | .dict _=>False
 | _=>True
theorem Zgk(d:D)(lo hi:Int)(nd:ndD d:=by trivial):Za6 [d,.int lo,.int hi]=some (.bool (Zhf d lo hi)):=by
 cases d<;>first | exact nd.elim | simp[Za6,ZiA,Zhf]
 rename_i i
 by_cases h:lo<=i<;>simp[h]
def ZdX(d:D)(lo hi:Int):Bool:=match d with
 | .tuple ds=>decide (lo<=(ds.length:Int))&&decide ((ds.length:Int)<=hi)
 | _=>false
theorem Zfr(d:D)(lo hi:Int)(nd:ndD d:=by trivial):Za4 [d,.int lo,.int hi]=some (.bool (ZdX d lo hi)):=by
 cases d<;>first | exact nd.elim | simp[Za4,Zl9,ZdX]
 rename_i ds
 by_cases h:lo<=(ds.length:Int)<;>simp[h]
def Zct(many:Int):Int->List D->Bool
 | _,[]=>true
 | l,.int i::r=>(decide (l<=i)&&decide (i<=many-1))&&Zct many (i+1) r
 | _,_::_=>false
def Zjs(d:D)(many:Int):Bool:=match d with
 | .tuple ds=>Zct many 0 ds
 | _=>false
theorem Zp5(d:D)(many:Int):∀(ds:List D) (l:Int) (o:Option B),(∀x∈ds,ndD x) ->
  (Zct many l ds=true->∃l' o',Zbc 3 ZaA ds [some (.pl d),some (.pl (.int many)),some (.pl (.int l)),o]=some (.nx [some (.pl d),some (.pl (.int many)),some (.pl (.int l')),o'])) /\
  (Zct many l ds=false->Zbc 3 ZaA ds [some (.pl d),some (.pl (.int many)),some (.pl (.int l)),o]=some (.rt (.bool false)))
 | [],l,o,_=>⟨λ_=>⟨l,o,rfl⟩,λh=>by simp[Zct]at h⟩
 | x::ds,l,o,nd=>by
  have key:=Zgk x l (many-1) (nd x (ZyO ..));cases hx:Zhf x l (many-1)with
  | false =>
   have e:ZaA [some (.pl d),some (.pl (.int many)),some (.pl (.int l)),some (.pl x)]=some (.rt (.bool false)):=by rw[hx]at key;simp[ZaA,key]
   have e2:Zct many l (x::ds)=false:=by cases x<;>simp[Zct];rename_i i;simp[Zhf]at hx;intro h1 h2;exact absurd (hx h1) (by omega)
   refine⟨λh=>?_,λ_=>?_⟩
   ·rw[e2]at h; cases h
   ·unfold Zbc
    show(match ZaA [some (.pl d),some (.pl (.int many)),some (.pl (.int l)),some (.pl x)]with | some (.nx r')=>_ | some (.ct r')=>_ | some (.bk r')=>_ | some (.rt d)=>_ | none=>_)=_;rw[e]
  | true =>
   cases x with
   | int i =>
    have e:ZaA [some (.pl d),some (.pl (.int many)),some (.pl (.int l)),some (.pl (.int i))]=some (.nx [some (.pl d),some (.pl (.int many)),some (.pl (.int (i+1))),some (.pl (.int i))]):=by rw[hx]at key;simp[ZaA,key]
    have e2:Zct many l (.int i::ds)=Zct many (i+1) ds:=by have:(decide (l<=i)&&decide (i<=many-1))=true:=hx;simp only[Zct,this,ZCQ]
    obtain⟨a1,a2⟩:=Zp5 d many ds (i+1) (some (.pl (.int i))) λx hx=>nd x (ZyQ _ hx);rw[e2];have e3:Zbc 3 ZaA (.int i::ds) [some (.pl d),some (.pl (.int many)),some (.pl (.int l)),o]=Zbc 3 ZaA ds [some (.pl d),some (.pl (.int many)),some (.pl (.int (i+1))),some (.pl (.int i))]:=by show(match ZaA [some (.pl d),some (.pl (.int many)),some (.pl (.int l)),some (.pl (.int i))]with | some (.nx r')=>_ | some (.ct r')=>_ | some (.bk r')=>_ | some (.rt d)=>_ | none=>_)=_;rw[e]
    rw[e3];exact⟨a1,a2⟩
   | _=>simp[Zhf]at hx
theorem Zi5(d:D)(many:Int)(hl:∀ds,d=.tuple ds->ds.length<1000000/\∀x∈ds,ndD x)(nd:ndD d:=by trivial):Z9 [d,.int many]=some (.bool (Zjs d many)):=by
 cases d with
 | tuple ds =>
  obtain⟨hl,hn⟩:=hl ds rfl;obtain⟨a1,a2⟩:=Zp5 (.tuple ds) many ds 0 none hn;cases h:Zct many 0 ds with
  | true=>obtain⟨l',o',e⟩:=a1 h;simp[Z9,Zew,Zjs,h,hl,e]
  | false=>have e:=a2 h;simp[Z9,Zew,Zjs,h,hl,e]
 | dict _=>exact nd.elim
 | _=>simp[Z9,Zew,Zjs]
def small:D->Prop
 | .tuple ds=>ds.length<1000000/\∀x∈ds,ndD x
 | .dict _=>False
 | _=>True
theorem Zle{c:List Int}(h:(c.map dI).length<1000000):small (tupI c):=⟨h,λx hx=>by obtain⟨i,_,rfl⟩:=ZyU.mp hx; trivial⟩
theorem ZoF{d:D}(h:small d):ndD d:=by cases d<;>first | exact h.elim | trivial
theorem Zsh{d:D}(h:small d):∀ds,d=.tuple ds->ds.length<1000000/\∀x∈ds,ndD x:=by rintro ds rfl; exact h
def Zji(d:D)(many:Int):Bool:=ZdX d many many&&(match d with | .tuple ds=>ds.all λc=>Zjs c many | _=>false)
def ZkR(d:D):Prop:=match d with | .tuple ds=>ds.length<1000000/\∀x∈ds,small x | .dict _=>False | _=>True
theorem Ztj{d:D}(h:ZkR d):ndD d:=by cases d<;>first | exact h.elim | trivial
theorem Zrs(d:D)(many:Int)(hs:ZkR d):Zcq [d,.int many]=some (.bool (Zji d many)):=by
 have h1:=Zfr d many many (Ztj hs);cases hr:ZdX d many many with
 | false=>rw[hr]at h1; simp[Zcq,ZhF,h1,Zji,hr]
 | true =>
  rw[hr]at h1;cases d with
  | tuple ds =>
   have hs':ds.length<1000000/\∀x∈ds,small x:=hs;simp[Zcq,ZhF,h1,Zji,hr,hs'.1];rw[ZoZ (f:=λc=>.bool (Zjs c many))]
   ·simp[ZoE]
   ·intro x hx
    simp[Zi5 x many (Zsh (hs'.2 x hx)) (ZoF (hs'.2 x hx))]
  | _=>simp[ZdX]at hr
def ZiU(d:D)(many:Int):Bool:=ZdX d many many&&(match d with | .tuple ds=>ds.all λc=>Zhf c 0 9 | _=>false)
theorem Zry(d:D)(many:Int)(hs:small d):Zcr [d,.int many]=some (.bool (ZiU d many)):=by
 have h1:=Zfr d many many (ZoF hs);cases hr:ZdX d many many with
 | false=>rw[hr]at h1; simp[Zcr,ZhG,h1,ZiU,hr]
 | true =>
  rw[hr]at h1;cases d with
  | tuple ds =>
   have hs':ds.length<1000000:=hs.1;simp[Zcr,ZhG,h1,ZiU,hr,hs'];rw[ZoZ (f:=λc=>.bool (Zhf c 0 9))]
   ·simp[ZoE]
   ·intro x hx
    simp[Zgk x 0 9 (hs.2 x hx)]
  | _=>simp[ZdX]at hr
structure Wk.V(w:Wk):Prop where
 m1:1<=w.many
 m2:w.many<=8
 d1:1<=w.deeds.length
 d2:w.deeds.length<=5
 dl:∀dd∈w.deeds,dd.length=w.many
 dc:∀dd∈w.deeds,∀c∈dd,Cr w.many c
 l2:w.looks.length<=4
 ll:∀l∈w.looks,l.length=w.many
 lc:∀l∈w.looks,∀x∈l,0<=x/\x<=9
 b1:w.beg≠[]
 bc:Cr w.many w.beg
 gc:Cr w.many w.goal
theorem Wk.Ok.v{w:Wk}(h:w.Ok):Wk.V w:=by obtain⟨m1,m2,d1,d2,dl,dc,l2,ll,lc,b1,bc,g1,gc⟩:=h;exact⟨by omega,by omega,d1,by omega,dl,dc,by omega,ll,lc,b1,bc,gc⟩
theorem Zl1(n:Nat):∀(c:List Int) (l:Int),c.Pairwise (· < ·)->(∀x∈c,l<=x/\x<(n:Int))->Zct n l (c.map dI)=true
 | [],_,_,_=>rfl
 | x::c,l,hp,hb=>by have h1:=hb x (ZyO ..);have ih:=Zl1 n c (x+1) (ZzJ.mp hp).2 λy hy=>⟨by have:=(ZzJ.mp hp).1 y hy; omega,(hb y (ZyQ _ hy)).2⟩;show((decide (l<=x)&&decide (x<=(n:Int)-1))&&Zct n (x+1) (c.map dI))=true;rw[ih,decide_eq_true h1.1,decide_eq_true (show x<=(n:Int)-1 by omega)];rfl
theorem Zi7{n:Nat}{c:List Int}(h:Cr n c)(hn:n<1000):Z9 [tupI c,.int n]=some (.bool true):=by have hl:=h.len;rw[Zi5 (tupI c) n (by intro ds e; cases e; exact⟨by simp; omega,λx hx=>by obtain⟨i,_,rfl⟩:=ZyU.mp hx; trivial⟩)];show some (Zzl (Zct n 0 (c.map dI)))=_;rw[Zl1 n c 0 h.1 h.2]
theorem ZpW{n:Nat}{c:List Int}(h:Cr n c)(h0:c≠[])(hn:n<1000):Zdd [tupI c,.int n]=some (.bool true):=by
 have h1:=Zi7 h hn;have h2:(0:Int)<(c.length:Int):=by have:=ZCw.mpr h0;omega
 simp[Zdd,ZjT,h1];exact ZCw.mpr h0
theorem Zvr{w:Wk}(h:Wk.V w){dd:List (List Int)}(hd:dd∈w.deeds):Zcq [ZF dd,.int w.many]=some (.bool true):=by
 have hl:=h.dl dd hd;have m2:=h.m2;rw[Zrs (ZF dd) _ (show(dd.map tupI).length<1000000/\∀x∈dd.map tupI,small x by refine⟨by simp; omega,λx hx=>?_⟩;obtain⟨c,hc,rfl⟩:=ZyU.mp hx;have:=(h.dc dd hd c hc).len;refine Zle ?_;simp; omega)];have e:Zji (ZF dd) w.many=true:=by unfold Zji ZF ZdX;simp[hl];intro c hc;exact Zl1 w.many c 0 (h.dc dd hd c hc).1 (h.dc dd hd c hc).2
 rw[e]
theorem ZuS{w:Wk}(h:Wk.V w){l:List Int}(hd:l∈w.looks):Zcr [tupI l,.int w.many]=some (.bool true):=by
 have hl:=h.ll l hd;have m2:=h.m2;rw[Zry (tupI l) _ (Zle (show(l.map dI).length<1000000 by simp; omega))];have e:ZiU (tupI l) w.many=true:=by unfold ZiU ZdX;simp[hl];intro x hx;have:=h.lc l hd x hx;simp[Zhf];omega
 rw[e]
theorem allTrue(α:Type)(xs:List α):ZbQ (xs.map λ_=>Zzl true)=some (xs.map λ_=>true):=by
 have:=ZfV (xs.map λ_=>true)
 rwa [Zza]at this
theorem Zo7{w:Wk}(h:Wk.V w):ZcD [.tuple (w.deeds.map ZF),.int w.many]=some (.bool true):=by
 have h1:=Zfr (.tuple (w.deeds.map ZF)) 1 5;have d1:=h.d1;have d2:=h.d2;have e:ZdX (.tuple (w.deeds.map ZF)) 1 5=true:=by simp[ZdX]; omega
 rw[e]at h1;have hl:w.deeds.length<1000000:=by omega
 simp[ZcD,ZiB,h1,hl];rw[Za2 ZF (λ_=>.bool true)]
 ·simp[allTrue]
 ·intro x hx
  simp[Zvr h hx]
theorem Zo0{w:Wk}(h:Wk.V w):ZcE [.tuple (w.looks.map tupI),.int w.many]=some (.bool true):=by
 have h1:=Zfr (.tuple (w.looks.map tupI)) 0 4;have d2:=h.l2;have e:ZdX (.tuple (w.looks.map tupI)) 0 4=true:=by simp[ZdX]; omega
 rw[e]at h1;have hl:w.looks.length<1000000:=by omega
 simp[ZcE,ZiC,h1,hl];rw[Za2 tupI (λ_=>.bool true)]
 ·simp[allTrue]
 ·intro x hx
  simp[ZuS h hx]
theorem Zph{w:Wk}(h:Wk.V w):ZcF [w.d]=some (.bool true):=by
 have h1:=Zfr w.d 5 5;have e:ZdX w.d 5 5=true:=by simp[ZdX,Wk.d]
 rw[e]at h1;have h2:=Zgk (.int w.many) 1 8;have m1:=h.m1;have m2:=h.m2;have e2:Zhf (.int w.many) 1 8=true:=by simp[Zhf]; omega
 rw[e2]at h2;have h3:=Zo7 h;have h4:=Zo0 h;have h5:=ZpW h.bc h.b1 (by omega);have h6:=Zi7 h.gc (by omega);unfold Wk.d at h1 ⊢;simp[ZcF,ZiD,h1,h2,h3,h4,h5,h6]
theorem ZfS{w:Wk}(h:Wk.V w):Zba [w.d]=some w.d:=by simp[Zba,ZkH,Zph h]
theorem Zhk(w:Wk):Zbl [w.d]=some (.tuple (w.deeds.map ZF)):=by simp[Zbl,ZjU,Wk.d]
theorem Zha(w:Wk):Zbm [w.d]=some (.tuple (w.looks.map tupI)):=by simp[Zbm,ZjV,Wk.d]
theorem Zek{w:Wk}(h:Wk.V w){ls:List Int}(hl:Cr w.looks.length ls):Zaj [w.d,tupI ls]=some (tupI ls):=by have l2:=h.l2;have h1:=Zi7 hl (by omega);simp[Zaj,Zf1,Zha,h1]
end HG
namespace HG
open PySem HM
def Zci(w:Wk)(d s:Int):List Int:=(w.deeds[d.toNat]?.getD [])[s.toNat]?.getD []
def Zk1(w:Wk)(l s:Int):Int:=(w.looks[l.toNat]?.getD [])[s.toNat]?.getD 0
def ZbP(w:Wk)(c:List Int)(d:Int):Bool:=c.all λs=>decide (0<(Zci w d s).length)
def ZbT(w:Wk)(c:List Int)(d:Int):List Int:=c.flatMap λs=>Zci w d s
def Zap(w:Wk)(c:List Int)(d:Int):List Int:=sortI (dedup [] (ZbT w c d))
def ZO(w:Wk)(ls:List Int)(s:Int):List Int:=ls.map λl=>Zk1 w l s
theorem Zp9{w:Wk}{d:Int}(h0:0<=d)(h1:d<w.deeds.length):atD (w.deeds.map ZF) d=some (ZF (w.deeds[d.toNat]?.getD [])):=by
 refine Zju h0 ?_;have h:d.toNat<w.deeds.length:=by omega
 simp[h,ZzP]
theorem Zr7{w:Wk}(hv:Wk.V w){d s:Int}(h0:0<=d)(h1:d<w.deeds.length)(h2:0<=s)(h3:s<w.many):atD ((w.deeds[d.toNat]?.getD []).map tupI) s=some (tupI (Zci w d s)):=by
 refine Zju h2 ?_;have h:d.toNat<w.deeds.length:=by omega
 have hl:(w.deeds[d.toNat]?.getD []).length=w.many:=by
  have:w.deeds[d.toNat]?.getD []=w.deeds[d.toNat]:=by simp[h,ZzP]
  rw[this];exact hv.dl _ (ZAG h)
 have h':s.toNat<(w.deeds[d.toNat]?.getD []).length:=by omega
 unfold Zci;rw[Zy2,Zy9 h'];simp[ZzP,h']
theorem ZsI{w:Wk}(hv:Wk.V w){d s:Int}(h0:0<=d)(h1:d<w.deeds.length)(h2:0<=s)(h3:s<w.many):Cr w.many (Zci w d s):=by
 have h:d.toNat<w.deeds.length:=by omega
 have e:w.deeds[d.toNat]?.getD []=w.deeds[d.toNat]:=by simp[h,ZzP]
 have hl:=hv.dl _ (ZAG h);unfold Zci;rw[e];have h':s.toNat<(w.deeds[d.toNat]).length:=by omega
 have e2:(w.deeds[d.toNat])[s.toNat]?.getD []=(w.deeds[d.toNat])[s.toNat]:=by simp[h',ZzP]
 rw[e2];exact hv.dc _ (ZAG h) _ (ZAG h')
theorem Zvh{w:Wk}{l:Int}(h0:0<=l)(h1:l<w.looks.length):atD (w.looks.map tupI) l=some (tupI (w.looks[l.toNat]?.getD [])):=by
 refine Zju h0 ?_;have h:l.toNat<w.looks.length:=by omega
 simp[h,ZzP]
theorem Zu9{w:Wk}(hv:Wk.V w){l s:Int}(h0:0<=l)(h1:l<w.looks.length)(h2:0<=s)(h3:s<w.many):atD ((w.looks[l.toNat]?.getD []).map dI) s=some (.int (Zk1 w l s)):=by
 refine Zju h2 ?_;have h:l.toNat<w.looks.length:=by omega
 have hl:(w.looks[l.toNat]?.getD []).length=w.many:=by
  have:w.looks[l.toNat]?.getD []=w.looks[l.toNat]:=by simp[h,ZzP]
  rw[this];exact hv.ll _ (ZAG h)
 have h':s.toNat<(w.looks[l.toNat]?.getD []).length:=by omega
 unfold Zk1;rw[Zy2,Zy9 h'];simp[ZzP,h']
theorem Zrb{w:Wk}(hv:Wk.V w){ls:List Int}(hl:Cr w.looks.length ls){s:Int}(h2:0<=s)(h3:s<w.many):ZdG [w.d,tupI ls,.int s]=some (tupI (ZO w ls s)):=by
 have l2:=hv.l2;have hlen:=hl.len;have hb:ls.length<1000000:=by omega
 simp[ZdG,ZkI,hb];rw[Za2 dI (λl=>dI (Zk1 w l s))]
 ·simp[ZO]
 ·intro l hl'
  have hb:=hl.2 l hl';simp[Zha,Zvh hb.1 hb.2,Zu9 hv hb.1 hb.2 h2 h3]
theorem ZlA{w:Wk}(hv:Wk.V w){c:List Int}(hc:Cr w.many c){d:Int}(h0:0<=d)(h1:d<w.deeds.length):Zb7 [w.d,tupI c,.int d]=some (.bool (ZbP w c d)):=by
 have m2:=hv.m2;have hlen:=hc.len;have hb:c.length<1000000:=by omega
 simp[Zb7,Zhq,Zhk,Zp9 h0 h1,hb];rw[Za2 dI (λs=>.bool (decide (0<(Zci w d s).length)))]
 ·have e:=ZfV (c.map λs=>decide (0<(Zci w d s).length))
  rw[Zza]at e;have e':((λb=>Zzl b)∘λs=>decide (0<(Zci w d s).length))=λs=>Zzl (decide (0<(Zci w d s).length)):=rfl;rw[e']at e;simp[e,ZbP]
 ·intro s hs
  have hb:=hc.2 s hs;simp[ZF,Zr7 hv h0 h1 hb.1 hb.2]
def doV(w:Wk)(c:List Int):List Int:=((ZyP w.deeds.length).filter λ(d:Nat)=>ZbP w c (d:Int)).map λ(k:Nat)=>(k:Int)
theorem Zm0{w:Wk}(hv:Wk.V w){c:List Int}(hc:Cr w.many c):Zcl [w.d,tupI c]=some (.list ((doV w c).map dI)):=by
 have d2:=hv.d2;have hok:okR (w.deeds.length:Int)=true:=ZdT (by omega);have hb:w.deeds.length<1000000:=by omega
 simp[Zcl,Zio,Zhk,hok,Zat,hb];rw[ZbX dN (λk:Nat=>ZbP w c k) dN]
 ·simp[doV]
 ·intro k hk
  have hk':=Zy7.mp hk;simp[ZlA hv hc (show(0:Int)<=(k:Int) by omega) (by omega)]
 ·intro k hk _
  simp
def ZcA(acc:List Int)(x:Int):List Int:=if acc.contains x then acc else acc++[x]
theorem ZfT:∀(l acc:List Int),dedup acc l=l.foldl ZcA acc
 | [],acc=>rfl
 | x::l,acc=>by
  unfold dedup;rw[ZAM];unfold ZcA;split
  ·rw[ZfT l acc]; rfl
  ·rw[ZfT l (acc++[x])]; rfl
def tru(acc:List Int):List (Ky × D):=acc.map λi=>(ZAz i,Zzl true)
theorem Zvf(acc:List Int)(x:Int):putD (tru acc) (ZAz x) (Zzl true)=tru (ZcA acc x):=by
 unfold putD ZcA tru
 by_cases h:x∈acc
 ·have e1:((acc.map λi=>((ZAz i:Ky),Zzl true)).any λp=>decide (p.1=ZAz x))=true:=by
   simp; exact h
  have e2:acc.contains x=true:=by simpa using h
  rw[if_pos e1,if_pos e2,Zza];refine Zz7 λi _=>?_;simp
 ·have e1:¬((acc.map λi=>((ZAz i:Ky),Zzl true)).any λp=>decide (p.1=ZAz x))=true:=by
   simp; exact h
  have e2:¬acc.contains x=true:=by simpa using h
  rw[if_neg e1,if_neg e2];simp
theorem Zmq(acc:List Int)(x:Int):(ZcA acc x).length<=acc.length+1:=by unfold ZcA; split<;>simp
theorem Zoi:∀(l acc:List Int),(l.foldl ZcA acc).length<=acc.length+l.length
 | [],acc=>by simp
 | x::l,acc=>by rw[ZAM];have:=Zoi l (ZcA acc x);have:=Zmq acc x;simp; omega
theorem Zse(e0 e1 e2 e3 e5:Option B):∀(l acc:List Int) (o:Option B),acc.length+l.length<1000000 ->
  ∃o',Zbc 6 Zex (l.map dI) [e0,e1,e2,e3,some (.ok (tru acc)),e5,o]=some (.nx [e0,e1,e2,e3,some (.ok (tru (l.foldl ZcA acc))),e5,o'])
 | [],acc,o,_=>⟨o,rfl⟩
 | x::l,acc,o,h=>by
  rw[Zy3]at h;have hb:acc.length<1000000:=by omega
  have e:Zex [e0,e1,e2,e3,some (.ok (tru acc)),e5,some (.pl (dI x))]=some (.nx [e0,e1,e2,e3,some (.ok (tru (ZcA acc x))),e5,some (.pl (dI x))]):=by
   have hl:(tru acc).length<1000000:=by unfold tru; simp; exact hb
   simp[Zex,hl,Zvf]
  have hd:=Zmq acc x;obtain⟨o',e'⟩:=Zse e0 e1 e2 e3 e5 l (ZcA acc x) (some (.pl (dI x))) (by omega);refine⟨o',?_⟩;rw[ZyS,ZAM,<-e'];unfold Zbc;show(match Zex [e0,e1,e2,e3,some (.ok (tru acc)),e5,some (.pl (dI x))]with | some (.nx r')=>_ | some (.ct r')=>_ | some (.bk r')=>_ | some (.rt d)=>_ | none=>_)=_;rw[e];cases l<;>rfl
theorem Zr1{w:Wk}(hv:Wk.V w){d:Int}(h0:0<=d)(h1:d<w.deeds.length)(e1 e2:Option B):∀(c acc:List Int) (o5 o6:Option B),(∀s∈c,0<=s/\s<(w.many:Int))->acc.length+c.length*10<100000 ->
  ∃o5' o6',Zbc 5 Zey (c.map dI) [some (.pl w.d),e1,e2,some (.pl (ZF (w.deeds[d.toNat]?.getD []))),some (.ok (tru acc)),o5,o6]=some (.nx [some (.pl w.d),e1,e2,some (.pl (ZF (w.deeds[d.toNat]?.getD []))),some (.ok (tru ((ZbT w c d).foldl ZcA acc))),o5',o6'])
 | [],acc,o5,o6,_,_=>⟨o5,o6,rfl⟩
 | s::c,acc,o5,o6,hs,hl=>by
  rw[Zy3]at hl;have hb:=hs s (ZyO ..);have hr:=(ZsI hv h0 h1 hb.1 hb.2).len;have m2:=hv.m2;have hrl:(Zci w d s).length<1000000:=by omega
  obtain⟨o',e⟩:=Zse (some (.pl w.d)) e1 e2 (some (.pl (ZF (w.deeds[d.toNat]?.getD [])))) (some (.pl (dI s))) (Zci w d s) acc o6 (by omega);have e':Zey [some (.pl w.d),e1,e2,some (.pl (ZF (w.deeds[d.toNat]?.getD []))),some (.ok (tru acc)),some (.pl (dI s)),o6]=some (.nx [some (.pl w.d),e1,e2,some (.pl (ZF (w.deeds[d.toNat]?.getD []))),some (.ok (tru ((Zci w d s).foldl ZcA acc))),some (.pl (dI s)),o']):=by unfold ZF at e ⊢;simp[Zey,Zr7 hv h0 h1 hb.1 hb.2,hrl,e]
  have hf:=Zoi (Zci w d s) acc;obtain⟨p5,p6,ih⟩:=Zr1 hv h0 h1 e1 e2 c ((Zci w d s).foldl ZcA acc) (some (.pl (dI s))) o' (λx hx=>hs x (ZyQ _ hx)) (by omega);refine⟨p5,p6,?_⟩;have ef:ZbT w (s::c) d=Zci w d s++ZbT w c d:=rfl;rw[ef,List.foldl_append,<-ih,ZyS];show(match Zey [some (.pl w.d),e1,e2,some (.pl (ZF (w.deeds[d.toNat]?.getD []))),some (.ok (tru acc)),some (.pl (dI s)),o6]with | some (.nx r')=>_ | some (.ct r')=>_ | some (.bk r')=>_ | some (.rt d)=>_ | none=>_)=_;rw[e']
theorem ZwG{w:Wk}(hv:Wk.V w){c:List Int}(hc:Cr w.many c){d:Int}(h0:0<=d)(h1:d<w.deeds.length):∀x∈ZbT w c d,0<=x/\x<(w.many:Int):=by intro x hx;obtain⟨s,hs,h⟩:=ZBg.mp hx;exact(ZsI hv h0 h1 (hc.2 s hs).1 (hc.2 s hs).2).2 x h
theorem ZfY{w:Wk}(hv:Wk.V w){c:List Int}(hc:Cr w.many c){d:Int}(h0:0<=d)(h1:d<w.deeds.length):Cr w.many (Zap w c d):=by refine Zh6 (Zfk _ _ (by simp)) λx hx=>ZwG hv hc h0 h1 x ?_;rw[Zfp]at hx;simpa using hx
theorem ZrP{w:Wk}(hv:Wk.V w){c:List Int}(hc:Cr w.many c){d:Int}(h0:0<=d)(h1:d<w.deeds.length):Zds [w.d,tupI c,.int d]=some (tupI (Zap w c d)):=by
 have m2:=hv.m2;have hlen:=hc.len;have hb:c.length<1000000:=by omega
 obtain⟨o5,o6,e⟩:=Zr1 hv h0 h1 (some (.pl (tupI c))) (some (.pl (.int d))) c [] none none hc.2 (by simp; omega);have hl:(dedup [] (ZbT w c d)).length<64:=by have h:=(ZfY hv hc h0 h1).len;have:=(sortI_perm (dedup [] (ZbT w c d))).length_eq;unfold Zap at h;omega
 have hs:=Zik _ hl;rw[ZfT]at hs;have ek:(tru ((ZbT w c d).foldl ZcA [])).map (λp=>Zao p.1)=((ZbT w c d).foldl ZcA []).map dI:=by unfold tru;rw[Zza];rfl
 simp[Zds,Zma,Zhk,Zp9 h0 h1,hb];rw[show some (B.ok [])=some (B.ok (tru [])) from rfl,e];simp[ek,hs,Zap,ZfT]
end HG
namespace HG
open PySem HM
abbrev Gs:=List (List Int × List Int)
abbrev Zae(k:List Int):List Ky:=k.map ZAz
def Zch(g:Gs):List (List Ky × List D):=g.map λp=>(Zae p.1,p.2.map dI)
theorem Zgw{a b:List Int}(h:Zae a=Zae b):a=b:=by
 induction a generalizing b with
 | nil=>cases b with
  | nil=>rfl
  | cons _ _=>simp at h
 | cons x a ih=>cases b with
  | nil=>simp at h
  | cons y b=>simp at h;rw[h.1,ih (by simpa using h.2)]
theorem ZlK(a b:List Int):(Zae a=Zae b)↔a=b:=⟨Zgw,λh=>by rw[h]⟩
theorem Zq7(k:List Int):ZlU (k.map dI)=some (Zae k):=by
 induction k with
 | nil=>rfl
 | cons x k ih=>show(ZlU (k.map dI)).map (ZAz x::·)=_;rw[ih];rfl
theorem ZaK(k:List Int):Zbe (tupI k)=some (Zae k):=Zq7 k
theorem Zkr(g:Gs)(k:List Int):Zm (Zch g) (Zae k)=(Zm g k).map λp=>p.map dI:=by
 unfold Zm Zch;rw[List.find?_map];have e:((λp:List Ky × List D=>decide (p.1=Zae k))∘λp:List Int × List Int=>(Zae p.1,p.2.map dI))=λp=>decide (p.1=k):=by
  funext p
  simp only[ZCb];exact decide_eq_decide.mpr (ZlK p.1 k)
 rw[e];cases g.find? λp=>decide (p.1=k)<;>rfl
theorem Zp2(g:Gs)(k:List Int):ZcL (Zch g) (Zae k)=Zch (ZcL g k):=by
 unfold ZcL;rw[Zkr];cases Zm g k with
 | none=>simp[Zch]
 | some p=>rfl
theorem Zqa(k:List Int)(s:Int):∀(g:Gs),ZdY (Zch g) (Zae k) (dI s)=Zch (ZdY g k s)
 | []=>rfl
 | (x,p)::g=>by
  show ZdY ((Zae x,p.map dI)::Zch g) (Zae k) (dI s)=Zch (ZdY ((x,p)::g) k s);unfold ZdY
  by_cases h:x=k
  ·rw[if_pos (by rw[h]),if_pos h]
   simp[Zch]
  ·rw[if_neg (λe=>h (Zgw e)),if_neg h,Zqa k s g]
   rfl
def Zgs(g:Gs)(k:List Int)(s:Int):Gs:=ZdY (ZcL g k) k s
theorem ZgC(k:List Int):Zm ([]:Gs) k=none:=rfl
theorem Zb6(x:List Int)(p:List Int)(g:Gs)(k:List Int):Zm ((x,p)::g) k=if x=k then some p else Zm g k:=by
 unfold Zm;rw[ZzG]
 by_cases h:x=k<;>simp[h]
theorem Zpf(k:List Int)(s:Int)(k':List Int):∀(g:Gs),Zm (ZdY g k s) k'=if k=k' then(Zm g k).map (·++[s])else Zm g k'
 | []=>by simp[ZdY,ZgC]
 | (x,p)::g=>by
  unfold ZdY
  by_cases h:x=k
  ·subst h
   rw[if_pos rfl,Zb6,Zb6,Zb6,if_pos rfl];split<;>rfl
  ·rw[if_neg h,Zb6,Zpf k s k' g,Zb6,Zb6,if_neg h]
   by_cases h2:x=k'
   ·subst h2
    rw[if_pos rfl,if_pos rfl,if_neg (ZzX h)]
   ·rw[if_neg h2,if_neg h2]
theorem ZkY(x:List Int)(p:List Int)(k:List Int):∀(g:Gs),Zm (g++[(x,p)]) k=match Zm g k with | some q=>some q | none=>if x=k then some p else none
 | []=>by simp[ZgC,Zb6]
 | (y,q)::g=>by rw[ZDf,Zb6,Zb6,ZkY x p k g];split<;>rfl
theorem Zkl(g:Gs)(k k':List Int):Zm (ZcL g k) k'=if k=k' then some ((Zm g k).getD [])else Zm g k':=by
 unfold ZcL;cases h:Zm g k with
 | some p =>
  by_cases e:k=k'
  ·subst e; rw[if_pos rfl]; exact h
  ·rw[if_neg e]
 | none =>
  show Zm (g++[(k,[])]) k'=_;rw[ZkY]
  by_cases e:k=k'
  ·subst e; rw[if_pos rfl,if_pos rfl,h]; rfl
  ·rw[if_neg e,if_neg e]
   cases Zm g k'<;>rfl
theorem Ztg(g:Gs)(k k':List Int)(s:Int):Zm (Zgs g k s) k'=if k=k' then some ((Zm g k).getD []++[s])else Zm g k':=by
 unfold Zgs;rw[Zpf,Zkl,Zkl,if_pos rfl]
 by_cases e:k=k'
 ·rw[if_pos e,if_pos e]; rfl
 ·rw[if_neg e,if_neg e,if_neg e]
theorem ZoP(k:List Int)(s:Int):∀(g:Gs),(ZdY g k s).map (·.1)=g.map (·.1)
 | []=>rfl
 | (x,p)::g=>by
  unfold ZdY;split
  ·rfl
  ·rw[ZyS,ZoP k s g]; rfl
theorem ZkA(g:Gs)(k:List Int):(Zm g k).isSome=true↔k∈g.map (·.1):=by
 induction g with
 | nil=>simp[ZgC]
 | cons p g ih =>
  obtain⟨x,q⟩:=p;rw[Zb6,ZyS,Zzb]
  by_cases h:x=k
  ·simp[h]
  ·rw[if_neg h,ih]
   constructor
   ·exact .inr
   ·rintro (e | e)
    ·exact absurd e.symm h
    ·exact e
theorem Ztm(g:Gs)(k:List Int):(ZcL g k).map (·.1)=if k∈g.map (·.1)then g.map (·.1)else g.map (·.1)++[k]:=by
 unfold ZcL;cases h:Zm g k with
 | some p=>rw[if_pos ((ZkA g k).mp (by rw[h]; rfl))]
 | none=>rw[if_neg (λm=>by have:=(ZkA g k).mpr m; rw[h]at this; cases this)];simp
theorem ZtI(g:Gs)(k:List Int)(s:Int):(Zgs g k s).map (·.1)=if k∈g.map (·.1)then g.map (·.1)else g.map (·.1)++[k]:=by unfold Zgs;rw[ZoP,Ztm]
def Zef(f:Int->List Int)(c:List Int):Gs:=c.foldl (λg s=>Zgs g (f s) s) []
structure Grp(f:Int->List Int)(pre:List Int)(g:Gs):Prop where
 nd:(g.map (·.1)).Nodup
 look:∀k,Zm g k=if k∈pre.map f then some (pre.filter λs=>f s==k)else none
theorem Grp.mem{f:Int->List Int}{pre:List Int}{g:Gs}(h:Grp f pre g)(k:List Int):k∈g.map (·.1)↔k∈pre.map f:=by
 rw[<-ZkA,h.look];split
 ·rename_i m; exact⟨λ_=>m,λ_=>rfl⟩
 ·rename_i m; exact⟨(λe=>by cases e),λe=>absurd e m⟩
theorem Grp.step{f:Int->List Int}{pre:List Int}{g:Gs}(h:Grp f pre g)(s:Int):Grp f (pre++[s]) (Zgs g (f s) s):=by
 refine⟨?_,λk=>?_⟩
 ·rw[ZtI]
  split
  ·exact h.nd
  ·rename_i m
   rw[ZAR];exact⟨h.nd,by simp,λa ha b hb=>by simp at hb; subst hb; exact λe=>m (e▸ha)⟩
 ·rw[Ztg,h.look,h.look,Zzq,List.filter_append]
  by_cases e:f s=k
  ·subst e
   have e0:f s∈pre.map f++[s].map f:=by simp
   rw[if_pos rfl,if_pos e0];have e2:[s].filter (λx=>f x==f s)=[s]:=by simp
   rw[e2];split
   ·rfl
   ·rename_i m
    have:pre.filter (λx=>f x==f s)=[]:=by rw[ZAW];intro a ha q;exact m (ZyU.mpr ⟨a,ha,by simpa using q⟩)
    rw[this]; rfl
  ·have e2:[s].filter (λx=>f x==k)=[]:=by simp[e]
   rw[if_neg e,e2,Zzu];have e3:(k∈pre.map f++[s].map f)↔k∈pre.map f:=by
    rw[Zzp]
    constructor
    ·rintro (q | q)
     ·exact q
     ·simp at q; exact absurd q.symm e
    ·exact .inl
   by_cases q:k∈pre.map f
   ·rw[if_pos q,if_pos (e3.mpr q)]
   ·rw[if_neg q,if_neg (λz=>q (e3.mp z))]
theorem Zqe(f:Int->List Int):∀(c pre:List Int) (g:Gs),Grp f pre g->Grp f (pre++c) (c.foldl (λg s=>Zgs g (f s) s) g)
 | [],pre,g,h=>by rw[Zzu]; exact h
 | s::c,pre,g,h=>by have:=Zqe f c (pre++[s]) _ (h.step s);rw[ZAQ]at this;exact this
theorem Zhx(f:Int->List Int)(c:List Int):Grp f c (Zef f c):=by
 have:=Zqe f c [] [] ⟨ZAI,λk=>by simp[ZgC]⟩
 rwa [ZA0]at this
def Zbz(w:Wk)(ls c:List Int):Gs:=(Zdp ((Zef (ZO w ls) c).map (·.1))).map λk=>(k,c.filter λs=>ZO w ls s==k)
def Zbk(p:List Int × List Int):D:=.tuple [tupI p.1,tupI p.2]
theorem Zth(ks:List (List Int)):Zjt (ks.map tupI)=some ks:=by
 induction ks with
 | nil=>rfl
 | cons k ks ih=>show(match Za5 (k.map dI)with | some ns=>(Zjt (ks.map tupI)).map (ns::·) | none=>none)=_;rw[Ze7,ih];rfl
theorem Zll(ks:List (List Int))(h:ks.length<64)(hn:ks.length<2\/∀k∈ks,k≠[]):ZcX (ks.map tupI)=some ((Zdp ks).map tupI):=by
 unfold ZcX;rw[if_pos (by rw[ZyJ]; exact h)];cases ks with
 | nil=>simp[Za5,sortI,Zdp,ofInts]
 | cons k ks =>
  have e:Za5 (ZA3 tupI (k::ks))=none:=rfl;rw[e,Zth];have e2:(decide ((ZA3 tupI (k::ks)).length<2)||(k::ks).all λt=>!t.isEmpty)=true:=by
   rw[Zzt,ZyJ];rcases hn with q | q
   ·exact .inl (by simpa using q)
   ·refine .inr (ZyR.mpr λt ht=>?_)
    have:=q t ht;cases t with
    | nil=>exact absurd rfl this
    | cons _ _=>rfl
  dsimp only;rw[if_pos e2];unfold ZcP;simp only[Zh1]
theorem ZcY(ks:List (List Int)):(Zdp ks).Perm ks:=ZBP ks _
theorem Zu7(w:Wk)(ls c:List Int)(hc:c.length<60):ZcX ((Zch (Zef (ZO w ls) c)).map λp=>ZzD (p.1.map Zao))=some ((Zdp ((Zef (ZO w ls) c).map (·.1))).map tupI):=by
 have hg:=Zhx (ZO w ls) c;have e:((Zch (Zef (ZO w ls) c)).map λp=>ZzD (p.1.map Zao))=((Zef (ZO w ls) c).map (·.1)).map tupI:=by unfold Zch;rw[Zza,Zza];refine Zz7 λp _=>?_;simp only[ZCb];unfold Zae tupI;rw[Zza];rfl
 rw[e];have hsub:∀k∈(Zef (ZO w ls) c).map (·.1),k∈c.map (ZO w ls):=λk hk=>(hg.mem k).mp hk;refine Zll _ ?_ ?_
 ·have:(Zef (ZO w ls) c).map (·.1) ⊆ c.map (ZO w ls):=hsub
  have:=(ZzC hg.nd this);rw[ZyJ,ZyJ]at this;rw[ZyJ];omega
 ·cases ls with
  | nil =>
   left
   have:(Zef (ZO w []) c).map (·.1) ⊆ [[]]:=λk hk=>by obtain⟨s,_,e⟩:=ZyU.mp (hsub k hk);rw[<-e];simp[ZO]
   have:=(ZzC hg.nd this);simp at this ⊢;omega
  | cons l ls =>
   right
   intro k hk e;obtain⟨s,_,e'⟩:=ZyU.mp (hsub k hk);rw[e]at e';simp[ZO]at e'
theorem Zq9(w:Wk)(ls c:List Int)(e:EF)(r:HM.Env)(h:∀k∈(Zef (ZO w ls) c).map (·.1),e (some (.pl (tupI k))::r)=some (.tuple [tupI k,.tuple ((c.filter λs=>ZO w ls s==k).map dI)])) :
  Zaq ZU e r ((Zdp ((Zef (ZO w ls) c).map (·.1))).map tupI)=some ((Zbz w ls c).map Zbk):=by
 rw[Za2 tupI (λk=>.tuple [tupI k,.tuple ((c.filter λs=>ZO w ls s==k).map dI)])]
 ·unfold Zbz
  rw[Zza];rfl
 ·intro k hk
  exact h k ((ZcY _).mem_iff.mp hk)
theorem Ztt(w:Wk)(ls c:List Int)(k:List Int)(hk:k∈(Zef (ZO w ls) c).map (·.1)):Zm (Zch (Zef (ZO w ls) c)) (Zae k)=some ((c.filter λs=>ZO w ls s==k).map dI):=by have hg:=Zhx (ZO w ls) c;rw[Zkr,hg.look,if_pos ((hg.mem k).mp hk)];rfl
theorem ZuD(f:Int->List Int)(pre:List Int)(g:Gs)(h:Grp f pre g)(k:List Int)(p:List Int)(e:Zm g k=some p):p.length<=pre.length:=by
 rw[h.look]at e;split at e
 ·cases e; exact ZAo _ _
 ·cases e
theorem Zrl(f:Int->List Int)(pre:List Int)(g:Gs)(h:Grp f pre g):g.length<=pre.length:=by have h2:g.map (·.1) ⊆ pre.map f:=λk hk=>(h.mem k).mp hk;have:=ZzC h.nd h2;simpa using this
theorem Zmn{w:Wk}(hv:Wk.V w){ls:List Int}(hl:Cr w.looks.length ls)(e2:Option B):∀(c pre:List Int) (g:Gs) (o:Option B),Grp (ZO w ls) pre g->(∀s∈c,0<=s/\s<(w.many:Int))->pre.length+c.length<1000 ->
  ∃o',Zbc 4 Zez (c.map dI) [some (.pl w.d),some (.pl (tupI ls)),e2,some (.otl (Zch g)),o]=some (.nx [some (.pl w.d),some (.pl (tupI ls)),e2,some (.otl (Zch (c.foldl (λg s=>Zgs g (ZO w ls s) s) g))),o'])
 | [],pre,g,o,_,_,_=>⟨o,rfl⟩
 | s::c,pre,g,o,hg,hb,hn=>by
  rw[Zy3]at hn;have hs:=hb s (ZyO ..);have hlen:(Zch g).length<1000000:=by have:=Zrl _ _ _ hg;unfold Zch;rw[ZyJ]; omega
  have h1:Zm (ZcL (Zch g) (Zae (ZO w ls s))) (Zae (ZO w ls s))=some (((Zm g (ZO w ls s)).getD []).map dI):=by rw[Zp2,Zkr,Zkl,if_pos rfl]; rfl
  have h2:(((Zm g (ZO w ls s)).getD []).map dI).length<1000000:=by
   rw[ZyJ];cases e:Zm g (ZO w ls s)with
   | none=>simp
   | some p=>have:=ZuD _ _ _ hg _ _ e;simp; omega
  have h2':((Zm g (ZO w ls s)).getD []).length<1000000:=by rwa [ZyJ]at h2
  have e:Zez [some (.pl w.d),some (.pl (tupI ls)),e2,some (.otl (Zch g)),some (.pl (dI s))]=some (.nx [some (.pl w.d),some (.pl (tupI ls)),e2,some (.otl (Zch (Zgs g (ZO w ls s) s))),some (.pl (dI s))]):=by have ek:=Zrb hv hl hs.1 hs.2;simp[Zez,ek,ZaK,hlen,h1,h2'];rw[Zp2,Zqa];rfl
  obtain⟨o',ih⟩:=Zmn hv hl e2 c (pre++[s]) (Zgs g (ZO w ls s) s) (some (.pl (dI s))) (hg.step s) (λx hx=>hb x (ZyQ _ hx)) (by simp; omega);refine⟨o',?_⟩;rw[ZyS,ZAM,<-ih];show(match Zez [some (.pl w.d),some (.pl (tupI ls)),e2,some (.otl (Zch g)),some (.pl (dI s))]with | some (.nx r')=>_ | some (.ct r')=>_ | some (.bk r')=>_ | some (.rt d)=>_ | none=>_)=_;rw[e]
theorem ZgI{w:Wk}(hv:Wk.V w){ls:List Int}(hl:Cr w.looks.length ls){c:List Int}(hc:Cr w.many c):Zag [w.d,tupI ls,tupI c]=some (.list ((Zbz w ls c).map Zbk)):=by
 have m2:=hv.m2;have hlen:=hc.len;have hb:c.length<1000000:=by omega
 obtain⟨o',e⟩:=Zmn hv hl (some (.pl (tupI c))) c [] [] none ⟨ZAI,λk=>by simp[ZgC]⟩ hc.2 (by simp; omega);have hk:=Zu7 w ls c (by omega);have hg:c.foldl (λg s=>Zgs g (ZO w ls s) s) []=Zef (ZO w ls) c:=rfl;rw[hg]at e;have hn:(Zdp ((Zef (ZO w ls) c).map (·.1))).length<1000000:=by rw[(ZcY _).length_eq,ZyJ];have:=Zrl _ _ _ (Zhx (ZO w ls) c);omega
 simp[Zag,Zmb,hb];rw[show some (B.otl [])=some (B.otl (Zch [])) from rfl,e];simp[hk,hn];rw[Zq9]
 ·simp
 ·intro k hk'
  simp[ZaK,Ztt w ls c k hk']
end HG
namespace HG
open PySem HM
def nbD:Nat->D->Bool
 | _,.none=>true
 | _,.int _=>true
 | _,.str x=>PyData.canLay0 (.str x)
 | 0,_=>false
 | n+1,.list ds=>ds.all (nbD n)
 | n+1,.tuple ds=>ds.all (nbD n)
 | _,_=>false
theorem Zi2{ds:List D}(h:∀d∈ds,d.canLay0=true):ZBw ds=true:=by
 induction ds with
 | nil=>rfl
 | cons d ds ih=>show(d.canLay0&&ZBw ds)=true;rw[h d (ZyO ..),ih λx hx=>h x (ZyQ _ hx)];rfl
theorem Zka{ds:List D}{n:Nat}(h:∀d∈ds,d.depth<=n):ZCp ds<=n:=by
 induction ds with
 | nil=>exact ZzN _
 | cons d ds ih=>show max d.depth (ZCp ds)<=n;have h1:=h d (ZyO ..);have h2:=ih λx hx=>h x (ZyQ _ hx);omega
theorem Zjf:∀(n:Nat) (d:D),nbD n d=true->d.canLay0=true/\d.depth<=n
 | n,.none,_=>⟨rfl,by show 0<=n; omega⟩
 | n,.int _,_=>⟨rfl,by show 0<=n; omega⟩
 | n,.str x,h=>by refine⟨?_,by show 0<=n; omega⟩;cases n<;>exact h
 | 0,.bool _,h=>by cases h
 | 0,.list _,h=>by cases h
 | 0,.tuple _,h=>by cases h
 | 0,.dict _,h=>by cases h
 | n+1,.bool _,h=>by cases h
 | n+1,.dict _,h=>by cases h
 | n+1,.list ds,h=>by have h':ds.all (nbD n)=true:=h;have hh:=ZyR.mp h';refine⟨Zi2 λd hd=>(Zjf n d (hh d hd)).1,?_⟩;show ZCp ds+1<=n+1;have:=Zka λd hd=>(Zjf n d (hh d hd)).2;omega
 | n+1,.tuple ds,h=>by have h':ds.all (nbD n)=true:=h;have hh:=ZyR.mp h';refine⟨Zi2 λd hd=>(Zjf n d (hh d hd)).1,?_⟩;show ZCp ds+1<=n+1;have:=Zka λd hd=>(Zjf n d (hh d hd)).2;omega
theorem Zkt{n:Nat}{d:D}(h:nbD n d=true)(hn:n<=60):Za0 d=true:=by obtain⟨h1,h2⟩:=Zjf n d h;unfold Za0;rw[h1,decide_eq_true (show d.depth<=60 by omega)];rfl
theorem ZkZ{ds:List D}(ih:∀d∈ds,∀e,(∃m,nbD m e=true)->(ZAx d e=true↔d=e)):∀(es:List D),(∀e∈es,∃m,nbD m e=true)->(ZCR ds es=true↔ds=es):=by
 induction ds with
 | nil =>
  intro es _;cases es with
  | nil=>exact⟨λ_=>rfl,λ_=>rfl⟩
  | cons e es=>exact⟨(λh=>by cases h),(λh=>by cases h)⟩
 | cons d ds ihl =>
  intro es he;cases es with
  | nil=>exact⟨(λh=>by cases h),(λh=>by cases h)⟩
  | cons e es=>show((ZAx d e&&ZCR ds es)=true)↔_;rw[Zy5,ih d (ZyO ..) e (he e (ZyO ..)),ihl (λx hx=>ih x (ZyQ _ hx)) es (λx hx=>he x (ZyQ _ hx)),List.cons.injEq]
theorem ZuM{m:Nat}{ds:List D}(h:nbD m (.list ds)=true):∀d∈ds,∃m,nbD m d=true:=by
 cases m with
 | zero=>cases h
 | succ m=>have h':ds.all (nbD m)=true:=h;exact λd hd=>⟨m,ZyR.mp h' d hd⟩
theorem ZtY{m:Nat}{ds:List D}(h:nbD m (.tuple ds)=true):∀d∈ds,∃m,nbD m d=true:=by
 cases m with
 | zero=>cases h
 | succ m=>have h':ds.all (nbD m)=true:=h;exact λd hd=>⟨m,ZyR.mp h' d hd⟩
theorem Ze3{m:Nat}{b:Bool}(h:nbD m (.bool b)=true):False:=by cases m<;>cases h
theorem Zfd{m:Nat}{b:List (D × D)}(h:nbD m (.dict b)=true):False:=by cases m<;>cases h
theorem Zqt:∀(n:Nat) (d e:D),nbD n d=true->(∃m,nbD m e=true)->(ZAx d e=true↔d=e):=by
 intro n
 induction n with
 | zero =>
  intro d e hd ⟨m,he⟩;cases d<;>first | cases hd | skip
  all_goals cases e<;>first
   | exact(Ze3 he).elim
   | exact(Zfd he).elim
   | exact⟨λ_=>rfl,λ_=>rfl⟩
   | exact⟨(λh=>by cases h),(λh=>by cases h)⟩
   | (rename_i a b; show((a==b)=true)↔_; simp)
 | succ n ih =>
  intro d e hd ⟨m,he⟩;cases d with
  | bool _=>exact(Ze3 hd).elim
  | dict _=>exact(Zfd hd).elim
  | list ds =>
   cases e with
   | list es=>show(ZCR ds es=true)↔_;rw[ZkZ (λd h e he=>ih d e (ZyR.mp (show ds.all (nbD n)=true from hd) d h) he) es (ZuM he)];simp
   | bool _=>exact(Ze3 he).elim
   | dict _=>exact(Zfd he).elim
   | _=>exact⟨(λh=>by cases h),(λh=>by cases h)⟩
  | tuple ds =>
   cases e with
   | tuple es=>show(ZCR ds es=true)↔_;rw[ZkZ (λd h e he=>ih d e (ZyR.mp (show ds.all (nbD n)=true from hd) d h) he) es (ZtY he)];simp
   | bool _=>exact(Ze3 he).elim
   | dict _=>exact(Zfd he).elim
   | _=>exact⟨(λh=>by cases h),(λh=>by cases h)⟩
  | none=>cases e<;>first
   | exact(Ze3 he).elim
   | exact(Zfd he).elim
   | exact⟨λ_=>rfl,λ_=>rfl⟩
   | exact⟨(λh=>by cases h),(λh=>by cases h)⟩
  | int i=>cases e<;>first
   | exact(Ze3 he).elim
   | exact(Zfd he).elim
   | exact⟨(λh=>by cases h),(λh=>by cases h)⟩
   | (rename_i b; show((i==b)=true)↔_; simp)
  | str i=>cases e<;>first
   | exact(Ze3 he).elim
   | exact(Zfd he).elim
   | exact⟨(λh=>by cases h),(λh=>by cases h)⟩
   | (rename_i b; show((i==b)=true)↔_; simp)
theorem Zvo{n m:Nat}{d e:D}(hd:nbD n d=true)(he:nbD m e=true)(hn:n<=60)(hm:m<=60)[Decidable (d=e)]:gEq d e=some (.bool (decide (d=e))):=by
 unfold gEq;rw[Zkt hd hn,Zkt he hm,if_pos (by rfl)];congr 2;have h:=Zqt n d e hd ⟨m,he⟩;cases q:ZAx d e with
 | true=>exact(decide_eq_true (h.mp q)).symm
 | false=>exact(decide_eq_false λz=>by rw[h.mpr z]at q; cases q).symm
theorem Zks{n:Nat}{d:D}(hd:nbD n d=true)(hn:n<=60):gEq d d=some (.bool true):=by unfold gEq;rw[Zkt hd hn,(Zqt n d d hd ⟨n,hd⟩).mpr rfl];rfl
theorem Zjb{n m:Nat}{d e:D}(hd:nbD n d=true)(he:nbD m e=true)(hn:n<=60)(hm:m<=60)(h:d≠e):gEq d e=some (.bool false):=by have:Decidable (d=e):=isFalse h;rw[Zvo hd he hn hm,decide_eq_false h]
theorem Zyt{n:Nat}{ds:List D}(h:∀d∈ds,nbD n d=true):nbD (n+1) (.tuple ds)=true:=ZyR.mpr h
theorem Zyu{n:Nat}{ds:List D}(h:∀d∈ds,nbD n d=true):nbD (n+1) (.list ds)=true:=ZyR.mpr h
theorem Zda(n:Nat)(i:Int):nbD n (.int i)=true:=by cases n<;>rfl
theorem Zvm(n:Nat):nbD n .none=true:=by cases n<;>rfl
end HG
namespace HG
open PySem HM
def lkV(n:Nat)(c:Int):List Int:=((ZyP n).filter λ(k:Nat)=>decide (0<ZZ (c+19*(k:Int)) 9857 4)).map λ(k:Nat)=>(k:Int)
theorem ZvK(n:Nat)(c:Int):Cr n (lkV n c):=Zh8 n _
theorem Zuf{w:Wk}(hv:Wk.V w)(c:Int):ZcG [w.d,.int c]=some (tupI (lkV w.looks.length c)):=by
 have l2:=hv.l2;have hok:okR (w.looks.length:Int)=true:=ZdT (by omega);have hb:w.looks.length<1000000:=by omega
 have e2:atD [ZzR w.many,.tuple (w.deeds.map ZF),.tuple (w.looks.map tupI),tupI w.beg,tupI w.goal] 2=some (.tuple (w.looks.map tupI)):=by simp
 unfold Wk.d;simp[ZcG,ZiE,hok,Zat,hb];rw[ZbX dN (λk:Nat=>decide (0<ZZ (c+19*(k:Int)) 9857 4)) dN]
 ·simp[lkV]
 ·intro k hk
  have m:=Zcu (c+19*(k:Int)) 9857 4 (by decide) (by decide);simp[m]
 ·intro k hk _
  simp
def ZyH(w:Wk)(c:List Int)(d:Int):D:=if ZbP w c d then tupI (Zap w c d)else .none
theorem Zc5{w:Wk}{c:List Int}{d:Int}(h:d∈doV w c):0<=d/\d<w.deeds.length/\ZbP w c d=true:=by unfold doV at h;obtain⟨k,hk,rfl⟩:=ZyU.mp h;obtain⟨h1,h2⟩:=Zy6.mp hk;have:=Zy7.mp h1;exact⟨by omega,by omega,h2⟩
end HG
namespace HG4
open PySem HM HG
def ZiF:SF :=
 (ZG (ZcZ (ZbM (ZaS (bOf (Zf Zbm (Za (Zf Zba (Za (Zb 0) Zg)) Zg)))))))
def Zcb:List D->Option D:=fnOf 1 1 ZiF
end HG4
namespace HM
open PySem
theorem ZM{P:Option Out->Prop}{a b:SF}{r r':Env}(h:a r=some (.nx r'))(k:P (b r')):P (Zt a b r):=by show P (match a r with | some (.nx r')=>b r' | some (.rt d)=>some (.rt d) | some (.bk r')=>some (.bk r') | some (.ct r')=>some (.ct r') | none=>none);rw[h];exact k
end HM
namespace HG4
open PySem HM HG
def Zc1(w:Wk)(ls c:List Int)(s:Int):List Int:=c.filter λx=>ZO w ls x==ZO w ls s
theorem Zwz{n:Nat}{c:List Int}(p:Int->Bool)(h:Cr n c):Cr n (c.filter p):=⟨h.1.filter p,λx hx=>h.2 x (Zy6.mp hx).1⟩
def alV(w:Wk):List Int:=(ZyP w.looks.length).map λ(k:Nat)=>(k:Int)
theorem Zwh(w:Wk):Cr w.looks.length (alV w):=by
 have:=Zh8 w.looks.length λ_=>true
 rwa [ZCv.mpr λ_ _=>rfl]at this
theorem Zpc{w:Wk}{ls c:List Int}{s x:Int}:x∈Zc1 w ls c s↔x∈c/\ZO w ls x=ZO w ls s:=by unfold Zc1;rw[Zy6,beq_iff_eq]
theorem Zfe{w:Wk}{c:List Int}{d x:Int}:x∈Zap w c d↔∃s∈c,x∈Zci w d s:=by
 unfold Zap;rw[(sortI_perm _).mem_iff,Zfp];unfold ZbT;rw[ZBg]
 constructor
 ·rintro (h | h)
  ·cases h
  ·exact h
 ·exact .inr
theorem Zn0{w:Wk}(hv:Wk.V w):Zcb [w.d]=some (tupI (alV w)):=by
 have l2:=hv.l2;have hok:okR (w.looks.length:Int)=true:=ZdT (by omega);have hb:w.looks.length<1000000:=by omega
 simp[Zcb,ZiF,ZfS hv,Zha,hok,Zat,hb,alV]
end HG4
namespace HM
open PySem
def ZS:Option Out->Option D
 | some (.nx _)=>some .none
 | some (.rt d)=>some d
 | _=>none
end HM
namespace HG4
open PySem HM HG
end HG4
namespace HG5
open PySem HM HG HG4
def Zq(w:Wk)(ls c:List Int):List (List Int):=(Zbz w ls c).map (·.2)
theorem Zbi{w:Wk}{ls c p:List Int}:p∈Zq w ls c↔∃s∈c,p=Zc1 w ls c s:=by
 unfold Zq Zbz;rw[Zza,ZyU];have hg:=Zhx (ZO w ls) c
 constructor
 ·rintro ⟨k,hk,rfl⟩
  obtain⟨s,hs,e⟩:=ZyU.mp ((hg.mem k).mp ((ZcY _).mem_iff.mp hk));refine⟨s,hs,?_⟩;subst e;rfl
 ·rintro ⟨s,hs,rfl⟩
  exact⟨ZO w ls s,(ZcY _).mem_iff.mpr ((hg.mem _).mpr (ZyU.mpr ⟨s,hs,rfl⟩)),rfl⟩
theorem ZhE{w:Wk}{ls c p:List Int}(hc:Cr w.many c)(h:p∈Zq w ls c):Cr w.many p/\p≠[]/\∀x∈p,x∈c:=by obtain⟨s,hs,rfl⟩:=Zbi.mp h;exact⟨Zwz _ hc,ZBv (Zpc.mpr ⟨hs,rfl⟩),λx hx=>(Zpc.mp hx).1⟩
theorem Ze6{w:Wk}{ls c:List Int}(h:c≠[]):Zq w ls c≠[]:=by
 cases c with
 | nil=>exact absurd rfl h
 | cons s c=>exact ZBv (Zbi.mpr ⟨s,ZyO ..,rfl⟩)
def Zjj:Nat->List (List Int)
 | 0=>[[]]
 | n+1=>Zjj n++(Zjj n).map (·++[(n:Int)])
theorem Zob:∀n,(Zjj n).length=2 ^ n
 | 0=>rfl
 | n+1=>by show(Zjj n++(Zjj n).map (·++[(n:Int)])).length=_;rw[Zy8,ZyJ,Zob n,Nat.pow_succ];omega
theorem Zku:∀(n:Nat) (c:List Int),Cr n c->c∈Zjj n
 | 0,c,h=>by
  cases c with
  | nil=>exact ZyY.mpr rfl
  | cons x c=>have:=h.2 x (ZyO ..); omega
 | n+1,c,h=>by
  show c∈Zjj n++(Zjj n).map (·++[(n:Int)])
  by_cases hm:(n:Int)∈c
  ·-- the last is n
   have key:∀(c:List Int),c.Pairwise (· < ·)->(∀x∈c,0<=x/\x<((n+1:Nat):Int))->(n:Int)∈c->∃c',c=c'++[(n:Int)]/\c'.Pairwise (· < ·)/\∀x∈c',0<=x/\x<(n:Int):=by
    intro c
    induction c with
    | nil=>intro _ _ h; simp at h
    | cons x c ih =>
     intro hp hb hm;obtain⟨p1,p2⟩:=ZzJ.mp hp
     by_cases hx:x=(n:Int)
     ·cases c with
      | nil=>exact⟨[],by rw[hx]; rfl,.nil,λy hy=>by simp at hy⟩
      | cons y c=>have h1:=p1 y (ZyO ..);have h2:=hb y (ZyQ _ (ZyO ..));omega
     ·have hm':(n:Int)∈c:=by
       rcases Zzb.mp hm with e | e
       ·exact absurd e.symm hx
       ·exact e
      obtain⟨c',e,q1,q2⟩:=ih p2 (λy hy=>hb y (ZyQ _ hy)) hm';refine⟨x::c',by rw[e]; rfl,ZzJ.mpr ⟨λy hy=>p1 y (by rw[e]; exact ZzY _ hy),q1⟩,λy hy=>?_⟩;rcases Zzb.mp hy with e' | hy
      ·have h1:=p1 (n:Int) hm'
       have h2:=hb x (ZyO ..);rw[e'];omega
      ·exact q2 y hy
   obtain⟨c',e,q1,q2⟩:=key c h.1 h.2 hm;exact Zzk _ (ZyU.mpr ⟨c',Zku n c' ⟨q1,q2⟩,e.symm⟩)
  ·refine ZzY _ (Zku n c ⟨h.1,λx hx=>?_⟩)
   have h1:=h.2 x hx;have:x≠(n:Int):=λe=>hm (e▸hx);omega
theorem Zlp{n:Nat}{L:List (List Int)}(hn:L.Nodup)(h:∀c∈L,Cr n c):L.length<=2 ^ n:=by rw[<-Zob n];exact ZzC hn λc hc=>Zku n c (h c hc)
def ZD(w:Wk)(c:List Int):Bool:=c.all λs=>w.goal.contains s
def Win(w:Wk)(ls:List Int):Nat->List Int->Bool
 | 0,c=>ZD w c
 | n+1,c=>ZD w c||(ZyP w.deeds.length).any λd=>ZbP w c d&&(Zq w ls (Zap w c d)).all λp=>Win w ls n p
theorem Zor{w:Wk}{ls:List Int}:∀(n:Nat) (c:List Int),Win w ls n c=true->Win w ls (n+1) c=true
 | 0,c,h=>by show(ZD w c||_)=true;rw[show ZD w c=true from h];rfl
 | n+1,c,h=>by
  have h':(ZD w c||(ZyP w.deeds.length).any λd=>ZbP w c d&&(Zq w ls (Zap w c d)).all λp=>Win w ls n p)=true:=h;show(ZD w c||(ZyP w.deeds.length).any λd=>ZbP w c d&&(Zq w ls (Zap w c d)).all λp=>Win w ls (n+1) p)=true;rw[Zzt]at h' ⊢;rcases h' with h' | h'
  ·exact .inl h'
  ·right
   obtain⟨d,hd,hq⟩:=ZyV.mp h';rw[Zy5]at hq;refine ZyV.mpr ⟨d,hd,?_⟩;rw[Zy5];exact⟨hq.1,ZyR.mpr λp hp=>Zor n p (ZyR.mp hq.2 p hp)⟩
theorem Zfq{w:Wk}{ls:List Int}{n m:Nat}(h:n<=m){c:List Int}(q:Win w ls n c=true):Win w ls m c=true:=by
 induction h with
 | refl=>exact q
 | step _ ih=>exact Zor _ _ ih
def Zdc(w:Wk)(ls:List Int)(L:List (List Int)):Prop:=∀c∈L,∀d:Nat,d<w.deeds.length->ZbP w c d=true->∀p∈Zq w ls (Zap w c d),p∈L
theorem Zlf{w:Wk}{ls:List Int}{L:List (List Int)}(hL:Zdc w ls L){n:Nat}(h:∀c∈L,Win w ls (n+1) c=true->Win w ls n c=true):∀(m:Nat),∀c∈L,Win w ls m c=true->Win w ls n c=true
 | 0,c,_,q=>Zfq (ZzN n) q
 | m+1,c,hc,q=>by
  refine h c hc ?_;have q':(ZD w c||(ZyP w.deeds.length).any λd=>ZbP w c d&&(Zq w ls (Zap w c d)).all λp=>Win w ls m p)=true:=q;show(ZD w c||(ZyP w.deeds.length).any λd=>ZbP w c d&&(Zq w ls (Zap w c d)).all λp=>Win w ls n p)=true;rw[Zzt]at q' ⊢;rcases q' with q' | q'
  ·exact .inl q'
  ·right
   obtain⟨d,hd,hq⟩:=ZyV.mp q';rw[Zy5]at hq;refine ZyV.mpr ⟨d,hd,?_⟩;rw[Zy5];exact⟨hq.1,ZyR.mpr λp hp=>Zlf hL h m p (hL c hc d (Zy7.mp hd) hq.1 p hp) (ZyR.mp hq.2 p hp)⟩
theorem Ziv{α:Type}{p q:α->Bool}:∀{L:List α},(∀x∈L,p x=true->q x=true)->(∃x∈L,q x=true/\p x=false)->(L.filter p).length<(L.filter q).length
 | [],_,⟨x,hx,_⟩=>by simp at hx
 | y::L,h,⟨x,hx,h1,h2⟩=>by
  have le:∀{L:List α},(∀x∈L,p x=true->q x=true)->(L.filter p).length<=(L.filter q).length:=by
   intro L
   induction L with
   | nil=>intro _; exact ZyT _
   | cons z L ih =>
    intro h;have:=ih λx hx=>h x (ZyQ _ hx);have hz:=h z (ZyO ..);rw[ZAg,ZAg];cases hp:p z with
    | true=>rw[hz hp]; simpa using this
    | false =>
     cases q z
     ·simpa using this
     ·simp; omega
  have hL:=λx hx=>h x (ZyQ y hx);have hy:=h y (ZyO ..);rw[ZAg,ZAg];rcases Zzb.mp hx with e | hx
  ·subst e
   rw[h2,h1];have:=le hL;simp; omega
  ·have:=Ziv hL ⟨x,hx,h1,h2⟩
   cases hp:p y with
   | true=>rw[hy hp]; simpa using this
   | false =>
    cases q y
    ·simpa using this
    ·simp; omega
end HG5
namespace HG5
open PySem HM HG
end HG5
namespace HG5
open PySem HM HG HG4
theorem Zk5{w:Wk}{c:List Int}{d:Int}(h0:c≠[])(hc:ZbP w c d=true):Zap w c d≠[]:=by
 cases c with
 | nil=>exact absurd rfl h0
 | cons s c =>
  unfold ZbP at hc;have h1:=ZyR.mp hc s (ZyO ..);have h2:0<(Zci w d s).length:=by simpa using h1
  cases hr:Zci w d s with
  | nil=>rw[hr]at h2; simp at h2
  | cons x xs=>exact ZBv (Zfe.mpr ⟨s,ZyO ..,by rw[hr]; exact ZyO ..⟩)
def ZyA(w:Wk)(ls c:List Int)(L:List (List Int))(d:Nat):List (List Int):=if ZbP w c d then L++(Zq w ls (Zap w c d)).filter (λp=>!L.contains p)else L
end HG5
namespace HG5
open PySem HM HG HG4
abbrev Tb:=List (List Int × Int)
def encM(M:Tb):List (List Ky × D):=M.map λp=>(Zae p.1,dI p.2)
theorem Zcw(M:Tb)(k:List Int):Zm (encM M) (Zae k)=(Zm M k).map dI:=by
 unfold Zm encM;rw[List.find?_map];have e:((λp:List Ky × D=>decide (p.1=Zae k))∘λp:List Int × Int=>(Zae p.1,dI p.2))=λp=>decide (p.1=k):=by
  funext p
  simp only[ZCb];exact decide_eq_decide.mpr (ZlK p.1 k)
 rw[e];cases M.find? λp=>decide (p.1=k)<;>rfl
theorem ZnY(M:Tb)(k:List Int)(v:Int):putD (encM M) (Zae k) (dI v)=encM (putD M k v):=by
 unfold putD;have e1:((encM M).any λp=>decide (p.1=Zae k))=M.any λp=>decide (p.1=k):=by
  unfold encM;rw[List.any_map];congr 1
  funext p
  simp only[ZCb];exact decide_eq_decide.mpr (ZlK p.1 k)
 rw[e1];split
 ·unfold encM
  rw[Zza,Zza];refine Zz7 λp _=>?_;simp only[ZCb]
  by_cases h:p.1=k
  ·rw[if_pos h,if_pos (by rw[h])]
  ·rw[if_neg h,if_neg (λe=>h (Zgw e))]
 ·unfold encM
  rw[Zzq];rfl
theorem Zjm(k:List Int):Zm ([]:Tb) k=none:=rfl
theorem ZbL(x:List Int)(v:Int)(M:Tb)(k:List Int):Zm ((x,v)::M) k=if x=k then some v else Zm M k:=by
 unfold Zm;rw[ZzG]
 by_cases h:x=k<;>simp[h]
theorem ZrS(x k:List Int)(v:Int)(M:Tb):Zm (putD M x v) k=if x=k then some v else Zm M k:=by
 have rep:∀M:Tb,Zm (M.map λp=>if p.1=x then(p.1,v)else p) k=if x=k then(Zm M k).map (λ_=>v)else Zm M k:=by
  intro M
  induction M with
  | nil=>rw[ZAN,Zjm]; split<;>rfl
  | cons p M ih =>
   obtain⟨a,b⟩:=p;rw[ZyS]
   by_cases ha:a=x
   ·rw[if_pos (show(a,b).1=x from ha),ZbL,ZbL,ih]
    show(if a=k then some v else _)=_
    by_cases hk:x=k
    ·rw[if_pos (by rw[ha,hk]),if_pos hk,if_pos (by rw[ha,hk])]; rfl
    ·rw[if_neg (by rw[ha]; exact hk),if_neg hk,if_neg hk,if_neg (by rw[ha]; exact hk)]
   ·rw[if_neg (show ¬(a,b).1=x from ha),ZbL,ZbL,ih]
    by_cases hk:a=k
    ·rw[if_pos hk,if_pos hk]
     have:x≠k:=λe=>ha (hk.trans e.symm);rw[if_neg this]
    ·rw[if_neg hk,if_neg hk]
 have app:∀M:Tb,Zm (M++[(x,v)]) k=match Zm M k with | some u=>some u | none=>if x=k then some v else none:=by
  intro M
  induction M with
  | nil=>rw[ZA0,ZbL,Zjm]
  | cons p M ih =>
   obtain⟨a,b⟩:=p;rw[ZDf,ZbL,ZbL,ih]
   by_cases hk:a=k
   ·rw[if_pos hk,if_pos hk]
   ·rw[if_neg hk,if_neg hk]
 have has:∀M:Tb,(M.any λp=>decide (p.1=x))=(Zm M x).isSome:=by
  intro M
  induction M with
  | nil=>rfl
  | cons p M ih =>
   obtain⟨a,b⟩:=p;rw[ZBo,ZbL,ih]
   by_cases ha:a=x<;>simp[ha]
 unfold putD;split
 ·rename_i h
  rw[rep]
  by_cases hk:x=k
  ·subst hk
   rw[has]at h;rw[if_pos rfl,if_pos rfl];obtain⟨u,hu⟩:=Zzf.mp h;rw[hu]; rfl
  ·rw[if_neg hk,if_neg hk]
 ·rename_i h
  rw[app]
  by_cases hk:x=k
  ·subst hk
   rw[has]at h;rw[if_pos rfl,if_pos rfl];cases hq:Zm M x with
   | none=>rfl
   | some u=>rw[hq]at h; exact absurd rfl h
  ·rw[if_neg hk,if_neg hk]
   cases Zm M k<;>rfl
theorem Zqd(x:List Int)(v:Int)(M:Tb):(putD M x v).length<=M.length+1:=by
 unfold putD;split
 ·rw[ZyJ]; omega
 ·rw[Zy8]; exact ZyT _
def Zw(M:Tb)(p:List Int):Bool:=(Zm M p).isSome
def Zfx(w:Wk)(ls c:List Int)(M:Tb):Bool:=(ZyP w.deeds.length).any λd=>ZbP w c d&&(Zq w ls (Zap w c d)).all λp=>Zw M p
end HG5
namespace HG5
open PySem HM HG HG4
def ZcB(w:Wk)(ls:List Int)(t:Nat)(c:List Int):Option Int:=((ZyP (t+1)).find? λn=>Win w ls n c).map λ(n:Nat)=>(n:Int)
theorem Zc0{w:Wk}{ls:List Int}{t:Nat}{c:List Int}:(ZcB w ls t c).isSome=Win w ls t c:=by
 unfold ZcB;rw[Zz9];cases h:Win w ls t c with
 | true=>rw[ZBz]; exact⟨t,Zy7.mpr (by omega),h⟩
 | false =>
  cases q:(ZyP (t+1)).find? λn=>Win w ls n c with
  | none=>rfl
  | some n=>have h1:=ZCq q;have h2:=Zy7.mp (ZAn q);rw[Zfq (show n<=t by omega) h1]at h;cases h
theorem ZqS{w:Wk}{ls:List Int}{t:Nat}{c:List Int}:ZcB w ls (t+1) c=match ZcB w ls t c with
  | some k=>some k
  | none=>if Win w ls (t+1) c then some ((t+1:Nat):Int)else none:=by
 unfold ZcB;rw[List.range_succ (n:=t+1),ZB1];cases(ZyP (t+1)).find? λn=>Win w ls n c with
 | some n=>rfl
 | none=>show ZAP _ (Option.or none ([t+1].find? λn=>Win w ls n c))=_;rw[Option.none_or,ZzG];cases Win w ls (t+1) c<;>rfl
theorem Zlo{w:Wk}{ls:List Int}{t:Nat}{c:List Int}{k:Int}(h:ZcB w ls t c=some k):∃n:Nat,k=(n:Int)/\n<=t/\Win w ls n c=true/\∀m,m<n->Win w ls m c=false:=by
 unfold ZcB at h;obtain⟨n,hn,rfl⟩:=ZyL.mp h;refine⟨n,rfl,?_,ZCq (p:=λn=>Win w ls n c) hn,λm hm=>?_⟩
 ·have:=Zy7.mp (ZAn hn)
  omega
 ·cases q:Win w ls m c with
  | false=>rfl
  | true =>
   obtain⟨_,as,bs,e,hno⟩:=ZCs.mp hn;have hmem:m∈ZyP (t+1):=Zy7.mpr (by have:=Zy7.mp (ZAn hn);omega);have hp:(as++n::bs).Pairwise (· < ·):=by rw[<-e]; exact ZDy
   rw[e]at hmem;rcases Zzp.mp hmem with h1 | h1
   ·have:=hno m h1
    rw[q]at this;cases this
   ·rcases Zzb.mp h1 with h2 | h2
    ·omega
    ·have:=(ZzJ.mp (ZCn.mp hp).2.1).1 m h2
     omega
structure Zig(w:Wk)(ls:List Int)(L:List (List Int))(t:Nat)(M:Tb):Prop where
 look:∀c,Zm M c=if c∈L then ZcB w ls t c else none
theorem Zeq(v:Int)(k:List Int):∀(ms:List (List Int)) (M:Tb),Zm (ms.foldl (λM c=>putD M c v) M) k=if k∈ms then some v else Zm M k
 | [],M=>by simp
 | c::ms,M=>by
  rw[ZAM,Zeq v k ms,ZrS]
  by_cases h1:k∈ms
  ·rw[if_pos h1,if_pos (ZyQ _ h1)]
  ·rw[if_neg h1]
   by_cases h2:c=k
   ·rw[if_pos h2,if_pos (by rw[h2]; exact ZyO ..)]
   ·rw[if_neg h2,if_neg]
    intro h;rcases Zzb.mp h with e | e
    ·exact h2 e.symm
    ·exact h1 e
theorem Zml(v:Int):∀(ms:List (List Int)) (M:Tb),(ms.foldl (λM c=>putD M c v) M).length<=M.length+ms.length
 | [],M=>ZyT _
 | c::ms,M=>by rw[ZAM,Zy3];have:=Zml v ms (putD M c v);have:=Zqd c v M;omega
def ZfP(w:Wk)(ls:List Int)(L:List (List Int))(M:Tb):List (List Int):=L.filter λc=>!Zw M c&&Zfx w ls c M
theorem ZoX{w:Wk}{ls:List Int}{L:List (List Int)}(hL:Zdc w ls L){t:Nat}{M:Tb}(T:Zig w ls L t M):Zig w ls L (t+1) ((ZfP w ls L M).foldl (λM c=>putD M c ((t+1:Nat):Int)) M):=by
 have hhas:∀c∈L,Zw M c=Win w ls t c:=λc hc=>by unfold Zw;rw[T.look,if_pos hc,Zc0]
 refine⟨λc=>?_⟩;rw[Zeq,T.look]
 by_cases hc:c∈L
 ·rw[if_pos hc,if_pos hc,ZqS]
  have hcan:Zfx w ls c M=(ZyP w.deeds.length).any λd=>ZbP w c d&&(Zq w ls (Zap w c d)).all λp=>Win w ls t p:=by
   unfold Zfx;apply ZDp.mpr;rw[ZyV,ZyV]
   constructor
   ·rintro ⟨d,hd,hq⟩
    rw[Zy5]at hq;refine⟨d,hd,?_⟩;rw[Zy5];refine⟨hq.1,ZyR.mpr λp hp=>?_⟩;rw[<-hhas p (hL c hc d (Zy7.mp hd) hq.1 p hp)];exact ZyR.mp hq.2 p hp
   ·rintro ⟨d,hd,hq⟩
    rw[Zy5]at hq;refine⟨d,hd,?_⟩;rw[Zy5];refine⟨hq.1,ZyR.mpr λp hp=>?_⟩;rw[hhas p (hL c hc d (Zy7.mp hd) hq.1 p hp)];exact ZyR.mp hq.2 p hp
  have hmem:c∈ZfP w ls L M↔(Win w ls t c=false/\Zfx w ls c M=true):=by
   unfold ZfP;rw[Zy6,Zy5,hhas c hc]
   constructor
   ·rintro ⟨_,h1,h2⟩
    exact⟨by simpa using h1,h2⟩
   ·rintro ⟨h1,h2⟩
    exact⟨hc,by simp[h1],h2⟩
  cases hw:Win w ls t c with
  | true =>
   have hs:(ZcB w ls t c).isSome=true:=by rw[Zc0]; exact hw
   obtain⟨k,hk⟩:=Zzf.mp hs;rw[if_neg (λh=>by rw[hw]at hmem; cases(hmem.mp h).1),hk]
  | false =>
   have hs:ZcB w ls t c=none:=by
    have:=Zc0 (w:=w) (ls:=ls) (t:=t) (c:=c);rw[hw]at this;cases q:ZcB w ls t c with
    | none=>rfl
    | some k=>rw[q]at this; cases this
   have hth:ZD w c=false:=by
    cases q:ZD w c with
    | false=>rfl
    | true=>have:Win w ls t c=true:=Zfq (ZzN t) (show Win w ls 0 c=true from q);rw[hw]at this;cases this
   have hwin:Win w ls (t+1) c=Zfx w ls c M:=by rw[hcan];show(ZD w c||_)=_;rw[hth,ZB8]
   rw[hs];dsimp only;rw[hwin];cases hcw:Zfx w ls c M with
   | true=>rw[if_pos (hmem.mpr ⟨hw,hcw⟩),if_pos rfl]
   | false=>rw[if_neg (λh=>by have:=(hmem.mp h).2; rw[hcw]at this; cases this)]; rfl
 ·rw[if_neg hc,if_neg hc,if_neg]
  intro h;exact hc (Zy6.mp h).1
def M0(w:Wk)(L:List (List Int)):Tb:=(L.filter λc=>ZD w c).foldl (λM c=>putD M c 0) []
theorem Zo5{w:Wk}{ls:List Int}{L:List (List Int)}:Zig w ls L 0 (M0 w L):=by
 refine⟨λc=>?_⟩;unfold M0;rw[Zeq,Zjm];have e:ZcB w ls 0 c=if ZD w c then some 0 else none:=by unfold ZcB;show ZAP _ (([0]:List Nat).find? λn=>Win w ls n c)=_;rw[ZzG];show ZAP _ (match Win w ls 0 c with | true=>some 0 | false=>_)=_;have:Win w ls 0 c=ZD w c:=rfl;rw[this];cases ZD w c<;>rfl
 rw[e]
 by_cases hc:c∈L
 ·rw[if_pos hc]
  cases ht:ZD w c with
  | true=>rw[if_pos (Zy6.mpr ⟨hc,ht⟩)]; rfl
  | false=>rw[if_neg (λh=>by have:=(Zy6.mp h).2; rw[ht]at this; cases this)]; rfl
 ·rw[if_neg hc,if_neg λh=>hc (Zy6.mp h).1]
end HG5
namespace HG5
open PySem HM HG HG4
def ZlT(w:Wk)(ls:List Int)(n:Nat):Prop:=∀p∈Zq w ls w.beg,Win w ls n p=true
def Few(w:Wk)(ls:List Int)(d:D):Prop:=(∃n:Nat,d=.int n/\ZlT w ls n/\∀m,m<n->¬ZlT w ls m)\/(d=.none/\∀n,¬ZlT w ls n)
end HG5
namespace HG5
open PySem HM HG
def Zpo:SF :=
 (ZG (eIx (Zn 0) (eC (.int 3))))
def Zac:List D->Option D:=fnOf 1 1 Zpo
def ZqD:SF :=
 (ZG (eIx (Zn 0) (eC (.int 4))))
def ZdH:List D->Option D:=fnOf 1 1 ZqD
def ZjZ:SF :=
 (ZG (ZcM (ZC (ZN (bOf (Zb 1))) ZU (Zog (Zb 0) (bOf (Zf ZdH (Za (Zb 1) Zg)))))))
def ZbI:List D->Option D:=fnOf 2 2 ZjZ
def ZiG:SF :=
 (ZG (eOf (ZC (ZN (bOf (Zb 0))) ZU (eIx (Zn 0) (eC (.int 1))))))
def Zv:List D->Option D:=fnOf 1 1 ZiG
def Zcc(ap:AP):SF :=
 (ZjD 3 (ZiX Zv (Za (eIx (Zn 5) (eC (.int 1))) Zg)))
def ZbA(ap:AP):SF :=
 (Zt (ZtM 4 3)
  (sIf (tV (Zep (Zb 4) (Zn 2))) (Zt (ZhV 2 (Zb 4) (Zdb ap 1 (Za (Zb 4) Zg)))
  (ZbG 5 (ZN (bOf (ZT (Zn 2) (Zb 4)))) (Zcc ap))) ZaL))
def Zdm(ap:AP):SF :=
 (Zt (Zaa 2 fDt)
  (Zt (Zaa 3 (Zjv (Zn 0)))
  (Zt (Zk7 100000 (tV (op2 gGt (ZaS (Zn 3)) (eC (.int 0)))) (ZbA ap))
  (Zgv 2 (ZG (Zb 2))))))
def Zah(ap:AP):List D->Option D:=fnOf 2 6 (Zdm ap)
def Zft(ap:AP):SF :=
 (Zt (Zaa 3 (ZC (ZN (bOf (Zb 0))) ZU (Zdb ap 3 (Za (Zb 0) (Za (Zb 2) Zg)))))
  (Zgv 3 (ZG (ZdQ (ZC (ZN (bOf (Zb 3))) (tV (op2 Zbx (Zb 0) (eC .none))) (Zb 0))))))
def ZaB(ap:AP):List D->Option D:=fnOf 3 4 (Zft ap)
def Z6(ap:AP):SF :=
 (sIf (tV (Zep (Zb 4) (Zn 1))) (Zt (ZW 5 (Zf (ZaB ap) (Za (ZT (Zn 0) (Zb 4)) (Za (Zb 1) (Za (Zb 2) Zg)))))
  (sIf (tV (op2 Zbx (Zb 5) (eC .none))) (ZhV 3 (Zb 4) (Zb 5)) ZaL)) ZaL)
def Zbv(ap:AP):List D->Option (List (List Ky × D)):=newOf 3 6
 (ZkB (Zaa 3 fDt)
 (ZkB (ZeO 0 (ZbG 4 (ZaP 0) (Z6 ap)))
 (Zoe 3)))
def Zdv(ap:AP):SF :=
 (ZhV 3 (Zb 6) (Zb 4))
def Zdw(ap:AP):SF :=
 (Zt (Zgv 5 (ZbG 6 (ZN (bOf (Zb 5))) (Zdv ap)))
  (Zt (Zaa 7 (ZiW (Zbv ap) (Za (Zb 1) (Za (ZrB (Zn 3)) (Za (Zb 2) Zg)))))
  (Zt (Zgv 7 (ZeO 7 (ZW 4 (ZdQ (ZC (ZaP 7) ZU (ZT (Zn 8) (Zb 0)))))))
  (Zgv 7 (ZeO 7 (Zaa 5 (ZC (ZaP 7) (tV (op2 gEq (ZT (Zn 8) (Zb 0)) (Zb 5))) (Zb 0))))))))
def Zff(ap:AP):SF :=
 (Zt (Zaa 3 fDt)
  (Zt (ZW 4 (eC (.int 0)))
  (Zt (ZeO 1 (Zaa 5 (ZC (ZaP 1) (tV (Zf ZbI (Za (Zb 1) (Za (Zb 0) Zg)))) (Zb 0))))
  (Zt (Zk7 100000 (tV (op2 gGt (ZaS (Zn 5)) (eC (.int 0)))) (Zdw ap))
  (Zgv 3 (ZG (Zb 3)))))))
def Z3(ap:AP):List D->Option D:=fnOf 3 8 (Zff ap)
def Zd5:SF :=
 (Zt (Zaa 2 (ZC (ZN (bOf (Zf Zv (Za (Zb 0) Zg)))) (tV (ZbV (Zb 0) (Zn 2))) (ZT (Zn 2) (Zb 0))))
  (ZG (eIf (tV (op2 gEq (ZaS (Zn 2)) (ZaS (Zn 0)))) (ZkP (Zn 2)) (eC .none))))
def Zal:List D->Option D:=fnOf 2 3 Zd5
def ZiH:SF :=
 (ZG (eOf (ZC (ZN (bOf (Zf Zcl (Za (Zb 0) (Za (Zb 2) Zg))))) ZU (ZbW (Za (Zb 0) (Za (Zf Zag (Za (Zb 1) (Za (Zb 2) (Za (Zf Zds (Za (Zb 1) (Za (Zb 3) (Za (Zb 0) Zg)))) Zg)))) Zg))))))
def ZaC:List D->Option D:=fnOf 3 3 ZiH
def ZeX(ap:AP):SF :=
 (ZG (Zej (Zah ap) 1 [0,1] (Zf Zv (Za (Zf Zag (Za (Zb 0) (Za (Zb 1) (Za (Zb 2) Zg)))) Zg))))
def ZaG(ap:AP):List D->Option D:=fnOf 3 3 (ZeX ap)
def ZgS:SF :=
 (Zt (ZW 2 (Zf Zal (Za (eIx (Zn 0) (eC (.int 1))) (Za (Zb 1) Zg))))
  (ZG (eIf (tV (op2 ZgA (Zb 2) (eC .none))) (eC .none) (op2 ZbH (Zb 2) (eC (.int 1))))))
def Zb3:List D->Option D:=fnOf 2 3 ZgS
def Zf3(ap:AP):SF :=
 (ZG (Zf (Z3 ap) (Za (Zb 0) (Za (Zb 1) (Za (eC (fnD 0 [])) Zg)))))
def Zdx(ap:AP):List D->Option D:=fnOf 2 2 (Zf3 ap)
def ZiI(ap:AP):SF :=
 (Zt (Zh0 (Zf Zba (Za (Zb 0) Zg)))
  (Zt (Zh0 (Zf Zaj (Za (Zb 0) (Za (Zb 1) Zg))))
  (Zt (ZW 2 (Zf Zac (Za (Zb 0) Zg)))
  (Zt (ZW 3 (Zf (Zdx ap) (Za (Zb 0) (Za (Zf (ZaG ap) (Za (Zb 0) (Za (Zb 1) (Za (Zb 2) Zg)))) Zg))))
  (ZG (Zf Zal (Za (Zf Zag (Za (Zb 0) (Za (Zb 1) (Za (Zb 2) Zg)))) (Za (Zb 3) Zg))))))))
def ZaJ(ap:AP):List D->Option D:=fnOf 2 4 (ZiI ap)
end HG5
namespace HG5
open PySem HM HG HG4
theorem ZyG(w:Wk):ZfC (.pl w.d)=some [ZzR w.many,.tuple (w.deeds.map ZF),.tuple (w.looks.map tupI),tupI w.beg,tupI w.goal]:=rfl
theorem Zfn(w:Wk):Zac [w.d]=some (tupI w.beg):=rfl
theorem ZqY(w:Wk):ZdH [w.d]=some (tupI w.goal):=rfl
theorem ZtC{α:Type}(xs:List α)(p:α->Bool):ZbQ (xs.map λx=>Zzl (p x))=some (xs.map p):=by
 have:=ZfV (xs.map p)
 rwa [Zza]at this
theorem ZpN{w:Wk}{c:List Int}(hc:c.length<1000):ZbI [w.d,tupI c]=some (.bool (ZD w c)):=by
 have hb:c.length<1000000:=by omega
 have e:∀r:HM.Env,r[0]?=some (some (.pl w.d))->Zaq ZU (Zog (Zb 0) (bOf (Zf ZdH (Za (Zb 1) Zg)))) r (c.map dI)=some (c.map λs=>Zzl (w.goal.contains s)):=λr r0=>by
  rw[Za2 dI (λs=>Zzl (w.goal.contains s))]
  ·intro s _
   simp[r0,ZqY,ZwS,Ze7,-List.contains_eq_mem]
 simp[ZbI,ZjZ,hb,e,ZtC,ZD,-List.contains_eq_mem]
theorem ZcO(g:Gs)(h:g.length<1000000):Zv [.list (g.map Zbk)]=some (.list ((g.map (·.2)).map tupI)):=by
 have e:∀r:HM.Env,Zaq ZU (eIx (Zn 0) (eC (.int 1))) r (g.map Zbk)=some ((g.map (·.2)).map tupI):=λr=>by
  rw[Za2 Zbk (λp=>tupI p.2),Zza]
  ·rfl
  ·intro p _
   rfl
 simp[Zv,ZiG,h,e]
def ZqU(w:Wk)(ls c:List Int)(d:Int):D:=.tuple [dI d,.list ((Zbz w ls (Zap w c d)).map Zbk)]
def Zng(w:Wk)(ls c:List Int):D:=.list ((doV w c).map (ZqU w ls c))
theorem split_len{w:Wk}{ls c:List Int}:(Zbz w ls c).length<=c.length:=by unfold Zbz;rw[ZyJ,(ZcY _).length_eq,ZyJ];exact Zrl _ _ _ (Zhx (ZO w ls) c)
theorem ZlE(w:Wk)(c:List Int):(doV w c).length<=w.deeds.length:=by
 unfold doV;rw[ZyJ];have:=ZAo (λ(d:Nat)=>ZbP w c (d:Int)) (ZyP w.deeds.length)
 rwa [ZAa]at this
theorem ZjA{w:Wk}{c:List Int}{d:Nat}(hd:d<w.deeds.length)(hc:ZbP w c d=true):(d:Int)∈doV w c:=by unfold doV;exact ZyU.mpr ⟨d,Zy6.mpr ⟨Zy7.mpr hd,hc⟩,rfl⟩
section
variable{w:Wk}(hv:Wk.V w){ls:List Int}(hl:Cr w.looks.length ls)
include hv hl
theorem Zod{c:List Int}(hc:Cr w.many c):ZaC [w.d,tupI ls,tupI c]=some (Zng w ls c):=by
 have hdo:=Zm0 hv hc;have hb:(doV w c).length<1000000:=by have:=ZlE w c; have:=hv.d2; omega
 have e:∀r:HM.Env,r[0]?=some (some (.pl w.d))->r[1]?=some (some (.pl (tupI ls)))->r[2]?=some (some (.pl (tupI c))) ->
   Zaq ZU (ZbW (Za (Zb 0) (Za (Zf Zag (Za (Zb 1) (Za (Zb 2) (Za (Zf Zds (Za (Zb 1) (Za (Zb 3) (Za (Zb 0) Zg)))) Zg)))) Zg))) r ((doV w c).map dI)=some ((doV w c).map (ZqU w ls c)):=λr r0 r1 r2=>by
  rw[Za2 dI (ZqU w ls c)];intro d hd;obtain⟨d0,d1,_⟩:=Zc5 hd;have h1:=ZrP hv hc d0 d1;have h2:=ZgI hv hl (ZfY hv hc d0 d1);simp[r0,r1,r2,h1,h2,ZqU]
 simp[ZaC,ZiH,hdo,hb,e,Zng]
end
end HG5
namespace HG5
open PySem HM HG HG4
abbrev Wy:=D × Gs
def wyD(y:Wy):D:=.tuple [y.1,.list (y.2.map Zbk)]
def wyP(y:Wy):List (List Int):=y.2.map (·.2)
abbrev Wf:=List Int->List Wy
inductive ZlS(wf:Wf)(B:List (List Int)):List Int->Prop where
 | beg {p:List Int} (h:p∈B):ZlS wf B p
 | step {c p:List Int} {y:Wy} (r:ZlS wf B c) (hy:y∈wf c) (h:p∈wyP y):ZlS wf B p
structure Zg8(wf:Wf)(Ok:List Int->Prop)(B C W:List (List Int)):Prop where
 nd:C.Nodup
 cr:∀c∈C,Ok c
 wr:∀c∈W,Ok c
 rc:∀c∈C,ZlS wf B c
 rw:∀c∈W,ZlS wf B c
 cl:∀c∈C,∀y∈wf c,∀p∈wyP y,p∈C\/p∈W
 bg:∀p∈B,p∈C\/p∈W
def Zk(wf:Wf)(C:List (List Int)):List (List Ky × D):=C.map λc=>(Zae c,.list ((wf c).map wyD))
theorem ZdA(wf:Wf)(C:List (List Int))(k:List Int):Zm (Zk wf C) (Zae k)=if k∈C then some (.list ((wf k).map wyD))else none:=by
 unfold Zm Zk
 induction C with
 | nil=>rfl
 | cons c C ih =>
  rw[ZyS,ZzG]
  by_cases h:c=k
  ·subst h
   rw[if_pos (ZyO ..)];simp
  ·have h':decide ((Zae c,(PyData.list ((wf c).map wyD))).1=Zae k)=false:=decide_eq_false λe=>h (Zgw e)
   rw[h'];dsimp only;rw[ih]
   by_cases q:k∈C
   ·rw[if_pos q,if_pos (ZyQ _ q)]
   ·rw[if_neg q,if_neg λz=>by
     rcases Zzb.mp z with e | e
     ·exact h e.symm
     ·exact q e]
theorem Zn7{wf:Wf}{C:List (List Int)}{k:List Int}(h:k ∉ C):putD (Zk wf C) (Zae k) (.list ((wf k).map wyD))=Zk wf (C++[k]):=by
 unfold putD;rw[if_neg]
 ·unfold Zk
  rw[Zzq];rfl
 ·intro z
  obtain⟨p,hp,e⟩:=ZyV.mp z;unfold Zk at hp;obtain⟨c,hc,rfl⟩:=ZyU.mp hp;have e:=Zgw (of_decide_eq_true e);subst e;exact h hc
theorem Zi9(wf:Wf)(L:List (List Int)):((Zk wf L).map λp=>ZzD (p.1.map Zao))=L.map tupI:=by unfold Zk;rw[Zza];refine Zz7 λc _=>?_;show ZzD ((c.map ZAz).map Zao)=ZzD (c.map dI);rw[Zza];rfl
def ZlX(wf:Wf)(c:List Int):List (List Int):=(wf c).flatMap wyP
theorem Zg8.old{wf:Wf}{Ok:List Int->Prop}{B C V:List (List Int)}{p:List Int}(I:Zg8 wf Ok B C (V++[p]))(hp:p∈C):Zg8 wf Ok B C V:=by
 have key:∀q,q∈C\/q∈V++[p]->q∈C\/q∈V:=λq h=>by
  rcases h with h | h
  ·exact .inl h
  ·rcases Zzp.mp h with h | h
   ·exact .inr h
   ·rw[ZyY.mp h]; exact .inl hp
 exact⟨I.nd,I.cr,λc h=>I.wr c (ZzY _ h),I.rc,λc h=>I.rw c (ZzY _ h),λc hc y hy q hq=>key q (I.cl c hc y hy q hq),λq hq=>key q (I.bg q hq)⟩
structure ZoG(wf:Wf)(Ok:List Int->Prop):Prop where
 ok:∀c,Ok c->∀y∈wf c,∀p∈wyP y,Ok p
 ys:∀c,Ok c->(wf c).length<=10
 ps:∀c,Ok c->∀y∈wf c,y.2.length<=8
 cs:∀C:List (List Int),C.Nodup->(∀c∈C,Ok c)->C.length<=128
theorem Zg8.new{wf:Wf}{Ok:List Int->Prop}(O:ZoG wf Ok){B C V:List (List Int)}{p:List Int}(I:Zg8 wf Ok B C (V++[p]))(hp:p ∉ C):Zg8 wf Ok B (C++[p]) (V++ZlX wf p):=by
 have hpc:=I.wr p (Zzk _ (ZyY.mpr rfl));have hpr:=I.rw p (Zzk _ (ZyY.mpr rfl));have key:∀q,q∈C\/q∈V++[p]->q∈C++[p]\/q∈V++ZlX wf p:=λq h=>by
  rcases h with h | h
  ·exact .inl (ZzY _ h)
  ·rcases Zzp.mp h with h | h
   ·exact .inr (ZzY _ h)
   ·exact .inl (Zzk _ h)
 refine⟨?_,λc h=>?_,λc h=>?_,λc h=>?_,λc h=>?_,λc h y hy q hq=>?_,λq hq=>key q (I.bg q hq)⟩
 ·rw[ZAR]
  refine⟨I.nd,by simp,λx hx y hy e=>?_⟩;rw[ZyY.mp hy]at e;exact hp (e▸hx)
 ·rcases Zzp.mp h with h | h
  ·exact I.cr c h
  ·rw[ZyY.mp h]; exact hpc
 ·rcases Zzp.mp h with h | h
  ·exact I.wr c (ZzY _ h)
  ·obtain⟨y,hy,hq⟩:=ZBg.mp h
   exact O.ok p hpc y hy c hq
 ·rcases Zzp.mp h with h | h
  ·exact I.rc c h
  ·rw[ZyY.mp h]; exact hpr
 ·rcases Zzp.mp h with h | h
  ·exact I.rw c (ZzY _ h)
  ·obtain⟨y,hy,hq⟩:=ZBg.mp h
   exact .step hpr hy hq
 ·rcases Zzp.mp h with h | h
  ·exact key q (I.cl c h y hy q hq)
  ·rw[ZyY.mp h]at hy
   exact .inr (Zzk _ (ZBg.mpr ⟨y,hy,hq⟩))
theorem Zt7{wf:Wf}{Ok:List Int->Prop}(O:ZoG wf Ok){c:List Int}(hc:Ok c):(ZlX wf c).length<=80:=by
 have key:∀ys:List Wy,(∀y∈ys,y∈wf c)->(ys.flatMap wyP).length<=8*ys.length:=by
  intro ys
  induction ys with
  | nil=>intro _; exact ZyT 0
  | cons y ys ih =>
   intro h;rw[List.flatMap_cons,Zy8,Zy3];have h1:=ih λx hx=>h x (ZyQ _ hx);have h2:=O.ps c hc y (h y (ZyO ..));have h3:(wyP y).length=y.2.length:=by unfold wyP; rw[ZyJ]
   omega
 have h1:=key (wf c) λ_ h=>h;have h2:=O.ys c hc;unfold ZlX;omega
theorem ZrY(ap:AP)(e0 e1 e2 e4:Option B):∀(ys:List Wy) (W:List (List Int)) (o:Option B),(∀y∈ys,y.2.length<=8)->W.length+8*ys.length<900000 ->
  ∃o',Zbc 5 (Zcc ap) (ys.map wyD) [e0,e1,e2,some (.ol (W.map tupI)),e4,o]=some (.nx [e0,e1,e2,some (.ol ((W++ys.flatMap wyP).map tupI)),e4,o'])
 | [],W,o,_,_=>⟨o,by rw[List.flatMap_nil,Zzu]; rfl⟩
 | y::ys,W,o,hds,hlen=>by
  rw[Zy3]at hlen;have hb:=hds y (ZyO ..);have hci:=ZcO y.2 (by omega);have hpl:(wyP y).length<=8:=by unfold wyP; rw[ZyJ]; exact hb
  have body:Zcc ap [e0,e1,e2,some (.ol (W.map tupI)),e4,some (.pl (wyD y))]=some (.nx [e0,e1,e2,some (.ol ((W++wyP y).map tupI)),e4,some (.pl (wyD y))]):=by
   have h1:ZiX Zv (Za (eIx (Zn 5) (eC (.int 1))) Zg) [e0,e1,e2,some (.ol (W.map tupI)),e4,some (.pl (wyD y))]=some (.ol ((wyP y).map tupI)):=by unfold ZiX;show(match Zv [.list (y.2.map Zbk)]with | some (.list ys)=>some (B.ol ys) | _=>none)=_;rw[hci];rfl
   unfold Zcc ZjD;rw[h1];show(if _ then _ else _)=_;rw[if_pos (by rw[ZyJ,ZyJ]; show _<1000000; omega),Zzq];rfl
  obtain⟨o',ih⟩:=ZrY ap e0 e1 e2 e4 ys (W++wyP y) (some (.pl (wyD y))) (λx hx=>hds x (ZyQ _ hx)) (by rw[Zy8]; omega);refine⟨o',?_⟩;rw[List.flatMap_cons,<-ZAQ,<-ih,ZyS];show(match Zcc ap [e0,e1,e2,some (.ol (W.map tupI)),e4,some (.pl (wyD y))]with | some (.nx r')=>_ | some (.ct r')=>_ | some (.bk r')=>_ | some (.rt d)=>_ | none=>_)=_;rw[body]
theorem Zj7(wf:Wf)(C:List (List Int))(p:List Int)(r:HM.Env)(i j:Nat)(h1:r[i]?=some (some (.pl (tupI p))))(h2:r[j]?=some (some (.ot (Zk wf C)))):tV (Zep (Zb i) (Zn j)) r=some (!decide (p∈C)):=by
 have hk:Zbe (tupI p)=some (Zae p):=ZaK p;have hlk:=ZdA wf C p
 by_cases hp:p∈C
 ·rw[if_pos hp]at hlk
  simp[h1,h2,hk,hlk,hp]
 ·rw[if_neg hp]at hlk
  simp[h1,h2,hk,hlk,hp]
theorem ZlG(t:Nat)(cs:List D):Zko (fnD t cs)=some (t,cs):=rfl
section
variable{ap:AP}{wf:Wf}{Ok:List Int->Prop}(O:ZoG wf Ok){t:Nat}{cs:List D}(ha:∀c,Ok c->ap t cs [tupI c]=some (.list ((wf c).map wyD)))
include O ha
omit ha O in
theorem ZtB{C V:List (List Int)}{p:List Int}(e0 e1 o4 o5:Option B)(hp:p∈C) :
  ZbA ap [e0,e1,some (.ot (Zk wf C)),some (.ol ((V++[p]).map tupI)),o4,o5]=some (.nx [e0,e1,some (.ot (Zk wf C)),some (.ol (V.map tupI)),some (.pl (tupI p)),o5]):=by
 unfold ZbA;refine ZM (P:=λq=>q=_) (r':=[e0,e1,some (.ot (Zk wf C)),some (.ol (V.map tupI)),some (.pl (tupI p)),o5]) ?_ ?_
 ·rw[Zzq]
  simp
 ·have ht:=Zj7 wf C p [e0,e1,some (.ot (Zk wf C)),some (.ol (V.map tupI)),some (.pl (tupI p)),o5] 4 2 rfl rfl
  rw[decide_eq_true hp]at ht;unfold sIf;rw[ht];rfl
theorem ZtG{C V:List (List Int)}{p:List Int}(e0 o4 o5:Option B)(hp:p ∉ C)(hc:Ok p)(hC:C.length<1000)(hV:V.length<100000) :
  ∃o5',ZbA ap [e0,some (.pl (fnD t cs)),some (.ot (Zk wf C)),some (.ol ((V++[p]).map tupI)),o4,o5]=some (.nx [e0,some (.pl (fnD t cs)),some (.ot (Zk wf (C++[p]))),some (.ol ((V++ZlX wf p).map tupI)),some (.pl (tupI p)),o5']):=by
 have hdl:=O.ys p hc;obtain⟨o5',go⟩:=ZrY ap e0 (some (.pl (fnD t cs))) (some (.ot (Zk wf (C++[p])))) (some (.pl (tupI p))) (wf p) V o5 (λy hy=>O.ps p hc y hy) (by omega);refine⟨o5',?_⟩;unfold ZbA;refine ZM (P:=λq=>q=_) (r':=[e0,some (.pl (fnD t cs)),some (.ot (Zk wf C)),some (.ol (V.map tupI)),some (.pl (tupI p)),o5]) ?_ ?_
 ·rw[Zzq]
  simp
 ·have ht:=Zj7 wf C p [e0,some (.pl (fnD t cs)),some (.ot (Zk wf C)),some (.ol (V.map tupI)),some (.pl (tupI p)),o5] 4 2 rfl rfl
  rw[decide_eq_false hp]at ht;unfold sIf;rw[ht];show Zt _ _ _=_;have hk:Zbe (tupI p)=some (Zae p):=ZaK p;have hww:=ha p hc;have hcl:(Zk wf C).length<1000000:=by unfold Zk; rw[ZyJ]; omega
  refine ZM (P:=λq=>q=_) (r':=[e0,some (.pl (fnD t cs)),some (.ot (Zk wf (C++[p]))),some (.ol (V.map tupI)),some (.pl (tupI p)),o5]) ?_ ?_
  ·rw[<-Zn7 hp]
   have hv:Zdb ap 1 (Za (Zb 4) Zg) [e0,some (.pl (fnD t cs)),some (.ot (Zk wf C)),some (.ol (V.map tupI)),some (.pl (tupI p)),o5]=some (.list ((wf p).map wyD)):=by unfold Zdb;show(match Zko (fnD t cs)with | some (t,cs)=>_ | none=>none)=_;rw[ZlG];exact hww
   unfold ZhV;rw[hv];show(match Zbe (tupI p)with | some y=>_ | none=>none)=_;rw[hk];dsimp only;rw[if_pos (show _<big from hcl)];rfl
  ·have hlk:=ZdA wf (C++[p]) p
   rw[if_pos (Zzk _ (ZyY.mpr rfl))]at hlk;have hi:ZN (bOf (ZT (Zn 2) (Zb 4))) [e0,some (.pl (fnD t cs)),some (.ot (Zk wf (C++[p]))),some (.ol (V.map tupI)),some (.pl (tupI p)),o5]=some ((wf p).map wyD):=by simp[hk,hlk]
   unfold ZbG;rw[hi];dsimp only;rw[if_pos (by rw[ZyJ]; show _<1000000; omega)];exact go
theorem Ze0(B:List (List Int))(e0:Option HM.B):∀(fuel:Nat) (C W:List (List Int)) (o4 o5:Option HM.B),Zg8 wf Ok B C W->(128-C.length)*81+W.length<fuel->(128-C.length)*81+W.length<60000 ->
  ∃C' o4' o5',Zbh (tV (op2 gGt (ZaS (Zn 3)) (eC (.int 0)))) (ZbA ap) fuel [e0,some (.pl (fnD t cs)),some (.ot (Zk wf C)),some (.ol (W.map tupI)),o4,o5]=some (.nx [e0,some (.pl (fnD t cs)),some (.ot (Zk wf C')),some (.ol []),o4',o5'])/\Zg8 wf Ok B C' []
 | 0,C,W,o4,o5,I,h,_=>by omega
 | fuel+1,C,W,o4,o5,I,h,hW=>by
  have hlen:=O.cs C I.nd I.cr
  by_cases hw:W=[]
  ·subst hw
   refine⟨C,o4,o5,?_,I⟩;unfold Zbh;have ht:(tV (op2 gGt (ZaS (Zn 3)) (eC (.int 0)))) [e0,some (.pl (fnD t cs)),some (.ot (Zk wf C)),some (.ol (([]:List (List Int)).map tupI)),o4,o5]=some false:=by simp
   rw[ht];rfl
  ·obtain⟨V,p,rfl⟩:∃V p,W=V++[p]:=⟨W.dropLast,W.getLast hw,(List.dropLast_concat_getLast hw).symm⟩
   rw[Zy8,ZAc]at h hW;have ht:(tV (op2 gGt (ZaS (Zn 3)) (eC (.int 0)))) [e0,some (.pl (fnD t cs)),some (.ot (Zk wf C)),some (.ol ((V++[p]).map tupI)),o4,o5]=some true:=by simp
   by_cases hp:p∈C
   ·obtain⟨C',o4',o5',g,J⟩:=Ze0 B e0 fuel C V (some (.pl (tupI p))) o5 (I.old hp) (by omega) (by omega)
    refine⟨C',o4',o5',?_,J⟩;unfold Zbh;rw[ht];dsimp only;rw[ZtB e0 _ o4 o5 hp];exact g
   ·have hpc:=I.wr p (Zzk _ (ZyY.mpr rfl))
    have J0:=I.new O hp;have hl2:=O.cs _ J0.nd J0.cr;rw[Zy8,ZAc]at hl2;have hbl:=Zt7 O hpc;obtain⟨q5,e⟩:=ZtG O ha (V:=V) e0 o4 o5 hp hpc (by omega) (by omega);obtain⟨C',o4',o5',g,J⟩:=Ze0 B e0 fuel (C++[p]) (V++ZlX wf p) (some (.pl (tupI p))) q5 J0 (by rw[Zy8,Zy8,ZAc]; omega) (by rw[Zy8,Zy8,ZAc]; omega);refine⟨C',o4',o5',?_,J⟩;unfold Zbh;rw[ht];dsimp only;rw[e];exact g
theorem Zk2{B:List (List Int)}(hB:∀c∈B,Ok c)(hl:B.length<=100):∃L,Zah ap [.list (B.map tupI),fnD t cs]=some (.dict (Ze (Zk wf L)))/\Zg8 wf Ok B L []:=by
 have I0:Zg8 wf Ok B [] B:=⟨.nil,λc h=>(by simp at h),hB,λc h=>(by simp at h),λc h=>.beg h,λc h=>(by simp at h),λp h=>.inr h⟩;obtain⟨L,o4,o5,g,J⟩:=Ze0 O ha B (some (.pl (.list (B.map tupI)))) 100000 [] B none none I0 (by simp; omega) (by simp; omega);refine⟨L,?_,J⟩;show ZS (Zdm ap [some (.pl (.list (B.map tupI))),some (.pl (fnD t cs)),none,none,none,none])=_;have e:Zdm ap [some (.pl (.list (B.map tupI))),some (.pl (fnD t cs)),none,none,none,none]=some (.rt (.dict (Ze (Zk wf L)))):=by unfold Zdm;refine ZM (P:=λq=>q=_) (r':=[some (.pl (.list (B.map tupI))),some (.pl (fnD t cs)),some (.ot (Zk wf [])),none,none,none]) rfl ?_;refine ZM (P:=λq=>q=_) (r':=[some (.pl (.list (B.map tupI))),some (.pl (fnD t cs)),some (.ot (Zk wf [])),some (.ol (B.map tupI)),none,none]) rfl ?_;refine ZM (P:=λq=>q=_) g ?_;simp
 rw[e];rfl
end
theorem ZdR(n:Nat)(p:List Int):noF (n+1) (tupI p)=true:=by show(p.map dI).all (noF n)=true;rw[ZDU];exact ZyR.mpr λx _=>by cases n<;>rfl
theorem Zjw(n:Nat)(i:Int):noF n (.int i)=true:=by cases n<;>rfl
theorem Zel{n:Nat}{ds:List D}(h:∀d∈ds,noF n d=true):noF (n+1) (.tuple ds)=true:=ZyR.mpr h
theorem Zpd{n:Nat}{ds:List D}(h:∀d∈ds,noF n d=true):noF (n+1) (.list ds)=true:=ZyR.mpr h
theorem ZtH(n:Nat)(p:List Int × List Int):noF (n+2) (Zbk p)=true:=Zel λd hd=>by
 rcases Zzb.mp hd with e | hd
 ·subst e; exact ZdR n _
 ·rw[ZyY.mp hd]; exact ZdR n _
theorem Zw1{n:Nat}{y:Wy}(h:noF (n+3) y.1=true):noF (n+4) (wyD y)=true:=Zel λd hd=>by
 rcases Zzb.mp hd with e | hd
 ·subst e; exact h
 ·rw[ZyY.mp hd]
  exact Zpd λd hd=>by obtain⟨p,_,rfl⟩:=ZyU.mp hd;exact ZtH n p
theorem Zq5{wf:Wf}{n:Nat}{L:List (List Int)}(h:∀c∈L,∀y∈wf c,noF (n+3) y.1=true):noF (n+6) (.dict (Ze (Zk wf L)))=true:=by show(Ze (Zk wf L)).all _=true;refine ZyR.mpr λp hp=>?_;unfold Ze Zk at hp;rw[Zza]at hp;obtain⟨c,hc,rfl⟩:=ZyU.mp hp;show noF (n+5) (.list ((wf c).map wyD))=true;exact Zpd λd hd=>by obtain⟨y,hy,rfl⟩:=ZyU.mp hd;exact Zw1 (h c hc y hy)
theorem Zxb(w:Wk):noF 20 w.d=true:=by
 refine Zel λd hd=>?_;have h:∀x:List (List Int),∀d∈x.map tupI,noF 17 d=true:=λx d hd=>by obtain⟨p,_,rfl⟩:=ZyU.mp hd;exact ZdR 16 p
 have hd:=Zzb.mp hd;rcases hd with e | hd
 ·subst e; rfl
 rcases Zzb.mp hd with e | hd
 ·subst e
  exact Zel λd hd=>by obtain⟨x,_,rfl⟩:=ZyU.mp hd;exact Zel (h x)
 rcases Zzb.mp hd with e | hd
 ·subst e
  exact Zel λd hd=>by obtain⟨x,_,rfl⟩:=ZyU.mp hd;exact ZdR 17 x
 rcases Zzb.mp hd with e | hd
 ·subst e; exact ZdR 18 _
 ·rw[ZyY.mp hd]; exact ZdR 18 _
end HG5
namespace HG5
open PySem HM HG HG4
def oI:Option Int->D
 | some k=>.int k
 | none=>.none
abbrev Cb:=Wy->Tb->Option Int
def ZaZ(cb:Cb)(ys:List Wy)(M:Tb):Option Int:=(ys.filterMap λy=>cb y M).min?
def Zax(wf:Wf)(cb:Cb)(L:List (List Int))(M:Tb):Tb:=L.filterMap λc=>if Zw M c then none else(ZaZ cb (wf c) M).map λk=>(c,k)
def ZbU(T:Tb):Option Int:=(T.map (·.2)).min?
def Zeg(T:Tb):List (List Int):=(T.filter λp=>some p.2==ZbU T).map (·.1)
def Zaz(found:List (List Int))(k:Int)(M:Tb):Tb:=found.foldl (λM c=>putD M c k) M
inductive Zg9(wf:Wf)(cb:Cb)(L:List (List Int)):Tb->Option Int->List (List Int)->Tb->Prop where
 | done {M:Tb} {k:Option Int}:Zg9 wf cb L M k [] M
 | step {M R:Tb} {k:Int} {found:List (List Int)} (hf:found≠[]) (h:Zg9 wf cb L (Zaz found k M) (ZbU (Zax wf cb L (Zaz found k M))) (Zeg (Zax wf cb L (Zaz found k M))) R):Zg9 wf cb L M (some k) found R
theorem ZoQ:∀os:List (Option Int),Za5 ((os.filter ZBN).map oI)=some (os.filterMap id)
 | []=>rfl
 | none::os=>ZoQ os
 | some k::os=>by show(Za5 ((os.filter ZBN).map oI)).map (k::·)=_;rw[ZoQ os];rfl
theorem Ziw{ap:AP}{t:Nat}{cs:List D}{cb:Cb}{ys:List Wy}{M:Tb}(hy:ys.length<1000)(ha:∀y∈ys,ap t cs [wyD y,.dict (Ze (encM M))]=some (oI (cb y M))) :
  ZaB ap [.list (ys.map wyD),.dict (Ze (encM M)),fnD t cs]=some (oI (ZaZ cb ys M)):=by
 show ZS (Zft ap [some (.pl (.list (ys.map wyD))),some (.pl (.dict (Ze (encM M)))),some (.pl (fnD t cs)),none])=_;have hb:ys.length<big:=by show _<1000000; omega
 have e1:Zaq ZU (Zdb ap 3 (Za (Zb 0) (Za (Zb 2) Zg))) [some (.pl (.list (ys.map wyD))),some (.pl (.dict (Ze (encM M)))),some (.pl (fnD t cs)),none] (ys.map wyD)=some ((ys.map λy=>cb y M).map oI):=by
  rw[Za2 wyD (λy=>oI (cb y M)),Zza]
  ·rfl
  ·intro y h
   show(match Zko (fnD t cs)with | some (t,cs)=>_ | none=>none)=_;rw[ZlG];exact ha y h
 have e2:Zaq (tV (op2 Zbx (Zb 0) (eC .none))) (Zb 0) [some (.pl (.list (ys.map wyD))),some (.pl (.dict (Ze (encM M)))),some (.pl (fnD t cs)),some (.pl (.list ((ys.map λy=>cb y M).map oI)))] ((ys.map λy=>cb y M).map oI)=some (((ys.map λy=>cb y M).filter ZBN).map oI):=by
  rw[ZbX oI ZBN oI]
  ·intro o _
   cases o<;>rfl
  ·intro o _ _
   rfl
 unfold Zft;refine ZM (P:=λq=>ZS q=_) (r':=[some (.pl (.list (ys.map wyD))),some (.pl (.dict (Ze (encM M)))),some (.pl (fnD t cs)),some (.ol ((ys.map λy=>cb y M).map oI))]) ?_ ?_
 ·unfold Zaa ZC
  show ZAP _ (if(ys.map wyD).length<big then _ else _)=_;rw[if_pos (by rw[ZyJ]; exact hb),e1];rfl
 ·show ZS (ZAP Out.rt (ZdQ _ [some (.pl (.list (ys.map wyD))),some (.pl (.dict (Ze (encM M)))),some (.pl (fnD t cs)),some (.pl (.list ((ys.map λy=>cb y M).map oI)))]))=_
  have e3:ZC (ZN (bOf (Zb 3))) (tV (op2 Zbx (Zb 0) (eC .none))) (Zb 0) [some (.pl (.list (ys.map wyD))),some (.pl (.dict (Ze (encM M)))),some (.pl (fnD t cs)),some (.pl (.list ((ys.map λy=>cb y M).map oI)))]=some (.ol (((ys.map λy=>cb y M).filter ZBN).map oI)):=by unfold ZC;show(if((ys.map λy=>cb y M).map oI).length<big then _ else none)=_;rw[if_pos (by rw[ZyJ,ZyJ]; exact hb),e2];rfl
  unfold ZdQ;rw[e3];show ZS (ZAP Out.rt (match Za5 (((ys.map λy=>cb y M).filter ZBN).map oI)with | some ns=>some (match ns.min? with | some i=>ZzR i | none=>.none) | none=>none))=_;rw[ZoQ];show some (match((ys.map λy=>cb y M).filterMap id).min? with | some i=>ZzR i | none=>.none)=_;unfold ZaZ;rw[List.filterMap_map];show some (match(ys.filterMap λy=>cb y M).min? with | some i=>ZzR i | none=>.none)=_;cases(ys.filterMap λy=>cb y M).min?<;>rfl
theorem Zt9{M:Tb}{c:List Int}{k:Int}(h:Zw M c=false):putD M c k=M++[(c,k)]:=by unfold putD;rw[if_neg];intro z;obtain⟨p,hp,e⟩:=ZyV.mp z;have e:=of_decide_eq_true e;unfold Zw Zm at h;rw[Zz9]at h;have:(M.find? λp=>decide (p.1=c)).isSome=true:=ZBz.mpr ⟨p,hp,decide_eq_true e⟩;rw[h]at this;cases this
theorem Zrm(M N:Tb)(c:List Int):Zw (M++N) c=(Zw M c||Zw N c):=by unfold Zw Zm;rw[ZB1,Zz9,Zz9,Zz9,Option.isSome_or]
theorem Zvp{M:Tb}{c:List Int}:Zw M c=true↔∃k,(c,k)∈M:=by
 unfold Zw Zm;rw[Zz9,ZBz]
 constructor
 ·rintro ⟨⟨c',k⟩,h,e⟩
  have e:=of_decide_eq_true e;exact⟨k,by rw[<-e]; exact h⟩
 ·rintro ⟨k,h⟩
  exact⟨_,h,decide_eq_true rfl⟩
theorem Zvt{wf:Wf}{cb:Cb}{L:List (List Int)}{M:Tb}{c:List Int}{k:Int}:(c,k)∈Zax wf cb L M↔c∈L/\Zw M c=false/\ZaZ cb (wf c) M=some k:=by
 unfold Zax;rw[Zzm]
 constructor
 ·rintro ⟨c',h1,h2⟩
  split at h2
  ·cases h2
  ·rename_i hn
   obtain⟨k',h3,h4⟩:=ZyL.mp h2;cases h4;exact⟨h1,by simpa using hn,h3⟩
 ·rintro ⟨h1,h2,h3⟩
  exact⟨c,h1,by rw[h2,h3]; rfl⟩
section
variable{ap:AP}{wf:Wf}{L:List (List Int)}{t:Nat}{cs:List D}{cb:Cb}(hnd:L.Nodup)(hlen:L.length<=128)(hys:∀c∈L,(wf c).length<1000)(ha:∀c∈L,∀y∈wf c,∀M,ap t cs [wyD y,.dict (Ze (encM M))]=some (oI (cb y M)))
include hys ha
theorem Zqm{M:Tb}:∀(K:List (List Int)) (acc:Tb) (o4 o5:Option B),(∀c∈K,c∈L)->K.Nodup->(∀c∈K,Zw acc c=false)->Za9 o4=false->Za9 o5=false->acc.length+K.length<100000 ->
  ∃p4 p5,Za9 p4=false/\Za9 p5=false/\Zbc 4 (Z6 ap) (K.map tupI) [some (.hd (Ze (Zk wf L))),some (.pl (.dict (Ze (encM M)))),some (.pl (fnD t cs)),some (.ot (encM acc)),o4,o5] =
   some (.nx [some (.hd (Ze (Zk wf L))),some (.pl (.dict (Ze (encM M)))),some (.pl (fnD t cs)),some (.ot (encM (acc++Zax wf cb K M))),p4,p5])
 | [],acc,o4,o5,_,_,_,h4,h5,_=>⟨o4,o5,h4,h5,by show some (Out.nx _)=_; rw[show Zax wf cb [] M=[] from rfl,Zzu]⟩
 | c::K,acc,o4,o5,hK,hn,hacc,h4,h5,hl=>by
  rw[Zy3]at hl;have hc:=hK c (ZyO ..);have hk:Zbe (tupI c)=some (Zae c):=ZaK c;have hlk:=Zcw M c;have hlr:=ZdA wf L c;rw[if_pos hc]at hlr;have hlc:=Ziw (ap:=ap) (t:=t) (cs:=cs) (cb:=cb) (ys:=wf c) (M:=M) (hys c hc) λy hy=>ha c hc y hy M;have hcons:Zax wf cb (c::K) M=(if Zw M c then[]else match ZaZ cb (wf c) M with | some k=>[(c,k)] | none=>[])++Zax wf cb K M:=by
   unfold Zax;rw[ZzQ];cases Zw M c with
   | true=>rfl
   | false=>cases ZaZ cb (wf c) M<;>rfl
  have step:∀(acc':Tb) (p5:Option B),Za9 p5=false->(∀x∈K,Zw acc' x=false)->acc'.length+K.length<100000->Z6 ap [some (.hd (Ze (Zk wf L))),some (.pl (.dict (Ze (encM M)))),some (.pl (fnD t cs)),some (.ot (encM acc)),some (.pl (tupI c)),o5] =
     some (.nx [some (.hd (Ze (Zk wf L))),some (.pl (.dict (Ze (encM M)))),some (.pl (fnD t cs)),some (.ot (encM acc')),some (.pl (tupI c)),p5])->acc'++Zax wf cb K M=acc++Zax wf cb (c::K) M ->
    ∃p4 p5,Za9 p4=false/\Za9 p5=false/\Zbc 4 (Z6 ap) ((c::K).map tupI) [some (.hd (Ze (Zk wf L))),some (.pl (.dict (Ze (encM M)))),some (.pl (fnD t cs)),some (.ot (encM acc)),o4,o5] =
     some (.nx [some (.hd (Ze (Zk wf L))),some (.pl (.dict (Ze (encM M)))),some (.pl (fnD t cs)),some (.ot (encM (acc++Zax wf cb (c::K) M))),p4,p5]):=λacc' p5 hp5 hx hl' e eq=>by
   obtain⟨q4,q5,g4,g5,ih⟩:=Zqm (M:=M) K acc' (some (.pl (tupI c))) p5 (λx hx=>hK x (ZyQ _ hx)) (ZzB.mp hn).2 hx rfl hp5 hl';refine⟨q4,q5,g4,g5,?_⟩;rw[<-eq,<-ih,ZyS];show(match Z6 ap [some (.hd (Ze (Zk wf L))),some (.pl (.dict (Ze (encM M)))),some (.pl (fnD t cs)),some (.ot (encM acc)),some (.pl (tupI c)),o5]with | some (.nx r')=>_ | some (.ct r')=>_ | some (.bk r')=>_ | some (.rt d)=>_ | none=>_)=_;rw[e]
  have hKa:∀x∈K,Zw acc x=false:=λx hx=>hacc x (ZyQ _ hx);cases hq:Zm M c with
  | some k =>
   have hh:Zw M c=true:=by unfold Zw; rw[hq]; rfl
   rw[hq]at hlk;refine step acc o5 h5 hKa (by omega) ?_ (by rw[hcons,hh]; rfl);have ht:tV (Zep (Zb 4) (Zn 1)) [some (.hd (Ze (Zk wf L))),some (.pl (.dict (Ze (encM M)))),some (.pl (fnD t cs)),some (.ot (encM acc)),some (.pl (tupI c)),o5]=some false:=by simp[dec_enc,hk,hlk]
   unfold Z6 sIf;rw[ht];rfl
  | none =>
   have hh:Zw M c=false:=by unfold Zw; rw[hq]; rfl
   rw[hq]at hlk;have ht:tV (Zep (Zb 4) (Zn 1)) [some (.hd (Ze (Zk wf L))),some (.pl (.dict (Ze (encM M)))),some (.pl (fnD t cs)),some (.ot (encM acc)),some (.pl (tupI c)),o5]=some true:=by simp[dec_enc,hk,hlk]
   have hca:Zf (ZaB ap) (Za (ZT (Zn 0) (Zb 4)) (Za (Zb 1) (Za (Zb 2) Zg))) [some (.hd (Ze (Zk wf L))),some (.pl (.dict (Ze (encM M)))),some (.pl (fnD t cs)),some (.ot (encM acc)),some (.pl (tupI c)),o5]=some (oI (ZaZ cb (wf c) M)):=by
    have hg:ZT (Zn 0) (Zb 4) [some (.hd (Ze (Zk wf L))),some (.pl (.dict (Ze (encM M)))),some (.pl (fnD t cs)),some (.ot (encM acc)),some (.pl (tupI c)),o5]=some (.list ((wf c).map wyD)):=by simp[dec_enc,hk,hlr]
    unfold Zf Za;rw[hg];exact hlc
   have hs5:ZW 5 (Zf (ZaB ap) (Za (ZT (Zn 0) (Zb 4)) (Za (Zb 1) (Za (Zb 2) Zg)))) [some (.hd (Ze (Zk wf L))),some (.pl (.dict (Ze (encM M)))),some (.pl (fnD t cs)),some (.ot (encM acc)),some (.pl (tupI c)),o5]=some (.nx [some (.hd (Ze (Zk wf L))),some (.pl (.dict (Ze (encM M)))),some (.pl (fnD t cs)),some (.ot (encM acc)),some (.pl (tupI c)),some (.pl (oI (ZaZ cb (wf c) M)))]):=by unfold ZW;rw[hca];rfl
   cases hle:ZaZ cb (wf c) M with
   | none=>rw[hle]at hs5;refine step acc (some (.pl .none)) rfl hKa (by omega) ?_ (by rw[hcons,hh,hle]; rfl);unfold Z6 sIf;rw[ht];dsimp only;refine ZM (P:=λq=>q=_) hs5 ?_;rfl
   | some k =>
    rw[hle]at hs5;have hput:=Zt9 (k:=k) (hacc c (ZyO ..));have hpe:=ZnY acc c k;have hal:(encM acc).length<1000000:=by unfold encM; rw[ZyJ]; omega
    refine step (acc++[(c,k)]) (some (.pl (.int k))) rfl (λx hx=>?_) (by rw[Zy8,ZAc]; omega) ?_ (by rw[hcons,hh,hle,ZAQ]; rfl)
    ·rw[Zrm,hKa x hx,ZB8]
     cases hb:Zw [(c,k)] x with
     | false=>rfl
     | true=>obtain⟨k',hm⟩:=Zvp.mp hb;cases ZyY.mp hm;exact absurd hx (ZzB.mp hn).1
    ·unfold Z6 sIf
     rw[ht];dsimp only;refine ZM (P:=λq=>q=_) hs5 ?_;have h2:tV (op2 Zbx (Zb 5) (eC .none)) [some (.hd (Ze (Zk wf L))),some (.pl (.dict (Ze (encM M)))),some (.pl (fnD t cs)),some (.ot (encM acc)),some (.pl (tupI c)),some (.pl (oI (some k)))]=some true:=rfl;rw[h2,<-hput,<-hpe];show(match Zbe (tupI c)with | some y=>_ | none=>none)=_;rw[hk];show(if(encM acc).length<big then _ else none)=_;rw[if_pos (show _<big from hal)];rfl
include hnd hlen
theorem Zm8(M:Tb):Zbv ap [.dict (Ze (Zk wf L)),.dict (Ze (encM M)),fnD t cs]=some (encM (Zax wf cb L M)):=by
 obtain⟨p4,p5,g4,g5,go⟩:=Zqm hys ha (M:=M) L [] none none (λ_ h=>h) hnd (λ_ _=>rfl) rfl rfl (by simp; omega);have hw:ZaP 0 [some (.hd (Ze (Zk wf L))),some (.pl (.dict (Ze (encM M)))),some (.pl (fnD t cs)),some (.ot (encM [])),none,none]=some (L.map tupI):=by show(ZdV (Ze (Zk wf L))).map _=_;rw[dec_enc,<-Zi9 wf L];rfl
 have hf:ZbG 4 (ZaP 0) (Z6 ap) [some (.hd (Ze (Zk wf L))),some (.pl (.dict (Ze (encM M)))),some (.pl (fnD t cs)),some (.ot (encM [])),none,none]=some (.nx [some (.hd (Ze (Zk wf L))),some (.pl (.dict (Ze (encM M)))),some (.pl (fnD t cs)),some (.ot (encM (Zax wf cb L M))),p4,p5]):=by unfold ZbG;rw[hw];dsimp only;rw[if_pos (by rw[ZyJ]; show _<1000000; omega),go];rfl
 have hh:ZeO 0 (ZbG 4 (ZaP 0) (Z6 ap)) [some (.pl (.dict (Ze (Zk wf L)))),some (.pl (.dict (Ze (encM M)))),some (.pl (fnD t cs)),some (.ot (encM [])),none,none]=some (.nx [some (.pl (.dict (Ze (Zk wf L)))),some (.pl (.dict (Ze (encM M)))),some (.pl (fnD t cs)),some (.ot (encM (Zax wf cb L M))),p4,p5]):=by
  show(match ZbG 4 (ZaP 0) (Z6 ap) [some (.hd (Ze (Zk wf L))),some (.pl (.dict (Ze (encM M)))),some (.pl (fnD t cs)),some (.ot (encM [])),none,none]with | some (.nx r')=>_ | some (.rt d)=>_ | _=>none)=_;rw[hf];have a2:([none,some (B.pl (.dict (Ze (encM M)))),some (.pl (fnD t cs)),some (.ot (encM (Zax wf cb L M))),p4,p5]:HM.Env).all (λq=>!Za9 q)=true:=by simp only[ZzV,ZCr,g4,g5];rfl
  show(if([none,some (B.pl (.dict (Ze (encM M)))),some (.pl (fnD t cs)),some (.ot (encM (Zax wf cb L M))),p4,p5]:HM.Env).all (λq=>!Za9 q)=true then _ else _)=_;rw[if_pos a2];rfl
 unfold Zbv newOf;rw[if_pos (show([ZDW (Ze (Zk wf L)),ZDW (Ze (encM M)),fnD t cs]:List D).length=3 from rfl)];show(match Zaa 3 fDt [some (.pl (.dict (Ze (Zk wf L)))),some (.pl (.dict (Ze (encM M)))),some (.pl (fnD t cs)),none,none,none]with | some (.nx r')=>ZkB (ZeO 0 (ZbG 4 (ZaP 0) (Z6 ap))) (Zoe 3) r' | _=>none)=_;show ZkB (ZeO 0 (ZbG 4 (ZaP 0) (Z6 ap))) (Zoe 3) [some (.pl (.dict (Ze (Zk wf L)))),some (.pl (.dict (Ze (encM M)))),some (.pl (fnD t cs)),some (.ot (encM [])),none,none]=_;unfold ZkB;rw[hh];rfl
end
end HG5
namespace HG5
open PySem HM HG HG4
theorem Zqn(ap:AP)(e0 e1 e2 e5 e7:Option B)(v:Int):∀(ms:List (List Int)) (M:Tb) (o:Option B),M.length+ms.length<100000->Za9 o=false ->
  ∃p,Za9 p=false/\Zbc 6 (Zdv ap) (ms.map tupI) [e0,e1,e2,some (.ot (encM M)),some (.pl (dI v)),e5,o,e7]=some (.nx [e0,e1,e2,some (.ot (encM (Zaz ms v M))),some (.pl (dI v)),e5,p,e7])
 | [],M,o,_,h=>⟨o,h,rfl⟩
 | c::ms,M,o,hlen,_=>by
  rw[Zy3]at hlen;have hml:(encM M).length<1000000:=by unfold encM; rw[ZyJ]; omega
  have hk:Zbe (tupI c)=some (Zae c):=ZaK c;have hput:=ZnY M c v;have hpl:=Zqd c v M;have e:Zdv ap [e0,e1,e2,some (.ot (encM M)),some (.pl (dI v)),e5,some (.pl (tupI c)),e7]=some (.nx [e0,e1,e2,some (.ot (encM (putD M c v))),some (.pl (dI v)),e5,some (.pl (tupI c)),e7]):=by rw[<-hput];simp[Zdv,hk,hml]
  obtain⟨p,hp,ih⟩:=Zqn ap e0 e1 e2 e5 e7 v ms (putD M c v) (some (.pl (tupI c))) (by omega) rfl;refine⟨p,hp,?_⟩;show _=some (Out.nx [e0,e1,e2,some (.ot (encM (Zaz ms v (putD M c v)))),some (.pl (dI v)),e5,p,e7]);rw[ZyS,<-ih];show(match Zdv ap [e0,e1,e2,some (.ot (encM M)),some (.pl (dI v)),e5,some (.pl (tupI c)),e7]with | some (.nx r')=>_ | some (.ct r')=>_ | some (.bk r')=>_ | some (.rt d)=>_ | none=>_)=_;rw[e]
theorem ZiV(T:Tb):((encM T).map λp=>ZzD (p.1.map Zao))=(T.map (·.1)).map tupI:=by unfold encM;rw[Zza,Zza];refine Zz7 λp _=>?_;show ZzD ((p.1.map ZAz).map Zao)=ZzD (p.1.map dI);rw[Zza];rfl
def NdT(T:Tb):Prop:=(T.map (·.1)).Nodup
theorem Zqp{T:Tb}(h:NdT T){p:List Int × Int}(hp:p∈T):Zm T p.1=some p.2:=by
 induction T with
 | nil=>simp at hp
 | cons q T ih =>
  obtain⟨c,k⟩:=q;rw[ZbL];unfold NdT at h;rw[ZyS,ZzB]at h;rcases Zzb.mp hp with e | e
  ·subst e; rw[if_pos rfl]
  ·rw[if_neg λz=>h.1 (by rw[z]; exact ZyU.mpr ⟨p,e,rfl⟩)]
   exact ih h.2 e
theorem Zwb{wf:Wf}{cb:Cb}{M:Tb}:∀{L:List (List Int)},L.Nodup->NdT (Zax wf cb L M):=by
 intro L h;unfold NdT;have:((Zax wf cb L M).map (·.1)).Sublist L:=by
  unfold Zax;rw[List.map_filterMap]
  clear h
  induction L with
  | nil=>exact .slnil
  | cons c L ih =>
   rw[ZzQ];cases Zw M c with
   | true=>exact ih.cons c
   | false=>cases ZaZ cb (wf c) M with
    | none=>exact ih.cons c
    | some k=>exact ih.cons₂ c
 exact h.sublist this
theorem Zqu{wf:Wf}{cb:Cb}{L:List (List Int)}{M:Tb}:(Zax wf cb L M).length<=L.length:=ZDh ..
section
variable{T:Tb}(hT:NdT T)(hl:T.length<100000)
include hT hl
theorem ZsK(r:HM.Env)(h7:r[7]?=some (some (.hd (Ze (encM T))))):ZC (ZaP 7) ZU (ZT (Zn 8) (Zb 0)) r=some (.ol ((T.map (·.2)).map dI)):=by
 have hw:ZaP 7 r=some ((T.map (·.1)).map tupI):=by unfold ZaP;rw[h7];show(ZdV (Ze (encM T))).map _=_;rw[dec_enc,<-ZiV T];rfl
 have hg:Zaq ZU (ZT (Zn 8) (Zb 0)) r ((T.map (·.1)).map tupI)=some ((T.map (·.2)).map dI):=by rw[Zza,Zza];have:=Za2 (e:=ZT (Zn 8) (Zb 0)) (r:=r) (λp:List Int × Int=>tupI p.1) (λp=>dI p.2) T (λp hp=>by have hk:Zbe (tupI p.1)=some (Zae p.1):=ZaK p.1;have hlk:=Zcw T p.1;rw[Zqp hT hp]at hlk;simp[h7,dec_enc,hk,hlk]);exact this
 unfold ZC;rw[hw];dsimp only;rw[if_pos (by rw[ZyJ,ZyJ]; show _<1000000; omega),hg];rfl
theorem ZrT{k:Option Int}(r:HM.Env)(h7:r[7]?=some (some (.hd (Ze (encM T)))))(h4:r[4]?=some (some (.pl (oI k)))):ZC (ZaP 7) (tV (op2 gEq (ZT (Zn 8) (Zb 0)) (Zb 5))) (Zb 0) r=some (.ol (((T.filter λp=>some p.2==k).map (·.1)).map tupI)):=by
 have hw:ZaP 7 r=some ((T.map (·.1)).map tupI):=by unfold ZaP;rw[h7];show(ZdV (Ze (encM T))).map _=_;rw[dec_enc,<-ZiV T];rfl
 have hg:Zaq (tV (op2 gEq (ZT (Zn 8) (Zb 0)) (Zb 5))) (Zb 0) r ((T.map (·.1)).map tupI)=some (((T.filter λp=>some p.2==k).map (·.1)).map tupI):=by
  rw[Zza,Zza];have:=ZbX (c:=tV (op2 gEq (ZT (Zn 8) (Zb 0)) (Zb 5))) (e:=Zb 0) (r:=r) (λp:List Int × Int=>tupI p.1) (λp=>some p.2==k) (λp=>tupI p.1) T (λp hp=>by
   have hk:Zbe (tupI p.1)=some (Zae p.1):=ZaK p.1;have hlk:=Zcw T p.1;rw[Zqp hT hp]at hlk;have h1:ZT (Zn 8) (Zb 0) (some (.pl (tupI p.1))::r)=some (.int p.2):=by simp[h7,dec_enc,hk,hlk]
   have h2:Zb 5 (some (B.pl (tupI p.1))::r)=some (oI k):=by simp[h4]
   unfold tV op2;rw[h1,h2];cases k with
   | none=>show(match gEq (.int p.2) .none with | some (.bool b)=>some b | _=>none)=_;rw[Zjb (Zda 1 _) (Zvm 1) (by decide) (by decide) (by simp)];rfl
   | some k =>
    show(match gEq (.int p.2) (.int k)with | some (.bool b)=>some b | _=>none)=_
    by_cases e:p.2=k
    ·rw[e,Zks (Zda 1 _) (by decide)]
     simp
    ·rw[Zjb (Zda 1 _) (Zda 1 _) (by decide) (by decide) (by simpa using e)]
     simp[e]) (λp _ _=>by simp)
  exact this
 unfold ZC;rw[hw];dsimp only;rw[if_pos (by rw[ZyJ,ZyJ]; show _<1000000; omega),hg];rfl
end
section
variable{w:Wk}(hv:Wk.V w){ap:AP}{wf:Wf}{L:List (List Int)}{t:Nat}{cs:List D}{cb:Cb}(hnd:L.Nodup)(hlen:L.length<=128)(hcr:∀c∈L,Cr w.many c)(hys:∀c∈L,(wf c).length<1000)(ha:∀c∈L,∀y∈wf c,∀M,ap t cs [wyD y,.dict (Ze (encM M))]=some (oI (cb y M)))
include hnd hlen hys ha
theorem Zrz{M:Tb}{k:Int}{found:List (List Int)}{o6 o7:Option B}(h6:Za9 o6=false)(h7:Za9 o7=false)(hf:found.length<=128)(hM:M.length<50000) :
  ∃p6 p7,Za9 p6=false/\Za9 p7=false/\Zdw ap [some (.pl w.d),some (.pl (.dict (Ze (Zk wf L)))),some (.pl (fnD t cs)),some (.ot (encM M)),some (.pl (dI k)),some (.ol (found.map tupI)),o6,o7] =
   some (.nx [some (.pl w.d),some (.pl (.dict (Ze (Zk wf L)))),some (.pl (fnD t cs)),some (.ot (encM (Zaz found k M))),some (.pl (oI (ZbU (Zax wf cb L (Zaz found k M))))),some (.ol ((Zeg (Zax wf cb L (Zaz found k M))).map tupI)),p6,p7]):=by
 obtain⟨p6,hp6,e1⟩:=Zqn ap (some (.pl w.d)) (some (.pl (.dict (Ze (Zk wf L))))) (some (.pl (fnD t cs))) (some (.pl (.list (found.map tupI)))) o7 k found M o6 (by omega) h6;generalize hM':Zaz found k M=M' at *;have hnx:=Zm8 hnd hlen hys ha M';have hT:NdT (Zax wf cb L M'):=Zwb hnd;have hTl:(Zax wf cb L M').length<100000:=by have:=Zqu (wf:=wf) (cb:=cb) (L:=L) (M:=M'); omega
 generalize hO:Zax wf cb L M'=T at *;refine⟨p6,some (.pl (.dict (Ze (encM T)))),hp6,rfl,?_⟩;unfold Zdw;refine ZM (P:=λq=>q=_) (r':=[some (.pl w.d),some (.pl (.dict (Ze (Zk wf L)))),some (.pl (fnD t cs)),some (.ot (encM M')),some (.pl (dI k)),some (.pl (.list (found.map tupI))),p6,o7]) ?_ ?_
 ·unfold Zgv Zlb ZbG
  have hfb:found.length<1000000:=by omega
  simp[hfb];exact e1
 ·refine ZM (P:=λq=>q=_) (r':=[some (.pl w.d),some (.pl (.dict (Ze (Zk wf L)))),some (.pl (fnD t cs)),some (.ot (encM M')),some (.pl (dI k)),some (.pl (.list (found.map tupI))),p6,some (.ot (encM T))]) ?_ ?_
  ·have hcl:ZiW (Zbv ap) (Za (Zb 1) (Za (ZrB (Zn 3)) (Za (Zb 2) Zg))) [some (.pl w.d),some (.pl (.dict (Ze (Zk wf L)))),some (.pl (fnD t cs)),some (.ot (encM M')),some (.pl (dI k)),some (.pl (.list (found.map tupI))),p6,o7]=some (.ot (encM T)):=by
    unfold ZiW;show(match Zbv ap [.dict (Ze (Zk wf L)),.dict (Ze (encM M')),fnD t cs]with | some kvs=>if kvs.all (λp=>Zln p.2)then some (B.ot kvs)else none | none=>none)=_;rw[hnx];have hfl:(encM T).all (λp=>Zln p.2)=true:=by unfold encM;rw[ZDU];exact ZyR.mpr λp _=>rfl
    dsimp only;rw[if_pos hfl]
   unfold Zaa;rw[hcl];rfl
  ·have a1:∀x4 x5:D,([some (B.pl w.d),some (.pl (.dict (Ze (Zk wf L)))),some (.pl (fnD t cs)),some (.ot (encM M')),some (.pl x4),some (.pl x5),p6,some (.pl (.dict (Ze (encM T))))]:HM.Env).all (λq=>!Za9 q)=true:=λx4 x5=>by
    simp only[ZzV,ZCr,hp6];rfl
   have a2:∀x4:D,∀x5:B,Za9 (some x5)=false->([some (B.pl w.d),some (.pl (.dict (Ze (Zk wf L)))),some (.pl (fnD t cs)),some (.ot (encM M')),some (.pl x4),some x5,p6,none]:HM.Env).all (λq=>!Za9 q)=true:=λx4 x5 hx=>by simp only[ZzV,ZCr,hp6,hx];rfl
   have hv1:=ZsK hT hTl [some (.pl w.d),some (.pl (.dict (Ze (Zk wf L)))),some (.pl (fnD t cs)),some (.ot (encM M')),some (.pl (dI k)),some (.pl (.list (found.map tupI))),p6,some (.hd (Ze (encM T)))] rfl;have hm1:ZW 4 (ZdQ (ZC (ZaP 7) ZU (ZT (Zn 8) (Zb 0)))) [some (.pl w.d),some (.pl (.dict (Ze (Zk wf L)))),some (.pl (fnD t cs)),some (.ot (encM M')),some (.pl (dI k)),some (.pl (.list (found.map tupI))),p6,some (.hd (Ze (encM T)))]=some (.nx [some (.pl w.d),some (.pl (.dict (Ze (Zk wf L)))),some (.pl (fnD t cs)),some (.ot (encM M')),some (.pl (oI (ZbU T))),some (.pl (.list (found.map tupI))),p6,some (.hd (Ze (encM T)))]):=by
    have:ZdQ (ZC (ZaP 7) ZU (ZT (Zn 8) (Zb 0))) [some (.pl w.d),some (.pl (.dict (Ze (Zk wf L)))),some (.pl (fnD t cs)),some (.ot (encM M')),some (.pl (dI k)),some (.pl (.list (found.map tupI))),p6,some (.hd (Ze (encM T)))]=some (oI (ZbU T)):=by unfold ZdQ;rw[hv1];show(match Za5 ((T.map (·.2)).map dI)with | some ns=>some (match ns.min? with | some i=>ZzR i | none=>.none) | none=>none)=_;rw[Ze7];show some (match(T.map (·.2)).min? with | some i=>ZzR i | none=>.none)=_;unfold ZbU;cases(T.map (·.2)).min?<;>rfl
    unfold ZW;rw[this];rfl
   refine ZM (P:=λq=>q=_) (r':=[some (.pl w.d),some (.pl (.dict (Ze (Zk wf L)))),some (.pl (fnD t cs)),some (.ot (encM M')),some (.pl (oI (ZbU T))),some (.pl (.list (found.map tupI))),p6,some (.pl (.dict (Ze (encM T))))]) ?_ ?_
   ·show(if([some (B.pl w.d),some (.pl (.dict (Ze (Zk wf L)))),some (.pl (fnD t cs)),some (.ot (encM M')),some (.pl (dI k)),some (.pl (.list (found.map tupI))),p6,some (.pl (.dict (Ze (encM T))))]:HM.Env).all (λq=>!Za9 q)=true then _ else _)=_
    rw[if_pos (a1 _ _)];show(match ZW 4 _ [some (.pl w.d),some (.pl (.dict (Ze (Zk wf L)))),some (.pl (fnD t cs)),some (.ot (encM M')),some (.pl (dI k)),some (.pl (.list (found.map tupI))),p6,some (.hd (Ze (encM T)))]with | some (.nx r')=>_ | some (.rt d)=>_ | _=>none)=_;rw[hm1];show(if([some (B.pl w.d),some (.pl (.dict (Ze (Zk wf L)))),some (.pl (fnD t cs)),some (.ot (encM M')),some (.pl (oI (ZbU T))),some (.pl (.list (found.map tupI))),p6,none]:HM.Env).all (λq=>!Za9 q)=true then _ else _)=_;rw[if_pos (a2 _ _ rfl)];rfl
   ·have hk1:=ZrT hT hTl (k:=ZbU T) [some (.pl w.d),some (.pl (.dict (Ze (Zk wf L)))),some (.pl (fnD t cs)),some (.ot (encM M')),some (.pl (oI (ZbU T))),some (.pl (.list (found.map tupI))),p6,some (.hd (Ze (encM T)))] rfl rfl
    have hm2:Zaa 5 (ZC (ZaP 7) (tV (op2 gEq (ZT (Zn 8) (Zb 0)) (Zb 5))) (Zb 0)) [some (.pl w.d),some (.pl (.dict (Ze (Zk wf L)))),some (.pl (fnD t cs)),some (.ot (encM M')),some (.pl (oI (ZbU T))),some (.pl (.list (found.map tupI))),p6,some (.hd (Ze (encM T)))]=some (.nx [some (.pl w.d),some (.pl (.dict (Ze (Zk wf L)))),some (.pl (fnD t cs)),some (.ot (encM M')),some (.pl (oI (ZbU T))),some (.ol ((Zeg T).map tupI)),p6,some (.hd (Ze (encM T)))]):=by unfold Zaa;rw[hk1];rfl
    show(if([some (B.pl w.d),some (.pl (.dict (Ze (Zk wf L)))),some (.pl (fnD t cs)),some (.ot (encM M')),some (.pl (oI (ZbU T))),some (.pl (.list (found.map tupI))),p6,some (.pl (.dict (Ze (encM T))))]:HM.Env).all (λq=>!Za9 q)=true then _ else _)=_;rw[if_pos (a1 _ _)];show(match Zaa 5 _ [some (.pl w.d),some (.pl (.dict (Ze (Zk wf L)))),some (.pl (fnD t cs)),some (.ot (encM M')),some (.pl (oI (ZbU T))),some (.pl (.list (found.map tupI))),p6,some (.hd (Ze (encM T)))]with | some (.nx r')=>_ | some (.rt d)=>_ | _=>none)=_;rw[hm2];show(if([some (B.pl w.d),some (.pl (.dict (Ze (Zk wf L)))),some (.pl (fnD t cs)),some (.ot (encM M')),some (.pl (oI (ZbU T))),some (.ol ((Zeg T).map tupI)),p6,none]:HM.Env).all (λq=>!Za9 q)=true then _ else _)=_;rw[if_pos (a2 _ _ rfl)];rfl
omit hnd hlen hys ha in
theorem ZoI{M:Tb}{c:List Int}(h:c∈Zeg (Zax wf cb L M)):c∈L/\Zw M c=false:=by obtain⟨⟨c',k⟩,h1,rfl⟩:=ZyU.mp h;have:=Zvt.mp (Zy6.mp h1).1;exact⟨this.1,this.2.1⟩
omit hnd hlen hys ha in
theorem ZsJ{T:Tb}(h:Zeg T≠[]):∃k,ZbU T=some k:=by
 cases hq:ZbU T with
 | some k=>exact⟨k,rfl⟩
 | none=>refine absurd ?_ h;unfold ZbU at hq;rw[ZAp]at hq;have:=List.map_eq_nil_iff.mp hq;subst this;rfl
theorem Zjd:∀(fuel n:Nat) (M:Tb) (k:Option Int) (found:List (List Int)) (o6 o7:Option B),Za9 o6=false->Za9 o7=false->(∀c∈found,c∈L/\Zw M c=false)->found.length<=128->M.length<=128*n->n<=(L.filter λc=>Zw M c).length->130<=n+fuel->(found≠[]->∃i,k=some i) ->
  ∃R p4 p5 p6 p7,Zbh (tV (op2 gGt (ZaS (Zn 5)) (eC (.int 0)))) (Zdw ap) fuel [some (.pl w.d),some (.pl (.dict (Ze (Zk wf L)))),some (.pl (fnD t cs)),some (.ot (encM M)),some (.pl (oI k)),some (.ol (found.map tupI)),o6,o7]=some (.nx [some (.pl w.d),some (.pl (.dict (Ze (Zk wf L)))),some (.pl (fnD t cs)),some (.ot (encM R)),p4,p5,p6,p7])/\Zg9 wf cb L M k found R
 | 0,n,M,k,found,o6,o7,_,_,_,_,_,ht,hfu,_=>by have:=ZAo (λc=>Zw M c) L;omega
 | fuel+1,n,M,k,found,o6,o7,h6,h7,hfo,hfl,hM,ht,hfu,hks=>by
  have htl:=ZAo (λc=>Zw M c) L
  by_cases hf:found=[]
  ·subst hf
   refine⟨M,some (.pl (oI k)),some (.ol []),o6,o7,?_,.done⟩;unfold Zbh;have e:(tV (op2 gGt (ZaS (Zn 5)) (eC (.int 0)))) [some (.pl w.d),some (.pl (.dict (Ze (Zk wf L)))),some (.pl (fnD t cs)),some (.ot (encM M)),some (.pl (oI k)),some (.ol (([]:List (List Int)).map tupI)),o6,o7]=some false:=by simp
   rw[e];rfl
  ·obtain⟨i,rfl⟩:=hks hf
   have e:(tV (op2 gGt (ZaS (Zn 5)) (eC (.int 0)))) [some (.pl w.d),some (.pl (.dict (Ze (Zk wf L)))),some (.pl (fnD t cs)),some (.ot (encM M)),some (.pl (oI (some i))),some (.ol (found.map tupI)),o6,o7]=some true:=by have:0<found.length:=ZCw.mpr hf;simp;omega
   obtain⟨p6,p7,g6,g7,ht1⟩:=Zrz hnd hlen hys ha (w:=w) (M:=M) (k:=i) (found:=found) h6 h7 hfl (by omega);have hml:(Zaz found i M).length<=M.length+found.length:=Zml i found M;have hlk:∀k,Zm (Zaz found i M) k=if k∈found then some i else Zm M k:=λk=>Zeq i k found M
   have hcnt:(L.filter λc=>Zw M c).length<(L.filter λc=>Zw (Zaz found i M) c).length:=by
    refine Ziv (λx _ hx=>?_) ?_
    ·unfold Zw at hx ⊢
     rw[hlk];split
     ·rfl
     ·exact hx
    ·obtain⟨c,cs,rfl⟩:=ZCS hf
     refine⟨c,(hfo c (ZyO ..)).1,?_,(hfo c (ZyO ..)).2⟩;unfold Zw;rw[hlk,if_pos (ZyO ..)];rfl
   have hol:(Zeg (Zax wf cb L (Zaz found i M))).length<=128:=by
    have h1:(Zeg (Zax wf cb L (Zaz found i M))).length<=(Zax wf cb L (Zaz found i M)).length:=by unfold Zeg;rw[ZyJ];exact ZAo ..
    have h2:=Zqu (wf:=wf) (cb:=cb) (L:=L) (M:=Zaz found i M);omega
   obtain⟨R,q4,q5,q6,q7,g,J⟩:=Zjd fuel (n+1) (Zaz found i M) (ZbU (Zax wf cb L (Zaz found i M))) (Zeg (Zax wf cb L (Zaz found i M))) p6 p7 g6 g7 (λc hc=>ZoI hc) hol (by omega) (by omega) (by omega) ZsJ;refine⟨R,q4,q5,q6,q7,?_,.step hf J⟩;unfold Zbh;rw[e];dsimp only;show(match Zdw ap [some (.pl w.d),some (.pl (.dict (Ze (Zk wf L)))),some (.pl (fnD t cs)),some (.ot (encM M)),some (.pl (dI i)),some (.ol (found.map tupI)),o6,o7]with | some (.nx r')=>_ | some (.ct r')=>_ | some (.bk r')=>_ | some (.rt d)=>_ | none=>_)=_;rw[ht1];exact g
include hv hcr
theorem Zj5:∃R,Z3 ap [w.d,.dict (Ze (Zk wf L)),fnD t cs]=some (.dict (Ze (encM R)))/\Zg9 wf cb L [] (some 0) (L.filter λc=>ZD w c) R:=by
 have hlb:L.length<1000000:=by omega
 have hfl:(L.filter λc=>ZD w c).length<=128:=ZzH (ZAo _ _) hlen;obtain⟨R,p4,p5,p6,p7,g,J⟩:=Zjd hnd hlen hys ha (w:=w) 100000 0 [] (some 0) (L.filter λc=>ZD w c) none none rfl rfl (λc hc=>⟨(Zy6.mp hc).1,rfl⟩) hfl (by simp) (ZzN _) (by omega) λ_=>⟨0,rfl⟩;refine⟨R,?_,J⟩;have hw:ZaP 1 [some (.pl w.d),some (.hd (Ze (Zk wf L))),some (.pl (fnD t cs)),some (.ot (encM [])),some (.pl (dI 0)),none,none,none]=some (L.map tupI):=by show(ZdV (Ze (Zk wf L))).map _=_;rw[dec_enc,<-Zi9 wf L];rfl
 have hgo:∀r:HM.Env,r[0]?=some (some (.pl w.d))->Zaq (tV (Zf ZbI (Za (Zb 1) (Za (Zb 0) Zg)))) (Zb 0) r (L.map tupI)=some ((L.filter λc=>ZD w c).map tupI):=λr r0=>by
  rw[ZbX tupI (λc=>ZD w c) tupI]
  ·intro c hc
   have:=ZpN (w:=w) (c:=c) (by have:=(hcr c hc).len; have:=hv.m2; omega);simp[r0,this]
  ·intro c _ _
   simp
 have hc:ZC (ZaP 1) (tV (Zf ZbI (Za (Zb 1) (Za (Zb 0) Zg)))) (Zb 0) [some (.pl w.d),some (.hd (Ze (Zk wf L))),some (.pl (fnD t cs)),some (.ot (encM [])),some (.pl (dI 0)),none,none,none]=some (.ol ((L.filter λc=>ZD w c).map tupI)):=by unfold ZC;rw[hw];dsimp only;rw[if_pos (by rw[ZyJ]; exact hlb),hgo _ rfl];rfl
 have hh:ZeO 1 (Zaa 5 (ZC (ZaP 1) (tV (Zf ZbI (Za (Zb 1) (Za (Zb 0) Zg)))) (Zb 0))) [some (.pl w.d),some (.pl (.dict (Ze (Zk wf L)))),some (.pl (fnD t cs)),some (.ot (encM [])),some (.pl (dI 0)),none,none,none]=some (.nx [some (.pl w.d),some (.pl (.dict (Ze (Zk wf L)))),some (.pl (fnD t cs)),some (.ot (encM [])),some (.pl (dI 0)),some (.ol ((L.filter λc=>ZD w c).map tupI)),none,none]):=by show(match Zaa 5 _ [some (.pl w.d),some (.hd (Ze (Zk wf L))),some (.pl (fnD t cs)),some (.ot (encM [])),some (.pl (dI 0)),none,none,none]with | some (.nx r')=>_ | some (.rt d)=>_ | _=>none)=_;unfold Zaa;rw[hc];rfl
 show ZS (Zff ap [some (.pl w.d),some (.pl (.dict (Ze (Zk wf L)))),some (.pl (fnD t cs)),none,none,none,none,none])=_;have e:Zff ap [some (.pl w.d),some (.pl (.dict (Ze (Zk wf L)))),some (.pl (fnD t cs)),none,none,none,none,none]=some (.rt (.dict (Ze (encM R)))):=by unfold Zff;refine ZM (P:=λq=>q=_) (r':=[some (.pl w.d),some (.pl (.dict (Ze (Zk wf L)))),some (.pl (fnD t cs)),some (.ot (encM [])),none,none,none,none]) rfl ?_;refine ZM (P:=λq=>q=_) (r':=[some (.pl w.d),some (.pl (.dict (Ze (Zk wf L)))),some (.pl (fnD t cs)),some (.ot (encM [])),some (.pl (dI 0)),none,none,none]) rfl ?_;refine ZM (P:=λq=>q=_) hh ?_;refine ZM (P:=λq=>q=_) g ?_;simp
 rw[e];rfl
end
end HG5
namespace HG5
open PySem HM HG
end HG5
namespace HG5
open PySem HM HG HG4
inductive ZnX(w:Wk)(ls b:List Int):List Int->Prop where
 | beg {p:List Int} (h:p∈Zq w ls b):ZnX w ls b p
 | step {c p:List Int} {d:Nat} (r:ZnX w ls b c) (hd:d<w.deeds.length) (hc:ZbP w c d=true) (h:p∈Zq w ls (Zap w c d)):ZnX w ls b p
def Zil(w:Wk)(ls c:List Int)(d:Int):Wy:=(dI d,Zbz w ls (Zap w c d))
def wfV(w:Wk)(ls:List Int):Wf:=λc=>(doV w c).map (Zil w ls c)
abbrev Ze5(w:Wk)(ls:List Int)(L:List (List Int)):List (List Ky × D):=Zk (wfV w ls) L
theorem ZrU(w:Wk)(ls c:List Int):Zng w ls c=.list ((wfV w ls c).map wyD):=by unfold Zng wfV;rw[Zza];rfl
theorem Zyr(w:Wk)(ls c:List Int)(d:Int):wyP (Zil w ls c d)=Zq w ls (Zap w c d):=rfl
abbrev OkC(w:Wk)(c:List Int):Prop:=Cr w.many c/\c≠[]
structure ApD(ap:AP):Prop where
 d0:∀ds,ap 0 [] ds=Zb3 ds
 l1:∀cs ds,ap 1 cs ds=ZfN 1 2 (Zf ZaC (Za (Zb 1) (Za (Zb 2) (Za (Zb 0) Zg)))) cs ds
section
variable{w:Wk}(hv:Wk.V w)(h7:w.many<=7){ls:List Int}(hl:Cr w.looks.length ls)
include hv h7
theorem Zrc:ZoG (wfV w ls) (OkC w):=by
 refine⟨λc hc y hy p hp=>?_,λc hc=>?_,λc hc y hy=>?_,λC hn hC=>?_⟩
 ·obtain⟨d,hd,rfl⟩:=ZyU.mp hy
  obtain⟨d0,d1,_⟩:=Zc5 hd;have:=ZhE (ZfY hv hc.1 d0 d1) (show p∈Zq w ls (Zap w c d) from hp);exact⟨this.1,this.2.1⟩
 ·unfold wfV
  rw[ZyJ];have:=ZlE w c;have:=hv.d2;omega
 ·obtain⟨d,hd,rfl⟩:=ZyU.mp hy
  obtain⟨d0,d1,_⟩:=Zc5 hd;have:=split_len (w:=w) (ls:=ls) (c:=Zap w c d);have:=(ZfY hv hc.1 d0 d1).len;show(Zbz w ls (Zap w c d)).length<=8;omega
 ·have h1:=Zlp hn λc hc=>(hC c hc).1
  have h2:2 ^ w.many<=2 ^ 7:=Nat.pow_le_pow_right (by decide) h7;have h3:2 ^ 7=128:=rfl;omega
omit hv h7 in
theorem ZvY{b c:List Int}(r:ZlS (wfV w ls) (Zq w ls b) c):ZnX w ls b c:=by
 induction r with
 | beg h=>exact .beg h
 | @step c p y _ hy hp ih=>obtain⟨d,hd,rfl⟩:=ZyU.mp hy;obtain⟨d0,d1,d2⟩:=Zc5 hd;have e:((d.toNat:Nat):Int)=d:=ZAU d0;exact .step (d:=d.toNat) ih (by omega) (by rw[e]; exact d2) (by rw[e]; exact hp)
include hl
theorem Ze9{ap:AP}(A:ApD ap){b:List Int}(hb:Cr w.many b):∃L,ZaG ap [w.d,tupI ls,tupI b]=some (.dict (Ze (Ze5 w ls L)))/\L.Nodup/\L.length<=128/\(∀c∈L,Cr w.many c/\c≠[])/\(∀c∈L,ZnX w ls b c)/\Zdc w ls L/\∀p∈Zq w ls b,p∈L:=by
 have hp:=ZgI hv hl hb;have hsl:=split_len (w:=w) (ls:=ls) (c:=b);have hbl:=hb.len;have hci:=ZcO (Zbz w ls b) (by omega);have hpl:(Zq w ls b).length<=100:=by unfold Zq; rw[ZyJ]; omega
 have O:=Zrc hv h7 (ls:=ls);have ha:∀c,OkC w c->ap 1 [w.d,tupI ls] [tupI c]=some (.list ((wfV w ls c).map wyD)):=λc hc=>by rw[A.l1,<-ZrU];unfold ZfN;rw[if_pos ⟨rfl,rfl,by rw[ZzV,ZdR 19]; rfl⟩];exact Zod hv hl hc.1
 obtain⟨L,e,J⟩:=Zk2 O ha (B:=Zq w ls b) (λc h=>⟨(ZhE hb h).1,(ZhE hb h).2.1⟩) hpl;refine⟨L,?_,J.nd,O.cs L J.nd J.cr,J.cr,λc hc=>ZvY (J.rc c hc),λc hc d hd can p hp=>?_,λp hp=>?_⟩
 ·show ZS (ZeX ap [some (.pl w.d),some (.pl (tupI ls)),some (.pl (tupI b))])=_
  have h1:Zf Zv (Za (Zf Zag (Za (Zb 0) (Za (Zb 1) (Za (Zb 2) Zg)))) Zg) [some (.pl w.d),some (.pl (tupI ls)),some (.pl (tupI b))]=some (.list ((Zq w ls b).map tupI)):=by unfold Zf Za;show(match(match Zag [w.d,tupI ls,tupI b]with | some x=>(Zg _).map (x::·) | none=>none)with | some ds=>Zv ds | none=>none)=_;rw[hp];exact hci
  have hn1:[w.d,tupI ls].all (noF 20)=true:=by rw[ZzV,ZzV,Zxb,ZdR 19];rfl
  have hn2:noF 20 (.dict (Ze (Ze5 w ls L)))=true:=Zq5 (n:=14) λc _ y hy=>by obtain⟨d,_,rfl⟩:=ZyU.mp hy;exact Zjw _ _
  unfold ZeX ZG Zej;rw[h1];show ZS (ZAP Out.rt (if[w.d,tupI ls].all (noF 20)=true then(match Zah ap [.list ((Zq w ls b).map tupI),fnD 1 [w.d,tupI ls]]with | some d=>if noF 20 d=true then some d else none | none=>none)else none))=_;rw[if_pos hn1,e];dsimp only;rw[if_pos hn2];rfl
 ·rcases J.cl c hc (Zil w ls c d) (ZyU.mpr ⟨(d:Int),ZjA hd can,rfl⟩) p hp with h | h
  ·exact h
  ·simp at h
 ·rcases J.bg p hp with h | h
  ·exact h
  ·simp at h
end
def ZcK(ps:List (List Int))(M:Tb):Option Int:=if ps.all (Zw M)then(ps.filterMap λp=>Zm M p).max? else none
def cbD:Cb:=λy M=>(ZcK (wyP y) M).map (·+1)
theorem Zis{α β:Type}{f:α->Option β}:∀{xs:List α},((xs.filterMap f).length=xs.length↔xs.all (λx=>(f x).isSome)=true)
 | []=>by simp
 | x::xs=>by
  have ih:=Zis (f:=f) (xs:=xs);have hl:(xs.filterMap f).length<=xs.length:=ZDh f xs;rw[ZzQ,ZzV];cases h:f x with
  | none=>simp; omega
  | some y=>simpa using ih
theorem Zgo{g:Gs}(hg:g.length<1000)(h0:g≠[]){M:Tb}:Zal [.list (g.map Zbk),.dict (Ze (encM M))]=some (oI (ZcK (g.map (·.2)) M)):=by
 have hci:=ZcO g (by omega);have hlen:((g.map (·.2)).map tupI).length<big:=by rw[ZyJ,ZyJ]; show _<1000000; omega
 have h1:ZN (bOf (Zf Zv (Za (Zb 0) Zg))) [some (.pl (.list (g.map Zbk))),some (.pl (.dict (Ze (encM M)))),none]=some ((g.map (·.2)).map tupI):=by unfold ZN bOf;show(match ZAP B.pl (Zv [.list (g.map Zbk)])with | some x=>ZfC x | none=>none)=_;rw[hci];rfl
 have h2:Zaq (tV (ZbV (Zb 0) (Zn 2))) (ZT (Zn 2) (Zb 0)) [some (.pl (.list (g.map Zbk))),some (.pl (.dict (Ze (encM M)))),none] ((g.map (·.2)).map tupI)=some (((g.map (·.2)).filterMap λp=>Zm M p).map dI):=by
  rw[ZbX tupI (Zw M) (λp=>dI ((Zm M p).getD 0))]
  ·congr 1
   generalize g.map (·.2)=ps
   induction ps with
   | nil=>rfl
   | cons p ps ih =>
    rw[ZAg,ZzQ];unfold Zw at ih ⊢;cases hq:Zm M p with
    | none=>rw[if_neg (by simp)]; exact ih
    | some k=>rw[if_pos (by rfl),ZyS,ZyS,ih,hq]; rfl
  ·intro p _
   have hk:Zbe (tupI p)=some (Zae p):=ZaK p;simp[dec_enc,hk,Zcw,Zw]
  ·intro p _ hp
   have hk:Zbe (tupI p)=some (Zae p):=ZaK p;unfold Zw at hp;obtain⟨k,hk'⟩:=Zzf.mp hp;have hlk:=Zcw M p;rw[hk']at hlk;simp[dec_enc,hk,hlk,hk']
 have hfl:=Zis (f:=λp=>Zm M p) (xs:=g.map (·.2));rw[ZyJ]at hfl;have hall:(g.map (·.2)).all (λx=>(Zm M x).isSome)=(g.map (·.2)).all (Zw M):=rfl;rw[hall]at hfl;generalize hN:(g.map (·.2)).filterMap (λp=>Zm M p)=ns at *;show ZS (Zd5 [some (.pl (.list (g.map Zbk))),some (.pl (.dict (Ze (encM M)))),none])=_;unfold Zd5;refine ZM (P:=λq=>ZS q=_) (r':=[some (.pl (.list (g.map Zbk))),some (.pl (.dict (Ze (encM M)))),some (.ol (ns.map dI))]) ?_ ?_
 ·unfold Zaa ZC
  rw[h1];dsimp only;rw[if_pos hlen,h2];rfl
 ·have h3:op2 gEq (ZaS (Zn 2)) (ZaS (Zn 0)) [some (.pl (.list (g.map Zbk))),some (.pl (.dict (Ze (encM M)))),some (.ol (ns.map dI))]=some (.bool (decide (ns.length=g.length))):=by
   show gEq (.int ((ns.map dI).length:Int)) (.int ((g.map Zbk).length:Int))=_;rw[ZyJ,ZyJ]
   by_cases e:ns.length=g.length
   ·rw[e,Zks (Zda 1 _) (by decide)]
    simp
   ·rw[Zjb (Zda 1 _) (Zda 1 _) (by decide) (by decide) (λz=>e (by injection z with z; omega))]
    simp[e]
  have h4:ZkP (Zn 2) [some (.pl (.list (g.map Zbk))),some (.pl (.dict (Ze (encM M)))),some (.ol (ns.map dI))]=ns.max?.map λi=>ZzR i:=by show(match Za5 (ns.map dI)with | some ns=>ns.max?.map λi=>ZzR i | none=>none)=_;rw[Ze7]
  unfold ZG eIf tV;rw[h3];unfold ZcK;rw[hN]
  by_cases e:ns.length=g.length
  ·rw[if_pos (hfl.mp e),decide_eq_true e]
   show ZS (ZAP Out.rt (ZkP (Zn 2) _))=_;rw[h4];have hne:ns≠[]:=λz=>by rw[z]at e;exact h0 (ZAq e.symm)
   cases hq:ns.max? with
   | none=>rw[ZDG]at hq; exact absurd hq hne
   | some m=>rfl
  ·rw[if_neg λz=>e (hfl.mpr z),decide_eq_false e]
   rfl
theorem ZpM{y:Wy}(hy:y.2.length<1000)(h0:y.2≠[])(M:Tb):Zb3 [wyD y,.dict (Ze (encM M))]=some (oI (cbD y M)):=by
 have h:=Zgo hy h0 (M:=M);have h':Zal [.list (y.2.map Zbk),.dict (Ze (encM M))]=some (oI (ZcK (wyP y) M)):=h;show ZS (ZgS [some (.pl (wyD y)),some (.pl (.dict (Ze (encM M)))),none])=_;unfold ZgS cbD;refine ZM (P:=λq=>ZS q=_) (r':=[some (.pl (wyD y)),some (.pl (.dict (Ze (encM M)))),some (.pl (oI (ZcK (wyP y) M)))]) ?_ ?_
 ·unfold ZW Zf
  show ZAP _ (Zal [.list (y.2.map Zbk),.dict (Ze (encM M))])=_;rw[h'];rfl
 ·cases ZcK (wyP y) M<;>rfl
def ZiT(w:Wk)(ls:List Int)(L:List (List Int))(M:Tb):Prop:=∃t,Zig w ls L t M/\ZfP w ls L M=[]
theorem ZkV{ps:List (List Int)}{M:Tb}{m:Int}(h:ZcK ps M=some m):(∀p∈ps,∃k,Zm M p=some k/\k<=m)/\∃p∈ps,Zm M p=some m:=by
 unfold ZcK at h;split at h
 ·rename_i ha
  obtain⟨m1,m2⟩:=ZDE.mp h;refine⟨λp hp=>?_,?_⟩
  ·have hh:=ZyR.mp ha p hp
   unfold Zw at hh;obtain⟨k,hk⟩:=Zzf.mp hh;exact⟨k,hk,m2 _ (Zzm.mpr ⟨p,hp,hk⟩)⟩
  ·obtain⟨p,hp,e⟩:=Zzm.mp m1
   exact⟨p,hp,e⟩
 ·cases h
theorem ZkX{ps:List (List Int)}{M:Tb}(h0:ps≠[])(h:ZcK ps M=none):ps.all (Zw M)=false:=by
 cases hq:ps.all (Zw M)with
 | false=>rfl
 | true=>unfold ZcK at h;rw[hq,if_pos rfl,ZDG]at h;obtain⟨p,r,rfl⟩:=ZCS h0;have hh:=ZyR.mp hq p (ZyO ..);unfold Zw at hh;obtain⟨k,hk⟩:=Zzf.mp hh;rw[ZzQ,hk]at h;cases h
section
variable{w:Wk}{ls:List Int}{L:List (List Int)}(hL:Zdc w ls L)(hne:∀c∈L,c≠[])
include hL hne
theorem ZqR{t:Nat}{M:Tb}(T:Zig w ls L t M){c:List Int}(hc:c∈L)(hn:Zw M c=false):ZaZ cbD (wfV w ls c) M=if Zfx w ls c M then some ((t+1:Nat):Int)else none:=by
 have known:∀{p:List Int} {k:Int},Zm M p=some k->∃n:Nat,k=(n:Int)/\n<=t/\Win w ls n p=true:=λ{p k} h=>by
  rw[T.look]at h;split at h
  ·obtain⟨n,h1,h2,h3,_⟩:=Zlo h
   exact⟨n,h1,h2,h3⟩
  ·cases h
 have val:∀y∈wfV w ls c,∀k,cbD y M=some k->k=((t+1:Nat):Int)/\Zfx w ls c M=true:=λy hy k hk=>by
  obtain⟨d,hd,rfl⟩:=ZyU.mp hy;obtain⟨d0,d1,d2⟩:=Zc5 hd;have e:((d.toNat:Nat):Int)=d:=ZAU d0;obtain⟨m,h1,h2⟩:=ZyL.mp hk;have h1:ZcK (Zq w ls (Zap w c d)) M=some m:=h1;obtain⟨w1,p,hp,w2⟩:=ZkV h1;obtain⟨n,rfl,hnt,_⟩:=known w2;refine⟨?_,ZyV.mpr ⟨d.toNat,Zy7.mpr (by omega),?_⟩⟩
  ·subst h2
   by_cases hlt:n<t
   ·-- then the crowd would be known already
    have hw:Win w ls (n+1) c=true:=by show(ZD w c||_)=true;rw[Zzt];refine .inr (ZyV.mpr ⟨d.toNat,Zy7.mpr (by omega),?_⟩);rw[e,d2,ZCQ];refine ZyR.mpr λq hq=>?_;obtain⟨k,k1,k2⟩:=w1 q hq;obtain⟨n',rfl,_,hw'⟩:=known k1;exact Zfq (by omega) hw'
    have:Zw M c=true:=by unfold Zw;rw[T.look,if_pos hc,Zc0];exact Zfq (by omega) hw
    rw[hn]at this;cases this
   ·show(n:Int)+1=_
    omega
  ·rw[e,d2,ZCQ]
   refine ZyR.mpr λq hq=>?_;obtain⟨k,k1,_⟩:=w1 q hq;unfold Zw;rw[k1];rfl
 have all_eq:∀k∈(wfV w ls c).filterMap (λy=>cbD y M),k=((t+1:Nat):Int)/\Zfx w ls c M=true:=λk hk=>by obtain⟨y,hy,e⟩:=Zzm.mp hk;exact val y hy k e
 unfold ZaZ;cases hcan:Zfx w ls c M with
 | false =>
  have:(wfV w ls c).filterMap (λy=>cbD y M)=[]:=List.eq_nil_iff_forall_not_mem.mpr λk hk=>by have:=(all_eq k hk).2;rw[hcan]at this;cases this
  rw[this];rfl
 | true =>
  obtain⟨d,hd,hq⟩:=ZyV.mp hcan;rw[Zy5]at hq;have hd':=Zy7.mp hd;have hy:Zil w ls c (d:Int)∈wfV w ls c:=ZyU.mpr ⟨(d:Int),ZjA hd' hq.1,rfl⟩;have hpn:Zq w ls (Zap w c d)≠[]:=Ze6 (Zk5 (hne c hc) hq.1);have hk:∃k,cbD (Zil w ls c d) M=some k:=by
   unfold cbD;cases hw:ZcK (wyP (Zil w ls c d)) M with
   | none=>have:=ZkX hpn hw;rw[show(Zq w ls (Zap w c d)).all (Zw M)=true from hq.2]at this;cases this
   | some m=>exact⟨m+1,rfl⟩
  obtain⟨k,hk⟩:=hk;have hm:k∈(wfV w ls c).filterMap (λy=>cbD y M):=Zzm.mpr ⟨_,hy,hk⟩;cases hmin:((wfV w ls c).filterMap λy=>cbD y M).min? with
  | none=>rw[ZAp]at hmin; rw[hmin]at hm; simp at hm
  | some m=>have:=(ZAd.mp hmin).1;rw[(all_eq m this).1];rfl
theorem ZtN{t:Nat}{M:Tb}(T:Zig w ls L t M):Zax (wfV w ls) cbD L M=(ZfP w ls L M).map λc=>(c,((t+1:Nat):Int)):=by
 unfold Zax ZfP;have key:∀K:List (List Int),(∀c∈K,c∈L)->(K.filterMap λc=>if Zw M c then none else(ZaZ cbD (wfV w ls c) M).map λk=>(c,k))=(K.filter λc=>!Zw M c&&Zfx w ls c M).map λc=>(c,((t+1:Nat):Int)):=by
  intro K
  induction K with
  | nil=>intro _; rfl
  | cons c K ih =>
   intro hK;have ih:=ih λx hx=>hK x (ZyQ _ hx);rw[ZzQ,ZAg];cases hh:Zw M c with
   | true=>simpa using ih
   | false =>
    have hle:=ZqR hL hne T (hK c (ZyO ..)) hh;rw[hle];cases hcan:Zfx w ls c M with
    | false=>simpa [hcan]using ih
    | true=>simpa [hcan]using ih
 exact key L λ_ h=>h
theorem Zvb{M R:Tb}{k:Option Int}{found:List (List Int)}(r:Zg9 (wfV w ls) cbD L M k found R):∀t:Nat,(found=[]->Zig w ls L t M/\ZfP w ls L M=[])->(found≠[]->k=some (t:Int)/\Zig w ls L t (Zaz found t M))->ZiT w ls L R:=by
 induction r with
 | done=>intro t h _; exact⟨t,h rfl⟩
 | @step M R k found hf _ ih =>
  intro t _ h;obtain⟨hk,T⟩:=h hf;cases hk;have ho:=ZtN hL hne T;have hmin:∀ms:List (List Int),Zeg (ms.map λc=>(c,((t+1:Nat):Int)))=ms/\(ms≠[]->ZbU (ms.map λc=>(c,((t+1:Nat):Int)))=some ((t+1:Nat):Int)):=λms=>by
   cases ms with
   | nil=>exact⟨rfl,λz=>absurd rfl z⟩
   | cons c ms =>
    have hO:ZbU ((c::ms).map λc=>(c,((t+1:Nat):Int)))=some ((t+1:Nat):Int):=by unfold ZbU;rw[Zza];refine ZAd.mpr ⟨ZyU.mpr ⟨c,ZyO ..,rfl⟩,λb hb=>?_⟩;obtain⟨c',_,rfl⟩:=ZyU.mp hb;exact Int.le_refl _
    refine⟨?_,λ_=>hO⟩;unfold Zeg;rw[hO];have:∀xs:List (List Int),((xs.map λc=>(c,((t+1:Nat):Int))).filter λp=>some p.2==some ((t+1:Nat):Int)).map (·.1)=xs:=by
     intro xs
     induction xs with
     | nil=>rfl
     | cons x xs ih=>simp at ih ⊢; exact ih
    exact this _
  obtain⟨m1,m2⟩:=hmin (ZfP w ls L (Zaz found t M));rw[ho,m1]at ih;refine ih (if ZfP w ls L (Zaz found t M)=[]then t else t+1) (λe=>?_) λe=>?_
  ·rw[if_pos e]
   exact⟨T,e⟩
  ·rw[if_neg e]
   exact⟨m2 e,ZoX hL T⟩
theorem Ztx(hv:Wk.V w){R:Tb}(r:Zg9 (wfV w ls) cbD L [] (some 0) (L.filter λc=>ZD w c) R):ZiT w ls L R:=by
 refine Zvb hL hne r 0 (λe=>?_) λ_=>⟨rfl,Zo5⟩;have T:Zig w ls L 0 (M0 w L):=Zo5;have e0:M0 w L=[]:=by unfold M0; rw[e]; rfl
 rw[e0]at T;refine⟨T,ZAW.mpr λc hc h=>?_⟩;rw[Zy5]at h;obtain⟨d,hd,hq⟩:=ZyV.mp h.2;rw[Zy5]at hq;obtain⟨p,hp⟩:=ZAK _ (Ze6 (w:=w) (ls:=ls) (Zk5 (hne c hc) hq.1));have:=ZyR.mp hq.2 p hp;cases this
end
theorem Zop{w:Wk}(hv:Wk.V w){ap:AP}(A:ApD ap){ls:List Int}{L:List (List Int)}(hnd:L.Nodup)(hcr:∀c∈L,Cr w.many c/\c≠[])(hlen:L.length<=128)(hL:Zdc w ls L):∃M,Zdx ap [w.d,.dict (Ze (Ze5 w ls L))]=some (.dict (Ze (encM M)))/\ZiT w ls L M:=by
 have hys:∀c∈L,(wfV w ls c).length<1000:=λc hc=>by unfold wfV;rw[ZyJ];have:=ZlE w c;have:=hv.d2;omega
 obtain⟨R,e,r⟩:=Zj5 hv (ap:=ap) (wf:=wfV w ls) (t:=0) (cs:=[]) (cb:=cbD) hnd hlen (λc hc=>(hcr c hc).1) hys λc hc y hy M=>by
  rw[A.d0];obtain⟨d,hd,rfl⟩:=ZyU.mp hy;obtain⟨d0,d1,d2⟩:=Zc5 hd;refine ZpM ?_ ?_ M
  ·have:=split_len (w:=w) (ls:=ls) (c:=Zap w c d)
   have:=(ZfY hv (hcr c hc).1 d0 d1).len;have:=hv.m2;show(Zbz w ls (Zap w c d)).length<1000;omega
  ·exact λz=>Ze6 (w:=w) (ls:=ls) (Zk5 (hcr c hc).2 d2) (by unfold Zq; rw[show Zbz w ls (Zap w c d)=[] from z]; rfl)
 refine⟨R,?_,Ztx hL (λc hc=>(hcr c hc).2) hv r⟩;show ZS (Zf3 ap [some (.pl w.d),some (.pl (.dict (Ze (Ze5 w ls L))))])=_;unfold Zf3 ZG Zf;show ZS (ZAP Out.rt (Z3 ap [w.d,.dict (Ze (Zk (wfV w ls) L)),fnD 0 []]))=_;rw[e];rfl
end HG5
namespace HG5
open PySem HM HG HG4
theorem ZiT.cost{w:Wk}{ls:List Int}{L:List (List Int)}{M:Tb}(F:ZiT w ls L M){c:List Int}{k:Int}(h:Zm M c=some k):c∈L/\∃n:Nat,k=(n:Int)/\Win w ls n c=true/\∀m,m<n->Win w ls m c=false:=by
 obtain⟨t,T,_⟩:=F;rw[T.look]at h;split at h
 ·rename_i hc
  obtain⟨n,h1,_,h2,h3⟩:=Zlo h;exact⟨hc,n,h1,h2,h3⟩
 ·cases h
theorem ZiT.all{w:Wk}{ls:List Int}{L:List (List Int)}(hL:Zdc w ls L){M:Tb}(F:ZiT w ls L M){c:List Int}(hc:c∈L){n:Nat}(h:Win w ls n c=true):Zw M c=true:=by
 obtain⟨t,T,hm⟩:=F;have T':=ZoX hL T;rw[hm]at T';have st:∀c∈L,Win w ls (t+1) c=true->Win w ls t c=true:=λc hc q=>by have e1:=T.look c;have e2:=T'.look c;rw[if_pos hc]at e1 e2;have e3:ZcB w ls t c=ZcB w ls (t+1) c:=e1.symm.trans e2;rw[<-Zc0,e3,Zc0];exact q
 have:=Zlf hL st n c hc h;unfold Zw;rw[T.look,if_pos hc,Zc0];exact this
def Zyk(w:Wk)(ls:List Int)(P:List (List Int))(d:D):Prop:=(∃n:Nat,d=.int n/\(∀p∈P,Win w ls n p=true)/\∀m,m<n->¬∀p∈P,Win w ls m p=true)\/(d=.none/\∀n,¬∀p∈P,Win w ls n p=true)
theorem ZtQ{w:Wk}{ls:List Int}{L:List (List Int)}(hL:Zdc w ls L){M:Tb}(F:ZiT w ls L M){g:Gs}(hg:g.length<1000)(h0:g≠[])(hp:∀p∈g.map (·.2),p∈L):∃d,Zal [.list (g.map Zbk),.dict (Ze (encM M))]=some d/\Zyk w ls (g.map (·.2)) d:=by
 rw[Zgo hg h0];refine⟨_,rfl,?_⟩;have hne:g.map (·.2)≠[]:=λe=>h0 (List.map_eq_nil_iff.mp e);cases hq:ZcK (g.map (·.2)) M with
 | none=>refine .inr ⟨rfl,λn hn=>?_⟩;have h1:=ZkX hne hq;have:(g.map (·.2)).all (Zw M)=true:=ZyR.mpr λp h=>F.all hL (hp p h) (hn p h);rw[h1]at this;cases this
 | some m =>
  obtain⟨w1,p,hpm,w2⟩:=ZkV hq;obtain⟨_,n,rfl,k3,k4⟩:=F.cost w2;refine .inl ⟨n,rfl,λq hq'=>?_,λj hj hw=>?_⟩
  ·obtain⟨k,a1,a2⟩:=w1 q hq'
   obtain⟨_,n',rfl,a3,_⟩:=F.cost a1;exact Zfq (by omega) a3
  ·have:=hw p hpm
   rw[k4 j hj]at this;cases this
section
variable{w:Wk}(hv:Wk.V w)(h7:w.many<=7){ls:List Int}(hl:Cr w.looks.length ls)
include hv h7 hl
theorem ZrX{ap:AP}(A:ApD ap):∃d,ZaJ ap [w.d,tupI ls]=some d/\Few w ls d:=by obtain⟨L,hco,hnd,hlen,hcr,_,hL,hbg⟩:=Ze9 hv h7 hl A hv.bc;obtain⟨M,hde,F⟩:=Zop hv A hnd hcr hlen hL;have hpa:=ZgI hv hl hv.bc;have hsl:=split_len (w:=w) (ls:=ls) (c:=w.beg);have hbl:=hv.bc.len;have hsn:Zbz w ls w.beg≠[]:=λe=>Ze6 (w:=w) (ls:=ls) hv.b1 (by unfold Zq; rw[e]; rfl);obtain⟨d,hm,fw⟩:=ZtQ hL F (g:=Zbz w ls w.beg) (by omega) hsn hbg;refine⟨d,?_,fw⟩;have hc1:=ZfS hv;have hc2:=Zek hv hl;have hb:=Zfn w;show ZS (ZiI ap [some (.pl w.d),some (.pl (tupI ls)),none,none])=_;simp[ZiI,hc1,hc2,hb,hco,hde,hpa,hm,ZS]
end
end HG5
namespace HG6
open PySem HM
open HG
open HG5
def ZgT(ap:AP):SF :=
 (Zt (ZW 3 (Zf (ZaB ap) (Za (Zb 0) (Za (Zb 1) (Za (Zb 2) Zg)))))
  (ZG (eIx (ZC (ZN (bOf (Zb 0))) (tV (op2 gEq (Zdb ap 3 (Za (Zb 0) (Za (Zb 2) Zg))) (Zb 4))) (Zb 0)) (eC (.int 0)))))
def Zb4(ap:AP):List D->Option D:=fnOf 3 4 (ZgT ap)
end HG6
namespace HG6
open PySem HM HG4
open HG
open HG5
theorem ZhD(M:Tb)(c:List Int):Zw M c=true↔c∈M.map (·.1):=by
 unfold Zw
 induction M with
 | nil=>exact⟨λh=>(by cases h),λh=>(by simp at h)⟩
 | cons p M ih =>
  obtain⟨a,b⟩:=p;rw[ZbL,ZyS,Zzb]
  by_cases h:a=c
  ·rw[if_pos h]
   exact⟨λ_=>.inl h.symm,λ_=>rfl⟩
  ·rw[if_neg h,ih]
   exact⟨.inr,λz=>z.elim (λe=>absurd e.symm h) id⟩
theorem Zu5{M:Tb}{c:List Int}{v:Int}(h:c ∉ M.map (·.1)):putD M c v=M++[(c,v)]:=by unfold putD;rw[if_neg];intro z;obtain⟨p,hp,e⟩:=ZyV.mp z;exact h (ZyU.mpr ⟨p,hp,of_decide_eq_true e⟩)
theorem ZoO(t:Int):∀(ms:List (List Int)) (M:Tb),ms.Nodup->(∀c∈ms,c ∉ M.map (·.1))->ms.foldl (λM c=>putD M c t) M=M++ms.map λc=>(c,t)
 | [],M,_,_=>by simp
 | c::ms,M,hn,h=>by
  obtain⟨n1,n2⟩:=ZzB.mp hn;rw[ZAM,Zu5 (h c (ZyO ..)),ZoO t ms _ n2 λx hx z=>?_]
  ·simp
  ·rw[Zzq]at z
   rcases Zzp.mp z with z | z
   ·exact h x (ZyQ _ hx) z
   ·have e:x=c:=by simpa using z
    exact n1 (e▸hx)
end HG6
namespace HG6
open PySem HM HG4
open HG
open HG5
end HG6
namespace HG6
open PySem HM HG4
open HG
open HG5
theorem ZpX{ap:AP}{t:Nat}{cs:List D}{cb:Cb}{ys:List Wy}{M:Tb}(hy:ys.length<1000)(ha:∀y∈ys,ap t cs [wyD y,.dict (Ze (encM M))]=some (oI (cb y M))){k:Int}(hk:ZaZ cb ys M=some k){y:Wy}(hf:ys.find? (λy=>cb y M==some k)=some y) :
  Zb4 ap [.list (ys.map wyD),.dict (Ze (encM M)),fnD t cs]=some (wyD y):=by
 have h1:=Ziw (t:=t) (cs:=cs) hy ha;rw[hk]at h1;have hb:ys.length<big:=by show _<1000000; omega
 show ZS (ZgT ap [some (.pl (.list (ys.map wyD))),some (.pl (.dict (Ze (encM M)))),some (.pl (fnD t cs)),none])=_;unfold ZgT;refine ZM (P:=λq=>ZS q=_) (r':=[some (.pl (.list (ys.map wyD))),some (.pl (.dict (Ze (encM M)))),some (.pl (fnD t cs)),some (.pl (.int k))]) ?_ ?_
 ·have:Zf (ZaB ap) (Za (Zb 0) (Za (Zb 1) (Za (Zb 2) Zg))) [some (.pl (.list (ys.map wyD))),some (.pl (.dict (Ze (encM M)))),some (.pl (fnD t cs)),none]=some (.int k):=h1
  unfold ZW;rw[this];rfl
 ·have e1:Zaq (tV (op2 gEq (Zdb ap 3 (Za (Zb 0) (Za (Zb 2) Zg))) (Zb 4))) (Zb 0) [some (.pl (.list (ys.map wyD))),some (.pl (.dict (Ze (encM M)))),some (.pl (fnD t cs)),some (.pl (.int k))] (ys.map wyD)=some ((ys.filter λy=>cb y M==some k).map wyD):=by
   rw[ZbX wyD (λy=>cb y M==some k) wyD]
   ·intro y h
    have hc:Zdb ap 3 (Za (Zb 0) (Za (Zb 2) Zg)) (some (.pl (wyD y))::[some (.pl (.list (ys.map wyD))),some (.pl (.dict (Ze (encM M)))),some (.pl (fnD t cs)),some (.pl (.int k))])=some (oI (cb y M)):=by show(match Zko (fnD t cs)with | some (t,cs)=>_ | none=>none)=_;rw[ZlG];exact ha y h
    unfold tV op2;rw[hc];show(match gEq (oI (cb y M)) (.int k)with | some (.bool b)=>some b | _=>none)=_;cases hq:cb y M with
    | none=>rfl
    | some m =>
     show(match gEq (.int m) (.int k)with | some (.bool b)=>some b | _=>none)=_
     by_cases e:m=k
     ·subst e
      rw[Zks (Zda 1 _) (by decide)];simp
     ·rw[Zjb (Zda 1 _) (Zda 1 _) (by decide) (by decide) (λz=>e (by injection z))]
      simp[e]
   ·intro y _ _
    rfl
  have e2:ZC (ZN (bOf (Zb 0))) (tV (op2 gEq (Zdb ap 3 (Za (Zb 0) (Za (Zb 2) Zg))) (Zb 4))) (Zb 0) [some (.pl (.list (ys.map wyD))),some (.pl (.dict (Ze (encM M)))),some (.pl (fnD t cs)),some (.pl (.int k))]=some (.ol ((ys.filter λy=>cb y M==some k).map wyD)):=by unfold ZC;show(if(ys.map wyD).length<big then _ else none)=_;rw[if_pos (by rw[ZyJ]; exact hb),e1];rfl
  rw[ZCs]at hf;obtain⟨hyk,as,bs,rfl,hno⟩:=hf;have hfl:((as++y::bs).filter λy=>cb y M==some k)=y::bs.filter λy=>cb y M==some k:=by rw[List.filter_append,ZAW.mpr (λx hx=>by have:=hno x hx; simpa using this),ZA0,ZAg,if_pos hyk]
  rw[hfl]at e2;have e3:eIx (ZC (ZN (bOf (Zb 0))) (tV (op2 gEq (Zdb ap 3 (Za (Zb 0) (Za (Zb 2) Zg))) (Zb 4))) (Zb 0)) (eC (.int 0)) [some (.pl (.list ((as++y::bs).map wyD))),some (.pl (.dict (Ze (encM M)))),some (.pl (fnD t cs)),some (.pl (.int k))]=some (wyD y):=by unfold eIx;rw[e2];exact Zdj (ds:=wyD y::(bs.filter λy=>cb y M==some k).map wyD) (j:=0) rfl
  unfold ZG;rw[e3];rfl
end HG6
namespace HG22
open PySem HM HG4
open HG
open HG5
end HG22
namespace HG22
open PySem HM HG4
open HG
open HG5
def ZeT(w:Wk):Wk:={ w with looks:=[(ZyP w.many).map λ(k:Nat)=>(k:Int)] }
theorem ZqW{w:Wk}(hv:Wk.V w):Wk.V (ZeT w):=by
 refine⟨hv.m1,hv.m2,hv.d1,hv.d2,hv.dl,hv.dc,by simp[ZeT],λl hl=>?_,λl hl x hx=>?_,hv.b1,hv.bc,hv.gc⟩
 ·have:l=(ZyP w.many).map λ(k:Nat)=>(k:Int):=by simpa [ZeT]using hl
  rw[this];simp[ZeT]
 ·have:l=(ZyP w.many).map λ(k:Nat)=>(k:Int):=by simpa [ZeT]using hl
  rw[this]at hx;obtain⟨k,hk,rfl⟩:=ZyU.mp hx;have:=Zy7.mp hk;have:=hv.m2;omega
theorem Zid{w:Wk}{s:Int}(h0:0<=s)(h1:s<(w.many:Int)):ZO (ZeT w) [0] s=[s]:=by
 have:((ZyP w.many).map λ(k:Nat)=>(k:Int))[s.toNat]?=some s:=by rw[Zy2,List.getElem?_range (by omega)];simp;omega
 simp[ZO,ZeT,Zk1,this]
theorem ZhW{w:Wk}{c:List Int}(hc:Cr w.many c){s:Int}(hs:s∈c):Zc1 (ZeT w) [0] c s=[s]:=by
 have e:Zc1 (ZeT w) [0] c s=c.filter λx=>x==s:=by unfold Zc1;refine List.filter_congr λx hx=>?_;rw[Zid (hc.2 x hx).1 (hc.2 x hx).2,Zid (hc.2 s hs).1 (hc.2 s hs).2];simp
 rw[e];have hn:c.Nodup:=hc.1.imp λ{a b} h e=>by omega
 clear e hc
 induction c with
 | nil=>simp at hs
 | cons x c ih =>
  rw[ZzB]at hn;rw[ZAg]
  by_cases e:x=s
  ·subst e
   have:c.filter (λy=>y==x)=[]:=ZAW.mpr λy hy z=>hn.1 (by have:=beq_iff_eq.mp z; rw[<-this]; exact hy);simp[this]
  ·rcases Zzb.mp hs with z | z
   ·exact absurd z.symm e
   ·rw[if_neg (by simpa using e)]
    exact ih z hn.2
def SW(w:Wk)(n:Nat)(s:Int):Bool:=Win (ZeT w) [0] n [s]
theorem Zox{w:Wk}{s:Int}(h0:0<=s)(h1:s<(w.many:Int)):Cr w.many [s]:=⟨by simp,λx hx=>by rw[ZyY.mp hx]; exact⟨h0,h1⟩⟩
theorem Zys(w:Wk)(s:Int):SW w 0 s=w.goal.contains s:=by show([s].all λs=>w.goal.contains s)=_;rw[ZzV,ZCr,Bool.and_true]
def Zyy(w:Wk)(n:Nat)(s:Int)(r:List Int):Bool:=!r.isEmpty&&r.all (SW w n)
abbrev Ti:=List (Int × Int)
def ZyF(M:Ti):List (Ky × D):=M.map λp=>(ZAz p.1,dI p.2)
def Zus(M:Ti)(s:Int):Bool:=(Zm M s).isSome
def ZyE(w:Wk)(t:Nat)(M:Ti):Prop:=∀s,Zm M s=if 0<=s/\s<(w.many:Int)then ZcB (ZeT w) [0] t [s]else none
def Zyz(v:Int)(ss:List Int)(M:Ti):Ti:=ss.foldl (λM s=>putD M s v) M
def Zxy(M:Ti)(s:Nat)(dd:List (List Int)):Bool:=!(dd[s]?.getD []).isEmpty&&(dd[s]?.getD []).all (Zus M)
def ZyD(w:Wk)(M:Ti):List Nat:=(ZyP w.many).filter λs=>!Zus M s&&w.deeds.any (Zxy M s)
end HG22
namespace HG20
open PySem HM
open HG
open HG4
open HG5
open HG6
def ZjI:SF :=
 (ZG (Zf Zv (Za (Zf Zag (Za (Zb 0) (Za (Zb 1) (Za (Zf Zac (Za (Zb 0) Zg)) Zg)))) Zg)))
def Zad:List D->Option D:=fnOf 2 2 ZjI
def Zd6:SF :=
 (Zt (ZW 2 (ZdQ (ZC (ZN (bOf (Zf Zv (Za (eIx (Zn 0) (eC (.int 1))) Zg)))) (tV (ZbV (Zb 0) (Zn 2))) (ZT (Zn 2) (Zb 0)))))
  (ZG (eIf (tV (op2 ZgA (Zb 2) (eC .none))) (eC .none) (op2 ZbH (Zb 2) (eC (.int 1))))))
def Z4:List D->Option D:=fnOf 2 3 Zd6
def ZhH(ap:AP):SF :=
 (Zt (Zh0 (Zf Zba (Za (Zb 0) Zg)))
  (Zt (Zh0 (Zf Zaj (Za (Zb 0) (Za (Zb 1) Zg))))
  (Zt (ZW 2 (Zf (Z3 ap) (Za (Zb 0) (Za (Zf (ZaG ap) (Za (Zb 0) (Za (Zb 1) (Za (Zf Zac (Za (Zb 0) Zg)) Zg)))) (Za (eC (fnD 3 [])) Zg)))))
  (ZG (ZdQ (ZC (ZN (bOf (Zf Zad (Za (Zb 0) (Za (Zb 1) Zg))))) (tV (ZbV (Zb 0) (Zn 3))) (ZT (Zn 3) (Zb 0))))))))
def ZaW(ap:AP):List D->Option D:=fnOf 2 3 (ZhH ap)
def Zbo:SF :=
 (ZhV 2 (Zb 3) (eOf (ZC (ZN (bOf (ZT (Zn 0) (Zb 3)))) (tV (ZcM (ZC (ZN (bOf (Zf Zv (Za (eIx (Zn 0) (eC (.int 1))) Zg)))) ZU (ZbV (Zb 0) (Zn 3))))) (Zb 0))))
def ZdI:SF :=
 (Zt (Zaa 2 fDt)
  (Zt (ZeO 1 (ZbG 3 (ZaP 1) Zbo))
  (Zgv 2 (ZG (Zb 2)))))
def Zb8:List D->Option D:=fnOf 2 4 ZdI
def Zcz(ap:AP):SF :=
 (Zt (ZW 2 (Zf Zb8 (Za (Zb 2) (Za (Zb 3) Zg))))
  (ZW 3 (Zf (Z3 ap) (Za (Zb 0) (Za (Zb 2) (Za (eC (fnD 3 [])) Zg))))))
def Zd7(ap:AP):SF :=
 (Zt (ZW 2 (Zb 1))
  (Zt (ZW 3 (Zf (Z3 ap) (Za (Zb 0) (Za (Zb 2) (Za (eC (fnD 3 [])) Zg)))))
  (Zt (Zk7 100000 (tV (op2 gLt (Zfl (Zn 3)) (Zfl (Zn 2)))) (Zcz ap))
  (ZG (Zb 2)))))
def ZbB(ap:AP):List D->Option D:=fnOf 2 4 (Zd7 ap)
def Zdn(ap:AP):SF :=
 (ZG (eIf (tV (op2 gEq (ZT (Zn 1) (Zb 2)) (eC (.int 0)))) (eOf (ZeV Zg)) (eOf (ZeV (Za (Zf (Zb4 ap) (Za (ZT (Zn 0) (Zb 2)) (Za (Zb 1) (Za (eC (fnD 3 [])) Zg)))) Zg)))))
def Zas(ap:AP):List D->Option D:=fnOf 3 3 (Zdn ap)
def Zd8(ap:AP):SF :=
 (Zt (Zh0 (Zf Zba (Za (Zb 0) Zg)))
  (Zt (Zh0 (Zf Zaj (Za (Zb 0) (Za (Zb 1) Zg))))
  (Zt (ZW 2 (Zf (ZbB ap) (Za (Zb 0) (Za (Zf (ZaG ap) (Za (Zb 0) (Za (Zb 1) (Za (Zf Zac (Za (Zb 0) Zg)) Zg)))) Zg))))
  (Zt (ZW 3 (Zf Zad (Za (Zb 0) (Za (Zb 1) Zg))))
  (Zt (sIf (Zdl (tV (ZcM (ZC (ZN (bOf (Zb 3))) ZU (ZbV (Zb 0) (Zn 3)))))) (ZG (eC .none)) ZaL)
  (Zt (ZW 4 (Zf (Z3 ap) (Za (Zb 0) (Za (Zb 2) (Za (eC (fnD 3 [])) Zg)))))
  (Zt (ZW 5 (Zej (Zah ap) 4 [2,4] (Zb 3)))
  (ZG (eOf (ZC (ZN (bOf (eOf (Zed (Zn 5))))) ZU (ZbW (Za (Zb 0) (Za (eIf (tV (op2 gGt (ZaS (bOf (ZT (Zn 6) (Zb 0)))) (eC (.int 0)))) (eIx (bOf (eIx (bOf (ZT (Zn 6) (Zb 0))) (eC (.int 0)))) (eC (.int 0))) (eC .none)) Zg)))))))))))))
def ZI(ap:AP):List D->Option D:=fnOf 2 6 (Zd8 ap)
def ZgU(ap:AP):SF :=
 (Zt (sIf (tV (op2 Zbx (Zf (ZaJ ap) (Za (Zb 0) (Za (Zb 1) Zg))) (eC .none))) (ZG (eC (.str (Zzd "sure")))) ZaL)
  (Zt (sIf (tV (op2 Zbx (Zf (ZI ap) (Za (Zb 0) (Za (Zb 1) Zg))) (eC .none))) (ZG (eC (.str (Zzd "patient")))) ZaL)
  (Zt (sIf (tV (op2 Zbx (Zf (ZaW ap) (Za (Zb 0) (Za (Zb 1) Zg))) (eC .none))) (ZG (eC (.str (Zzd "lucky")))) ZaL)
  (ZG (eC (.str (Zzd "never")))))))
def Zb5(ap:AP):List D->Option D:=fnOf 2 2 (ZgU ap)
def Zhr(ap:AP):SF :=
 (ZdP 6 (Zam (ZC (ZN (bOf (Zb 7))) ZU (ZeP (Zb 0) none (some (eC (.int 1)))))))
def Zns(ap:AP):SF :=
 (Zt (ZW 1 (Zf Za7 (Za (Zb 0) (Za (eC (.int 1)) Zg))))
  (Zt (ZW 2 (Zf ZcG (Za (Zb 1) (Za (Zf Zak (Za (Zb 0) (Za (eC (.int 0)) Zg))) Zg))))
  (Zt (Zaa 3 (ZeV (Za (op2 Zbx (Zf (ZaJ ap) (Za (Zb 1) (Za (Zb 2) Zg))) (eC .none)) (Za (op2 Zbx (Zf (ZI ap) (Za (Zb 1) (Za (Zb 2) Zg))) (eC .none)) Zg))))
  (Zt (ZdP 3 (op2 Zbx (Zf (ZaW ap) (Za (Zb 1) (Za (Zb 2) Zg))) (eC .none)))
  (Zt (Zgv 3 (sIf (tV (op2 gNe (Zb 3) (eOf (Zky (Zn 3))))) (ZG (eC (.bool false))) ZaL))
  (Zt (Zaa 4 (ZeV (Za (eC (.str (Zzd "never"))) (Za (eC (.str (Zzd "lucky"))) (Za (eC (.str (Zzd "patient"))) (Za (eC (.str (Zzd "sure"))) Zg))))))
  (Zt (ZW 5 (Zf (Zb5 ap) (Za (Zb 1) (Za (Zb 2) Zg))))
  (Zt (Zgv 3 (sIf (tV (op2 gNe (Zb 5) (eIx (Zn 4) (ZaS (ZC (ZN (bOf (Zb 3))) (tV (Zb 0)) (Zb 0)))))) (ZG (eC (.bool false))) ZaL))
  (Zt (sIf (Zi6 (tV (op2 gEq (Zb 5) (eC (.str (Zzd "sure"))))) (tV (op2 gNe (Zf (Zb5 ap) (Za (Zb 1) (Za (Zf Zcb (Za (Zb 1) Zg)) Zg))) (eC (.str (Zzd "sure")))))) (ZG (eC (.bool false))) ZaL)
  (Zt (sIf (Zi6 (tV (op2 gNe (Zb 5) (eC (.str (Zzd "never"))))) (tV (op2 gGt (Zf (ZaW ap) (Za (Zb 1) (Za (Zf Zcb (Za (Zb 1) Zg)) Zg))) (Zf (ZaW ap) (Za (Zb 1) (Za (Zb 2) Zg)))))) (ZG (eC (.bool false))) ZaL)
  (Zt (Zaa 6 (ZeV Zg))
  (Zt (ZbG 7 (ZN (bOf (eIx (Zn 1) (eC (.int 1))))) (Zhr ap))
  (Zt (ZW 8 (Zna (ZbW (Za (eIx (Zn 1) (eC (.int 0))) (Za (Zam (Zn 6)) (Za (ZbW (Za (ZcZ (ZbM (eIx (Zn 1) (eC (.int 0))))) Zg)) Zg)))) (ZeP (Zb 1) (some (eC (.int 3))) none)))
  (Zt (sIf (tV (op2 gEq (Zf (Zb5 ap) (Za (Zb 8) (Za (ZbW (Za (eC (.int 0)) Zg)) Zg))) (eC (.str (Zzd "patient"))))) (ZG (eC (.bool false))) ZaL)
  (ZG (op2 gEq (op2 ZgA (Zf (ZaJ ap) (Za (Zb 8) (Za (ZbW (Za (eC (.int 0)) Zg)) Zg))) (eC .none)) (op2 ZgA (Zf (ZI ap) (Za (Zb 8) (Za (ZbW (Za (eC (.int 0)) Zg)) Zg))) (eC .none))))))))))))))))))
def Zf4(ap:AP):List D->Option D:=fnOf 1 9 (Zns ap)
def ap0:AP:=λt cs ds=>match t with
 | 0=>if cs.isEmpty then Zb3 ds else none
 | 1=>ZfN 1 2 (Zf ZaC (Za (Zb 1) (Za (Zb 2) (Za (Zb 0) Zg)))) cs ds
 | 3=>if cs.isEmpty then Z4 ds else none
 | _=>none
def ap:AP:=λt cs ds=>match t with
 | 0=>if cs.isEmpty then Zb3 ds else none
 | 1=>ZfN 1 2 (Zf ZaC (Za (Zb 1) (Za (Zb 2) (Za (Zb 0) Zg)))) cs ds
 | 3=>if cs.isEmpty then Z4 ds else none
 | 4=>ZfN 1 2 (Zf (Zas ap0) (Za (Zb 1) (Za (Zb 2) (Za (Zb 0) Zg)))) cs ds
 | _=>none
end HG20
namespace HG20
open PySem HM
open HG
open HG4
open HG5
def Lk(w:Wk)(wf:Wf):Nat->List Int->Bool
 | 0,c=>ZD w c
 | n+1,c=>ZD w c||(wf c).any λy=>(wyP y).any (Lk w wf n)
theorem Zqs{w:Wk}{wf:Wf}:∀(n:Nat) (c:List Int),Lk w wf n c=true->Lk w wf (n+1) c=true
 | 0,c,h=>by show(ZD w c||_)=true;rw[show ZD w c=true from h];rfl
 | n+1,c,h=>by
  have h:(ZD w c||(wf c).any λy=>(wyP y).any (Lk w wf n))=true:=h;show(ZD w c||(wf c).any λy=>(wyP y).any (Lk w wf (n+1)))=true;rw[Zzt]at h ⊢;rcases h with h | h
  ·exact .inl h
  ·right
   obtain⟨y,hy,h⟩:=ZyV.mp h;obtain⟨p,hp,h⟩:=ZyV.mp h;exact ZyV.mpr ⟨y,hy,ZyV.mpr ⟨p,hp,Zqs n p h⟩⟩
theorem ZgL{w:Wk}{wf:Wf}{n m:Nat}(h:n<=m){c:List Int}(q:Lk w wf n c=true):Lk w wf m c=true:=by
 induction h with
 | refl=>exact q
 | step _ ih=>exact Zqs _ _ ih
theorem Zld{w:Wk}{wf:Wf}{n:Nat}{c p:List Int}{y:Wy}(hy:y∈wf c)(hp:p∈wyP y)(h:Lk w wf n p=true):Lk w wf (n+1) c=true:=by show(ZD w c||(wf c).any λy=>(wyP y).any (Lk w wf n))=true;rw[Zzt];exact .inr (ZyV.mpr ⟨y,hy,ZyV.mpr ⟨p,hp,h⟩⟩)
theorem ZrZ{w:Wk}{wf wf':Wf}(h:∀c,∀y∈wf c,y∈wf' c):∀(n:Nat) (c:List Int),Lk w wf n c=true->Lk w wf' n c=true
 | 0,c,q=>q
 | n+1,c,q=>by
  have q:(ZD w c||(wf c).any λy=>(wyP y).any (Lk w wf n))=true:=q;rw[Zzt]at q;rcases q with q | q
  ·exact ZgL (n:=0) (ZzN _) q
  ·obtain⟨y,hy,q⟩:=ZyV.mp q
   obtain⟨p,hp,q⟩:=ZyV.mp q;exact Zld (h c y hy) hp (ZrZ h n p q)
def cbL:Cb:=λy M=>((wyP y).filterMap λp=>Zm M p).min?.map (·+1)
def ZeS(P:Nat->Bool)(t:Nat):Option Int:=((ZyP (t+1)).find? P).map λ(n:Nat)=>(n:Int)
theorem Zrk{P:Nat->Bool}(mono:∀n m,n<=m->P n=true->P m=true){t:Nat}:(ZeS P t).isSome=P t:=by
 unfold ZeS;rw[Zz9];cases h:P t with
 | true=>rw[ZBz]; exact⟨t,Zy7.mpr (by omega),h⟩
 | false =>
  cases q:((ZyP (t+1)).find? P)with
  | none=>rfl
  | some n=>have h1:=ZCq q;have h2:=Zy7.mp (ZAn q);rw[mono n t (by omega) h1]at h;cases h
theorem Zrw{P:Nat->Bool}{t:Nat}:ZeS P (t+1)=match ZeS P t with
  | some k=>some k
  | none=>if P (t+1)then some ((t+1:Nat):Int)else none:=by
 unfold ZeS;rw[List.range_succ (n:=t+1),ZB1];cases(ZyP (t+1)).find? P with
 | some k=>rfl
 | none=>simp only[ZzG,List.find?_nil,Option.none_or,Option.map_none];cases P (t+1)<;>rfl
theorem ZkQ{P:Nat->Bool}{t:Nat}{k:Int}(h:ZeS P t=some k):∃n:Nat,k=(n:Int)/\n<=t/\P n=true/\∀m,m<n->P m=false:=by unfold ZeS at h;obtain⟨n,hn,rfl⟩:=ZyL.mp h;have h1:=ZCq hn;have h2:=Zy7.mp (ZAn hn);refine⟨n,rfl,by omega,h1,λm hm=>?_⟩;rw[List.find?_range_eq_some]at hn;have:=hn.2.2 m hm;simpa using this
section
variable{w:Wk}{wf:Wf}{L:List (List Int)}
def Zfz(w:Wk)(wf:Wf)(L:List (List Int))(t:Nat)(M:Tb):Prop:=∀c,Zm M c=if c∈L then ZeS (λn=>Lk w wf n c) t else none
theorem Zfz.has{t:Nat}{M:Tb}(T:Zfz w wf L t M){c:List Int}(hc:c∈L):Zw M c=Lk w wf t c:=by unfold Zw;rw[T c,if_pos hc,Zrk λn m h q=>ZgL h q]
def Ze8(wf:Wf)(L:List (List Int)):Prop:=∀c∈L,∀y∈wf c,∀p∈wyP y,p∈L
def ZdN(wf:Wf)(L:List (List Int))(M:Tb):List (List Int):=L.filter λc=>!Zw M c&&(wf c).any λy=>(wyP y).any (Zw M)
theorem Zmy:Zfz w wf L 0 (Zaz (L.filter λc=>ZD w c) 0 []):=by
 intro c;have hl:Zm (Zaz (L.filter λc=>ZD w c) 0 []) c=if c∈L.filter λc=>ZD w c then some 0 else Zm [] c:=Zeq 0 c _ []
 rw[hl];have e:ZeS (λn=>Lk w wf n c) 0=if ZD w c then some 0 else none:=by unfold ZeS;show(List.find? _ [0]).map _=_;rw[ZzG];show(match ZD w c with | true=>some 0 | false=>List.find? _ []).map _=_;cases ZD w c<;>rfl
 rw[e]
 by_cases hc:c∈L
 ·rw[if_pos hc]
  cases ht:ZD w c with
  | true=>rw[if_pos (Zy6.mpr ⟨hc,ht⟩)]; rfl
  | false=>rw[if_neg (λz=>by rw[(Zy6.mp z).2]at ht; cases ht)]; rfl
 ·rw[if_neg hc,if_neg (λz=>hc (Zy6.mp z).1)]
  rfl
theorem Zr6(hL:Ze8 wf L){t:Nat}{M:Tb}(T:Zfz w wf L t M):Zfz w wf L (t+1) (Zaz (ZdN wf L M) ((t+1:Nat):Int) M):=by
 intro c;have hl:Zm (Zaz (ZdN wf L M) ((t+1:Nat):Int) M) c=if c∈ZdN wf L M then some ((t+1:Nat):Int)else Zm M c:=Zeq _ c _ M
 rw[hl]
 by_cases hc:c∈L
 ·rw[if_pos hc,Zrw,<-(show Zm M c=ZeS (λn=>Lk w wf n c) t by rw[T c,if_pos hc])]
  have hh:=T.has hc;unfold Zw at hh;cases hq:Zm M c with
  | some k=>rw[if_neg];intro z;have:=(Zy6.mp z).2;rw[Zy5]at this;unfold Zw at this;rw[hq]at this;cases this.1
  | none =>
   rw[hq]at hh;have hnt:Lk w wf t c=false:=hh.symm;have hth:ZD w c=false:=by
    cases q:ZD w c with
    | false=>rfl
    | true=>rw[ZgL (n:=0) (ZzN t) q]at hnt; cases hnt
   have key:(c∈ZdN wf L M)↔Lk w wf (t+1) c=true:=by
    show c∈L.filter _↔(ZD w c||(wf c).any λy=>(wyP y).any (Lk w wf t))=true;rw[Zy6,hth,ZB8];have e1:(!Zw M c)=true:=by unfold Zw; rw[hq]; rfl
    rw[e1,ZCQ];have e2:((wf c).any λy=>(wyP y).any (Zw M))=(wf c).any λy=>(wyP y).any (Lk w wf t):=by
     rw[ZDp,ZyV,ZyV]
     constructor
     ·rintro ⟨y,hy,h⟩
      obtain⟨p,hp,h⟩:=ZyV.mp h;exact⟨y,hy,ZyV.mpr ⟨p,hp,by rw[<-T.has (hL c hc y hy p hp)]; exact h⟩⟩
     ·rintro ⟨y,hy,h⟩
      obtain⟨p,hp,h⟩:=ZyV.mp h;exact⟨y,hy,ZyV.mpr ⟨p,hp,by rw[T.has (hL c hc y hy p hp)]; exact h⟩⟩
    rw[e2];exact⟨λh=>h.2,λh=>⟨hc,h⟩⟩
   by_cases hm:c∈ZdN wf L M
   ·rw[if_pos hm,if_pos (key.mp hm)]
   ·rw[if_neg hm,if_neg (λz=>hm (key.mpr z))]
 ·have hm:¬c∈ZdN wf L M:=λz=>hc (Zy6.mp z).1
  rw[if_neg hc,if_neg hm,T c,if_neg hc]
theorem Zvi{t:Nat}{M:Tb}(T:Zfz w wf L t M){c:List Int}(hc:c∈L)(hn:Zw M c=false):ZaZ cbL (wf c) M=if((wf c).any λy=>(wyP y).any (Zw M))then some ((t+1:Nat):Int)else none:=by
 have hval:∀y∈wf c,∀p∈wyP y,∀v,Zm M p=some v->v=(t:Int):=λy hy p hp v hv=>by
  have e:=T p;rw[hv]at e;split at e
  ·obtain⟨n,rfl,h1,h2,_⟩:=ZkQ e.symm
   rcases Nat.lt_or_ge n t with h | h
   ·have:=ZgL (show n+1<=t by omega) (Zld hy hp h2)
    rw[<-T.has hc,hn]at this;cases this
   ·omega
  ·cases e
 have hcb:∀y∈wf c,cbL y M=if(wyP y).any (Zw M)then some ((t+1:Nat):Int)else none:=λy hy=>by
  unfold cbL;cases hq:((wyP y).filterMap λp=>Zm M p).min? with
  | none =>
   rw[ZAp]at hq;have:(wyP y).any (Zw M)=false:=by
    cases q:(wyP y).any (Zw M)with
    | false=>rfl
    | true=>obtain⟨p,hp,h⟩:=ZyV.mp q;unfold Zw at h;obtain⟨v,hv⟩:=Zzf.mp h;have:v∈(wyP y).filterMap λp=>Zm M p:=Zzm.mpr ⟨p,hp,hv⟩;rw[hq]at this;simp at this
   rw[this];rfl
  | some m=>obtain⟨p,hp,hv⟩:=Zzm.mp (ZAd.mp hq).1;have hm:=hval y hy p hp m hv;have:(wyP y).any (Zw M)=true:=ZyV.mpr ⟨p,hp,by unfold Zw; rw[hv]; rfl⟩;rw[this,if_pos rfl,hm];rfl
 unfold ZaZ;cases hq:((wf c).filterMap λy=>cbL y M).min? with
 | none =>
  rw[ZAp]at hq;have:((wf c).any λy=>(wyP y).any (Zw M))=false:=by
   cases q:((wf c).any λy=>(wyP y).any (Zw M))with
   | false=>rfl
   | true=>obtain⟨y,hy,h⟩:=ZyV.mp q;have:((t+1:Nat):Int)∈(wf c).filterMap λy=>cbL y M:=Zzm.mpr ⟨y,hy,by rw[hcb y hy,if_pos h]⟩;rw[hq]at this;simp at this
  rw[this];rfl
 | some m =>
  obtain⟨y,hy,hv⟩:=Zzm.mp (ZAd.mp hq).1;rw[hcb y hy]at hv;split at hv
  ·rename_i h
   cases hv;rw[if_pos (ZyV.mpr ⟨y,hy,h⟩)]
  ·cases hv
theorem Zxo{t:Nat}{M:Tb}(T:Zfz w wf L t M):Zax wf cbL L M=(ZdN wf L M).map λc=>(c,((t+1:Nat):Int)):=by
 unfold Zax ZdN;have key:∀K:List (List Int),(∀c∈K,c∈L)->(K.filterMap λc=>if Zw M c then none else(ZaZ cbL (wf c) M).map λk=>(c,k))=(K.filter λc=>!Zw M c&&(wf c).any λy=>(wyP y).any (Zw M)).map λc=>(c,((t+1:Nat):Int)):=by
  intro K
  induction K with
  | nil=>intro _; rfl
  | cons c K ih =>
   intro hK;have ih:=ih λx hx=>hK x (ZyQ _ hx);rw[ZzQ,ZAg];cases hh:Zw M c with
   | true=>simpa using ih
   | false =>
    have hle:=Zvi T (hK c (ZyO ..)) hh;rw[hle];cases hcan:((wf c).any λy=>(wyP y).any (Zw M))with
    | false=>simpa [hcan]using ih
    | true=>simpa [hcan]using ih
 exact key L λ_ h=>h
def Ze2(w:Wk)(wf:Wf)(L:List (List Int))(M:Tb):Prop:=∃t,Zfz w wf L t M/\ZdN wf L M=[]
theorem Zua(hL:Ze8 wf L){M R:Tb}{k:Option Int}{found:List (List Int)}(r:Zg9 wf cbL L M k found R):∀t:Nat,(found=[]->Zfz w wf L t M/\ZdN wf L M=[])->(found≠[]->k=some (t:Int)/\Zfz w wf L t (Zaz found t M))->Ze2 w wf L R:=by
 induction r with
 | done=>intro t h _; exact⟨t,h rfl⟩
 | @step M R k found hf _ ih =>
  intro t _ h;obtain⟨hk,T⟩:=h hf;cases hk;have ho:=Zxo T;have hmin:∀ms:List (List Int),Zeg (ms.map λc=>(c,((t+1:Nat):Int)))=ms/\(ms≠[]->ZbU (ms.map λc=>(c,((t+1:Nat):Int)))=some ((t+1:Nat):Int)):=λms=>by
   cases ms with
   | nil=>exact⟨rfl,λz=>absurd rfl z⟩
   | cons c ms =>
    have hO:ZbU ((c::ms).map λc=>(c,((t+1:Nat):Int)))=some ((t+1:Nat):Int):=by unfold ZbU;rw[Zza];refine ZAd.mpr ⟨ZyU.mpr ⟨c,ZyO ..,rfl⟩,λb hb=>?_⟩;obtain⟨c',_,rfl⟩:=ZyU.mp hb;exact Int.le_refl _
    refine⟨?_,λ_=>hO⟩;unfold Zeg;rw[hO];have:∀xs:List (List Int),((xs.map λc=>(c,((t+1:Nat):Int))).filter λp=>some p.2==some ((t+1:Nat):Int)).map (·.1)=xs:=by
     intro xs
     induction xs with
     | nil=>rfl
     | cons x xs ih=>simp at ih ⊢; exact ih
    exact this _
  obtain⟨m1,m2⟩:=hmin (ZdN wf L (Zaz found t M));rw[ho,m1]at ih;refine ih (if ZdN wf L (Zaz found t M)=[]then t else t+1) (λe=>?_) λe=>?_
  ·rw[if_pos e]
   exact⟨T,e⟩
  ·rw[if_neg e]
   exact⟨m2 e,Zr6 hL T⟩
theorem ZrR(hL:Ze8 wf L){R:Tb}(r:Zg9 wf cbL L [] (some 0) (L.filter λc=>ZD w c) R):Ze2 w wf L R:=by refine Zua hL r 0 (λe=>?_) λ_=>⟨rfl,Zmy⟩;have T:Zfz w wf L 0 (Zaz (L.filter λc=>ZD w c) 0 []):=Zmy;rw[e]at T;have T:Zfz w wf L 0 []:=T;refine⟨T,ZAW.mpr λc hc h=>?_⟩;rw[Zy5]at h;obtain⟨y,hy,hq⟩:=ZyV.mp h.2;obtain⟨p,hp,hq⟩:=ZyV.mp hq;cases hq
theorem Ze2.cost{M:Tb}(F:Ze2 w wf L M){c:List Int}{k:Int}(h:Zm M c=some k):c∈L/\∃n:Nat,k=(n:Int)/\Lk w wf n c=true/\∀m,m<n->Lk w wf m c=false:=by
 obtain⟨t,T,_⟩:=F;rw[T c]at h;split at h
 ·rename_i hc
  obtain⟨n,h1,_,h2,h3⟩:=ZkQ h;exact⟨hc,n,h1,h2,h3⟩
 ·cases h
theorem Ze2.all(hL:Ze8 wf L){M:Tb}(F:Ze2 w wf L M){n:Nat}:∀{c:List Int},c∈L->Lk w wf n c=true->Zw M c=true:=by
 obtain⟨t,T,hm⟩:=F
 induction n with
 | zero=>intro c hc h; rw[T.has hc]; exact ZgL (ZzN t) h
 | succ n ih =>
  intro c hc h;have h:(ZD w c||(wf c).any λy=>(wyP y).any (Lk w wf n))=true:=h;rw[Zzt]at h;rcases h with h | h
  ·rw[T.has hc]; exact ZgL (n:=0) (ZzN t) h
  ·obtain⟨y,hy,h⟩:=ZyV.mp h
   obtain⟨p,hp,h⟩:=ZyV.mp h;have h1:=ih (hL c hc y hy p hp) h;cases hq:Zw M c with
   | true=>rfl
   | false=>have:c∈ZdN wf L M:=Zy6.mpr ⟨hc,by rw[hq]; exact(ZyV.mpr ⟨y,hy,ZyV.mpr ⟨p,hp,h1⟩⟩:((wf c).any λy=>(wyP y).any (Zw M))=true)⟩;rw[hm]at this;simp at this
end
end HG20
namespace HG20
open PySem HM
open HG
open HG4
open HG5
open HG6
theorem ZhS{I:IF}{c:TF}{e:EF}{r:HM.Env}{ds ys:List D}(hI:I r=some ds)(hl:ds.length<1000000)(hg:Zaq c e r ds=some ys):ZC I c e r=some (.ol ys):=by unfold ZC;rw[hI];dsimp only;rw[if_pos (show ds.length<big from hl),hg];rfl
theorem ZrF(M:Tb)(ps:List (List Int))(r:HM.Env)(i:Nat)(h:r[i]?=some (some (.pl (.dict (Ze (encM M)))))):Zaq (tV (ZbV (Zb 0) (Zn (i+1)))) (ZT (Zn (i+1)) (Zb 0)) r (ps.map tupI)=some ((ps.filterMap λp=>Zm M p).map dI):=by
 rw[ZbX tupI (λp=>Zw M p) (λp=>dI ((Zm M p).getD 0))]
 ·congr 1
  induction ps with
  | nil=>rfl
  | cons p ps ih =>
   rw[ZAg,ZzQ];unfold Zw at ih ⊢;cases hq:Zm M p with
   | none=>simpa [hq]using ih
   | some k=>simp[hq]; exact ih
 ·intro p _
  have hk:Zbe (tupI p)=some (Zae p):=ZaK p;have hlk:=Zcw M p;unfold Zw;cases hq:Zm M p with
  | none=>rw[hq]at hlk; simp[h,dec_enc,hk,hlk]
  | some k=>rw[hq]at hlk; simp[h,dec_enc,hk,hlk]
 ·intro p _ hp
  have hk:Zbe (tupI p)=some (Zae p):=ZaK p;have hlk:=Zcw M p;unfold Zw at hp;cases hq:Zm M p with
  | none=>rw[hq]at hp; cases hp
  | some k=>rw[hq]at hlk; simp[h,dec_enc,hk,hlk]
theorem Zmc(M:Tb)(ps:List (List Int))(hl:ps.length<1000)(r:HM.Env)(i:Nat)(h:r[i]?=some (some (.pl (.dict (Ze (encM M))))))(I:IF)(hI:I r=some (ps.map tupI)):ZdQ (ZC I (tV (ZbV (Zb 0) (Zn (i+1)))) (ZT (Zn (i+1)) (Zb 0))) r=some (oI ((ps.filterMap λp=>Zm M p).min?)):=by
 have e:ZC I (tV (ZbV (Zb 0) (Zn (i+1)))) (ZT (Zn (i+1)) (Zb 0)) r=some (.ol ((ps.filterMap λp=>Zm M p).map dI)):=by unfold ZC;rw[hI];dsimp only;rw[if_pos (by rw[ZyJ]; show _<1000000; omega),ZrF M ps r i h];rfl
 unfold ZdQ;rw[e];show(match Za5 ((ps.filterMap λp=>Zm M p).map dI)with | some ns=>some (match ns.min? with | some i=>ZzR i | none=>.none) | none=>none)=_;rw[Ze7];dsimp only;cases(ps.filterMap λp=>Zm M p).min?<;>rfl
theorem Zgr{y:Wy}(hy:y.2.length<1000)(M:Tb):Z4 [wyD y,.dict (Ze (encM M))]=some (oI (cbL y M)):=by
 have hci:=ZcO y.2 (by omega);have hI:ZN (bOf (Zf Zv (Za (eIx (Zn 0) (eC (.int 1))) Zg))) [some (.pl (wyD y)),some (.pl (.dict (Ze (encM M)))),none]=some ((wyP y).map tupI):=by have:Zf Zv (Za (eIx (Zn 0) (eC (.int 1))) Zg) [some (.pl (wyD y)),some (.pl (.dict (Ze (encM M)))),none]=some (.list ((wyP y).map tupI)):=hci;unfold ZN bOf;rw[this];rfl
 have hm:=Zmc M (wyP y) (by unfold wyP; rw[ZyJ]; exact hy) [some (.pl (wyD y)),some (.pl (.dict (Ze (encM M)))),none] 1 rfl _ hI;show ZS (Zd6 [some (.pl (wyD y)),some (.pl (.dict (Ze (encM M)))),none])=_;unfold Zd6 cbL;refine ZM (P:=λq=>ZS q=_) (r':=[some (.pl (wyD y)),some (.pl (.dict (Ze (encM M)))),some (.pl (oI (((wyP y).filterMap λp=>Zm M p).min?)))]) ?_ ?_
 ·unfold ZW
  rw[hm];rfl
 ·cases((wyP y).filterMap λp=>Zm M p).min?<;>rfl
theorem ZoM(wf:Wf)(cb:Cb)(M:Tb):∀L:List (List Int),((Zax wf cb L M).map (·.1)).Sublist L
 | []=>by unfold Zax; simp
 | c::L=>by
  have ih:=ZoM wf cb M L;unfold Zax at ih ⊢;rw[ZzQ];cases hq:(if Zw M c then none else(ZaZ cb (wf c) M).map λk=>(c,k))with
  | none=>exact ih.cons _
  | some p =>
   have:p.1=c:=by
    split at hq
    ·cases hq
    ·obtain⟨k,_,rfl⟩:=ZyL.mp hq
     rfl
   show(ZA3 (·.1) (p::_)).Sublist _;rw[ZyS,this];exact ih.cons_cons _
theorem ZwW{wf:Wf}{cb:Cb}{L:List (List Int)}(hnd:L.Nodup){M R:Tb}{k:Option Int}{found:List (List Int)}(r:Zg9 wf cb L M k found R):(M.map (·.1)).Nodup->found.Nodup->(∀c∈found,c ∉ M.map (·.1))->(R.map (·.1)).Nodup:=by
 induction r with
 | done=>intro h _ _; exact h
 | @step M R k found hf _ ih =>
  intro h1 h2 h3;have e:Zaz found k M=M++found.map λc=>(c,k):=ZoO k found M h2 h3;refine ih ?_ ?_ λc hc z=>?_
  ·rw[e,Zzq,Zza]
   have e2:found.map ((λx:List Int × Int=>x.1)∘λc=>(c,k))=found:=by have:((λx:List Int × Int=>x.1)∘λc=>(c,k))=id:=rfl;rw[this,List.map_id]
   rw[e2,ZAR];exact⟨h1,h2,λa ha b hb e=>h3 b hb (e▸ha)⟩
  ·unfold Zeg
   exact(((List.filter_sublist ..).map _).trans (ZoM wf cb _ L)).nodup hnd
  ·have:=(ZoI hc).2
   rw[(ZhD _ c).mpr z]at this;cases this
structure Rc(w:Wk)(wf:Wf)(L:List (List Int)):Prop where
 nd:L.Nodup
 len:L.length<=128
 cr:∀c∈L,Cr w.many c/\c≠[]
 ys:∀c∈L,(wf c).length<1000
 ps:∀c∈L,∀y∈wf c,y.2.length<1000
 cl:Ze8 wf L
theorem ZjF{ap:AP}(A3:∀ds,ap 3 [] ds=Z4 ds){w:Wk}(hv:Wk.V w){wf:Wf}{L:List (List Int)}(J:Rc w wf L):∃R,Z3 ap [w.d,.dict (Ze (Zk wf L)),fnD 3 []]=some (.dict (Ze (encM R)))/\Ze2 w wf L R/\(R.map (·.1)).Nodup:=by
 obtain⟨R,e,r⟩:=Zj5 hv (ap:=ap) (wf:=wf) (t:=3) (cs:=[]) (cb:=cbL) J.nd J.len (λc hc=>(J.cr c hc).1) J.ys λc hc y hy M=>by rw[A3];exact Zgr (J.ps c hc y hy) M
 exact⟨R,e,ZrR J.cl r,ZwW J.nd r (by simp) (J.nd.filter _) (λc _ z=>by simp at z)⟩
theorem Ze2.keys{w:Wk}{wf:Wf}{L:List (List Int)}{R:Tb}(F:Ze2 w wf L R):∀c∈R.map (·.1),c∈L:=λc hc=>by have:=(ZhD R c).mpr hc;unfold Zw at this;obtain⟨k,hk⟩:=Zzf.mp this;exact(F.cost hk).1
def inW(wf:Wf)(R:Tb):Wf:=λc=>(wf c).filter λy=>(wyP y).all (Zw R)
theorem Zri{wf:Wf}{L:List (List Int)}{R:Tb}{c:List Int}(hc:c∈L)(hy:(wf c).length<1000)(hp:∀y∈wf c,y.2.length<1000)(o2:Option B) :
  eOf (ZC (ZN (bOf (ZT (Zn 0) (Zb 3)))) (tV (ZcM (ZC (ZN (bOf (Zf Zv (Za (eIx (Zn 0) (eC (.int 1))) Zg)))) ZU (ZbV (Zb 0) (Zn 3))))) (Zb 0)) [some (.pl (.dict (Ze (Zk wf L)))),some (.hd (Ze (encM R))),o2,some (.pl (tupI c))]=some (.list ((inW wf R c).map wyD)):=by
 have hk:Zbe (tupI c)=some (Zae c):=ZaK c;have hlw:=ZdA wf L c;rw[if_pos hc]at hlw;have hI:ZN (bOf (ZT (Zn 0) (Zb 3))) [some (.pl (.dict (Ze (Zk wf L)))),some (.hd (Ze (encM R))),o2,some (.pl (tupI c))]=some ((wf c).map wyD):=by simp[dec_enc,hk,hlw]
 have hg:Zaq (tV (ZcM (ZC (ZN (bOf (Zf Zv (Za (eIx (Zn 0) (eC (.int 1))) Zg)))) ZU (ZbV (Zb 0) (Zn 3))))) (Zb 0) [some (.pl (.dict (Ze (Zk wf L)))),some (.hd (Ze (encM R))),o2,some (.pl (tupI c))] ((wf c).map wyD)=some ((inW wf R c).map wyD):=by
  unfold inW;rw[ZbX wyD (λy=>(wyP y).all (Zw R)) wyD]
  ·intro y hy'
   have hyl:=hp y hy';have hci:=ZcO y.2 (by omega);have h1:ZN (bOf (Zf Zv (Za (eIx (Zn 0) (eC (.int 1))) Zg))) (some (.pl (wyD y))::[some (.pl (.dict (Ze (Zk wf L)))),some (.hd (Ze (encM R))),o2,some (.pl (tupI c))])=some ((wyP y).map tupI):=by have:Zf Zv (Za (eIx (Zn 0) (eC (.int 1))) Zg) (some (.pl (wyD y))::[some (.pl (.dict (Ze (Zk wf L)))),some (.hd (Ze (encM R))),o2,some (.pl (tupI c))])=some (.list ((wyP y).map tupI)):=hci;unfold ZN bOf;rw[this];rfl
   have h2:Zaq ZU (ZbV (Zb 0) (Zn 3)) (some (.pl (wyD y))::[some (.pl (.dict (Ze (Zk wf L)))),some (.hd (Ze (encM R))),o2,some (.pl (tupI c))]) ((wyP y).map tupI)=some ((wyP y).map λp=>Zzl (Zw R p)):=by
    rw[Za2 tupI (λp=>Zzl (Zw R p))];intro p _;have hk:Zbe (tupI p)=some (Zae p):=ZaK p;have hlk:=Zcw R p;unfold Zw;cases hq:Zm R p with
    | none=>rw[hq]at hlk; simp[dec_enc,hk,hlk]
    | some k=>rw[hq]at hlk; simp[dec_enc,hk,hlk]
   have h3:ZC (ZN (bOf (Zf Zv (Za (eIx (Zn 0) (eC (.int 1))) Zg)))) ZU (ZbV (Zb 0) (Zn 3)) (some (.pl (wyD y))::[some (.pl (.dict (Ze (Zk wf L)))),some (.hd (Ze (encM R))),o2,some (.pl (tupI c))])=some (.ol ((wyP y).map λp=>Zzl (Zw R p))):=by unfold ZC;rw[h1];dsimp only;rw[if_pos (by unfold wyP; rw[ZyJ,ZyJ]; show _<1000000; omega),h2];rfl
   have hb:∀ps:List (List Int),ZbQ (ps.map λp=>Zzl (Zw R p))=some (ps.map (Zw R)):=by
    intro ps
    induction ps with
    | nil=>rfl
    | cons p ps ih=>show(ZbQ (ps.map λp=>Zzl (Zw R p))).map _=_; rw[ih]; rfl
   have h4:ZcM (ZC (ZN (bOf (Zf Zv (Za (eIx (Zn 0) (eC (.int 1))) Zg)))) ZU (ZbV (Zb 0) (Zn 3))) (some (.pl (wyD y))::[some (.pl (.dict (Ze (Zk wf L)))),some (.hd (Ze (encM R))),o2,some (.pl (tupI c))])=some (.bool ((wyP y).all (Zw R))):=by unfold ZcM;rw[h3];show(ZbQ ((wyP y).map λp=>Zzl (Zw R p))).map _=_;rw[hb];simp
   unfold tV;rw[h4]
  ·intro y _ _
   rfl
 have hf:=ZhS hI (by rw[ZyJ]; omega) hg;unfold eOf;rw[hf];rfl
theorem Zmm{wf:Wf}{L:List (List Int)}{R:Tb}(hc:∀c∈R.map (·.1),c∈L)(nd:(R.map (·.1)).Nodup)(hy:∀c∈L,(wf c).length<1000)(hp:∀c∈L,∀y∈wf c,y.2.length<1000):∀(post pre:List (List Int)) (q3:Option B),R.map (·.1)=pre++post->pre.length+post.length<1000000->Za9 q3=false ->
  ∃p3,Za9 p3=false/\Zbc 3 Zbo (post.map tupI) [some (.pl (.dict (Ze (Zk wf L)))),some (.hd (Ze (encM R))),some (.ot (Zk (inW wf R) pre)),q3]=some (.nx [some (.pl (.dict (Ze (Zk wf L)))),some (.hd (Ze (encM R))),some (.ot (Zk (inW wf R) (pre++post))),p3])
 | [],pre,q3,_,_,h3=>⟨q3,h3,by rw[ZAN,Zzu]; rfl⟩
 | c::post,pre,q3,e,hl,h3=>by
  rw[Zy3]at hl;have hcm:c∈R.map (·.1):=by rw[e]; exact Zzk _ (ZyO ..)
  have hcL:=hc c hcm;have hnp:c ∉ pre:=λz=>by rw[e]at nd;exact(ZAR.mp nd).2.2 c z c (ZyO ..) rfl
  have hk:Zbe (tupI c)=some (Zae c):=ZaK c;have hv:=Zri (R:=R) hcL (hy c hcL) (hp c hcL) (some (.ot (Zk (inW wf R) pre)));have hel:(Zk (inW wf R) pre).length<1000000:=by unfold Zk; rw[ZyJ]; omega
  have hput:=Zn7 (wf:=inW wf R) hnp;have body:Zbo [some (.pl (.dict (Ze (Zk wf L)))),some (.hd (Ze (encM R))),some (.ot (Zk (inW wf R) pre)),some (.pl (tupI c))]=some (.nx [some (.pl (.dict (Ze (Zk wf L)))),some (.hd (Ze (encM R))),some (.ot (Zk (inW wf R) (pre++[c]))),some (.pl (tupI c))]):=by unfold Zbo;rw[<-hput];generalize eOf (ZC (ZN (bOf (ZT (Zn 0) (Zb 3)))) (tV (ZcM (ZC (ZN (bOf (Zf Zv (Za (eIx (Zn 0) (eC (.int 1))) Zg)))) ZU (ZbV (Zb 0) (Zn 3))))) (Zb 0))=E at hv ⊢;simp[hv,hk,hel]
  obtain⟨r3,g3,ih⟩:=Zmm hc nd hy hp post (pre++[c]) (some (.pl (tupI c))) (by rw[e]; simp) (by rw[Zy8,ZAc]; omega) rfl;refine⟨r3,g3,?_⟩;rw[show pre++c::post=(pre++[c])++post by simp,<-ih,ZyS];show(match Zbo [some (.pl (.dict (Ze (Zk wf L)))),some (.hd (Ze (encM R))),some (.ot (Zk (inW wf R) pre)),some (.pl (tupI c))]with | some (.nx r')=>_ | some (.ct r')=>_ | some (.bk r')=>_ | some (.rt d)=>_ | none=>_)=_;rw[body]
theorem Zsd{wf:Wf}{L:List (List Int)}{R:Tb}(hc:∀c∈R.map (·.1),c∈L)(nd:(R.map (·.1)).Nodup)(hy:∀c∈L,(wf c).length<1000)(hp:∀c∈L,∀y∈wf c,y.2.length<1000)(hML:R.length<1000000):Zb8 [.dict (Ze (Zk wf L)),.dict (Ze (encM R))]=some (.dict (Ze (Zk (inW wf R) (R.map (·.1))))):=by
 obtain⟨p3,g3,hgo⟩:=Zmm hc nd hy hp (R.map (·.1)) [] none rfl (by simp; exact hML) rfl;rw[ZA0]at hgo;show ZS (ZdI [some (.pl (.dict (Ze (Zk wf L)))),some (.pl (.dict (Ze (encM R)))),none,none])=_;have e:ZdI [some (.pl (.dict (Ze (Zk wf L)))),some (.pl (.dict (Ze (encM R)))),none,none]=some (.rt (.dict (Ze (Zk (inW wf R) (R.map (·.1)))))):=by
  unfold ZdI;refine ZM (P:=λq=>q=_) (r':=[some (.pl (.dict (Ze (Zk wf L)))),some (.pl (.dict (Ze (encM R)))),some (.ot (Zk (inW wf R) [])),none]) rfl ?_;refine ZM (P:=λq=>q=_) (r':=[some (.pl (.dict (Ze (Zk wf L)))),some (.pl (.dict (Ze (encM R)))),some (.ot (Zk (inW wf R) (R.map (·.1)))),p3]) ?_ (by simp);have hw:ZaP 1 [some (.pl (.dict (Ze (Zk wf L)))),some (.hd (Ze (encM R))),some (.ot (Zk (inW wf R) [])),none]=some ((R.map (·.1)).map tupI):=by show(ZdV (Ze (encM R))).map _=_;rw[dec_enc,<-ZiV R];rfl
  have hs:ZbG 3 (ZaP 1) Zbo [some (.pl (.dict (Ze (Zk wf L)))),some (.hd (Ze (encM R))),some (.ot (Zk (inW wf R) [])),none]=some (.nx [some (.pl (.dict (Ze (Zk wf L)))),some (.hd (Ze (encM R))),some (.ot (Zk (inW wf R) (R.map (·.1)))),p3]):=by unfold ZbG;rw[hw];dsimp only;rw[if_pos (by rw[ZyJ,ZyJ]; exact hML)];exact hgo
  have a2:([some (B.pl (.dict (Ze (Zk wf L)))),none,some (.ot (Zk (inW wf R) (R.map (·.1)))),p3]:HM.Env).all (λq=>!Za9 q)=true:=by simp only[ZzV,ZCr,g3];rfl
  show(match ZbG 3 (ZaP 1) Zbo [some (.pl (.dict (Ze (Zk wf L)))),some (.hd (Ze (encM R))),some (.ot (Zk (inW wf R) [])),none]with | some (.nx r')=>_ | some (.rt d)=>_ | _=>none)=_;rw[hs];show(if([some (B.pl (.dict (Ze (Zk wf L)))),none,some (.ot (Zk (inW wf R) (R.map (·.1)))),p3]:HM.Env).all (λq=>!Za9 q)=true then _ else _)=_;rw[if_pos a2];rfl
 rw[e];rfl
end HG20
namespace HG20
open PySem HM
open HG
open HG4
open HG5
open HG6
section
variable{w:Wk}{ls:List Int}{L:List (List Int)}
structure Jp(w:Wk)(ls:List Int)(L:List (List Int))(wf:Wf)(S:List (List Int)):Prop where
 rc:Rc w wf S
 sub:∀c,∀y∈wf c,y∈wfV w ls c
 inL:∀c∈S,c∈L
 win:∀c∈L,∀n,Win w ls n c=true->c∈S
 keep:∀c∈S,∀y∈wfV w ls c,(∀p∈wyP y,∃n,Win w ls n p=true)->y∈wf c
theorem ZfM(hL:Zdc w ls L):Ze8 (wfV w ls) L:=λc hc y hy p hp=>by obtain⟨d,hd,rfl⟩:=ZyU.mp hy;obtain⟨d0,d1,d2⟩:=Zc5 hd;have e:((d.toNat:Nat):Int)=d:=ZAU d0;refine hL c hc d.toNat (by omega) (by rw[e]; exact d2) p ?_;rw[e];exact hp
theorem ZsE(hL:Zdc w ls L)(hne:∀c∈L,c≠[]){wf:Wf}{S:List (List Int)}(J:Jp w ls L wf S):∀(n:Nat) (c:List Int),c∈L->Win w ls n c=true->Lk w wf n c=true
 | 0,c,_,h=>h
 | n+1,c,hc,h=>by
  have hS:=J.win c hc (n+1) h;have h:(ZD w c||(ZyP w.deeds.length).any λd=>ZbP w c d&&(Zq w ls (Zap w c d)).all λp=>Win w ls n p)=true:=h;rw[Zzt]at h;rcases h with h | h
  ·exact ZgL (n:=0) (ZzN _) h
  ·obtain⟨d,hd,h⟩:=ZyV.mp h
   rw[Zy5]at h;have hy:Zil w ls c (d:Int)∈wfV w ls c:=ZyU.mpr ⟨_,ZjA (Zy7.mp hd) h.1,rfl⟩;obtain⟨p,hp⟩:=ZAK _ (Ze6 (w:=w) (ls:=ls) (Zk5 (hne c hc) h.1));have hy2:=J.keep c hS _ hy λq hq=>⟨n,ZyR.mp h.2 q hq⟩;exact Zld hy2 hp (ZsE hL hne J n p (hL c hc d (Zy7.mp hd) h.1 p hp) (ZyR.mp h.2 p hp))
theorem ZuP(hL:Zdc w ls L)(hne:∀c∈L,c≠[]){wf:Wf}{S:List (List Int)}(J:Jp w ls L wf S){R:Tb}(F:Ze2 w wf S R)(nd:(R.map (·.1)).Nodup):Jp w ls L (inW wf R) (R.map (·.1)):=by
 have hk:=F.keys;have hlen:(R.map (·.1)).length<=S.length:=ZzC nd λc hc=>hk c hc;have hwin:∀c∈L,∀n,Win w ls n c=true->Zw R c=true:=λc hc n h=>F.all J.rc.cl (J.win c hc n h) (ZsE hL hne J n c hc h);refine⟨⟨nd,ZzH hlen J.rc.len,λc hc=>J.rc.cr c (hk c hc),λc hc=>Nat.lt_of_le_of_lt (ZAo _ _) (J.rc.ys c (hk c hc)),λc hc y hy=>J.rc.ps c (hk c hc) y (Zy6.mp hy).1,λc hc y hy p hp=>?_⟩,
  λc y hy=>J.sub c y (Zy6.mp hy).1,λc hc=>J.inL c (hk c hc),λc hc n h=>(ZhD R c).mp (hwin c hc n h),λc hc y hy h=>Zy6.mpr ⟨J.keep c (hk c hc) y hy h,ZyR.mpr λp hp=>?_⟩⟩
 ·exact(ZhD R p).mp (ZyR.mp (Zy6.mp hy).2 p hp)
 ·obtain⟨n,hn⟩:=h p hp
  exact hwin p (ZfM hL c (J.inL c (hk c hc)) y hy p hp) n hn
end
theorem Zyo(wf:Wf)(S:List (List Int))(r:HM.Env)(i:Nat)(h:r[i]?=some (some (.pl (.dict (Ze (Zk wf S)))))):Zfl (Zn i) r=some (.int (S.length:Int)):=by
 have:(Zk wf S).length=S.length:=by unfold Zk; rw[ZyJ]
 simp[h,dec_enc,this]
theorem Zx9(R:Tb)(r:HM.Env)(i:Nat)(h:r[i]?=some (some (.pl (.dict (Ze (encM R)))))):Zfl (Zn i) r=some (.int (R.length:Int)):=by
 have:(encM R).length=R.length:=by unfold encM; rw[ZyJ]
 simp[h,dec_enc,this]
section
variable{ap:AP}(A3:∀ds,ap 3 [] ds=Z4 ds){w:Wk}(hv:Wk.V w){ls:List Int}{L:List (List Int)}(hL:Zdc w ls L)(hne:∀c∈L,c≠[])
include A3 hv hL hne
theorem ZoA(e1:Option B):∀(fuel:Nat) (wf:Wf) (S:List (List Int)) (R:Tb),S.length<fuel->Jp w ls L wf S->Ze2 w wf S R->(R.map (·.1)).Nodup ->
  ∃wf' S' q3,Zbh (tV (op2 gLt (Zfl (Zn 3)) (Zfl (Zn 2)))) (Zcz ap) fuel [some (.pl w.d),e1,some (.pl (.dict (Ze (Zk wf S)))),some (.pl (.dict (Ze (encM R))))]=some (.nx [some (.pl w.d),e1,some (.pl (.dict (Ze (Zk wf' S')))),q3])/\Jp w ls L wf' S'/\∀c∈S',∃n,Lk w wf' n c=true
 | 0,wf,S,R,h,_,_,_=>by omega
 | fuel+1,wf,S,R,h,J,F,nd=>by
  have hlen:(R.map (·.1)).length<=S.length:=ZzC nd λc hc=>F.keys c hc;rw[ZyJ]at hlen;have l1:=Zx9 R [some (.pl w.d),e1,some (.pl (.dict (Ze (Zk wf S)))),some (.pl (.dict (Ze (encM R))))] 3 rfl;have l2:=Zyo wf S [some (.pl w.d),e1,some (.pl (.dict (Ze (Zk wf S)))),some (.pl (.dict (Ze (encM R))))] 2 rfl;have ht:tV (op2 gLt (Zfl (Zn 3)) (Zfl (Zn 2))) [some (.pl w.d),e1,some (.pl (.dict (Ze (Zk wf S)))),some (.pl (.dict (Ze (encM R))))]=some (decide ((R.length:Int)<(S.length:Int))):=by unfold tV op2;rw[l1,l2];rfl
  by_cases hlt:R.length<S.length
  ·have J':=ZuP hL hne J F nd
   have hw:=Zsd (wf:=wf) (L:=S) (R:=R) F.keys nd J.rc.ys J.rc.ps (by have:=J.rc.len; omega);obtain⟨R',e',F',nd'⟩:=ZjF A3 hv J'.rc;obtain⟨wf',S',q3,ih,r1,r2⟩:=ZoA e1 fuel (inW wf R) (R.map (·.1)) R' (by rw[ZyJ]; omega) J' F' nd';refine⟨wf',S',q3,?_,r1,r2⟩;rw[<-ih];have body:Zcz ap [some (.pl w.d),e1,some (.pl (.dict (Ze (Zk wf S)))),some (.pl (.dict (Ze (encM R))))]=some (.nx [some (.pl w.d),e1,some (.pl (.dict (Ze (Zk (inW wf R) (R.map (·.1)))))),some (.pl (.dict (Ze (encM R'))))]):=by
    unfold Zcz;refine ZM (P:=λq=>q=_) (r':=[some (.pl w.d),e1,some (.pl (.dict (Ze (Zk (inW wf R) (R.map (·.1)))))),some (.pl (.dict (Ze (encM R))))]) ?_ ?_
    ·have:Zf Zb8 (Za (Zb 2) (Za (Zb 3) Zg)) [some (.pl w.d),e1,some (.pl (.dict (Ze (Zk wf S)))),some (.pl (.dict (Ze (encM R))))]=some (.dict (Ze (Zk (inW wf R) (R.map (·.1))))):=hw
     unfold ZW;rw[this];rfl
    ·have:Zf (Z3 ap) (Za (Zb 0) (Za (Zb 2) (Za (eC (fnD 3 [])) Zg))) [some (.pl w.d),e1,some (.pl (.dict (Ze (Zk (inW wf R) (R.map (·.1)))))),some (.pl (.dict (Ze (encM R))))]=some (.dict (Ze (encM R'))):=e'
     unfold ZW;rw[this];rfl
   conv=>lhs; unfold Zbh
   rw[ht,decide_eq_true (by omega)];dsimp only;rw[body]
  ·refine⟨wf,S,some (.pl (.dict (Ze (encM R)))),?_,J,λc hc=>?_⟩
   ·conv=>lhs; unfold Zbh
    rw[ht,decide_eq_false (by omega)]
   ·have hsub:∀x∈S,x∈R.map (·.1):=by
     intro x hx;apply Classical.byContradiction;intro hn;have h1:(x::R.map (·.1)).Nodup:=ZzB.mpr ⟨hn,nd⟩;have h2:=ZzC h1 (λy hy=>by
      rcases Zzb.mp hy with e | e
      ·rw[e]; exact hx
      ·exact F.keys y e:∀y∈(x::R.map (·.1)),y∈S)
     rw[Zy3,ZyJ]at h2;omega
    have:=(ZhD R c).mpr (hsub c hc);unfold Zw at this;obtain⟨k,hk⟩:=Zzf.mp this;obtain⟨_,n,_,hn,_⟩:=F.cost hk;exact⟨n,hn⟩
theorem Zuc(J0:Jp w ls L (wfV w ls) L):∃wf S,ZbB ap [w.d,.dict (Ze (Ze5 w ls L))]=some (.dict (Ze (Zk wf S)))/\Jp w ls L wf S/\∀c∈S,∃n,Lk w wf n c=true:=by
 obtain⟨R,e,F,nd⟩:=ZjF A3 hv J0.rc;obtain⟨wf,S,q3,g,J,h⟩:=ZoA A3 hv hL hne (some (.pl (.dict (Ze (Ze5 w ls L))))) 100000 (wfV w ls) L R (by have:=J0.rc.len; omega) J0 F nd;refine⟨wf,S,?_,J,h⟩;show ZS (Zd7 ap [some (.pl w.d),some (.pl (.dict (Ze (Ze5 w ls L)))),none,none])=_;unfold Zd7;refine ZM (P:=λq=>ZS q=_) (r':=[some (.pl w.d),some (.pl (.dict (Ze (Ze5 w ls L)))),some (.pl (.dict (Ze (Ze5 w ls L)))),none]) rfl ?_;refine ZM (P:=λq=>ZS q=_) (r':=[some (.pl w.d),some (.pl (.dict (Ze (Ze5 w ls L)))),some (.pl (.dict (Ze (Ze5 w ls L)))),some (.pl (.dict (Ze (encM R))))]) ?_ ?_
 ·have:Zf (Z3 ap) (Za (Zb 0) (Za (Zb 2) (Za (eC (fnD 3 [])) Zg))) [some (.pl w.d),some (.pl (.dict (Ze (Ze5 w ls L)))),some (.pl (.dict (Ze (Ze5 w ls L)))),none]=some (.dict (Ze (encM R))):=e
  unfold ZW;rw[this];rfl
 ·exact ZM (P:=λq=>ZS q=_) g rfl
end
def Zc3(wf:Wf)(R:Tb)(c:List Int):Wy:=((wf c).find? λy=>cbL y R==ZaZ cbL (wf c) R).getD (.none,[])
def pwV(wf:Wf)(R:Tb):Wf:=λc=>if Zm R c=some 0 then[]else[Zc3 wf R c]
theorem ZlI{w:Wk}{wf:Wf}{S:List (List Int)}{R:Tb}(hcl:Ze8 wf S)(F:Ze2 w wf S R){c:List Int}(hc:c∈S){n:Nat}(hn:Lk w wf n c=true)(h0:Zm R c≠some 0):∃m,ZaZ cbL (wf c) R=some m/\(wf c).find? (λy=>cbL y R==some m)=some (Zc3 wf R c)/\Zc3 wf R c∈wf c:=by
 have hh:=F.all hcl hc hn;unfold Zw at hh;obtain⟨k,hk⟩:=Zzf.mp hh;obtain⟨_,n,rfl,h1,h2⟩:=F.cost hk;obtain⟨j,rfl⟩:∃j,n=j+1:=by
  cases n with
  | zero=>exact absurd hk h0
  | succ j=>exact⟨j,rfl⟩
 have h1:(ZD w c||(wf c).any λy=>(wyP y).any (Lk w wf j))=true:=h1;have ht:ZD w c=false:=h2 0 (by omega);rw[ht,ZB8]at h1;obtain⟨y,hy,h1⟩:=ZyV.mp h1;obtain⟨p,hp,h1⟩:=ZyV.mp h1;have hpm:=F.all hcl (hcl c hc y hy p hp) h1;unfold Zw at hpm;obtain⟨v,hv⟩:=Zzf.mp hpm;obtain⟨m0,hm0⟩:∃m0,cbL y R=some m0:=by
  unfold cbL;cases hq:((wyP y).filterMap λp=>Zm R p).min? with
  | some m=>exact⟨_,rfl⟩
  | none=>rw[ZAp]at hq;have:v∈(wyP y).filterMap λp=>Zm R p:=Zzm.mpr ⟨p,hp,hv⟩;rw[hq]at this;simp at this
 obtain⟨m,hm⟩:∃m,ZaZ cbL (wf c) R=some m:=by
  unfold ZaZ;cases hq:((wf c).filterMap λy=>cbL y R).min? with
  | some m=>exact⟨_,rfl⟩
  | none=>rw[ZAp]at hq;have:m0∈(wf c).filterMap λy=>cbL y R:=Zzm.mpr ⟨y,hy,hm0⟩;rw[hq]at this;simp at this
 obtain⟨y',hy',hcb⟩:=Zzm.mp (ZAd.mp (show((wf c).filterMap λy=>cbL y R).min?=some m from hm)).1;have hs:((wf c).find? λy=>cbL y R==some m).isSome=true:=ZBz.mpr ⟨y',hy',by rw[hcb]; exact beq_self_eq_true _⟩;obtain⟨z,hz⟩:=Zzf.mp hs;have hb:Zc3 wf R c=z:=by unfold Zc3; rw[hm,hz]; rfl
 exact⟨m,hm,by rw[hb]; exact hz,by rw[hb]; exact ZAn hz⟩
theorem Zlc{ap:AP}(A3:∀ds,ap 3 [] ds=Z4 ds){w:Wk}{wf:Wf}{S:List (List Int)}{R:Tb}(J:Rc w wf S)(F:Ze2 w wf S R)(hall:∀c∈S,∃n,Lk w wf n c=true){c:List Int}(hc:c∈S):Zas ap [.dict (Ze (Zk wf S)),.dict (Ze (encM R)),tupI c]=some (.list ((pwV wf R c).map wyD)):=by
 obtain⟨n,hn⟩:=hall c hc;have hh:=F.all J.cl hc hn;unfold Zw at hh;obtain⟨k,hk⟩:=Zzf.mp hh;have hkt:Zbe (tupI c)=some (Zae c):=ZaK c;have hlk:=Zcw R c;rw[hk]at hlk;have hlw:=ZdA wf S c;rw[if_pos hc]at hlw;show ZS (Zdn ap [some (.pl (.dict (Ze (Zk wf S)))),some (.pl (.dict (Ze (encM R)))),some (.pl (tupI c))])=_;have hz:tV (op2 gEq (ZT (Zn 1) (Zb 2)) (eC (.int 0))) [some (.pl (.dict (Ze (Zk wf S)))),some (.pl (.dict (Ze (encM R)))),some (.pl (tupI c))]=some (k==0):=by
  have h1:ZT (Zn 1) (Zb 2) [some (.pl (.dict (Ze (Zk wf S)))),some (.pl (.dict (Ze (encM R)))),some (.pl (tupI c))]=some (.int k):=by simp[dec_enc,hkt,hlk]
  unfold tV op2;rw[h1];show(match gEq (.int k) (.int 0)with | some (.bool b)=>some b | _=>none)=_
  by_cases e:k=0
  ·subst e; rfl
  ·rw[Zjb (Zda 1 _) (Zda 1 _) (by decide) (by decide) (λz=>e (by injection z))]
   simp[e]
 unfold pwV
 by_cases h0:k=0
 ·subst h0
  rw[if_pos hk];unfold Zdn ZG eIf;rw[hz];rfl
 ·have hne:Zm R c≠some 0:=by rw[hk]; intro e; exact h0 (by injection e)
  rw[if_neg hne];obtain⟨m,hm,hf,_⟩:=ZlI J.cl F hc hn hne;have hb:=ZpX (ap:=ap) (t:=3) (cs:=[]) (cb:=cbL) (M:=R) (J.ys c hc) (λy hy=>by rw[A3]; exact Zgr (J.ps c hc y hy) R) hm hf;have hcall:Zf (Zb4 ap) (Za (ZT (Zn 0) (Zb 2)) (Za (Zb 1) (Za (eC (fnD 3 [])) Zg))) [some (.pl (.dict (Ze (Zk wf S)))),some (.pl (.dict (Ze (encM R)))),some (.pl (tupI c))]=some (wyD (Zc3 wf R c)):=by
   have h1:ZT (Zn 0) (Zb 2) [some (.pl (.dict (Ze (Zk wf S)))),some (.pl (.dict (Ze (encM R)))),some (.pl (tupI c))]=some (.list ((wf c).map wyD)):=by simp[dec_enc,hkt,hlw]
   have h2:Za (ZT (Zn 0) (Zb 2)) (Za (Zb 1) (Za (eC (fnD 3 [])) Zg)) [some (.pl (.dict (Ze (Zk wf S)))),some (.pl (.dict (Ze (encM R)))),some (.pl (tupI c))]=some [.list ((wf c).map wyD),.dict (Ze (encM R)),fnD 3 []]:=by generalize ZT (Zn 0) (Zb 2)=E at h1 ⊢;simp[h1]
   unfold Zf;rw[h2];exact hb
  unfold Zdn ZG eIf;rw[hz,beq_eq_false_iff_ne.mpr h0];dsimp only;generalize Zf (Zb4 ap) (Za (ZT (Zn 0) (Zb 2)) (Za (Zb 1) (Za (eC (fnD 3 [])) Zg)))=E at hcall ⊢;simp[hcall,ZS]
end HG20
namespace HG20
open PySem HM
open HG
open HG4
open HG5
open HG6
theorem Zxs{n:Nat}(R:Tb):noF (n+1) (.dict (Ze (encM R)))=true:=by show(Ze (encM R)).all _=true;refine ZyR.mpr λp hp=>?_;unfold Ze encM at hp;rw[Zza]at hp;obtain⟨c,hc,rfl⟩:=ZyU.mp hp;exact Zjw _ _
structure ApQ(ap ap0:AP):Prop where
 d:ApD ap
 d3:∀ds,ap 3 [] ds=Z4 ds
 z3:∀ds,ap0 3 [] ds=Z4 ds
 l4:∀cs ds,ap 4 cs ds=ZfN 1 2 (Zf (Zas ap0) (Za (Zb 1) (Za (Zb 2) (Za (Zb 0) Zg)))) cs ds
section
variable{w:Wk}(hv:Wk.V w)(h7:w.many<=7){ls:List Int}(hl:Cr w.looks.length ls)
include hv h7
theorem rc0{L:List (List Int)}(hnd:L.Nodup)(hlen:L.length<=128)(hcr:∀c∈L,Cr w.many c/\c≠[])(hL:Zdc w ls L):Rc w (wfV w ls) L:=by
 have O:=Zrc hv h7 (ls:=ls);refine⟨hnd,hlen,hcr,λc hc=>?_,λc hc y hy=>?_,ZfM hL⟩
 ·have:=O.ys c (hcr c hc); omega
 ·have:=O.ps c (hcr c hc) y hy; omega
include hl
theorem Zj8:Zad [w.d,tupI ls]=some (.list ((Zq w ls w.beg).map tupI)):=by
 have hpa:=ZgI hv hl hv.bc;have hsl:=split_len (w:=w) (ls:=ls) (c:=w.beg);have hbl:=hv.bc.len;have hm2:=hv.m2;have hci:=ZcO (Zbz w ls w.beg) (by omega);have hb:=Zfn w;show ZS (ZG (Zf Zv (Za (Zf Zag (Za (Zb 0) (Za (Zb 1) (Za (Zf Zac (Za (Zb 0) Zg)) Zg)))) Zg)) [some (.pl w.d),some (.pl (tupI ls))])=_;have h1:Zf Zag (Za (Zb 0) (Za (Zb 1) (Za (Zf Zac (Za (Zb 0) Zg)) Zg))) [some (.pl w.d),some (.pl (tupI ls))]=some (.list ((Zbz w ls w.beg).map Zbk)):=by simp[hb,hpa]
 have h2:Zf Zv (Za (Zf Zag (Za (Zb 0) (Za (Zb 1) (Za (Zf Zac (Za (Zb 0) Zg)) Zg)))) Zg) [some (.pl w.d),some (.pl (tupI ls))]=some (.list ((Zq w ls w.beg).map tupI)):=by
  generalize Zf Zag (Za (Zb 0) (Za (Zb 1) (Za (Zf Zac (Za (Zb 0) Zg)) Zg)))=E at h1 ⊢;have h3:Za E Zg [some (.pl w.d),some (.pl (tupI ls))]=some [.list ((Zbz w ls w.beg).map Zbk)]:=by simp[h1]
  unfold Zf;rw[h3];exact hci
 unfold ZG;rw[h2];rfl
theorem Zmj:(Zq w ls w.beg).length<=8:=by have hsl:=split_len (w:=w) (ls:=ls) (c:=w.beg);have hbl:=hv.bc.len;have hm2:=hv.m2;unfold Zq;rw[ZyJ];omega
def ZqT(w:Wk)(ls:List Int)(d:D):Prop:=(∃n:Nat,d=.int n/\(∃p∈Zq w ls w.beg,Lk w (wfV w ls) n p=true)/\∀m,m<n->∀p∈Zq w ls w.beg,Lk w (wfV w ls) m p=false)\/(d=.none/\∀n,∀p∈Zq w ls w.beg,Lk w (wfV w ls) n p=false)
theorem Zre{ap ap0:AP}(A:ApQ ap ap0):∃d,ZaW ap [w.d,tupI ls]=some d/\ZqT w ls d:=by
 obtain⟨L,hco,hnd,hlen,hcr,_,hL,hbg⟩:=Ze9 hv h7 hl A.d hv.bc;obtain⟨R,e,F,nd⟩:=ZjF A.d3 hv (rc0 hv h7 hnd hlen hcr hL);have hpb:=Zj8 hv h7 hl;have hpl:=Zmj hv h7 hl;have hc1:=ZfS hv;have hc2:=Zek hv hl;have hb:=Zfn w;refine⟨oI (((Zq w ls w.beg).filterMap λp=>Zm R p).min?),?_,?_⟩
 ·show ZS (ZhH ap [some (.pl w.d),some (.pl (tupI ls)),none])=_
  unfold ZhH;refine ZM (P:=λq=>ZS q=_) (r':=[some (.pl w.d),some (.pl (tupI ls)),none]) (by simp[hc1]) ?_;refine ZM (P:=λq=>ZS q=_) (r':=[some (.pl w.d),some (.pl (tupI ls)),none]) (by simp[hc2]) ?_;refine ZM (P:=λq=>ZS q=_) (r':=[some (.pl w.d),some (.pl (tupI ls)),some (.pl (.dict (Ze (encM R))))]) ?_ ?_
  ·simp[hb,hco,e]
  ·have hI:ZN (bOf (Zf Zad (Za (Zb 0) (Za (Zb 1) Zg)))) [some (.pl w.d),some (.pl (tupI ls)),some (.pl (.dict (Ze (encM R))))]=some ((Zq w ls w.beg).map tupI):=by
    have:Zf Zad (Za (Zb 0) (Za (Zb 1) Zg)) [some (.pl w.d),some (.pl (tupI ls)),some (.pl (.dict (Ze (encM R))))]=some (.list ((Zq w ls w.beg).map tupI)):=hpb;unfold ZN bOf;rw[this];rfl
   have hm:=Zmc R (Zq w ls w.beg) (by omega) [some (.pl w.d),some (.pl (tupI ls)),some (.pl (.dict (Ze (encM R))))] 2 rfl _ hI;unfold ZG;rw[hm];rfl
 ·cases hq:((Zq w ls w.beg).filterMap λp=>Zm R p).min? with
  | none =>
   refine .inr ⟨rfl,λn p hp=>?_⟩;rw[ZAp]at hq;cases hk:Lk w (wfV w ls) n p with
   | false=>rfl
   | true=>have:=F.all (ZfM hL) (hbg p hp) hk;unfold Zw at this;obtain⟨v,hv⟩:=Zzf.mp this;have:v∈(Zq w ls w.beg).filterMap λp=>Zm R p:=Zzm.mpr ⟨p,hp,hv⟩;rw[hq]at this;simp at this
  | some m =>
   obtain⟨m1,m2⟩:=ZAd.mp hq;obtain⟨p,hp,hv'⟩:=Zzm.mp m1;obtain⟨_,n,rfl,k1,_⟩:=F.cost hv';refine .inl ⟨n,rfl,⟨p,hp,k1⟩,λj hj q hq'=>?_⟩;cases hk:Lk w (wfV w ls) j q with
   | false=>rfl
   | true=>have:=F.all (ZfM hL) (hbg q hq') hk;unfold Zw at this;obtain⟨v,hv⟩:=Zzf.mp this;obtain⟨_,i,rfl,_,k3⟩:=F.cost hv;have h1:=m2 _ (Zzm.mpr ⟨q,hq',hv⟩);rw[k3 j (by omega)]at hk;cases hk
theorem Zrx{ap ap0:AP}(A:ApQ ap ap0)(h5:w.many<=5):∃(wf:Wf) (S:List (List Int)) (d:D),ZI ap [w.d,tupI ls]=some d/\(∀c,∀y∈wf c,y∈wfV w ls c)/\(∀c∈S,∃n,Lk w wf n c=true)/\(∀n,∀p∈Zq w ls w.beg,Win w ls n p=true->p∈S) /\
  (((∀p∈Zq w ls w.beg,p∈S)/\∃xs,d=.list xs)\/((¬∀p∈Zq w ls w.beg,p∈S)/\d=.none)):=by
 obtain⟨L,hco,hnd,hlen,hcr,_,hL,hbg⟩:=Ze9 hv h7 hl A.d hv.bc;have hne:=λc hc=>(hcr c hc).2;have J0:Jp w ls L (wfV w ls) L:=⟨rc0 hv h7 hnd hlen hcr hL,λ_ _ h=>h,λ_ h=>h,λc hc _ _=>hc,λ_ _ _ h _=>h⟩;obtain⟨wf,S,hre,J,hall⟩:=Zuc A.d3 hv hL hne J0;obtain⟨R,hlu,F,nd⟩:=ZjF A.d3 hv J.rc;have hpb:=Zj8 hv h7 hl;have hpl:=Zmj hv h7 hl;have hc1:=ZfS hv;have hc2:=Zek hv hl;have hb:=Zfn w;have O0:=Zrc hv h7 (ls:=ls);have hpc:∀p∈Zq w ls w.beg,Cr w.many p/\p≠[]:=λp hp=>⟨(ZhE hv.bc hp).1,(ZhE hv.bc hp).2.1⟩;have hin:∀r:HM.Env,r[2]?=some (some (.pl (.dict (Ze (Zk wf S)))))->Zaq ZU (ZbV (Zb 0) (Zn 3)) r ((Zq w ls w.beg).map tupI)=some (((Zq w ls w.beg).map λp=>decide (p∈S)).map Zzl):=λr h=>by
  rw[Za2 tupI (λp=>Zzl (decide (p∈S))),Zza]
  ·rfl
  ·intro p _
   have hk:Zbe (tupI p)=some (Zae p):=ZaK p;have hlw:=ZdA wf S p
   by_cases hm:p∈S
   ·rw[if_pos hm]at hlw; simp[h,dec_enc,hk,hlw,hm]
   ·rw[if_neg hm]at hlw; simp[h,dec_enc,hk,hlw,hm]
 have hbd:∀bs:List Bool,ZbQ (bs.map Zzl)=some bs:=by
  intro bs
  induction bs with
  | nil=>rfl
  | cons b bs ih=>show(ZbQ (bs.map Zzl)).map _=_; rw[ih]; rfl
 have hal:ZcM (ZC (ZN (bOf (Zb 3))) ZU (ZbV (Zb 0) (Zn 3))) [some (.pl w.d),some (.pl (tupI ls)),some (.pl (.dict (Ze (Zk wf S)))),some (.pl (.list ((Zq w ls w.beg).map tupI))),none,none]=some (.bool ((Zq w ls w.beg).all λp=>decide (p∈S))):=by have hf:=ZhS (I:=ZN (bOf (Zb 3))) (c:=ZU) (e:=ZbV (Zb 0) (Zn 3)) (r:=[some (.pl w.d),some (.pl (tupI ls)),some (.pl (.dict (Ze (Zk wf S)))),some (.pl (.list ((Zq w ls w.beg).map tupI))),none,none]) (ds:=(Zq w ls w.beg).map tupI) rfl (by rw[ZyJ]; omega) (hin _ rfl);unfold ZcM;rw[hf];show(ZbQ (((Zq w ls w.beg).map λp=>decide (p∈S)).map Zzl)).map _=_;rw[hbd];simp
 have st2:ZW 2 (Zf (ZbB ap) (Za (Zb 0) (Za (Zf (ZaG ap) (Za (Zb 0) (Za (Zb 1) (Za (Zf Zac (Za (Zb 0) Zg)) Zg)))) Zg))) [some (.pl w.d),some (.pl (tupI ls)),none,none,none,none]=some (.nx [some (.pl w.d),some (.pl (tupI ls)),some (.pl (.dict (Ze (Zk wf S)))),none,none,none]):=by simp[hb,hco,hre]
 have st3:ZW 3 (Zf Zad (Za (Zb 0) (Za (Zb 1) Zg))) [some (.pl w.d),some (.pl (tupI ls)),some (.pl (.dict (Ze (Zk wf S)))),none,none,none]=some (.nx [some (.pl w.d),some (.pl (tupI ls)),some (.pl (.dict (Ze (Zk wf S)))),some (.pl (.list ((Zq w ls w.beg).map tupI))),none,none]):=by simp[hpb]
 have base:∀(q:D),ZS ((Zt (sIf (Zdl (tV (ZcM (ZC (ZN (bOf (Zb 3))) ZU (ZbV (Zb 0) (Zn 3)))))) (ZG (eC .none)) ZaL)
  (Zt (ZW 4 (Zf (Z3 ap) (Za (Zb 0) (Za (Zb 2) (Za (eC (fnD 3 [])) Zg)))))
  (Zt (ZW 5 (Zej (Zah ap) 4 [2,4] (Zb 3)))
  (ZG (eOf (ZC (ZN (bOf (eOf (Zed (Zn 5))))) ZU (ZbW (Za (Zb 0) (Za (eIf (tV (op2 gGt (ZaS (bOf (ZT (Zn 6) (Zb 0)))) (eC (.int 0)))) (eIx (bOf (eIx (bOf (ZT (Zn 6) (Zb 0))) (eC (.int 0)))) (eC (.int 0))) (eC .none)) Zg)))))))))
   [some (.pl w.d),some (.pl (tupI ls)),some (.pl (.dict (Ze (Zk wf S)))),some (.pl (.list ((Zq w ls w.beg).map tupI))),none,none])=some q->ZI ap [w.d,tupI ls]=some q:=λq hq=>by
  show ZS (Zd8 ap [some (.pl w.d),some (.pl (tupI ls)),none,none,none,none])=_;unfold Zd8;refine ZM (P:=λq'=>ZS q'=_) (r':=[some (.pl w.d),some (.pl (tupI ls)),none,none,none,none]) (by simp[hc1]) ?_;refine ZM (P:=λq'=>ZS q'=_) (r':=[some (.pl w.d),some (.pl (tupI ls)),none,none,none,none]) (by simp[hc2]) ?_;refine ZM (P:=λq'=>ZS q'=_) st2 ?_;exact ZM (P:=λq'=>ZS q'=_) st3 hq
 by_cases hS:∀p∈Zq w ls w.beg,p∈S
 ·have hb1:((Zq w ls w.beg).all λp=>decide (p∈S))=true:=ZyR.mpr λp hp=>decide_eq_true (hS p hp)
  rw[hb1]at hal;have O:ZoG (pwV wf R) (λc=>c∈S):=by
   have hbi:∀c∈S,∀y∈pwV wf R c,y∈wf c:=λc hc y hy=>by
    unfold pwV at hy;split at hy
    ·simp at hy
    ·rename_i h0
     obtain⟨n,hn⟩:=hall c hc;obtain⟨_,_,_,hin⟩:=ZlI J.rc.cl F hc hn h0;rw[ZyY.mp hy];exact hin
   refine⟨λc hc y hy p hp=>J.rc.cl c hc y (hbi c hc y hy) p hp,λc hc=>?_,λc hc y hy=>?_,λC hn hC=>?_⟩
   ·unfold pwV
    split<;>simp
   ·exact O0.ps c (J.rc.cr c hc) y (J.sub c y (hbi c hc y hy))
   ·exact ZzH (ZzC hn hC) J.rc.len
  have ha:∀c,c∈S->ap 4 [.dict (Ze (Zk wf S)),.dict (Ze (encM R))] [tupI c]=some (.list ((pwV wf R c).map wyD)):=λc hc=>by rw[A.l4];unfold ZfN;rw[if_pos ⟨rfl,rfl,by rw[ZzV,ZdR 19]; rfl⟩];exact Zlc A.z3 J.rc F hall hc
  obtain⟨L2,hL2,I2⟩:=Zk2 O ha (B:=Zq w ls w.beg) hS (by omega);have y1:∀c∈S,∀y∈wf c,∃d:Int,y.1=dI d:=λc hc y hy=>by obtain⟨d,_,rfl⟩:=ZyU.mp (J.sub c y hy);exact⟨d,rfl⟩
  have n1:noF 20 (.dict (Ze (Zk wf S)))=true:=Zq5 (n:=14) λc hc y hy=>by obtain⟨d,e⟩:=y1 c hc y hy;rw[e];exact Zjw _ _
  have hbi:∀c∈S,∀y∈pwV wf R c,y∈wf c:=λc hc y hy=>by
   unfold pwV at hy;split at hy
   ·simp at hy
   ·rename_i h0
    obtain⟨n,hn⟩:=hall c hc;obtain⟨_,_,_,hin⟩:=ZlI J.rc.cl F hc hn h0;rw[ZyY.mp hy];exact hin
  have n2:noF 20 (.dict (Ze (Zk (pwV wf R) L2)))=true:=Zq5 (n:=14) λc hc y hy=>by obtain⟨d,e⟩:=y1 c (I2.cr c hc) y (hbi c (I2.cr c hc) y hy);rw[e];exact Zjw _ _
  have hl32:L2.length<=32:=by have h1:=Zlp I2.nd λc hc=>(J.rc.cr c (I2.cr c hc)).1;have h2:2 ^ w.many<=2 ^ 5:=Nat.pow_le_pow_right (by decide) h5;have h3:2 ^ 5=32:=rfl;omega
  have hso:=Zll L2 (by omega) (.inr λk hk=>(J.rc.cr k (I2.cr k hk)).2);have st5:Zej (Zah ap) 4 [2,4] (Zb 3) [some (.pl w.d),some (.pl (tupI ls)),some (.pl (.dict (Ze (Zk wf S)))),some (.pl (.list ((Zq w ls w.beg).map tupI))),some (.pl (.dict (Ze (encM R)))),none]=some (.dict (Ze (Zk (pwV wf R) L2))):=by show(if[ZDW (Ze (Zk wf S)),.dict (Ze (encM R))].all (noF 20)=true then(match Zah ap [.list ((Zq w ls w.beg).map tupI),fnD 4 [.dict (Ze (Zk wf S)),.dict (Ze (encM R))]]with | some d=>if noF 20 d=true then some d else none | none=>none)else none)=_;rw[if_pos (by rw[ZzV,ZzV,n1,Zxs (n:=19) R]; rfl),hL2];dsimp only;rw[if_pos n2]
  have hsw:Zed (Zn 5) [some (.pl w.d),some (.pl (tupI ls)),some (.pl (.dict (Ze (Zk wf S)))),some (.pl (.list ((Zq w ls w.beg).map tupI))),some (.pl (.dict (Ze (encM R)))),some (.pl (.dict (Ze (Zk (pwV wf R) L2))))]=some (.ol ((Zdp L2).map tupI)):=by show(match ZdV (Ze (Zk (pwV wf R) L2))with | some kvs=>(ZcX (kvs.map λ(p:List Ky × D)=>ZzD (p.1.map Zao))).map λds=>B.ol ds | none=>none)=_;rw[dec_enc];dsimp only;rw[Zi9,hso];rfl
  have hcomp:∀K:List (List Int),(∀c∈K,c∈L2)->∃xs,Zaq ZU (ZbW (Za (Zb 0) (Za (eIf (tV (op2 gGt (ZaS (bOf (ZT (Zn 6) (Zb 0)))) (eC (.int 0)))) (eIx (bOf (eIx (bOf (ZT (Zn 6) (Zb 0))) (eC (.int 0)))) (eC (.int 0))) (eC .none)) Zg))) [some (.pl w.d),some (.pl (tupI ls)),some (.pl (.dict (Ze (Zk wf S)))),some (.pl (.list ((Zq w ls w.beg).map tupI))),some (.pl (.dict (Ze (encM R)))),some (.pl (.dict (Ze (Zk (pwV wf R) L2))))] (K.map tupI)=some xs:=by
   intro K hK;refine⟨K.map λc=>.tuple [tupI c,if Zm R c=some 0 then .none else(Zc3 wf R c).1],?_⟩;rw[Za2 tupI (λc=>.tuple [tupI c,if Zm R c=some 0 then .none else(Zc3 wf R c).1])];intro c hc;have hk:Zbe (tupI c)=some (Zae c):=ZaK c;have hlw:=ZdA (pwV wf R) L2 c;rw[if_pos (hK c hc)]at hlw;have hg:ZT (Zn 6) (Zb 0) (some (.pl (tupI c))::[some (.pl w.d),some (.pl (tupI ls)),some (.pl (.dict (Ze (Zk wf S)))),some (.pl (.list ((Zq w ls w.beg).map tupI))),some (.pl (.dict (Ze (encM R)))),some (.pl (.dict (Ze (Zk (pwV wf R) L2))))])=some (.list ((pwV wf R c).map wyD)):=by simp[dec_enc,hk,hlw]
   generalize ZT (Zn 6) (Zb 0)=E at hg ⊢;generalize hEnv:(some (.pl (tupI c))::[some (.pl w.d),some (.pl (tupI ls)),some (.pl (.dict (Ze (Zk wf S)))),some (.pl (.list ((Zq w ls w.beg).map tupI))),some (.pl (.dict (Ze (encM R)))),some (.pl (.dict (Ze (Zk (pwV wf R) L2))))]:HM.Env)=env at hg ⊢;have hv0:Zb 0 env=some (tupI c):=by rw[<-hEnv]; rfl
   have key:eIf (tV (op2 gGt (ZaS (bOf E)) (eC (.int 0)))) (eIx (bOf (eIx (bOf E) (eC (.int 0)))) (eC (.int 0))) (eC .none) env=some (if Zm R c=some 0 then .none else(Zc3 wf R c).1):=by
    unfold pwV at hg
    by_cases h0:Zm R c=some 0
    ·rw[if_pos h0]at hg ⊢
     have hle:ZaS (bOf E) env=some (.int 0):=by unfold ZaS bOf; rw[hg]; rfl
     unfold eIf tV op2;rw[hle];rfl
    ·rw[if_neg h0]at hg ⊢
     have hle:ZaS (bOf E) env=some (.int 1):=by unfold ZaS bOf; rw[hg]; rfl
     have h1:eIx (bOf E) (eC (.int 0)) env=some (wyD (Zc3 wf R c)):=by unfold eIx bOf;rw[hg];exact Zdj (ds:=[wyD (Zc3 wf R c)]) (j:=0) rfl
     have h2:eIx (bOf (eIx (bOf E) (eC (.int 0)))) (eC (.int 0)) env=some (Zc3 wf R c).1:=by generalize eIx (bOf E) (eC (.int 0))=E2 at h1 ⊢;unfold eIx bOf;rw[h1];exact Zdj (ds:=[(Zc3 wf R c).1,.list ((Zc3 wf R c).2.map Zbk)]) (j:=0) rfl
     generalize eIx (bOf (eIx (bOf E) (eC (.int 0)))) (eC (.int 0))=E3 at h2 ⊢;unfold eIf tV op2;rw[hle];exact h2
   generalize eIf (tV (op2 gGt (ZaS (bOf E)) (eC (.int 0)))) (eIx (bOf (eIx (bOf E) (eC (.int 0)))) (eC (.int 0))) (eC .none)=E4 at key ⊢;generalize Zb 0=E5 at hv0 ⊢;generalize (if Zm R c=some 0 then PyData.none else(Zc3 wf R c).1)=z at key ⊢;simp[key,hv0]
  obtain⟨xs,hx⟩:=hcomp (Zdp L2) λc hc=>(ZcY L2).mem_iff.mp hc;refine⟨wf,S,.list xs,base _ ?_,J.sub,hall,λn p hp hw=>J.win p (hbg p hp) n hw,.inl ⟨hS,xs,rfl⟩⟩;refine ZM (P:=λq'=>ZS q'=_) (r':=[some (.pl w.d),some (.pl (tupI ls)),some (.pl (.dict (Ze (Zk wf S)))),some (.pl (.list ((Zq w ls w.beg).map tupI))),none,none]) ?_ ?_
  ·have ht:Zdl (tV (ZcM (ZC (ZN (bOf (Zb 3))) ZU (ZbV (Zb 0) (Zn 3))))) [some (.pl w.d),some (.pl (tupI ls)),some (.pl (.dict (Ze (Zk wf S)))),some (.pl (.list ((Zq w ls w.beg).map tupI))),none,none]=some false:=by
    unfold Zdl tV;rw[hal];rfl
   unfold sIf;rw[ht];rfl
  refine ZM (P:=λq'=>ZS q'=_) (r':=[some (.pl w.d),some (.pl (tupI ls)),some (.pl (.dict (Ze (Zk wf S)))),some (.pl (.list ((Zq w ls w.beg).map tupI))),some (.pl (.dict (Ze (encM R)))),none]) ?_ ?_
  ·have:Zf (Z3 ap) (Za (Zb 0) (Za (Zb 2) (Za (eC (fnD 3 [])) Zg))) [some (.pl w.d),some (.pl (tupI ls)),some (.pl (.dict (Ze (Zk wf S)))),some (.pl (.list ((Zq w ls w.beg).map tupI))),none,none]=some (.dict (Ze (encM R))):=hlu
   unfold ZW;rw[this];rfl
  refine ZM (P:=λq'=>ZS q'=_) (r':=[some (.pl w.d),some (.pl (tupI ls)),some (.pl (.dict (Ze (Zk wf S)))),some (.pl (.list ((Zq w ls w.beg).map tupI))),some (.pl (.dict (Ze (encM R)))),some (.pl (.dict (Ze (Zk (pwV wf R) L2))))]) ?_ ?_
  ·unfold ZW
   rw[st5];rfl
  have hI:ZN (bOf (eOf (Zed (Zn 5)))) [some (.pl w.d),some (.pl (tupI ls)),some (.pl (.dict (Ze (Zk wf S)))),some (.pl (.list ((Zq w ls w.beg).map tupI))),some (.pl (.dict (Ze (encM R)))),some (.pl (.dict (Ze (Zk (pwV wf R) L2))))]=some ((Zdp L2).map tupI):=by unfold ZN bOf eOf;rw[hsw];rfl
  have hf:=ZhS hI (by rw[ZyJ,(ZcY L2).length_eq]; omega) hx;have hf2:eOf (ZC (ZN (bOf (eOf (Zed (Zn 5))))) ZU (ZbW (Za (Zb 0) (Za (eIf (tV (op2 gGt (ZaS (bOf (ZT (Zn 6) (Zb 0)))) (eC (.int 0)))) (eIx (bOf (eIx (bOf (ZT (Zn 6) (Zb 0))) (eC (.int 0)))) (eC (.int 0))) (eC .none)) Zg)))) [some (.pl w.d),some (.pl (tupI ls)),some (.pl (.dict (Ze (Zk wf S)))),some (.pl (.list ((Zq w ls w.beg).map tupI))),some (.pl (.dict (Ze (encM R)))),some (.pl (.dict (Ze (Zk (pwV wf R) L2))))]=some (.list xs):=by show(ZC _ _ _ _).bind frz=_;rw[hf];rfl
  unfold ZG;rw[hf2];rfl
 ·have hb1:((Zq w ls w.beg).all λp=>decide (p∈S))=false:=by
   cases q:(Zq w ls w.beg).all λp=>decide (p∈S)with
   | false=>rfl
   | true=>exact absurd (λp hp=>of_decide_eq_true (ZyR.mp q p hp)) hS
  rw[hb1]at hal;refine⟨wf,S,.none,base _ ?_,J.sub,hall,λn p hp hw=>J.win p (hbg p hp) n hw,.inr ⟨hS,rfl⟩⟩;have ht:Zdl (tV (ZcM (ZC (ZN (bOf (Zb 3))) ZU (ZbV (Zb 0) (Zn 3))))) [some (.pl w.d),some (.pl (tupI ls)),some (.pl (.dict (Ze (Zk wf S)))),some (.pl (.list ((Zq w ls w.beg).map tupI))),none,none]=some true:=by unfold Zdl tV;rw[hal];rfl
  show ZS (Zt (sIf _ _ _) _ _)=_;unfold Zt sIf;rw[ht];rfl
end
end HG20
namespace HG20
open PySem HM
open HG
open HG4
open HG5
open HG6
open HG22 (ZeT ZqW ZhW Zid Zox)
theorem Zp4{w:Wk}{c c':List Int}{d:Int}(h:∀x∈c',x∈c)(q:ZbP w c d=true):ZbP w c' d=true :=
 ZyR.mpr λs hs=>ZyR.mp q s (h s hs)
theorem ZgK{w:Wk}{c c':List Int}(h:∀x∈c',x∈c)(q:ZD w c=true):ZD w c'=true :=
 ZyR.mpr λs hs=>ZyR.mp q s (h s hs)
theorem Zl2{w:Wk}{c c':List Int}(h:∀x∈c',x∈c)(d:Int):∀x∈Zap w c' d,x∈Zap w c d:=λx hx=>by obtain⟨s,hs,hr⟩:=Zfe.mp hx;exact Zfe.mpr ⟨s,h s hs,hr⟩
theorem ZtR{w:Wk}{ls la:List Int}(h:∀l∈ls,l∈la){x y:Int}(e:ZO w la x=ZO w la y):ZO w ls x=ZO w ls y:=by unfold ZO at *;refine Zz7 λl hl=>?_;have:=List.map_inj_left.mp e l (h l hl);exact this
theorem Zh9{w:Wk}{ls la:List Int}(hls:∀l∈ls,l∈la){c c':List Int}(h:∀x∈c',x∈c)(s:Int):∀x∈Zc1 w la c' s,x∈Zc1 w ls c s:=λx hx=>by obtain⟨h1,h2⟩:=Zy6.mp hx;refine Zy6.mpr ⟨h x h1,?_⟩;exact beq_iff_eq.mpr (ZtR hls (beq_iff_eq.mp h2))
theorem Zn2{w:Wk}{ls la:List Int}(hls:∀l∈ls,l∈la):∀(n:Nat) (c c':List Int),(∀x∈c',x∈c)->Win w ls n c=true->Win w la n c'=true
 | 0,c,c',h,q=>ZgK h q
 | n+1,c,c',h,q=>by
  have q:(ZD w c||(ZyP w.deeds.length).any λd=>ZbP w c d&&(Zq w ls (Zap w c d)).all λp=>Win w ls n p)=true:=q;show(ZD w c'||(ZyP w.deeds.length).any λd=>ZbP w c' d&&(Zq w la (Zap w c' d)).all λp=>Win w la n p)=true;rw[Zzt]at q ⊢;rcases q with q | q
  ·exact .inl (ZgK h q)
  ·right
   obtain⟨d,hd,q⟩:=ZyV.mp q;rw[Zy5]at q;refine ZyV.mpr ⟨d,hd,?_⟩;rw[Zy5];refine⟨Zp4 h q.1,ZyR.mpr λp' hp'=>?_⟩;obtain⟨s,hs,rfl⟩:=Zbi.mp hp';have hs':=Zl2 h d s hs;exact Zn2 hls n (Zc1 w ls (Zap w c d) s) _ (Zh9 hls (Zl2 h d) s) (ZyR.mp q.2 _ (Zbi.mpr ⟨s,hs',rfl⟩))
theorem Zsa{w:Wk}{ls la:List Int}(hls:∀l∈ls,l∈la){n:Nat}(h:ZlT w ls n):ZlT w la n:=λp hp=>by obtain⟨s,hs,rfl⟩:=Zbi.mp hp;exact Zn2 hls n (Zc1 w ls w.beg s) _ (Zh9 hls (λ_ h=>h) s) (h _ (Zbi.mpr ⟨s,hs,rfl⟩))
theorem Zin{w:Wk}{ls c:List Int}{s:Int}(hs:s∈c):s∈Zc1 w ls c s:=Zy6.mpr ⟨hs,beq_self_eq_true _⟩
theorem Zqg{w:Wk}{ls la:List Int}(hls:∀l∈ls,l∈la):∀(n:Nat) (c:List Int),c≠[]->Lk w (wfV w ls) n c=true->∃s∈c,∀c',(∀x∈c',x∈c)->s∈c'->Lk w (wfV w la) n c'=true
 | 0,c,h0,q=>by obtain⟨s,hs⟩:=ZAK _ h0;exact⟨s,hs,λc' h _=>ZgK h q⟩
 | n+1,c,h0,q=>by
  have q:(ZD w c||(wfV w ls c).any λy=>(wyP y).any (Lk w (wfV w ls) n))=true:=q;rw[Zzt]at q;rcases q with q | q
  ·obtain⟨s,hs⟩:=ZAK _ h0
   exact⟨s,hs,λc' h _=>ZgL (n:=0) (ZzN _) (ZgK h q)⟩
  ·obtain⟨y,hy,q⟩:=ZyV.mp q
   obtain⟨p,hp,q⟩:=ZyV.mp q;obtain⟨d,hd,rfl⟩:=ZyU.mp hy;obtain⟨d0,d1,d2⟩:=Zc5 hd;have hp:p∈Zq w ls (Zap w c d):=hp;obtain⟨s0,hs0,rfl⟩:=Zbi.mp hp;obtain⟨t,ht,g⟩:=Zqg hls n _ (ZBv (Zin hs0)) q;obtain⟨htl,hts⟩:=Zy6.mp ht;obtain⟨s,hs,hr⟩:=Zfe.mp htl;refine⟨s,hs,λc' h hsc=>?_⟩;have htc:t∈Zap w c' d:=Zfe.mpr ⟨s,hsc,hr⟩;have e:((d.toNat:Nat):Int)=d:=ZAU d0;have hdo:d∈doV w c':=by
    have:=ZjA (w:=w) (c:=c') (d:=d.toNat) (by omega) (by rw[e]; exact Zp4 h d2)
    rwa [e]at this
   have hy':Zil w la c' d∈wfV w la c':=ZyU.mpr ⟨d,hdo,rfl⟩;have hp':Zc1 w la (Zap w c' d) t∈wyP (Zil w la c' d):=Zbi.mpr ⟨t,htc,rfl⟩;refine Zld hy' hp' (g _ (λx hx=>?_) (Zin htc));have h1:=Zh9 hls (Zl2 h d) t x hx;obtain⟨h2,h3⟩:=Zy6.mp h1;refine Zy6.mpr ⟨h2,?_⟩;rw[beq_iff_eq]at h3 hts ⊢;rw[h3,hts]
theorem Zs6{w:Wk}{ls la:List Int}(hls:∀l∈ls,l∈la){n:Nat}(h:∃p∈Zq w ls w.beg,Lk w (wfV w ls) n p=true):∃p∈Zq w la w.beg,Lk w (wfV w la) n p=true:=by obtain⟨p,hp,q⟩:=h;obtain⟨s0,hs0,rfl⟩:=Zbi.mp hp;obtain⟨s,hs,g⟩:=Zqg hls n _ (ZBv (Zin hs0)) q;have hsb:=(Zy6.mp hs).1;have hse:=(Zy6.mp hs).2;refine⟨Zc1 w la w.beg s,Zbi.mpr ⟨s,hsb,rfl⟩,g _ (λx hx=>?_) (Zin hsb)⟩;obtain⟨h2,h3⟩:=Zy6.mp (Zh9 hls (λ_ h=>h) s x hx);refine Zy6.mpr ⟨h2,?_⟩;rw[beq_iff_eq]at h3 hse ⊢;rw[h3,hse]
def plV(w:Wk):Wk:={ w with deeds:=w.deeds.map λdd=>dd.map λr=>r.take 1,looks:=[(ZyP w.many).map λ(k:Nat)=>(k:Int)] }
theorem Zwg(w:Wk):plV w=ZeT { w with deeds:=w.deeds.map λdd=>dd.map λr=>r.take 1 }:=rfl
theorem Zv9{w:Wk}(hv:Wk.V w):Wk.V (plV w):=by
 rw[Zwg];refine ZqW ⟨hv.m1,hv.m2,by rw[ZyJ]; exact hv.d1,by rw[ZyJ]; exact hv.d2,λdd hd=>?_,λdd hd c hc=>?_,hv.l2,hv.ll,hv.lc,hv.b1,hv.bc,hv.gc⟩
 ·obtain⟨d0,h0,rfl⟩:=ZyU.mp hd
  rw[ZyJ];exact hv.dl d0 h0
 ·obtain⟨d0,h0,rfl⟩:=ZyU.mp hd
  obtain⟨c0,h1,rfl⟩:=ZyU.mp hc;have:=hv.dc d0 h0 c0 h1;exact⟨this.1.take,λx hx=>this.2 x (List.mem_of_mem_take hx)⟩
theorem ZvM(w:Wk)(d s:Int):(Zci (plV w) d s).length<=1:=by
 unfold Zci;show((((w.deeds.map λdd=>dd.map λr=>r.take 1)[d.toNat]?.getD [])[s.toNat]?.getD []:List Int)).length<=1;rw[Zy2];cases w.deeds[d.toNat]? with
 | none=>simp
 | some dd =>
  show(((dd.map λr=>r.take 1)[s.toNat]?.getD []:List Int)).length<=1;rw[Zy2];cases dd[s.toNat]? with
  | none=>simp
  | some r=>show(r.take 1).length<=1; rw[Zz6]; omega
theorem Zst{w:Wk}(hv:Wk.V w){wf:Wf}(hw:∀c,∀y∈wf c,y∈wfV (plV w) [0] c):∀(n:Nat) (s:Int),0<=s->s<(w.many:Int)->Lk (plV w) wf n [s]=true->Win (plV w) [0] n [s]=true
 | 0,s,_,_,q=>q
 | n+1,s,h0,h1,q=>by
  have q:(ZD (plV w) [s]||(wf [s]).any λy=>(wyP y).any (Lk (plV w) wf n))=true:=q;show(ZD (plV w) [s]||(ZyP (plV w).deeds.length).any λd=>ZbP (plV w) [s] d&&(Zq (plV w) [0] (Zap (plV w) [s] d)).all λp=>Win (plV w) [0] n p)=true;rw[Zzt]at q ⊢;rcases q with q | q
  ·exact .inl q
  ·right
   obtain⟨y,hy,q⟩:=ZyV.mp q;obtain⟨p,hp,q⟩:=ZyV.mp q;obtain⟨d,hd,rfl⟩:=ZyU.mp (hw _ y hy);obtain⟨d0,d1,d2⟩:=Zc5 hd;have e:((d.toNat:Nat):Int)=d:=ZAU d0;have hcr:Cr w.many (Zap (plV w) [s] d):=ZfY (Zv9 hv) (c:=[s]) (Zox (w:=w) h0 h1) d0 d1;refine ZyV.mpr ⟨d.toNat,Zy7.mpr (by omega),?_⟩;rw[e,Zy5];refine⟨d2,ZyR.mpr λp' hp'=>?_⟩;have hp:p∈Zq (plV w) [0] (Zap (plV w) [s] d):=hp;obtain⟨t,ht,rfl⟩:=Zbi.mp hp;obtain⟨t',ht',rfl⟩:=Zbi.mp hp';have ett:t'=t:=by
    obtain⟨s1,hs1,r1⟩:=Zfe.mp ht;obtain⟨s2,hs2,r2⟩:=Zfe.mp ht';rw[ZyY.mp hs1]at r1;rw[ZyY.mp hs2]at r2;have hl:=ZvM w d s
    match hr:Zci (plV w) d s,hl,r1,r2 with
    | [],_,r1,_=>simp at r1
    | [z],_,r1,r2=>rw[ZyY.mp r1,ZyY.mp r2]
    | _::_::_,hl,_,_=>simp at hl
   rw[ett];have es:Zc1 (plV w) [0] (Zap (plV w) [s] d) t=[t]:=ZhW (w:={ w with deeds:=w.deeds.map λdd=>dd.map λr=>r.take 1 }) hcr ht;rw[es]at q ⊢;obtain⟨b0,b1⟩:=hcr.2 t ht;exact Zst hv hw n t b0 b1 q
theorem ZmC{w:Wk}{ls:List Int}:∀P:List (List Int),(∀p∈P,∃n,Win w ls n p=true)->∃N,∀p∈P,Win w ls N p=true
 | [],_=>⟨0,λp hp=>by simp at hp⟩
 | p::P,h=>by
  obtain⟨N,hN⟩:=ZmC P λq hq=>h q (ZyQ _ hq);obtain⟨n,hn⟩:=h p (ZyO ..);refine⟨N+n,λq hq=>?_⟩;rcases Zzb.mp hq with e | e
  ·rw[e]; exact Zfq (by omega) hn
  ·exact Zfq (by omega) (hN q e)
end HG20
namespace HG20
open PySem HM
open HG
open HG4
open HG5
open HG6
open HG22 (ZeT ZqW ZhW Zid Zox)
def Zu:D->Bool
 | .none=>false
 | _=>true
theorem Zgx(d:D):Zbx d .none=some (.bool (Zu d)):=by cases d<;>rfl
theorem Zqj(d:D):ZgA d .none=some (.bool (!Zu d)):=by cases d<;>rfl
def Zc2(a b c:Bool):D:=.str (Zzd (if a then "sure" else if b then "patient" else if c then "lucky" else "never"))
theorem Zhj{ap:AP}{x y d1 d2 d3:D}(e1:ZaJ ap [x,y]=some d1)(e2:ZI ap [x,y]=some d2)(e3:ZaW ap [x,y]=some d3):Zb5 ap [x,y]=some (Zc2 (Zu d1) (Zu d2) (Zu d3)):=by
 have t1:tV (op2 Zbx (Zf (ZaJ ap) (Za (Zb 0) (Za (Zb 1) Zg))) (eC .none)) [some (.pl x),some (.pl y)]=some (Zu d1):=by have:Zf (ZaJ ap) (Za (Zb 0) (Za (Zb 1) Zg)) [some (.pl x),some (.pl y)]=some d1:=e1;unfold tV op2;rw[this];show(match Zbx d1 .none with | some (.bool b)=>some b | _=>none)=_;rw[Zgx]
 have t2:tV (op2 Zbx (Zf (ZI ap) (Za (Zb 0) (Za (Zb 1) Zg))) (eC .none)) [some (.pl x),some (.pl y)]=some (Zu d2):=by have:Zf (ZI ap) (Za (Zb 0) (Za (Zb 1) Zg)) [some (.pl x),some (.pl y)]=some d2:=e2;unfold tV op2;rw[this];show(match Zbx d2 .none with | some (.bool b)=>some b | _=>none)=_;rw[Zgx]
 have t3:tV (op2 Zbx (Zf (ZaW ap) (Za (Zb 0) (Za (Zb 1) Zg))) (eC .none)) [some (.pl x),some (.pl y)]=some (Zu d3):=by have:Zf (ZaW ap) (Za (Zb 0) (Za (Zb 1) Zg)) [some (.pl x),some (.pl y)]=some d3:=e3;unfold tV op2;rw[this];show(match Zbx d3 .none with | some (.bool b)=>some b | _=>none)=_;rw[Zgx]
 show ZS (ZgU ap [some (.pl x),some (.pl y)])=_;unfold ZgU Zc2;cases h1:Zu d1 with
 | true=>unfold Zt sIf; rw[t1,h1]; rfl
 | false =>
  refine ZM (P:=λq=>ZS q=_) (r':=[some (.pl x),some (.pl y)]) (by unfold sIf; rw[t1,h1]; rfl) ?_;cases h2:Zu d2 with
  | true=>unfold Zt sIf; rw[t2,h2]; rfl
  | false =>
   refine ZM (P:=λq=>ZS q=_) (r':=[some (.pl x),some (.pl y)]) (by unfold sIf; rw[t2,h2]; rfl) ?_;cases h3:Zu d3 with
   | true=>unfold Zt sIf; rw[t3,h3]; rfl
   | false=>refine ZM (P:=λq=>ZS q=_) (r':=[some (.pl x),some (.pl y)]) (by unfold sIf; rw[t3,h3]; rfl) ?_;rfl
theorem Zjy{w:Wk}{ls:List Int}{d:D}(f:Few w ls d):Zu d=true↔∃n,ZlT w ls n:=by
 rcases f with⟨n,rfl,h,_⟩ | ⟨rfl,h⟩
 ·exact⟨λ_=>⟨n,h⟩,λ_=>rfl⟩
 ·exact⟨λz=>(by cases z),λ⟨n,z⟩=>absurd z (h n)⟩
theorem Zud{w:Wk}{ls:List Int}{d:D}(f:ZqT w ls d):Zu d=true↔∃n,∃p∈Zq w ls w.beg,Lk w (wfV w ls) n p=true:=by
 rcases f with⟨n,rfl,h,_⟩ | ⟨rfl,h⟩
 ·exact⟨λ_=>⟨n,h⟩,λ_=>rfl⟩
 ·refine⟨λz=>(by cases z),λ⟨n,p,hp,z⟩=>?_⟩
  rw[h n p hp]at z;cases z
theorem three{w:Wk}(hv:Wk.V w)(h5:w.many<=5){ls:List Int}(hl:Cr w.looks.length ls){ap ap0:AP}(A:ApQ ap ap0):∃d1 d2 d3,ZaJ ap [w.d,tupI ls]=some d1/\ZI ap [w.d,tupI ls]=some d2/\ZaW ap [w.d,tupI ls]=some d3/\Few w ls d1/\ZqT w ls d3/\(Zu d1=true->Zu d2=true)/\(Zu d2=true->Zu d3=true) /\
  (Zu d2=true->∃wf:Wf,(∀c,∀y∈wf c,y∈wfV w ls c)/\∀p∈Zq w ls w.beg,∃n,Lk w wf n p=true):=by
 have h7:w.many<=7:=by omega
 obtain⟨d1,e1,f1⟩:=ZrX hv h7 hl A.d;obtain⟨d3,e3,f3⟩:=Zre hv h7 hl A;obtain⟨wf,S,d2,e2,hsub,hall,hwin,hd⟩:=Zrx hv h7 hl A h5;obtain⟨p0,hp0⟩:=ZAK _ (Ze6 (w:=w) (ls:=ls) hv.b1);have hpat:Zu d2=true↔∀p∈Zq w ls w.beg,p∈S:=by
  rcases hd with⟨h,xs,rfl⟩ | ⟨h,rfl⟩
  ·exact⟨λ_=>h,λ_=>rfl⟩
  ·exact⟨λz=>(by cases z),λz=>absurd z h⟩
 refine⟨d1,d2,d3,e1,e2,e3,f1,f3,λh=>?_,λh=>?_,λh=>⟨wf,hsub,λp hp=>hall p (hpat.mp h p hp)⟩⟩
 ·obtain⟨n,hn⟩:=(Zjy f1).mp h
  exact hpat.mpr λp hp=>hwin n p hp (hn p hp)
 ·obtain⟨n,hn⟩:=hall p0 (hpat.mp h p0 hp0)
  exact(Zud f3).mpr ⟨n,p0,hp0,ZrZ hsub n p0 hn⟩
theorem Zt6:ApQ ap ap0:=⟨⟨λ_=>rfl,λ_ _=>rfl⟩,λ_=>rfl,λ_=>rfl,λ_ _=>rfl⟩
theorem Zpe(ap:AP)(e0 e1 e2 e3 e4 e5 e8:Option B):∀(ds:List (List (List Int))) (acc:List D) (o7:Option B),(∀dd∈ds,dd.length<1000)->acc.length+ds.length<1000 ->
  ∃p7,Zbc 7 (Zhr ap) (ds.map ZF) [e0,e1,e2,e3,e4,e5,some (.ol acc),o7,e8]=some (.nx [e0,e1,e2,e3,e4,e5,some (.ol (acc++ds.map λdd=>ZF (dd.map λr=>r.take 1))),p7,e8])
 | [],acc,o7,_,_=>⟨o7,by rw[ZAN,ZAN,Zzu]; rfl⟩
 | dd::ds,acc,o7,hd,hl=>by
  rw[Zy3]at hl;have hdd:=hd dd (ZyO ..);obtain⟨p7,ih⟩:=Zpe ap e0 e1 e2 e3 e4 e5 e8 ds (acc++[ZF (dd.map λr=>r.take 1)]) (some (.pl (ZF dd))) (λx hx=>hd x (ZyQ _ hx)) (by rw[Zy8,ZAc]; omega);refine⟨p7,?_⟩;have hg:Zaq ZU (ZeP (Zb 0) none (some (eC (.int 1)))) [e0,e1,e2,e3,e4,e5,some (.ol acc),some (.pl (ZF dd)),e8] (dd.map tupI)=some ((dd.map λr=>r.take 1).map tupI):=by
   rw[Za2 tupI (λr=>tupI (r.take 1)),Zza]
   ·rfl
   ·intro r _
    show some (ZzD (cutD (r.map dI) none (some 1)))=_;congr 1;unfold tupI;congr 1;unfold cutD sIx;simp
  have hf:=ZhS (I:=ZN (bOf (Zb 7))) (c:=ZU) (e:=ZeP (Zb 0) none (some (eC (.int 1)))) (r:=[e0,e1,e2,e3,e4,e5,some (.ol acc),some (.pl (ZF dd)),e8]) (ds:=dd.map tupI) rfl (by rw[ZyJ]; omega) hg;have body:Zhr ap [e0,e1,e2,e3,e4,e5,some (.ol acc),some (.pl (ZF dd)),e8]=some (.nx [e0,e1,e2,e3,e4,e5,some (.ol (acc++[ZF (dd.map λr=>r.take 1)])),some (.pl (ZF dd)),e8]):=by
   have hv:Zam (ZC (ZN (bOf (Zb 7))) ZU (ZeP (Zb 0) none (some (eC (.int 1))))) [e0,e1,e2,e3,e4,e5,some (.ol acc),some (.pl (ZF dd)),e8]=some (ZF (dd.map λr=>r.take 1)):=by unfold Zam;rw[hf];rfl
   unfold Zhr;generalize Zam (ZC (ZN (bOf (Zb 7))) ZU (ZeP (Zb 0) none (some (eC (.int 1)))))=E at hv ⊢;have hal:acc.length<1000000:=by omega
   simp[hv,hal]
  rw[show acc++(dd::ds).map (λdd=>ZF (dd.map λr=>r.take 1))=(acc++[ZF (dd.map λr=>r.take 1)])++ds.map (λdd=>ZF (dd.map λr=>r.take 1)) by simp,<-ih,ZyS];show(match Zhr ap [e0,e1,e2,e3,e4,e5,some (.ol acc),some (.pl (ZF dd)),e8]with | some (.nx r')=>_ | some (.ct r')=>_ | some (.bk r')=>_ | some (.rt d)=>_ | none=>_)=_;rw[body]
theorem Zxd{a b c:Bool}(h1:a=true->b=true)(h2:b=true->c=true):ZdO [a,b,c]=[a,b,c]:=by cases a<;>cases b<;>cases c<;>first | rfl | exact absurd (h1 rfl) (by decide) | exact absurd (h2 rfl) (by decide)
theorem pl3(a b c:Bool):Za0 (.list [.bool a,.bool b,.bool c])=true:=by cases a<;>cases b<;>cases c<;>decide +kernel
theorem eq3(a b c:Bool):ZAx (.list [.bool a,.bool b,.bool c]) (.list [.bool a,.bool b,.bool c])=true:=by cases a<;>cases b<;>cases c<;>decide +kernel
theorem pls(a b c:Bool):Za0 (Zc2 a b c)=true:=by cases a<;>cases b<;>cases c<;>decide +kernel
theorem eqs(a b c:Bool):ZAx (Zc2 a b c) (Zc2 a b c)=true:=by cases a<;>cases b<;>cases c<;>decide +kernel
theorem Zsi(a b c:Bool):ZAx (Zc2 a b c) (.str (Zzd "sure"))=a:=by cases a<;>cases b<;>cases c<;>decide +kernel
theorem ZuU(a b c:Bool):ZAx (Zc2 a b c) (.str (Zzd "never"))=!(a||b||c):=by cases a<;>cases b<;>cases c<;>decide +kernel
theorem Zxj(a b c:Bool):ZAx (Zc2 a b c) (.str (Zzd "patient"))=(!a&&b):=by cases a<;>cases b<;>cases c<;>decide +kernel
theorem plw:Za0 (.str (Zzd "sure"))=true/\Za0 (.str (Zzd "never"))=true/\Za0 (.str (Zzd "patient"))=true:=⟨by decide +kernel,by decide +kernel,by decide +kernel⟩
theorem Znd{x y:D}{b:Bool}(h1:Za0 x=true)(h2:Za0 y=true)(h:ZAx x y=b):gNe x y=some (.bool (!b)):=by unfold gNe;rw[h1,h2,h];rfl
theorem Zq6{x y:D}{b:Bool}(h1:Za0 x=true)(h2:Za0 y=true)(h:ZAx x y=b):gEq x y=some (.bool b):=by unfold gEq;rw[h1,h2,h];rfl
theorem ZhT{g:D->D->Option D}{e f:EF}{r:HM.Env}{x y:D}{b:Bool}(h1:e r=some x)(h2:f r=some y)(h:g x y=some (.bool b)):tV (op2 g e f) r=some b:=by unfold tV op2;rw[h1,h2];show(match g x y with | some (.bool b)=>some b | _=>none)=_;rw[h]
theorem if_false{c:TF}{a:SF}{r:HM.Env}(h:c r=some false):sIf c a ZaL r=some (.nx r):=by unfold sIf;rw[h];rfl
theorem and_false{a b:TF}{r:HM.Env}{x:Bool}(h:a r=some x)(h':x=true->b r=some false):Zi6 a b r=some false:=by
 unfold Zi6;rw[h];cases x with
 | false=>rfl
 | true=>exact h' rfl
theorem Zkx(ns:List Int)(h:ns.length<=63):Zf4 ap [.list (ns.map dI)]=some (.bool true):=by
 have hv:=Wk.Ok.v (ZvJ ns 1);have h5:(wkV ns 1).many<=5:=(Zjx ns 1).2;have hw:=Zt1 ns 1 h;have hc0:=Zer ns 0;have hlk:=Zuf hv (ZB ns 0);have hl:=ZvK (wkV ns 1).looks.length (ZB ns 0);generalize wkV ns 1=w at *;generalize lkV w.looks.length (ZB ns 0)=ls at *;have hw':Za7 [.list (ns.map dI),.int 1]=some w.d:=hw;have hc':Zak [.list (ns.map dI),.int 0]=some (.int (ZB ns 0)):=hc0;have hal:=Zn0 hv;have hsub:∀l∈ls,l∈alV w:=λl h'=>by have hb:=hl.2 l h';exact ZyU.mpr ⟨l.toNat,Zy7.mpr (by omega),by omega⟩
 obtain⟨d1,d2,d3,e1,e2,e3,f1,f3,i12,i23,_⟩:=three hv h5 hl Zt6;obtain⟨a1,a2,a3,ea1,ea2,ea3,fa1,fa3,_,_,_⟩:=three hv h5 (Zwh w) Zt6;have hv':=Zv9 hv;have hl':Cr (plV w).looks.length [0]:=⟨List.pairwise_singleton ..,λx hx=>by rw[ZyY.mp hx]; exact⟨by decide,by show(0:Int)<((1:Nat):Int); decide⟩⟩;obtain⟨p1,p2,p3,ep1,ep2,ep3,fp1,fp3,ip12,ip23,ipat⟩:=three hv' h5 hl' Zt6;have hpp:Zu p2=true->Zu p1=true:=λhh=>by obtain⟨wf,hs,hp⟩:=ipat hh;refine(Zjy fp1).mpr (ZmC _ λp hp'=>?_);obtain⟨n,hn⟩:=hp p hp';obtain⟨t,ht,rfl⟩:=Zbi.mp hp';have es:Zc1 (plV w) [0] (plV w).beg t=[t]:=ZhW (w:={ w with deeds:=w.deeds.map λdd=>dd.map λr=>r.take 1 }) hv.bc ht;rw[es]at hn ⊢;obtain⟨b0,b1⟩:=hv.bc.2 t ht;exact⟨n,Zst hv hs n t b0 b1 hn⟩
 have hpq:Zu p1=Zu p2:=by
  cases h1:Zu p1 with
  | true=>exact(ip12 h1).symm
  | false=>cases h2:Zu p2 with
   | false=>rfl
   | true=>rw[hpp h2]at h1; cases h1
 have hsu:Zu d1=true->Zu a1=true:=λhh=>by obtain⟨n,hn⟩:=(Zjy f1).mp hh;exact(Zjy fa1).mpr ⟨n,Zsa hsub hn⟩
 have hlu:Zu d3=true->gGt a3 d3=some (.bool false):=λhh=>by
  rcases f3 with⟨n,rfl,hn,_⟩ | ⟨rfl,_⟩
  ·obtain⟨p,hp,q⟩:=Zs6 hsub hn
   rcases fa3 with⟨m,rfl,_,hm⟩ | ⟨rfl,hm⟩
   ·have:¬n<m:=λhlt=>by rw[hm n hlt p hp]at q; cases q
    show some (Zzl (decide ((n:Int)<(m:Int))))=_;rw[decide_eq_false (by omega)]
   ·rw[hm n p hp]at q; cases q
  ·cases hh
 have hs:=Zhj e1 e2 e3;have hsa:=Zhj ea1 ea2 ea3;have hsp:=Zhj ep1 ep2 ep3;have hdl:∀dd∈w.deeds,dd.length<1000:=λdd hd=>by have:=hv.dl dd hd; have:=hv.m2; omega
 have hdn:w.deeds.length<1000:=by have:=hv.d2; omega
 have hok:okR (w.many:Int)=true:=ZdT (by omega);show ZS (Zns ap [some (.pl (.list (ns.map dI))),none,none,none,none,none,none,none,none])=_;unfold Zns;refine ZM (P:=λq=>ZS q=_) (r':=[some (.pl (.list (ns.map dI))),some (.pl w.d),none,none,none,none,none,none,none]) (by simp[hw']) ?_;refine ZM (P:=λq=>ZS q=_) (r':=[some (.pl (.list (ns.map dI))),some (.pl w.d),some (.pl (tupI ls)),none,none,none,none,none,none]) (by simp[hc',hlk]) ?_;generalize (some (.pl (.list (ns.map dI))):Option B)=sc;refine ZM (P:=λq=>ZS q=_) (r':=[sc,some (.pl w.d),some (.pl (tupI ls)),some (.ol [.bool (Zu d1),.bool (Zu d2)]),none,none,none,none,none]) (by simp[e1,e2,Zgx,-Zbx]) ?_;refine ZM (P:=λq=>ZS q=_) (r':=[sc,some (.pl w.d),some (.pl (tupI ls)),some (.ol [.bool (Zu d1),.bool (Zu d2),.bool (Zu d3)]),none,none,none,none,none]) (by simp[e3,Zgx,-Zbx]) ?_;refine ZM (P:=λq=>ZS q=_) (r':=[sc,some (.pl w.d),some (.pl (tupI ls)),some (.pl (.list [.bool (Zu d1),.bool (Zu d2),.bool (Zu d3)])),none,none,none,none,none]) ?_ ?_
 ·refine if_false (r:=[sc,some (.pl w.d),some (.pl (tupI ls)),some (.pl (.list [.bool (Zu d1),.bool (Zu d2),.bool (Zu d3)])),none,none,none,none,none]) (ZhT (x:=.list [.bool (Zu d1),.bool (Zu d2),.bool (Zu d3)]) (y:=.list [.bool (Zu d1),.bool (Zu d2),.bool (Zu d3)]) rfl ?_ (Znd (pl3 ..) (pl3 ..) (eq3 ..)))
  show some (PyData.list ((ZdO [Zu d1,Zu d2,Zu d3]).map Zzl))=_;rw[Zxd i12 i23];rfl
 refine ZM (P:=λq=>ZS q=_) (r':=[sc,some (.pl w.d),some (.pl (tupI ls)),some (.pl (.list [.bool (Zu d1),.bool (Zu d2),.bool (Zu d3)])),some (.ol [.str (Zzd "never"),.str (Zzd "lucky"),.str (Zzd "patient"),.str (Zzd "sure")]),none,none,none,none]) rfl ?_;generalize hwd:([.str (Zzd "never"),.str (Zzd "lucky"),.str (Zzd "patient"),.str (Zzd "sure")]:List D)=wd;refine ZM (P:=λq=>ZS q=_) (r':=[sc,some (.pl w.d),some (.pl (tupI ls)),some (.pl (.list [.bool (Zu d1),.bool (Zu d2),.bool (Zu d3)])),some (.ol wd),some (.pl (Zc2 (Zu d1) (Zu d2) (Zu d3))),none,none,none]) (by simp[hs]) ?_;refine ZM (P:=λq=>ZS q=_) (r':=[sc,some (.pl w.d),some (.pl (tupI ls)),some (.pl (.list [.bool (Zu d1),.bool (Zu d2),.bool (Zu d3)])),some (.ol wd),some (.pl (Zc2 (Zu d1) (Zu d2) (Zu d3))),none,none,none]) ?_ ?_
 ·refine if_false (r:=[sc,some (.pl w.d),some (.pl (tupI ls)),some (.pl (.list [.bool (Zu d1),.bool (Zu d2),.bool (Zu d3)])),some (.ol wd),some (.pl (Zc2 (Zu d1) (Zu d2) (Zu d3))),none,none,none]) (ZhT (x:=Zc2 (Zu d1) (Zu d2) (Zu d3)) (y:=Zc2 (Zu d1) (Zu d2) (Zu d3)) rfl ?_ (Znd (pls ..) (pls ..) (eqs ..)))
  subst hwd
  revert i12 i23
  cases Zu d1<;>cases Zu d2<;>cases Zu d3<;>intro i12 i23<;>first | rfl | exact absurd (i12 rfl) (by decide) | exact absurd (i23 rfl) (by decide)
 generalize (some (.pl (.list [.bool (Zu d1),.bool (Zu d2),.bool (Zu d3)])):Option B)=s3;generalize (some (.ol wd):Option B)=s4;refine ZM (P:=λq=>ZS q=_) (if_false (and_false (x:=Zu d1) (ZhT (x:=Zc2 (Zu d1) (Zu d2) (Zu d3)) (y:=.str (Zzd "sure")) rfl rfl (Zq6 (pls ..) plw.1 (Zsi ..))) λhh=>?_)) ?_
 ·refine ZhT (x:=Zc2 (Zu a1) (Zu a2) (Zu a3)) (y:=.str (Zzd "sure")) (by simp[hal,hsa]) rfl ?_
  have:=Znd (pls (Zu a1) (Zu a2) (Zu a3)) plw.1 (Zsi ..);rw[hsu hh]at this ⊢;exact this
 refine ZM (P:=λq=>ZS q=_) (if_false (and_false (x:=Zu d1||Zu d2||Zu d3) (ZhT (x:=Zc2 (Zu d1) (Zu d2) (Zu d3)) (y:=.str (Zzd "never")) rfl rfl (by rw[Znd (pls ..) plw.2.1 (ZuU ..),Bool.not_not])) λhh=>?_)) ?_
 ·have h3:Zu d3=true:=by
   rw[Zzt,Zzt]at hh;rcases hh with(hh | hh) | hh
   ·exact i23 (i12 hh)
   ·exact i23 hh
   ·exact hh
  exact ZhT (x:=a3) (y:=d3) (by simp[hal,ea3]) (by simp[e3]) (hlu h3)
 generalize (some (.pl (Zc2 (Zu d1) (Zu d2) (Zu d3))):Option B)=s5;refine ZM (P:=λq=>ZS q=_) (r':=[sc,some (.pl w.d),some (.pl (tupI ls)),s3,s4,s5,some (.ol []),none,none]) rfl ?_;obtain⟨p7,hgo⟩:=Zpe ap sc (some (.pl w.d)) (some (.pl (tupI ls))) s3 s4 s5 none w.deeds [] none hdl (by rw[ZDm]; omega);rw[ZA0]at hgo;refine ZM (P:=λq=>ZS q=_) (r':=[sc,some (.pl w.d),some (.pl (tupI ls)),s3,s4,s5,some (.ol (w.deeds.map λdd=>ZF (dd.map λr=>r.take 1))),p7,none]) ?_ ?_
 ·have hi:ZN (bOf (eIx (Zn 1) (eC (.int 1)))) [sc,some (.pl w.d),some (.pl (tupI ls)),s3,s4,s5,some (.ol []),none,none]=some (w.deeds.map ZF):=rfl
  unfold ZbG;rw[hi];dsimp only;rw[if_pos (by rw[ZyJ]; show _<1000000; omega)];exact hgo
 refine ZM (P:=λq=>ZS q=_) (r':=[sc,some (.pl w.d),some (.pl (tupI ls)),s3,s4,s5,some (.ol (w.deeds.map λdd=>ZF (dd.map λr=>r.take 1))),p7,some (.pl (plV w).d)]) ?_ ?_
 ·have h7:ZcZ (ZbM (eIx (Zn 1) (eC (.int 0)))) [sc,some (.pl w.d),some (.pl (tupI ls)),s3,s4,s5,some (.ol (w.deeds.map λdd=>ZF (dd.map λr=>r.take 1))),p7,none]=some (tupI ((ZyP w.many).map λ(k:Nat)=>(k:Int))):=by
   have hi:ZbM (eIx (Zn 1) (eC (.int 0))) [sc,some (.pl w.d),some (.pl (tupI ls)),s3,s4,s5,some (.ol (w.deeds.map λdd=>ZF (dd.map λr=>r.take 1))),p7,none]=some ((ZyP w.many).map dN):=by show(if okR (w.many:Int)then some (ZcT 0 (w.many:Int).toNat)else none)=_;rw[hok,if_pos rfl,ZBy,Zat]
   unfold ZcZ;rw[hi];dsimp only;rw[if_pos (by rw[ZyJ,ZAa]; show _<1000000; omega)];unfold tupI;rw[Zza];rfl
  have h8:ZbW (Za (eIx (Zn 1) (eC (.int 0))) (Za (Zam (Zn 6)) (Za (ZbW (Za (ZcZ (ZbM (eIx (Zn 1) (eC (.int 0))))) Zg)) Zg))) [sc,some (.pl w.d),some (.pl (tupI ls)),s3,s4,s5,some (.ol (w.deeds.map λdd=>ZF (dd.map λr=>r.take 1))),p7,none]=some (.tuple [.int w.many,.tuple (w.deeds.map λdd=>ZF (dd.map λr=>r.take 1)),.tuple [tupI ((ZyP w.many).map λ(k:Nat)=>(k:Int))]]):=by have h6:eIx (Zn 1) (eC (.int 0)) [sc,some (.pl w.d),some (.pl (tupI ls)),s3,s4,s5,some (.ol (w.deeds.map λdd=>ZF (dd.map λr=>r.take 1))),p7,none]=some (.int w.many):=rfl;generalize ZcZ (ZbM (eIx (Zn 1) (eC (.int 0))))=E at h7 ⊢;generalize eIx (Zn 1) (eC (.int 0))=E0 at h6 ⊢;simp[h7,h6]
  have h9:ZeP (Zb 1) (some (eC (.int 3))) none [sc,some (.pl w.d),some (.pl (tupI ls)),s3,s4,s5,some (.ol (w.deeds.map λdd=>ZF (dd.map λr=>r.take 1))),p7,none]=some (.tuple [tupI w.beg,tupI w.goal]):=rfl;unfold ZW Zna;rw[h8,h9];show some (Out.nx _)=_;congr 3;unfold plV Wk.d;rw[Zza];rfl
 have hps:Zb5 ap [(plV w).d,.tuple [.int 0]]=some (Zc2 (Zu p1) (Zu p2) (Zu p3)):=hsp;have hp1:ZaJ ap [(plV w).d,.tuple [.int 0]]=some p1:=ep1;have hp2:ZI ap [(plV w).d,.tuple [.int 0]]=some p2:=ep2;generalize (plV w).d=pd at *;refine ZM (P:=λq=>ZS q=_) (if_false (ZhT (x:=Zc2 (Zu p1) (Zu p2) (Zu p3)) (y:=.str (Zzd "patient")) (by simp[hps]) rfl ?_)) ?_
 ·rw[Zq6 (pls ..) plw.2.2 (Zxj ..),hpq]
  cases Zu p2<;>rfl
 have k1:Zf (ZaJ ap) (Za (Zb 8) (Za (ZbW (Za (eC (.int 0)) Zg)) Zg)) [sc,some (.pl w.d),some (.pl (tupI ls)),s3,s4,s5,some (.ol (w.deeds.map λdd=>ZF (dd.map λr=>r.take 1))),p7,some (.pl pd)]=some p1:=hp1;have k2:Zf (ZI ap) (Za (Zb 8) (Za (ZbW (Za (eC (.int 0)) Zg)) Zg)) [sc,some (.pl w.d),some (.pl (tupI ls)),s3,s4,s5,some (.ol (w.deeds.map λdd=>ZF (dd.map λr=>r.take 1))),p7,some (.pl pd)]=some p2:=hp2;have j1:op2 ZgA (Zf (ZaJ ap) (Za (Zb 8) (Za (ZbW (Za (eC (.int 0)) Zg)) Zg))) (eC .none) [sc,some (.pl w.d),some (.pl (tupI ls)),s3,s4,s5,some (.ol (w.deeds.map λdd=>ZF (dd.map λr=>r.take 1))),p7,some (.pl pd)]=some (.bool (!Zu p1)):=by unfold op2;rw[k1];exact Zqj p1
 have j2:op2 ZgA (Zf (ZI ap) (Za (Zb 8) (Za (ZbW (Za (eC (.int 0)) Zg)) Zg))) (eC .none) [sc,some (.pl w.d),some (.pl (tupI ls)),s3,s4,s5,some (.ol (w.deeds.map λdd=>ZF (dd.map λr=>r.take 1))),p7,some (.pl pd)]=some (.bool (!Zu p2)):=by unfold op2;rw[k2];exact Zqj p2
 generalize op2 ZgA (Zf (ZaJ ap) (Za (Zb 8) (Za (ZbW (Za (eC (.int 0)) Zg)) Zg))) (eC .none)=E1 at j1 ⊢;generalize op2 ZgA (Zf (ZI ap) (Za (Zb 8) (Za (ZbW (Za (eC (.int 0)) Zg)) Zg))) (eC .none)=E2 at j2 ⊢;have hb:∀b:Bool,gEq (.bool b) (.bool b)=some (.bool true):=λb=>by cases b<;>exact Zq6 (by decide +kernel) (by decide +kernel) (by decide +kernel)
 unfold ZG op2;rw[j1,j2,hpq];show ZS ((gEq (.bool (!Zu p2)) (.bool (!Zu p2))).map Out.rt)=_;rw[hb];rfl
end HG20
namespace HT
open PySem PySem.Spec PyProof.Rows L2 HP HM
open HG
open HG4
open HG5
open HG6
open HG20
def top(i:Nat):Stmt:=PySem.Challenge.pw_halfseen_k20_whole_strengths.main.body.getD i (.Pass ⟨0,0,0,0⟩)
abbrev Zf5:Stmt:=top 9
abbrev ZiJ:Stmt:=top 10
abbrev Zf6:Stmt:=top 11
abbrev ZfH:Stmt:=top 12
abbrev ZfI:Stmt:=top 13
abbrev ZeA:Stmt:=top 14
abbrev ZeB:Stmt:=top 15
abbrev ZgV:Stmt:=top 16
abbrev Zf7:Stmt:=top 17
abbrev ZgW:Stmt:=top 18
abbrev ZgX:Stmt:=top 19
abbrev ZgY:Stmt:=top 20
abbrev ZhI:Stmt:=top 21
abbrev ZhJ:Stmt:=top 22
abbrev Zd9:Stmt:=top 23
abbrev Zf8:Stmt:=top 24
abbrev ZfJ:Stmt:=top 25
abbrev ZdJ:Stmt:=top 27
abbrev Zd3:Stmt:=top 28
abbrev ZiK:Stmt:=top 29
abbrev ZgE:Stmt:=top 30
abbrev Zfg:Stmt:=top 31
abbrev ZcH:Stmt:=top 33
abbrev ZeC:Stmt:=top 34
abbrev Zc9:Stmt:=top 35
abbrev Zfu:Stmt:=top 36
abbrev Zdg:Stmt:=top 37
abbrev Zfh:Stmt:=top 38
abbrev ZcW:Stmt:=top 39
abbrev ZeD:Stmt:=top 40
abbrev ZY:Stmt:=top 41
abbrev Zd0:Stmt:=top 42
abbrev Zf9:Stmt:=top 43
abbrev ZiL:Stmt:=top 44
abbrev ZdU:Stmt:=top 46
abbrev ZbC:Stmt:=top 47
abbrev ZfK:Stmt:=top 48
abbrev ZdK:Stmt:=top 49
abbrev Zea:Stmt:=top 50
abbrev ZeE:Stmt:=top 51
abbrev ZJ:Stmt:=top 52
abbrev ZgZ:Stmt:=top 53
abbrev Zg0:Stmt:=top 55
abbrev ZhK:Stmt:=top 56
abbrev ZeF:Stmt:=top 57
abbrev Zg1:Stmt:=top 58
abbrev Zg2:Stmt:=top 59
abbrev ZeG:Stmt:=top 60
abbrev ZeH:Stmt:=top 61
abbrev ZeI:Stmt:=top 62
structure Txt(K:ZyK)(mg:Str->Option Value):Prop where
 n_len:mg "len" = none
 n_tuple:mg "tuple" = none
 n_list:mg "list" = none
 n_set:mg "set" = none
 n_sorted:mg "sorted" = none
 n_range:mg "range" = none
 n_all:mg "all" = none
 n_isinstance:mg "isinstance" = none
 n_int:mg "int" = none
 n_bool:mg "bool" = none
 n_max:mg "max" = none
 n_min:mg "min" = none
 c_MOST_STATES:∃t,mg "MOST_STATES" = some (.int 8 t)
 c_MOST_DEEDS:∃t,mg "MOST_DEEDS" = some (.int 5 t)
 c_MOST_LOOKS:∃t,mg "MOST_LOOKS" = some (.int 4 t)
 c_MOST_SEEN:∃t,mg "MOST_SEEN" = some (.int 9 t)
section
variable[FX]{P:Program}{w:World}{K:ZyK}{mg:Str->Option Value}{base:Heap}{k:Nat}
variable{ap:HM.AP}
theorem Znt:Zz ["_law_script","_law_k"] ["_law_script","_law_k"] (Zh Zg0):=⟨rfl,rfl,rfl,by decide +kernel,rfl,by decide +kernel,by decide +kernel⟩
theorem Znu(T:Txt K mg){f:Addr}{fd:FuncData}(Fn:Fun K "_law_cell" "_law_cell" Zg0 f fd)(hm:mg "_law_cell" = some (.ref f))(hb:Binds K fd ["_law_script","_law_k"] []):Callee P w K mg base (k+1) "_law_cell" Zak :=
 Zy Fn Znt hm hb λcdv A outer s H E hr=>by
  have hu:=ZL hr;exact(Zj (Za3 (Z8 cLt (Zd 1) (ZbY T.n_len (Zx 0))) (Zp (ZA (Zau (Zx 0) (Zd 1)))) Zab)
  (Zp (ZA Zo)))
theorem Zpp:Zz ["_law_cell_here","_law_prime","_law_many"] ["_law_cell_here","_law_prime","_law_many"] (Zh ZhK):=⟨rfl,rfl,rfl,by decide +kernel,rfl,by decide +kernel,by decide +kernel⟩
theorem Zpq(T:Txt K mg){f:Addr}{fd:FuncData}(Fn:Fun K "_law_mix" "_law_mix" ZhK f fd)(hm:mg "_law_mix" = some (.ref f))(hb:Binds K fd ["_law_cell_here","_law_prime","_law_many"] []):Callee P w K mg base (k+1) "_law_mix" ZP :=
 Zy Fn Zpp hm hb λcdv A outer s H E hr=>by have hu:=ZL hr;exact(Zp (ZA (ZR oMod (ZR oMod (ZR Zfb (Zd 0) Zo) (Zd 1)) (Zd 2))))
theorem Zfv:Zz ["_law_cell_here","_law_many","_law_least","_law_found"] ["_law_cell_here","_law_many","_law_least"] (Zh ZeF):=⟨rfl,rfl,rfl,by decide +kernel,rfl,by decide +kernel,by decide +kernel⟩
theorem ZmE(T:Txt K mg)(ZQ:Callee P w K mg base k "_law_mix" ZP){f:Addr}{fd:FuncData}(Fn:Fun K "_law_crowd" "_law_crowd" ZeF f fd)(hm:mg "_law_crowd" = some (.ref f))(hb:Binds K fd ["_law_cell_here","_law_many","_law_least"] []):Callee P w K mg base (k+1) "_law_crowd" ZbN :=
 Zy Fn Zfv hm hb λcdv A outer s H E hr=>by
  have hu:=ZL hr;exact(Zj (Zev 3 Zfv.nd rfl rfl (N:=["_law_state","_law_cell_here","_law_many","_law_least","_law_found"]) (ZK (sc:=Zh ZeF) (XN:=["_law_cell_here","_law_many","_law_least","_law_found"])) (ZcU T.n_range (Zd 1)) (λ_ _ _ _ _=>(Zcj (Z8 cLt (Zl ZQ hr (Zc (ZR Zb2 (ZR Zb2 (Zd 1) (ZR Zfb (ZR Zfb Zo (Zd 0)) (Zd 0))) (ZR Zfb Zo (Zd 0))) (Zc Zo (Zc Zo Zi)))) Zo))) (λ_ _ _ _ _=>(Zd 0)))
  (Zj (Za3 (Z8 cLt (ZbY T.n_len (Zx 3)) (Zd 2)) (Zp (ZaV 3 Zfv.nd (Zcp (Zc (Zl ZQ hr (Zc (Zd 0) (Zc Zo (Zc (Zd 1) Zi)))) Zi)))) Zab)
  (Zp (ZA (Zav T.n_tuple (Zx 3))))))
theorem ZcI:Zz ["_law_cell_here","_law_many","_law_found","_law_state","_law_seed","_law_way","_law_row"] ["_law_cell_here","_law_many"] (Zh Zg1):=⟨rfl,rfl,rfl,by decide +kernel,rfl,by decide +kernel,by decide +kernel⟩
theorem Znv(T:Txt K mg)(ZQ:Callee P w K mg base k "_law_mix" ZP){f:Addr}{fd:FuncData}(Fn:Fun K "_law_deed" "_law_deed" Zg1 f fd)(hm:mg "_law_deed" = some (.ref f))(hb:Binds K fd ["_law_cell_here","_law_many"] []):Callee P w K mg base (k+1) "_law_deed" Zde :=
 Zy Fn ZcI hm hb λcdv A outer s H E hr=>by
  have hu:=ZL hr;exact(Zj (ZaV 2 ZcI.nd (Zcp Zi))
  (Zj (ZcC 3 ZcI.nd rfl rfl (ZcU T.n_range (Zd 1)) (Zj (ZV 4 ZcI.nd (ZR Zb2 (ZR Zb2 (Zd 0) (ZR Zfb (ZR Zfb Zo (Zd 3)) (Zd 3))) (ZR Zfb Zo (Zd 3))))
  (Zj (ZV 5 ZcI.nd (Zl ZQ hr (Zc (Zd 4) (Zc Zo (Zc Zo Zi)))))
  (Zj (ZaV 6 ZcI.nd (Zta (Zl ZQ hr (Zc (Zd 4) (Zc Zo (Zc (Zd 1) Zi)))) ZbR))
  (Zj (Za3 (Z8 cLt (Zd 5) Zo) (Zp (Zhm hu 6 (Zl ZQ hr (Zc (Zd 4) (Zc Zo (Zc (Zd 1) Zi)))) ZbR)) Zab)
  (Zj (Zdr 2 (Zav T.n_tuple (ZaO (Ziz T.n_sorted rfl (Zx 6)))))
  (Zp (Za3 (Z8 (cEq hr) (Zd 5) Zo) (Zp (Zuw 2 Zvz (Zc7 Zi))) Zab))))))))
  (Zp (ZA (Zav T.n_tuple (Zx 2))))))
theorem Zcd:Zz ["_law_cell_here","_law_many","_law_left","_law_right","_law_state","_law_ahead","_law_behind","_law_slips"] ["_law_cell_here","_law_many"] (Zh Zg2):=⟨rfl,rfl,rfl,by decide +kernel,rfl,by decide +kernel,by decide +kernel⟩
theorem Znw(T:Txt K mg)(ZQ:Callee P w K mg base k "_law_mix" ZP){f:Addr}{fd:FuncData}(Fn:Fun K "_law_walk" "_law_walk" Zg2 f fd)(hm:mg "_law_walk" = some (.ref f))(hb:Binds K fd ["_law_cell_here","_law_many"] []):Callee P w K mg base (k+1) "_law_walk" Zdf :=
 Zy Fn Zcd hm hb λcdv A outer s H E hr=>by
  have hu:=ZL hr;exact(Zj (ZaV 2 Zcd.nd (Zcp Zi))
  (Zj (ZaV 3 Zcd.nd (Zcp Zi))
  (Zj (ZcC 4 Zcd.nd rfl rfl (ZcU T.n_range (Zd 1)) (Zj (ZV 5 Zcd.nd (ZvA T.n_max rfl (ZR Zty (Zd 4) Zo) Zo))
  (Zj (ZV 6 Zcd.nd (ZvB T.n_min rfl (ZR Zb2 (Zd 4) Zo) (ZR Zty (Zd 1) Zo)))
  (Zj (ZV 7 Zcd.nd (Zet (cEq hr) (Zl ZQ hr (Zc (ZR Zb2 (Zd 0) (ZR Zfb Zo (Zd 4))) (Zc Zo (Zc Zo Zi)))) Zo))
  (Zj (Zdr 2 (Zav T.n_tuple (ZaO (Zno T.n_sorted T.n_set rfl (ZaO (ZrI (ZaO (Zcp (Zc (Zd 5) Zi))) (ZaO (ZvC (ZaO (Zcp (Zc (Zd 4) Zi))) (Zs9 T.n_int (Zd 7))))))))))
  (Zp (Zdr 3 (Zc7 (Zc (Zd 6) Zi)))))))))
  (Zp (ZA (Zc7 (Zc (Zav T.n_tuple (Zx 2)) (Zc (Zav T.n_tuple (Zx 3)) Zi))))))))
theorem Z7:Zz ["_law_script","_law_at","_law_cell_here","_law_many","_law_deeds","_law_k","_law_looks_here","_law_seed","_law_most","_law_begin","_law_goal"] ["_law_script","_law_at"] (Zh ZeG):=⟨rfl,rfl,rfl,by decide +kernel,rfl,by decide +kernel,by decide +kernel⟩
theorem ZmF(T:Txt K mg)(Za8:Callee P w K mg base k "_law_cell" Zak)(ZeJ:Callee P w K mg base k "_law_crowd" ZbN)(ZQ:Callee P w K mg base k "_law_mix" ZP)(Zg3:Callee P w K mg base k "_law_deed" Zde)(Zg4:Callee P w K mg base k "_law_walk" Zdf){f:Addr}{fd:FuncData}(Fn:Fun K "_law_works" "_law_works" ZeG f fd)(hm:mg "_law_works" = some (.ref f))(hb:Binds K fd ["_law_script","_law_at"] []):Callee P w K mg base (k+1) "_law_works" Za7 :=
 Zy Fn Z7 hm hb λcdv A outer s H E hr=>by
  have hu:=ZL hr;exact(Zj (ZV 2 Z7.nd (Zl Za8 hr (Zc (Zd 0) (Zc (Zd 1) Zi))))
  (Zj (ZV 3 Z7.nd (ZR Zb2 Zo (Zl ZQ hr (Zc (Zd 2) (Zc Zo (Zc Zo Zi))))))
  (Zj (Za3 (Z8 cGt (ZbY T.n_len (Zx 0)) Zo) (Zp (ZV 3 Z7.nd (ZR Zb2 Zo (Zl ZQ hr (Zc (Zd 2) (Zc Zo (Zc Zo Zi))))))) Zab)
  (Zj (ZaV 4 Z7.nd (Zcp Zi))
  (Zj (ZcC 5 Z7.nd rfl rfl (ZcU T.n_range (ZR Zb2 Zo (Zl ZQ hr (Zc (Zd 2) (Zc Zo (Zc Zo Zi)))))) (Zp (Zdr 4 (Zl Zg3 hr (Zc (ZR Zb2 (Zl Za8 hr (Zc (Zd 0) (Zc (ZR Zb2 (ZR Zb2 (Zd 1) Zo) (Zd 5)) Zi))) (ZR Zfb Zo (Zd 5))) (Zc (Zd 3) Zi))))))
  (Zj (Za3 (Z8 (cEq hr) (Zl ZQ hr (Zc (Zd 2) (Zc Zo (Zc Zo Zi)))) Zo) (Zp (ZaV 4 Z7.nd (ZrI (ZaO (Zl7 T.n_list (Zco (Zl Zg4 hr (Zc (Zl Za8 hr (Zc (Zd 0) (Zc (ZR Zb2 (Zd 1) Zo) Zi))) (Zc (Zd 3) Zi)))))) (ZaO (ZvD (Zx 4) Zlx (Zl4 Zo)))))) Zab)
  (Zj (ZaV 6 Z7.nd (Zcp Zi))
  (Zj (ZcC 5 Z7.nd rfl rfl (ZcU T.n_range (Zl ZQ hr (Zc (Zd 2) (Zc Zo (Zc Zo Zi))))) (Zj (ZV 7 Z7.nd (ZR Zb2 (Zl Za8 hr (Zc (Zd 0) (Zc (ZR Zb2 (ZR Zb2 (Zd 1) Zo) (Zd 5)) Zi))) (ZR Zfb Zo (Zd 5))))
  (Zj (ZV 8 Z7.nd (ZR Zb2 Zo (Zl ZQ hr (Zc (Zd 7) (Zc Zo (Zc Zo Zi))))))
  (Zp (Zdr 6 (Zav T.n_tuple (ZaO (Zaf rfl rfl (N:=["_law_state","_law_script","_law_at","_law_cell_here","_law_many","_law_deeds","_law_k","_law_looks_here","_law_seed","_law_most","_law_begin","_law_goal"]) (ZK (sc:=Zh ZeG) (XN:=["_law_script","_law_at","_law_cell_here","_law_many","_law_deeds","_law_k","_law_looks_here","_law_seed","_law_most","_law_begin","_law_goal"])) (ZcU T.n_range (Zd 3)) (λ_ _ _ _ _=>Zby) (λ_ _ _ _ _=>(Zl ZQ hr (Zc (ZR Zb2 (Zd 8) (ZR Zfb (ZR Zfb Zo (Zd 0)) (Zd 0))) (Zc Zo (Zc (Zd 9) Zi)))))))))))))
  (Zj (ZV 9 Z7.nd (Zl ZeJ hr (Zc (Zl Za8 hr (Zc (Zd 0) (Zc (ZR Zb2 (Zd 1) Zo) Zi))) (Zc (Zd 3) (Zc Zo Zi)))))
  (Zj (Za3 (Z8 (cEq hr) (Zl ZQ hr (Zc (Zd 2) (Zc Zo (Zc Zo Zi)))) Zo) (Zp (ZV 9 Z7.nd (ZgR T.n_tuple T.n_range rfl (Zd 3)))) Zab)
  (Zj (ZV 10 Z7.nd (Zl ZeJ hr (Zc (Zl Za8 hr (Zc (Zd 0) (Zc (ZR Zb2 (Zd 1) Zo) Zi))) (Zc (Zd 3) (Zc Zo Zi)))))
  (Zp (ZA (Zc7 (Zc (Zd 3) (Zc (Zav T.n_tuple (Zx 4)) (Zc (Zav T.n_tuple (Zx 6)) (Zc (Zd 9) (Zc (Zd 10) Zi)))))))))))))))))))
theorem ZmG:Zz ["_law_works_here","_law_cell_here"] ["_law_works_here","_law_cell_here"] (Zh ZeH):=⟨rfl,rfl,rfl,by decide +kernel,rfl,by decide +kernel,by decide +kernel⟩
theorem ZmH(T:Txt K mg)(ZQ:Callee P w K mg base k "_law_mix" ZP){f:Addr}{fd:FuncData}(Fn:Fun K "_law_looks" "_law_looks" ZeH f fd)(hm:mg "_law_looks" = some (.ref f))(hb:Binds K fd ["_law_works_here","_law_cell_here"] []):Callee P w K mg base (k+1) "_law_looks" ZcG :=
 Zy Fn ZmG hm hb λcdv A outer s H E hr=>by have hu:=ZL hr;exact(Zp (ZA (Zav T.n_tuple (ZaO (Zaf rfl rfl (N:=["_law_look","_law_works_here","_law_cell_here"]) (ZK (sc:=Zh ZeH) (XN:=["_law_works_here","_law_cell_here"])) (ZcU T.n_range (ZbY T.n_len (Zco (Zau (Zx 0) Zo)))) (λ_ _ _ _ _=>(Zcj (Z8 cGt (Zl ZQ hr (Zc (ZR Zb2 (Zd 2) (ZR Zfb Zo (Zd 0))) (Zc Zo (Zc Zo Zi)))) Zo))) (λ_ _ _ _ _=>(Zd 0)))))))
theorem ZmI:Zz ["thing","least","most"] ["thing","least","most"] (Zh Zf5):=⟨rfl,rfl,rfl,by decide +kernel,rfl,by decide +kernel,by decide +kernel⟩
theorem ZmJ(T:Txt K mg){f:Addr}{fd:FuncData}(Fn:Fun K "is_number" "is_number" Zf5 f fd)(hm:mg "is_number" = some (.ref f))(hb:Binds K fd ["thing","least","most"] []):Callee P w K mg base (k+1) "is_number" Za6 :=
 Zy Fn ZmI hm hb λcdv A outer s H E hr=>by
  have hu:=ZL hr;exact(Zj (Za3 (Znj (Zqz (Zb9 (Zpm T.n_isinstance T.n_bool (Zd 0))) (Znk (ZdZ (Zb9 (ZqA T.n_isinstance T.n_int (Zd 0))))))) (Zp (ZA ZbR)) Zab)
  (Zp (ZA (Znl cLe cLe (Zd 1) (Zd 0) (Zd 2)))))
theorem Zd4:Zz ["thing","many","least","number"] ["thing","many"] (Zh Zf6):=⟨rfl,rfl,rfl,by decide +kernel,rfl,by decide +kernel,by decide +kernel⟩
theorem ZmK(T:Txt K mg)(Zbp:Callee P w K mg base k "is_number" Za6){f:Addr}{fd:FuncData}(Fn:Fun K "is_rising" "is_rising" Zf6 f fd)(hm:mg "is_rising" = some (.ref f))(hb:Binds K fd ["thing","many"] []):Callee P w K mg base (k+1) "is_rising" Z9 :=
 Zy Fn Zd4 hm hb λcdv A outer s H E hr=>by
  have hu:=ZL hr;exact(Zj (Za3 (ZdZ (Zb9 (Ziy T.n_isinstance T.n_tuple (Zd 0)))) (Zp (ZA ZbR)) Zab)
  (Zj (ZV 2 Zd4.nd Zo)
  (Zj (ZcC 3 Zd4.nd rfl rfl (Z5 (Zd 0)) (Zj (Za3 (ZdZ (Zb9 (Zl Zbp hr (Zc (Zd 3) (Zc (Zd 2) (Zc (ZR Zty (Zd 1) Zo) Zi)))))) (Zp (ZA ZbR)) Zab)
  (Zp (ZV 2 Zd4.nd (ZR Zb2 (Zd 3) Zo)))))
  (Zp (ZA ZbR)))))
theorem Znx:Zz ["thing","many"] ["thing","many"] (Zh ZgV):=⟨rfl,rfl,rfl,by decide +kernel,rfl,by decide +kernel,by decide +kernel⟩
theorem Zny(T:Txt K mg)(ZaD:Callee P w K mg base k "is_rising" Z9){f:Addr}{fd:FuncData}(Fn:Fun K "is_crowd" "is_crowd" ZgV f fd)(hm:mg "is_crowd" = some (.ref f))(hb:Binds K fd ["thing","many"] []):Callee P w K mg base (k+1) "is_crowd" Zdd :=
 Zy Fn Znx hm hb λcdv A outer s H E hr=>by have hu:=ZL hr;exact(Zp (ZA (Zf0 (Zl ZaD hr (Zc (Zd 0) (Zc (Zd 1) Zi))) (ZfZ (Zet cGt (ZbY T.n_len (Zx 0)) Zo)))))
theorem ZqE:Zz ["thing","least","most"] ["thing","least","most"] (Zh ZiJ):=⟨rfl,rfl,rfl,by decide +kernel,rfl,by decide +kernel,by decide +kernel⟩
theorem ZqF(T:Txt K mg){f:Addr}{fd:FuncData}(Fn:Fun K "is_row" "is_row" ZiJ f fd)(hm:mg "is_row" = some (.ref f))(hb:Binds K fd ["thing","least","most"] []):Callee P w K mg base (k+1) "is_row" Za4 :=
 Zy Fn ZqE hm hb λcdv A outer s H E hr=>by have hu:=ZL hr;exact(Zp (ZA (Zf0 (Ziy T.n_isinstance T.n_tuple (Zd 0)) (ZfZ (Znl cLe cLe (Zd 1) (ZbY T.n_len (Zx 0)) (Zd 2))))))
theorem Zpr:Zz ["thing","many"] ["thing","many"] (Zh ZfH):=⟨rfl,rfl,rfl,by decide +kernel,rfl,by decide +kernel,by decide +kernel⟩
theorem Zps(T:Txt K mg)(ZaQ:Callee P w K mg base k "is_row" Za4)(ZaD:Callee P w K mg base k "is_rising" Z9){f:Addr}{fd:FuncData}(Fn:Fun K "is_deed" "is_deed" ZfH f fd)(hm:mg "is_deed" = some (.ref f))(hb:Binds K fd ["thing","many"] []):Callee P w K mg base (k+1) "is_deed" Zcq :=
 Zy Fn Zpr hm hb λcdv A outer s H E hr=>by have hu:=ZL hr;exact(Zp (ZA (Zf0 (Zl ZaQ hr (Zc (Zd 0) (Zc (Zd 1) (Zc (Zd 1) Zi)))) (ZfZ (Zfo T.n_all rfl (ZaO (Zaf rfl rfl (N:=["crowd","thing","many"]) (ZK (sc:=Zh ZfH) (XN:=["thing","many"])) (Z5 (Zd 0)) (λ_ _ _ _ _=>Zby) (λ_ _ _ _ _=>(Zl ZaD hr (Zc (Zd 0) (Zc (Zd 2) Zi)))))))))))
theorem ZmL:Zz ["thing","many"] ["thing","many"] (Zh ZeA):=⟨rfl,rfl,rfl,by decide +kernel,rfl,by decide +kernel,by decide +kernel⟩
theorem ZmM(T:Txt K mg)(ZaQ:Callee P w K mg base k "is_row" Za4)(ZhL:Callee P w K mg base k "is_deed" Zcq){f:Addr}{fd:FuncData}(Fn:Fun K "are_deeds" "are_deeds" ZeA f fd)(hm:mg "are_deeds" = some (.ref f))(hb:Binds K fd ["thing","many"] []):Callee P w K mg base (k+1) "are_deeds" ZcD :=
 Zy Fn ZmL hm hb λcdv A outer s H E hr=>by have hu:=ZL hr;exact(Zp (ZA (Zf0 (Zl ZaQ hr (Zc (Zd 0) (Zc Zo (Zc (Zjo T.c_MOST_DEEDS) Zi)))) (ZfZ (Zfo T.n_all rfl (ZaO (Zaf rfl rfl (N:=["deed","thing","many"]) (ZK (sc:=Zh ZeA) (XN:=["thing","many"])) (Z5 (Zd 0)) (λ_ _ _ _ _=>Zby) (λ_ _ _ _ _=>(Zl ZhL hr (Zc (Zd 0) (Zc (Zd 2) Zi)))))))))))
theorem Zpt:Zz ["thing","many"] ["thing","many"] (Zh ZfI):=⟨rfl,rfl,rfl,by decide +kernel,rfl,by decide +kernel,by decide +kernel⟩
theorem Zpu(T:Txt K mg)(ZaQ:Callee P w K mg base k "is_row" Za4)(Zbp:Callee P w K mg base k "is_number" Za6){f:Addr}{fd:FuncData}(Fn:Fun K "is_look" "is_look" ZfI f fd)(hm:mg "is_look" = some (.ref f))(hb:Binds K fd ["thing","many"] []):Callee P w K mg base (k+1) "is_look" Zcr :=
 Zy Fn Zpt hm hb λcdv A outer s H E hr=>by have hu:=ZL hr;exact(Zp (ZA (Zf0 (Zl ZaQ hr (Zc (Zd 0) (Zc (Zd 1) (Zc (Zd 1) Zi)))) (ZfZ (Zfo T.n_all rfl (ZaO (Zaf rfl rfl (N:=["told","thing","many"]) (ZK (sc:=Zh ZfI) (XN:=["thing","many"])) (Z5 (Zd 0)) (λ_ _ _ _ _=>Zby) (λ_ _ _ _ _=>(Zl Zbp hr (Zc (Zd 0) (Zc Zo (Zc (Zjo T.c_MOST_SEEN) Zi))))))))))))
theorem ZmN:Zz ["thing","many"] ["thing","many"] (Zh ZeB):=⟨rfl,rfl,rfl,by decide +kernel,rfl,by decide +kernel,by decide +kernel⟩
theorem ZmO(T:Txt K mg)(ZaQ:Callee P w K mg base k "is_row" Za4)(ZhM:Callee P w K mg base k "is_look" Zcr){f:Addr}{fd:FuncData}(Fn:Fun K "are_looks" "are_looks" ZeB f fd)(hm:mg "are_looks" = some (.ref f))(hb:Binds K fd ["thing","many"] []):Callee P w K mg base (k+1) "are_looks" ZcE :=
 Zy Fn ZmN hm hb λcdv A outer s H E hr=>by have hu:=ZL hr;exact(Zp (ZA (Zf0 (Zl ZaQ hr (Zc (Zd 0) (Zc Zo (Zc (Zjo T.c_MOST_LOOKS) Zi)))) (ZfZ (Zfo T.n_all rfl (ZaO (Zaf rfl rfl (N:=["look","thing","many"]) (ZK (sc:=Zh ZeB) (XN:=["thing","many"])) (Z5 (Zd 0)) (λ_ _ _ _ _=>Zby) (λ_ _ _ _ _=>(Zl ZhM hr (Zc (Zd 0) (Zc (Zd 2) Zi)))))))))))
theorem Zip:Zz ["thing","many"] ["thing"] (Zh Zf7):=⟨rfl,rfl,rfl,by decide +kernel,rfl,by decide +kernel,by decide +kernel⟩
theorem ZmP(T:Txt K mg)(Zg5:Callee P w K mg base k "is_crowd" Zdd)(ZaD:Callee P w K mg base k "is_rising" Z9)(ZaQ:Callee P w K mg base k "is_row" Za4)(Zbp:Callee P w K mg base k "is_number" Za6)(Zga:Callee P w K mg base k "are_deeds" ZcD)(Zgb:Callee P w K mg base k "are_looks" ZcE){f:Addr}{fd:FuncData}(Fn:Fun K "are_works" "are_works" Zf7 f fd)(hm:mg "are_works" = some (.ref f))(hb:Binds K fd ["thing"] []):Callee P w K mg base (k+1) "are_works" ZcF :=
 Zy Fn Zip hm hb λcdv A outer s H E hr=>by
  have hu:=ZL hr;exact(Zj (Za3 (Znj (Zqz (ZdZ (Zb9 (Zl ZaQ hr (Zc (Zd 0) (Zc Zo (Zc Zo Zi)))))) (Znk (ZdZ (Zb9 (Zl Zbp hr (Zc (Zau (Zx 0) Zo) (Zc Zo (Zc (Zjo T.c_MOST_STATES) Zi))))))))) (Zp (ZA ZbR)) Zab)
  (Zj (ZV 1 Zip.nd (Zau (Zx 0) Zo))
  (Zj (Za3 (Znj (Zqz (ZdZ (Zb9 (Zl Zga hr (Zc (Zau (Zx 0) Zo) (Zc (Zd 1) Zi))))) (Znk (ZdZ (Zb9 (Zl Zgb hr (Zc (Zau (Zx 0) Zo) (Zc (Zd 1) Zi)))))))) (Zp (ZA ZbR)) Zab)
  (Zp (ZA (Zf0 (Zl Zg5 hr (Zc (Zau (Zx 0) Zo) (Zc (Zd 1) Zi))) (ZfZ (Zl ZaD hr (Zc (Zau (Zx 0) Zo) (Zc (Zd 1) Zi))))))))))
theorem Zpv:Zz ["works"] ["works"] (Zh ZhJ):=⟨rfl,rfl,rfl,by decide +kernel,rfl,by decide +kernel,by decide +kernel⟩
theorem Zpw(T:Txt K mg)(Zgc:Callee P w K mg base k "are_works" ZcF){f:Addr}{fd:FuncData}(Fn:Fun K "checked" "checked" ZhJ f fd)(hm:mg "checked" = some (.ref f))(hb:Binds K fd ["works"] []):Callee P w K mg base (k+1) "checked" Zba :=
 Zy Fn Zpv hm hb λcdv A outer s H E hr=>by
  have hu:=ZL hr;exact(Zj (Za3 (ZdZ (Zb9 (Zl Zgc hr (Zc (Zd 0) Zi)))) (Zp Znm) Zab)
  (Zp (ZA (Zd 0))))
theorem Znz:Zz ["works"] ["works"] (Zh ZgX):=⟨rfl,rfl,rfl,by decide +kernel,rfl,by decide +kernel,by decide +kernel⟩
theorem ZnA(T:Txt K mg){f:Addr}{fd:FuncData}(Fn:Fun K "looks_of" "looks_of" ZgX f fd)(hm:mg "looks_of" = some (.ref f))(hb:Binds K fd ["works"] []):Callee P w K mg base (k+1) "looks_of" Zbm :=
 Zy Fn Znz hm hb λcdv A outer s H E hr=>by have hu:=ZL hr;exact(Zp (ZA (Zau (Zx 0) Zo)))
theorem ZjJ:Zz ["works","looks"] ["works","looks"] (Zh Zd9):=⟨rfl,rfl,rfl,by decide +kernel,rfl,by decide +kernel,by decide +kernel⟩
theorem ZjK(T:Txt K mg)(ZaD:Callee P w K mg base k "is_rising" Z9)(ZbJ:Callee P w K mg base k "looks_of" Zbm){f:Addr}{fd:FuncData}(Fn:Fun K "checked_looks" "checked_looks" Zd9 f fd)(hm:mg "checked_looks" = some (.ref f))(hb:Binds K fd ["works","looks"] []):Callee P w K mg base (k+1) "checked_looks" Zaj :=
 Zy Fn ZjJ hm hb λcdv A outer s H E hr=>by
  have hu:=ZL hr;exact(Zj (Za3 (ZdZ (Zb9 (Zl ZaD hr (Zc (Zd 1) (Zc (ZbY T.n_len (Zco (Zl ZbJ hr (Zc (Zd 0) Zi)))) Zi))))) (Zp Znm) Zab)
  (Zp (ZA (Zd 1))))
theorem ZnB:Zz ["works"] ["works"] (Zh ZgY):=⟨rfl,rfl,rfl,by decide +kernel,rfl,by decide +kernel,by decide +kernel⟩
theorem ZnC(T:Txt K mg){f:Addr}{fd:FuncData}(Fn:Fun K "begin_of" "begin_of" ZgY f fd)(hm:mg "begin_of" = some (.ref f))(hb:Binds K fd ["works"] []):Callee P w K mg base (k+1) "begin_of" Zac :=
 Zy Fn ZnB hm hb λcdv A outer s H E hr=>by have hu:=ZL hr;exact(Zp (ZA (Zau (Zx 0) Zo)))
theorem Ziq:Zz ["rows"] ["rows"] (Zh ZcH):=⟨rfl,rfl,rfl,by decide +kernel,rfl,by decide +kernel,by decide +kernel⟩
theorem Zlr(T:Txt K mg){f:Addr}{fd:FuncData}(Fn:Fun K "crowds_in" "crowds_in" ZcH f fd)(hm:mg "crowds_in" = some (.ref f))(hb:Binds K fd ["rows"] []):Zeo P w K mg base (k+1) "crowds_in" Zv :=
 Zq4 Fn Ziq hm hb rfl (λr b h=>Zui _ _ _ r b h) λcdv A outer s H E hr=>by have hu:=ZL hr;exact(Zaf rfl rfl (N:=["row","rows"]) (ZK (sc:=Zh ZcH) (XN:=["rows"])) (Z5 (Zd 0)) (λ_ _ _ _ _=>Zby) (λ_ _ _ _ _=>(Zau (Zx 0) Zo)))
theorem ZmQ(T:Txt K mg){f:Addr}{fd:FuncData}(Fn:Fun K "crowds_in" "crowds_in" ZcH f fd)(hm:mg "crowds_in" = some (.ref f))(hb:Binds K fd ["rows"] []):Callee P w K mg base (k+1) "crowds_in" Zv :=
 Zy Fn Ziq hm hb λcdv A outer s H E hr=>by have hu:=ZL hr;exact(Zp (ZA (Zes (Zaf rfl rfl (N:=["row","rows"]) (ZK (sc:=Zh ZcH) (XN:=["rows"])) (Z5 (Zd 0)) (λ_ _ _ _ _=>Zby) (λ_ _ _ _ _=>(Zau (Zx 0) Zo))))))
theorem ZfE:Zz ["rows","costs","known"] ["rows","costs"] (Zh ZcW):=⟨rfl,rfl,rfl,by decide +kernel,rfl,by decide +kernel,by decide +kernel⟩
theorem ZjL(T:Txt K mg)(Z0:Callee P w K mg base k "crowds_in" Zv){f:Addr}{fd:FuncData}(Fn:Fun K "cost_at_worst" "cost_at_worst" ZcW f fd)(hm:mg "cost_at_worst" = some (.ref f))(hb:Binds K fd ["rows","costs"] []):Callee P w K mg base (k+1) "cost_at_worst" Zal :=
 Zy Fn ZfE hm hb λcdv A outer s H E hr=>by
  have hu:=ZL hr;exact(Zj (Zev 2 ZfE.nd rfl rfl (N:=["part","rows","costs","known"]) (ZK (sc:=Zh ZcW) (XN:=["rows","costs","known"])) (Z5 (Zl Z0 hr (Zc (Zd 0) Zi))) (λ_ _ _ _ _=>(Zcj (Znp hu (Zd 0) (Zx 2)))) (λ_ _ _ _ _=>(Zck hu (Zx 2) (Zd 0))))
  (Zp (ZA (ZkF (Z8 (cEq hr) (ZbY T.n_len (Zx 2)) (ZbY T.n_len (Zx 0))) (Zux T.n_max rfl (Zx 2)) Zbg))))
theorem ZiM:Zz ["way","depths","most"] ["way","depths"] (Zh Zd0):=⟨rfl,rfl,rfl,by decide +kernel,rfl,by decide +kernel,by decide +kernel⟩
theorem ZnD(T:Txt K mg)(ZbD:Callee P w K mg base k "cost_at_worst" Zal){f:Addr}{fd:FuncData}(Fn:Fun K "deeds_by" "deeds_by" Zd0 f fd)(hm:mg "deeds_by" = some (.ref f))(hb:Binds K fd ["way","depths"] []):Callee P w K mg base (k+1) "deeds_by" Zb3 :=
 Zy Fn ZiM hm hb λcdv A outer s H E hr=>by
  have hu:=ZL hr;exact(Zj (ZV 2 ZiM.nd (Zl ZbD hr (Zc (Zau (Zx 0) Zo) (Zc (Zd 1) Zi))))
  (Zp (ZA (ZkF (Z8 ZqV (Zd 2) Zbg) Zbg (ZR Zb2 (Zd 2) Zo)))))
theorem ZfF:Zz ["way","luck","least"] ["way","luck"] (Zh ZbC):=⟨rfl,rfl,rfl,by decide +kernel,rfl,by decide +kernel,by decide +kernel⟩
theorem ZjM(T:Txt K mg)(Z0:Callee P w K mg base k "crowds_in" Zv){f:Addr}{fd:FuncData}(Fn:Fun K "deeds_by_luck" "deeds_by_luck" ZbC f fd)(hm:mg "deeds_by_luck" = some (.ref f))(hb:Binds K fd ["way","luck"] []):Callee P w K mg base (k+1) "deeds_by_luck" Z4 :=
 Zy Fn ZfF hm hb λcdv A outer s H E hr=>by
  have hu:=ZL hr;exact(Zj (ZV 2 ZfF.nd (Zjp T.n_min rfl (ZaO (Zaf rfl rfl (N:=["part","way","luck","least"]) (ZK (sc:=Zh ZbC) (XN:=["way","luck","least"])) (Z5 (Zl Z0 hr (Zc (Zau (Zx 0) Zo) Zi))) (λ_ _ _ _ _=>(Zcj (Znp hu (Zd 0) (Zx 2)))) (λ_ _ _ _ _=>(Zck hu (Zx 2) (Zd 0)))))))
  (Zp (ZA (ZkF (Z8 ZqV (Zd 2) Zbg) Zbg (ZR Zb2 (Zd 2) Zo)))))
theorem Zpx:Zz ["works","looks","state"] ["works","looks","state"] (Zh ZfJ):=⟨rfl,rfl,rfl,by decide +kernel,rfl,by decide +kernel,by decide +kernel⟩
theorem Zpy(T:Txt K mg)(ZbJ:Callee P w K mg base k "looks_of" Zbm){f:Addr}{fd:FuncData}(Fn:Fun K "seen_in" "seen_in" ZfJ f fd)(hm:mg "seen_in" = some (.ref f))(hb:Binds K fd ["works","looks","state"] []):Callee P w K mg base (k+1) "seen_in" ZdG :=
 Zy Fn Zpx hm hb λcdv A outer s H E hr=>by have hu:=ZL hr;exact(Zp (ZA (Zav T.n_tuple (ZaO (Zaf rfl rfl (N:=["look","works","looks","state"]) (ZK (sc:=Zh ZfJ) (XN:=["works","looks","state"])) (Z5 (Zd 1)) (λ_ _ _ _ _=>Zby) (λ_ _ _ _ _=>(Zau (Zco (Zau (Zco (Zl ZbJ hr (Zc (Zd 1) Zi))) (Zd 0))) (Zd 3))))))))
theorem ZhN:Zz ["works","looks","crowd","found","state"] ["works","looks","crowd"] (Zh ZgE):=⟨rfl,rfl,rfl,by decide +kernel,rfl,by decide +kernel,by decide +kernel⟩
theorem ZqG(T:Txt K mg)(ZhO:Callee P w K mg base k "seen_in" ZdG){f:Addr}{fd:FuncData}(Fn:Fun K "parted" "parted" ZgE f fd)(hm:mg "parted" = some (.ref f))(hb:Binds K fd ["works","looks","crowd"] []):Callee P w K mg base (k+1) "parted" Zag :=
 Zy Fn ZhN hm hb λcdv A outer s H E hr=>by
  have hu:=ZL hr;exact(Zj (ZaV 3 ZhN.nd ZvE)
  (Zj (ZcC 4 ZhN.nd rfl rfl (Z5 (Zd 2)) (Zp (Ztc hu 3 (Zl ZhO hr (Zc (Zd 0) (Zc (Zd 1) (Zc (Zd 4) Zi)))) (Zd 4) ⟨rfl,rfl,rfl,rfl⟩)))
  (Zp (ZA (Zes (Zaf rfl rfl (N:=["seen","works","looks","crowd","found","state"]) (ZK (sc:=Zh ZgE) (XN:=["works","looks","crowd","found","state"])) (Z5 (Zes (Ziz T.n_sorted rfl (Zx 3)))) (λ_ _ _ _ _=>Zby) (λ_ _ _ _ _=>(Zc7 (Zc (Zd 0) (Zc (Zav T.n_tuple (ZvF hu 4 (Zd 0))) Zi))))))))))
theorem ZnE:Zz ["works"] ["works"] (Zh ZgW):=⟨rfl,rfl,rfl,by decide +kernel,rfl,by decide +kernel,by decide +kernel⟩
theorem ZnF(T:Txt K mg){f:Addr}{fd:FuncData}(Fn:Fun K "deeds_of" "deeds_of" ZgW f fd)(hm:mg "deeds_of" = some (.ref f))(hb:Binds K fd ["works"] []):Callee P w K mg base (k+1) "deeds_of" Zbl :=
 Zy Fn ZnE hm hb λcdv A outer s H E hr=>by have hu:=ZL hr;exact(Zp (ZA (Zau (Zx 0) Zo)))
theorem ZgF:Zz ["works","crowd","deed","leads"] ["works","crowd","deed"] (Zh ZdJ):=⟨rfl,rfl,rfl,by decide +kernel,rfl,by decide +kernel,by decide +kernel⟩
theorem ZkK(T:Txt K mg)(ZbK:Callee P w K mg base k "deeds_of" Zbl){f:Addr}{fd:FuncData}(Fn:Fun K "can_be_done" "can_be_done" ZdJ f fd)(hm:mg "can_be_done" = some (.ref f))(hb:Binds K fd ["works","crowd","deed"] []):Callee P w K mg base (k+1) "can_be_done" Zb7 :=
 Zy Fn ZgF hm hb λcdv A outer s H E hr=>by
  have hu:=ZL hr;exact(Zj (ZV 3 ZgF.nd (Zau (Zco (Zl ZbK hr (Zc (Zd 0) Zi))) (Zd 2)))
  (Zp (ZA (Zfo T.n_all rfl (ZaO (Zaf rfl rfl (N:=["state","works","crowd","deed","leads"]) (ZK (sc:=Zh ZdJ) (XN:=["works","crowd","deed","leads"])) (Z5 (Zd 1)) (λ_ _ _ _ _=>Zby) (λ_ _ _ _ _=>(Zet cGt (ZbY T.n_len (Zco (Zau (Zx 4) (Zd 0)))) Zo))))))))
theorem Zls:Zz ["works","crowd"] ["works","crowd"] (Zh Zd3):=⟨rfl,rfl,rfl,by decide +kernel,rfl,by decide +kernel,by decide +kernel⟩
theorem Zlt(T:Txt K mg)(ZeY:Callee P w K mg base k "can_be_done" Zb7)(ZbK:Callee P w K mg base k "deeds_of" Zbl){f:Addr}{fd:FuncData}(Fn:Fun K "deeds_with" "deeds_with" Zd3 f fd)(hm:mg "deeds_with" = some (.ref f))(hb:Binds K fd ["works","crowd"] []):Callee P w K mg base (k+1) "deeds_with" Zcl :=
 Zy Fn Zls hm hb λcdv A outer s H E hr=>by have hu:=ZL hr;exact(Zp (ZA (Zes (Zaf rfl rfl (N:=["deed","works","crowd"]) (ZK (sc:=Zh Zd3) (XN:=["works","crowd"])) (ZcU T.n_range (ZbY T.n_len (Zco (Zl ZbK hr (Zc (Zd 0) Zi))))) (λ_ _ _ _ _=>(Zcj (Zb9 (Zl ZeY hr (Zc (Zd 1) (Zc (Zd 2) (Zc (Zd 0) Zi))))))) (λ_ _ _ _ _=>(Zd 0))))))
theorem ZeK:Zz ["works","crowd","deed","leads","found","state","target"] ["works","crowd","deed"] (Zh ZiK):=⟨rfl,rfl,rfl,by decide +kernel,rfl,by decide +kernel,by decide +kernel⟩
theorem ZqH(T:Txt K mg)(ZbK:Callee P w K mg base k "deeds_of" Zbl){f:Addr}{fd:FuncData}(Fn:Fun K "led_to" "led_to" ZiK f fd)(hm:mg "led_to" = some (.ref f))(hb:Binds K fd ["works","crowd","deed"] []):Callee P w K mg base (k+1) "led_to" Zds :=
 Zy Fn ZeK hm hb λcdv A outer s H E hr=>by
  have hu:=ZL hr;exact(Zj (ZV 3 ZeK.nd (Zau (Zco (Zl ZbK hr (Zc (Zd 0) Zi))) (Zd 2)))
  (Zj (ZaV 4 ZeK.nd Zw7)
  (Zj (ZcC 5 ZeK.nd rfl rfl (Z5 (Zd 1)) (Zp (ZcC 6 ZeK.nd rfl rfl (Z5 (Zau (Zx 3) (Zd 5))) (Zp (Zhm hu 4 (Zd 6) ZbR)))))
  (Zp (ZA (Zav T.n_tuple (ZaO (Ziz T.n_sorted rfl (Zx 4)))))))))
theorem ZmR:Zz ["works","looks","crowd"] ["works","looks","crowd"] (Zh ZeD):=⟨rfl,rfl,rfl,by decide +kernel,rfl,by decide +kernel,by decide +kernel⟩
theorem ZmS(T:Txt K mg)(Zbu:Callee P w K mg base k "parted" Zag)(Zfw:Callee P w K mg base k "deeds_with" Zcl)(ZiN:Callee P w K mg base k "led_to" Zds){f:Addr}{fd:FuncData}(Fn:Fun K "ways_with" "ways_with" ZeD f fd)(hm:mg "ways_with" = some (.ref f))(hb:Binds K fd ["works","looks","crowd"] []):Callee P w K mg base (k+1) "ways_with" ZaC :=
 Zy Fn ZmR hm hb λcdv A outer s H E hr=>by have hu:=ZL hr;exact(Zp (ZA (Zes (Zaf rfl rfl (N:=["deed","works","looks","crowd"]) (ZK (sc:=Zh ZeD) (XN:=["works","looks","crowd"])) (Z5 (Zl Zfw hr (Zc (Zd 0) (Zc (Zd 2) Zi)))) (λ_ _ _ _ _=>Zby) (λ_ _ _ _ _=>(Zc7 (Zc (Zd 0) (Zc (Zl Zbu hr (Zc (Zd 1) (Zc (Zd 2) (Zc (Zl ZiN hr (Zc (Zd 1) (Zc (Zd 3) (Zc (Zd 0) Zi)))) Zi)))) Zi))))))))
theorem Zhs:Zz ["ways","costs","cost_by","told"] ["ways","costs","cost_by"] (Zh Zc9):=⟨rfl,rfl,rfl,by decide +kernel,rfl,by decide +kernel,by decide +kernel⟩
theorem Zht(T:Txt K mg)(CV:ZcS P w K mg base k ap){f:Addr}{fd:FuncData}(Fn:Fun K "least_cost" "least_cost" Zc9 f fd)(hm:mg "least_cost" = some (.ref f))(hb:Binds K fd ["ways","costs","cost_by"] []):Callee P w K mg base (k+1) "least_cost" (ZaB ap) :=
 Zy Fn Zhs hm hb λcdv A outer s H E hr=>by
  have hu:=ZL hr;exact(Zj (Zev 3 Zhs.nd rfl rfl (N:=["way","ways","costs","cost_by","told"]) (ZK (sc:=Zh Zc9) (XN:=["ways","costs","cost_by","told"])) (Z5 (Zd 0)) (λ_ _ _ _ _=>Zby) (λ_ _ _ _ _=>(Zkc CV hr 3 (Zc (Zd 0) (Zc (Zd 2) Zi)))))
  (Zp (Zeu 3 (ZA (Zjp T.n_min rfl (ZaO (Zaf rfl rfl (N:=["cost","ways","costs","cost_by","told"]) (ZK (sc:=Zh Zc9) (XN:=["ways","costs","cost_by","told"])) (Z5 (Zd 3)) (λ_ _ _ _ _=>(Zcj (Z8 ZgO (Zd 0) Zbg))) (λ_ _ _ _ _=>(Zd 0)))))))))
theorem ZdL:Zz ["reach","costs","cost_by","found","crowd","cost"] ["reach","costs","cost_by"] (Zh Zfu):=⟨rfl,rfl,rfl,by decide +kernel,rfl,by decide +kernel,by decide +kernel⟩
theorem Zk0(T:Txt K mg)(Zcm:Callee P w K mg base k "least_cost" (ZaB ap)){f:Addr}{fd:FuncData}(Fn:Fun K "next_costs" "next_costs" Zfu f fd)(hm:mg "next_costs" = some (.ref f))(hb:Binds K fd ["reach","costs","cost_by"] []):Zem P w K mg base (k+1) "next_costs" (Zbv ap) :=
 Zrh Fn ZdL hm hb λcdv A outer s H E hr=>by
  have hu:=ZL hr;exact(Zpl (ZaV 3 ZdL.nd Zm9)
  (Zpl (Zhn 0 (ZcC 4 ZdL.nd rfl rfl (Zho 0) (Zp (Za3 (Zl8 hu (Zd 4) (Zx 1)) (Zj (ZV 5 ZdL.nd (Zl Zcm hr (Zc (Zck hu (Zx 0) (Zd 4)) (Zc (Zd 1) (Zc (Zd 2) Zi)))))
  (Zp (Za3 (Z8 ZgO (Zd 5) Zbg) (Zp (Zhm hu 3 (Zd 4) (Zd 5))) Zab))) Zab))))
  (Zvl 3)))
theorem Zpz:Zz ["works"] ["works"] (Zh ZhI):=⟨rfl,rfl,rfl,by decide +kernel,rfl,by decide +kernel,by decide +kernel⟩
theorem ZpA(T:Txt K mg){f:Addr}{fd:FuncData}(Fn:Fun K "goal_of" "goal_of" ZhI f fd)(hm:mg "goal_of" = some (.ref f))(hb:Binds K fd ["works"] []):Callee P w K mg base (k+1) "goal_of" ZdH :=
 Zy Fn Zpz hm hb λcdv A outer s H E hr=>by have hu:=ZL hr;exact(Zp (ZA (Zau (Zx 0) Zo)))
theorem ZnG:Zz ["works","crowd"] ["works","crowd"] (Zh Zfg):=⟨rfl,rfl,rfl,by decide +kernel,rfl,by decide +kernel,by decide +kernel⟩
theorem ZnH(T:Txt K mg)(ZhP:Callee P w K mg base k "goal_of" ZdH){f:Addr}{fd:FuncData}(Fn:Fun K "is_there" "is_there" Zfg f fd)(hm:mg "is_there" = some (.ref f))(hb:Binds K fd ["works","crowd"] []):Callee P w K mg base (k+1) "is_there" ZbI :=
 Zy Fn ZnG hm hb λcdv A outer s H E hr=>by have hu:=ZL hr;exact(Zp (ZA (Zfo T.n_all rfl (ZaO (Zaf rfl rfl (N:=["state","works","crowd"]) (ZK (sc:=Zh Zfg) (XN:=["works","crowd"])) (Z5 (Zd 1)) (λ_ _ _ _ _=>Zby) (λ_ _ _ _ _=>(ZvG (Zd 0) (Zco (Zl ZhP hr (Zc (Zd 1) Zi))))))))))
theorem ZbO:Zz ["works","reach","cost_by","costs","cost","found","crowd","offered"] ["works","reach","cost_by"] (Zh Zdg):=⟨rfl,rfl,rfl,by decide +kernel,rfl,by decide +kernel,by decide +kernel⟩
theorem ZnI(T:Txt K mg)(Zg6:Callee P w K mg base k "is_there" ZbI)(Gf_next_costs:Zem P w K mg base k "next_costs" (Zbv ap)){f:Addr}{fd:FuncData}(Fn:Fun K "costs_of" "costs_of" Zdg f fd)(hm:mg "costs_of" = some (.ref f))(hb:Binds K fd ["works","reach","cost_by"] []):Callee P w K mg base (k+1) "costs_of" (Z3 ap) :=
 Zy Fn ZbO hm hb λcdv A outer s H E hr=>by
  have hu:=ZL hr;exact(Zj (ZaV 3 ZbO.nd Zm9)
  (Zj (ZV 4 ZbO.nd Zo)
  (Zj (Zhn 1 (Zev 5 ZbO.nd rfl rfl (N:=["crowd","works","reach","cost_by","costs","cost","found"," ","offered"]) (ZK (sc:=Zh Zdg) (XN:=["works","reach","cost_by","costs","cost","found","crowd","offered"])) (Zho 1) (λ_ _ _ _ _=>(Zcj (Zb9 (Zl Zg6 hr (Zc (Zd 1) (Zc (Zd 0) Zi)))))) (λ_ _ _ _ _=>(Zd 0))))
  (Zj (Zkb 100000 rfl (Z8 cGt (ZbY T.n_len (Zx 5)) Zo) (Zj (Zeu 5 (ZcC 6 ZbO.nd rfl rfl (Z5 (Zd 5)) (Zp (Zhm hu 3 (Zd 6) (Zd 4)))))
  (Zj (ZaV 7 ZbO.nd (Ztf Gf_next_costs hr (Znq (Zd 1) (Ztd (Zx 3) (Znq (Zd 2) (ZvH Zi))))))
  (Zj (Zeu 7 (Zhn 7 (ZV 4 ZbO.nd (Zjp T.n_min rfl (ZaO (Zaf rfl rfl (N:=["crowd","works","reach","cost_by","costs","cost","found"," ","offered"]) (ZK (sc:=Zh Zdg) (XN:=["works","reach","cost_by","costs","cost","found","crowd","offered"])) (Zho 7) (λ_ _ _ _ _=>Zby) (λ_ _ _ _ _=>(Zck hu (Zx 8) (Zd 0)))))))))
  (Zp (Zeu 7 (Zhn 7 (Zev 5 ZbO.nd rfl rfl (N:=["crowd","works","reach","cost_by","costs","cost","found"," ","offered"]) (ZK (sc:=Zh Zdg) (XN:=["works","reach","cost_by","costs","cost","found","crowd","offered"])) (Zho 7) (λ_ _ _ _ _=>(Zcj (Z8 (cEq hr) (Zck hu (Zx 8) (Zd 0)) (Zd 5)))) (λ_ _ _ _ _=>(Zd 0))))))))))
  (Zp (Zeu 3 (ZA (Zd 3))))))))
theorem ZmT:Zz ["works","coming"] ["works","coming"] (Zh Zf9):=⟨rfl,rfl,rfl,by decide +kernel,rfl,by decide +kernel,by decide +kernel⟩
theorem ZmU(T:Txt K mg)(ZaH:Callee P w K mg base k "costs_of" (Z3 ap))(Vff_deeds_by:GFn mg "deeds_by" 0){f:Addr}{fd:FuncData}(Fn:Fun K "depths_of" "depths_of" Zf9 f fd)(hm:mg "depths_of" = some (.ref f))(hb:Binds K fd ["works","coming"] []):Callee P w K mg base (k+1) "depths_of" (Zdx ap) :=
 Zy Fn ZmT hm hb λcdv A outer s H E hr=>by have hu:=ZL hr;exact(Zp (ZA (Zl ZaH hr (Zc (Zd 0) (Zc (Zd 1) (Zc (Zhp Vff_deeds_by) Zi))))))
theorem Zce:Zz ["crowds","ways_for","reach","waiting","crowd","way"] ["crowds","ways_for"] (Zh ZeC):=⟨rfl,rfl,rfl,by decide +kernel,rfl,by decide +kernel,by decide +kernel⟩
theorem Zkd(T:Txt K mg)(Z0:Callee P w K mg base k "crowds_in" Zv)(Zgd:Zeo P w K mg base k "crowds_in" Zv)(CV:ZcS P w K mg base k ap){f:Addr}{fd:FuncData}(Fn:Fun K "reached_from" "reached_from" ZeC f fd)(hm:mg "reached_from" = some (.ref f))(hb:Binds K fd ["crowds","ways_for"] []):Callee P w K mg base (k+1) "reached_from" (Zah ap) :=
 Zy Fn Zce hm hb λcdv A outer s H E hr=>by
  have hu:=ZL hr;exact(Zj (ZaV 2 Zce.nd Zm9)
  (Zj (ZaV 3 Zce.nd (Zl7 T.n_list (Zx 0)))
  (Zj (Zkb 100000 rfl (Z8 cGt (ZbY T.n_len (Zx 3)) Zo) (Zj (ZvI 4 3 Zce.nd)
  (Zp (Za3 (Zl8 hu (Zd 4) (Zx 2)) (Zj (Zhm hu 2 (Zd 4) (Zkc CV hr 1 (Zc (Zd 4) Zi)))
  (Zp (ZcC 5 Zce.nd rfl rfl (Z5 (Zck hu (Zx 2) (Zd 4))) (Zp (ZrK 3 (ZaO (Zte Zgd hr (Zc (Zau (Zx 5) Zo) Zi)))))))) Zab))))
  (Zp (Zeu 2 (ZA (Zd 2)))))))
theorem ZkL:Zz ["works","looks","crowd"] ["works","looks","crowd"] (Zh ZY):=⟨rfl,rfl,rfl,by decide +kernel,rfl,by decide +kernel,by decide +kernel⟩
theorem Zwt:Zne ["works","looks","crowd"] (Zh ZY) (ZfA ZY) ["works","looks"] [0,1]=true:=by decide +kernel
theorem ZkM(T:Txt K mg)(ZbS:Callee P w K mg base k "reached_from" (Zah ap))(Z0:Callee P w K mg base k "crowds_in" Zv)(Zbu:Callee P w K mg base k "parted" Zag)(ZcJ:Callee P w K mg base k "ways_with" ZaC){c Tl:Addr}(hc:ZAf K c Tl=true)(ht:(Tl,("coming_from.<locals>.<lambda>":Str))∈FX.tl)(hq:∀q,(Tl,q)∈FX.tl->q=("coming_from.<locals>.<lambda>":Str))(bm:BMod base mg)(good:∀F p cs,Clo K F p (Zrg ZY) (Zl3 ZY) (ZfA ZY) ["works","looks"] cs->FX.fv 1 cs F p){f:Addr}{fd:FuncData}(Fn:Zoa K "coming_from" "coming_from" ZY f fd c)(hm:mg "coming_from" = some (.ref f))(hb:Binds K fd ["works","looks","crowd"] []):Callee P w K mg base (k+1) "coming_from" (ZaG ap) :=
 Zk4 Fn ZkL hm hb λA outer s H E hr=>by have hu:=ZL hr;exact(Zp (ZA (ZkG ZbS hr (Zoh Zwt hc ht hq bm good) (Zl Z0 hr (Zc (Zl Zbu hr (Zc (Zd 0) (Zc (Zd 1) (Zc (Zd 2) Zi)))) Zi)))))
theorem ZhQ:Zz ["works","looks","begin","depths"] ["works","looks"] (Zh ZiL):=⟨rfl,rfl,rfl,by decide +kernel,rfl,by decide +kernel,by decide +kernel⟩
theorem ZqI(T:Txt K mg)(Zbb:Callee P w K mg base k "checked" Zba)(Zaw:Callee P w K mg base k "checked_looks" Zaj)(ZaT:Callee P w K mg base k "begin_of" Zac)(Zge:Callee P w K mg base k "depths_of" (Zdx ap))(ZbD:Callee P w K mg base k "cost_at_worst" Zal)(ZaX:Callee P w K mg base k "coming_from" (ZaG ap))(Zbu:Callee P w K mg base k "parted" Zag){f:Addr}{fd:FuncData}(Fn:Fun K "fewest" "fewest" ZiL f fd)(hm:mg "fewest" = some (.ref f))(hb:Binds K fd ["works","looks"] []):Callee P w K mg base (k+1) "fewest" (ZaJ ap) :=
 Zy Fn ZhQ hm hb λcdv A outer s H E hr=>by
  have hu:=ZL hr;exact(Zj (ZfX (Zl Zbb hr (Zc (Zd 0) Zi)))
  (Zj (ZfX (Zl Zaw hr (Zc (Zd 0) (Zc (Zd 1) Zi))))
  (Zj (ZV 2 ZhQ.nd (Zl ZaT hr (Zc (Zd 0) Zi)))
  (Zj (ZV 3 ZhQ.nd (Zl Zge hr (Zc (Zd 0) (Zc (Zl ZaX hr (Zc (Zd 0) (Zc (Zd 1) (Zc (Zd 2) Zi)))) Zi))))
  (Zp (ZA (Zl ZbD hr (Zc (Zl Zbu hr (Zc (Zd 0) (Zc (Zd 1) (Zc (Zd 2) Zi)))) (Zc (Zd 3) Zi)))))))))
theorem ZeL:Zz ["reach","crowds","found","crowd"] ["reach","crowds"] (Zh ZdK):=⟨rfl,rfl,rfl,by decide +kernel,rfl,by decide +kernel,by decide +kernel⟩
theorem ZkN(T:Txt K mg)(Z0:Callee P w K mg base k "crowds_in" Zv){f:Addr}{fd:FuncData}(Fn:Fun K "ways_within" "ways_within" ZdK f fd)(hm:mg "ways_within" = some (.ref f))(hb:Binds K fd ["reach","crowds"] []):Callee P w K mg base (k+1) "ways_within" Zb8 :=
 Zy Fn ZeL hm hb λcdv A outer s H E hr=>by
  have hu:=ZL hr;exact(Zj (ZaV 2 ZeL.nd Zm9)
  (Zj (Zhn 1 (ZcC 3 ZeL.nd rfl rfl (Zho 1) (Zp (Zhm hu 2 (Zd 3) (Zes (Zaf rfl rfl (N:=["way","reach","crowds","found","crowd"]) (ZK (sc:=Zh ZdK) (XN:=["reach","crowds","found","crowd"])) (Z5 (Zck hu (Zx 0) (Zd 3))) (λ_ _ _ _ _=>(Zcj (Zb9 (Zfo T.n_all rfl (ZaO (Zaf rfl rfl (N:=["part","way","reach","crowds","found","crowd"]) (ZK (XN:=["way","reach","crowds","found","crowd"]) rfl rfl rfl (by kernel_rfl)) (Z5 (Zl Z0 hr (Zc (Zau (Zx 0) Zo) Zi))) (λ_ _ _ _ _=>Zby) (λ_ _ _ _ _=>(ZrJ hu (Zd 0) (Zx 3))))))))) (λ_ _ _ _ _=>(Zd 0))))))))
  (Zp (Zeu 2 (ZA (Zd 2))))))
theorem ZbZ:Zz ["works","coming","reach","luck"] ["works","coming"] (Zh Zea):=⟨rfl,rfl,rfl,by decide +kernel,rfl,by decide +kernel,by decide +kernel⟩
theorem ZjN(T:Txt K mg)(ZaH:Callee P w K mg base k "costs_of" (Z3 ap))(ZeZ:Callee P w K mg base k "ways_within" Zb8)(Vff_deeds_by_luck:GFn mg "deeds_by_luck" 3){f:Addr}{fd:FuncData}(Fn:Fun K "patient_reach" "patient_reach" Zea f fd)(hm:mg "patient_reach" = some (.ref f))(hb:Binds K fd ["works","coming"] []):Callee P w K mg base (k+1) "patient_reach" (ZbB ap) :=
 Zy Fn ZbZ hm hb λcdv A outer s H E hr=>by
  have hu:=ZL hr;exact(Zj (ZV 2 ZbZ.nd (Zd 1))
  (Zj (ZV 3 ZbZ.nd (Zl ZaH hr (Zc (Zd 0) (Zc (Zd 2) (Zc (Zhp Vff_deeds_by_luck) Zi)))))
  (Zj (Zkb 100000 rfl (Z8 cLt (Zp0 T.n_len (Zx 3)) (Zp0 T.n_len (Zx 2))) (Zj (ZV 2 ZbZ.nd (Zl ZeZ hr (Zc (Zd 2) (Zc (Zd 3) Zi))))
  (Zp (ZV 3 ZbZ.nd (Zl ZaH hr (Zc (Zd 0) (Zc (Zd 2) (Zc (Zhp Vff_deeds_by_luck) Zi))))))))
  (Zp (ZA (Zd 2))))))
theorem ZiO:Zz ["works","looks"] ["works","looks"] (Zh ZdU):=⟨rfl,rfl,rfl,by decide +kernel,rfl,by decide +kernel,by decide +kernel⟩
theorem ZiP(T:Txt K mg)(Z0:Callee P w K mg base k "crowds_in" Zv)(Zbu:Callee P w K mg base k "parted" Zag)(ZaT:Callee P w K mg base k "begin_of" Zac){f:Addr}{fd:FuncData}(Fn:Fun K "parts_of_begin" "parts_of_begin" ZdU f fd)(hm:mg "parts_of_begin" = some (.ref f))(hb:Binds K fd ["works","looks"] []):Callee P w K mg base (k+1) "parts_of_begin" Zad :=
 Zy Fn ZiO hm hb λcdv A outer s H E hr=>by have hu:=ZL hr;exact(Zp (ZA (Zl Z0 hr (Zc (Zl Zbu hr (Zc (Zd 0) (Zc (Zd 1) (Zc (Zl ZaT hr (Zc (Zd 0) Zi)) Zi)))) Zi))))
theorem ZiQ:Zz ["ways","costs","cost_by","least"] ["ways","costs","cost_by"] (Zh Zfh):=⟨rfl,rfl,rfl,by decide +kernel,rfl,by decide +kernel,by decide +kernel⟩
theorem ZiR(T:Txt K mg)(Zcm:Callee P w K mg base k "least_cost" (ZaB ap))(CV:ZcS P w K mg base k ap){f:Addr}{fd:FuncData}(Fn:Fun K "best_way" "best_way" Zfh f fd)(hm:mg "best_way" = some (.ref f))(hb:Binds K fd ["ways","costs","cost_by"] []):Callee P w K mg base (k+1) "best_way" (Zb4 ap) :=
 Zy Fn ZiQ hm hb λcdv A outer s H E hr=>by
  have hu:=ZL hr;exact(Zj (ZV 3 ZiQ.nd (Zl Zcm hr (Zc (Zd 0) (Zc (Zd 1) (Zc (Zd 2) Zi)))))
  (Zp (ZA (Zau (ZaO (Zaf rfl rfl (N:=["way","ways","costs","cost_by","least"]) (ZK (sc:=Zh Zfh) (XN:=["ways","costs","cost_by","least"])) (Z5 (Zd 0)) (λ_ _ _ _ _=>(Zcj (Z8 (cEq hr) (Zkc CV hr 3 (Zc (Zd 0) (Zc (Zd 2) Zi))) (Zd 4)))) (λ_ _ _ _ _=>(Zd 0)))) Zo))))
theorem Zke:Zz ["reach","luck","crowd"] ["reach","luck","crowd"] (Zh ZeE):=⟨rfl,rfl,rfl,by decide +kernel,rfl,by decide +kernel,by decide +kernel⟩
theorem Zgf(T:Txt K mg)(Zg7:Callee P w K mg base k "best_way" (Zb4 ap))(Vff_deeds_by_luck:GFn mg "deeds_by_luck" 3){f:Addr}{fd:FuncData}(Fn:Fun K "patient_ways" "patient_ways" ZeE f fd)(hm:mg "patient_ways" = some (.ref f))(hb:Binds K fd ["reach","luck","crowd"] []):Callee P w K mg base (k+1) "patient_ways" (Zas ap) :=
 Zy Fn Zke hm hb λcdv A outer s H E hr=>by have hu:=ZL hr;exact(Zp (ZA (ZkF (Z8 (cEq hr) (Zck hu (Zx 1) (Zd 2)) Zo) (Zes (Zcp Zi)) (Zes (Zcp (Zc (Zl Zg7 hr (Zc (Zck hu (Zx 0) (Zd 2)) (Zc (Zd 1) (Zc (Zhp Vff_deeds_by_luck) Zi)))) Zi))))))
theorem Zb0:Zz ["works","looks","reach","first","luck","table"] ["works","looks"] (Zh ZJ):=⟨rfl,rfl,rfl,by decide +kernel,rfl,by decide +kernel,by decide +kernel⟩
theorem ZwO:Zne ["works","looks","reach","first","luck","table"] (Zh ZJ) (ZfA ZJ) ["reach","luck"] [2,4]=true:=by decide +kernel
theorem ZjO(T:Txt K mg)(Zbb:Callee P w K mg base k "checked" Zba)(Zaw:Callee P w K mg base k "checked_looks" Zaj)(Zeb:Callee P w K mg base k "patient_reach" (ZbB ap))(Zbt:Callee P w K mg base k "parts_of_begin" Zad)(ZaH:Callee P w K mg base k "costs_of" (Z3 ap))(ZbS:Callee P w K mg base k "reached_from" (Zah ap))(ZaX:Callee P w K mg base k "coming_from" (ZaG ap))(ZaT:Callee P w K mg base k "begin_of" Zac)(Zdo:Callee P w K mg base k "patient_ways" (Zas ap))(Vff_deeds_by_luck:GFn mg "deeds_by_luck" 3){c Tl:Addr}(hc:ZAf K c Tl=true)(ht:(Tl,("patient_table.<locals>.<lambda>":Str))∈FX.tl)(hq:∀q,(Tl,q)∈FX.tl->q=("patient_table.<locals>.<lambda>":Str))(bm:BMod base mg)(good:∀F p cs,Clo K F p (Zrg ZJ) (Zl3 ZJ) (ZfA ZJ) ["reach","luck"] cs->FX.fv 4 cs F p){f:Addr}{fd:FuncData}(Fn:Zoa K "patient_table" "patient_table" ZJ f fd c)(hm:mg "patient_table" = some (.ref f))(hb:Binds K fd ["works","looks"] []):Callee P w K mg base (k+1) "patient_table" (ZI ap) :=
 Zk4 Fn Zb0 hm hb λA outer s H E hr=>by
  have hu:=ZL hr;exact(Zj (ZfX (Zl Zbb hr (Zc (Zd 0) Zi)))
  (Zj (ZfX (Zl Zaw hr (Zc (Zd 0) (Zc (Zd 1) Zi))))
  (Zj (ZV 2 Zb0.nd (Zl Zeb hr (Zc (Zd 0) (Zc (Zl ZaX hr (Zc (Zd 0) (Zc (Zd 1) (Zc (Zl ZaT hr (Zc (Zd 0) Zi)) Zi)))) Zi))))
  (Zj (ZV 3 Zb0.nd (Zl Zbt hr (Zc (Zd 0) (Zc (Zd 1) Zi))))
  (Zj (Za3 (ZdZ (Zb9 (Zfo T.n_all rfl (ZaO (Zaf rfl rfl (N:=["part","works","looks","reach","first","luck","table"]) (ZK (sc:=Zh ZJ) (XN:=["works","looks","reach","first","luck","table"])) (Z5 (Zd 3)) (λ_ _ _ _ _=>Zby) (λ_ _ _ _ _=>(ZrJ hu (Zd 0) (Zx 3)))))))) (Zp (ZA Zbg)) Zab)
  (Zj (ZV 4 Zb0.nd (Zl ZaH hr (Zc (Zd 0) (Zc (Zd 2) (Zc (Zhp Vff_deeds_by_luck) Zi)))))
  (Zj (ZV 5 Zb0.nd (ZkG ZbS hr (Zoh ZwO hc ht hq bm good) (Zd 3)))
  (Zp (ZA (Zes (Zaf rfl rfl (N:=["crowd","works","looks","reach","first","luck","table"]) (ZK (sc:=Zh ZJ) (XN:=["works","looks","reach","first","luck","table"])) (Z5 (Zes (ZqC T.n_sorted rfl (Zx 5)))) (λ_ _ _ _ _=>Zby) (λ_ _ _ _ _=>(Zc7 (Zc (Zd 0) (Zc (ZkF (Z8 cGt (ZbY T.n_len (Zco (Zck hu (Zx 6) (Zd 0)))) Zo) (Zau (Zco (Zau (Zco (Zck hu (Zx 6) (Zd 0))) Zo)) Zo) Zbg) Zi)))))))))))))))
theorem Zj0:Zz ["works","looks","luck"] ["works","looks"] (Zh ZfK):=⟨rfl,rfl,rfl,by decide +kernel,rfl,by decide +kernel,by decide +kernel⟩
theorem ZpB(T:Txt K mg)(Zbb:Callee P w K mg base k "checked" Zba)(Zaw:Callee P w K mg base k "checked_looks" Zaj)(ZaH:Callee P w K mg base k "costs_of" (Z3 ap))(ZaX:Callee P w K mg base k "coming_from" (ZaG ap))(ZaT:Callee P w K mg base k "begin_of" Zac)(Zbt:Callee P w K mg base k "parts_of_begin" Zad)(Vff_deeds_by_luck:GFn mg "deeds_by_luck" 3){f:Addr}{fd:FuncData}(Fn:Fun K "by_luck" "by_luck" ZfK f fd)(hm:mg "by_luck" = some (.ref f))(hb:Binds K fd ["works","looks"] []):Callee P w K mg base (k+1) "by_luck" (ZaW ap) :=
 Zy Fn Zj0 hm hb λcdv A outer s H E hr=>by
  have hu:=ZL hr;exact(Zj (ZfX (Zl Zbb hr (Zc (Zd 0) Zi)))
  (Zj (ZfX (Zl Zaw hr (Zc (Zd 0) (Zc (Zd 1) Zi))))
  (Zj (ZV 2 Zj0.nd (Zl ZaH hr (Zc (Zd 0) (Zc (Zl ZaX hr (Zc (Zd 0) (Zc (Zd 1) (Zc (Zl ZaT hr (Zc (Zd 0) Zi)) Zi)))) (Zc (Zhp Vff_deeds_by_luck) Zi)))))
  (Zp (ZA (Zjp T.n_min rfl (ZaO (Zaf rfl rfl (N:=["part","works","looks","luck"]) (ZK (sc:=Zh ZfK) (XN:=["works","looks","luck"])) (Z5 (Zl Zbt hr (Zc (Zd 0) (Zc (Zd 1) Zi)))) (λ_ _ _ _ _=>(Zcj (Znp hu (Zd 0) (Zx 3)))) (λ_ _ _ _ _=>(Zck hu (Zx 3) (Zd 0)))))))))))
theorem ZnJ:Zz ["works","looks"] ["works","looks"] (Zh ZgZ):=⟨rfl,rfl,rfl,by decide +kernel,rfl,by decide +kernel,by decide +kernel⟩
theorem ZnK(T:Txt K mg)(Zdy:Callee P w K mg base k "fewest" (ZaJ ap))(Zbd:Callee P w K mg base k "patient_table" (ZI ap))(Zcs:Callee P w K mg base k "by_luck" (ZaW ap)){f:Addr}{fd:FuncData}(Fn:Fun K "strength" "strength" ZgZ f fd)(hm:mg "strength" = some (.ref f))(hb:Binds K fd ["works","looks"] []):Callee P w K mg base (k+1) "strength" (Zb5 ap) :=
 Zy Fn ZnJ hm hb λcdv A outer s H E hr=>by
  have hu:=ZL hr;exact(Zj (Za3 (Z8 ZgO (Zl Zdy hr (Zc (Zd 0) (Zc (Zd 1) Zi))) Zbg) (Zp (ZA Zc6)) Zab)
  (Zj (Za3 (Z8 ZgO (Zl Zbd hr (Zc (Zd 0) (Zc (Zd 1) Zi))) Zbg) (Zp (ZA Zc6)) Zab)
  (Zj (Za3 (Z8 ZgO (Zl Zcs hr (Zc (Zd 0) (Zc (Zd 1) Zi))) Zbg) (Zp (ZA Zc6)) Zab)
  (Zp (ZA Zc6)))))
theorem ZmV:Zz ["works"] ["works"] (Zh Zf8):=⟨rfl,rfl,rfl,by decide +kernel,rfl,by decide +kernel,by decide +kernel⟩
theorem ZmW(T:Txt K mg)(ZbJ:Callee P w K mg base k "looks_of" Zbm)(Zbb:Callee P w K mg base k "checked" Zba){f:Addr}{fd:FuncData}(Fn:Fun K "all_looks" "all_looks" Zf8 f fd)(hm:mg "all_looks" = some (.ref f))(hb:Binds K fd ["works"] []):Callee P w K mg base (k+1) "all_looks" Zcb :=
 Zy Fn ZmV hm hb λcdv A outer s H E hr=>by have hu:=ZL hr;exact(Zp (ZA (ZgR T.n_tuple T.n_range rfl (ZbY T.n_len (Zco (Zl ZbJ hr (Zc (Zl Zbb hr (Zc (Zd 0) Zi)) Zi)))))))
theorem ZdM:Zz ["_law_script","_law_works_here","_law_looks_here","_law_some","_law_words","_law_found","_law_deeds","_law_deed_here","_law_plain"] ["_law_script"] (Zh ZeI):=⟨rfl,rfl,rfl,by decide +kernel,rfl,by decide +kernel,by decide +kernel⟩
theorem Zuz(T:Txt K mg)(Zgg:Callee P w K mg base k "_law_works" Za7)(Zgh:Callee P w K mg base k "_law_looks" ZcG)(Zd1:Callee P w K mg base k "strength" (Zb5 ap))(Za8:Callee P w K mg base k "_law_cell" Zak)(Zdy:Callee P w K mg base k "fewest" (ZaJ ap))(Zbd:Callee P w K mg base k "patient_table" (ZI ap))(Zcs:Callee P w K mg base k "by_luck" (ZaW ap))(ZeM:Callee P w K mg base k "all_looks" Zcb){f:Addr}{fd:FuncData}(Fn:Fun K "law" "law" ZeI f fd):ZdB P w K mg base CX0 (k+1) f fd ["_law_script"] (spD K 1 (Zf4 ap)) :=
 Zqc Fn ZdM λcdv A outer s H E hr=>by
  have hu:=ZL hr;exact(Zj (ZV 1 ZdM.nd (Zl Zgg hr (Zc (Zd 0) (Zc Zo Zi))))
  (Zj (ZV 2 ZdM.nd (Zl Zgh hr (Zc (Zd 1) (Zc (Zl Za8 hr (Zc (Zd 0) (Zc Zo Zi))) Zi))))
  (Zj (ZaV 3 ZdM.nd (Zcp (Zc (Zet ZgO (Zl Zdy hr (Zc (Zd 1) (Zc (Zd 2) Zi))) Zbg) (Zc (Zet ZgO (Zl Zbd hr (Zc (Zd 1) (Zc (Zd 2) Zi))) Zbg) Zi))))
  (Zj (Zdr 3 (Zet ZgO (Zl Zcs hr (Zc (Zd 1) (Zc (Zd 2) Zi))) Zbg))
  (Zj (Zeu 3 (Za3 (Z8 (cNe hr) (Zd 3) (Zes (ZqB T.n_sorted rfl (Zx 3)))) (Zp (ZA ZbR)) Zab))
  (Zj (ZaV 4 ZdM.nd (Zcp (Zc Zc6 (Zc Zc6 (Zc Zc6 (Zc Zc6 Zi))))))
  (Zj (ZV 5 ZdM.nd (Zl Zd1 hr (Zc (Zd 1) (Zc (Zd 2) Zi))))
  (Zj (Zeu 3 (Za3 (Z8 (cNe hr) (Zd 5) (Zau (Zx 4) (ZbY T.n_len (ZaO (Zaf rfl rfl (N:=["_law_one","_law_script","_law_works_here","_law_looks_here","_law_some","_law_words","_law_found","_law_deeds","_law_deed_here","_law_plain"]) (ZK (sc:=Zh ZeI) (XN:=["_law_script","_law_works_here","_law_looks_here","_law_some","_law_words","_law_found","_law_deeds","_law_deed_here","_law_plain"])) (Z5 (Zd 3)) (λ_ _ _ _ _=>(Zcj (Zb9 (Zd 0)))) (λ_ _ _ _ _=>(Zd 0))))))) (Zp (ZA ZbR)) Zab))
  (Zj (Za3 (Znj (ZrH (Z8 (cEq hr) (Zd 5) Zc6) (ZpZ (Z8 (cNe hr) (Zl Zd1 hr (Zc (Zd 1) (Zc (Zl ZeM hr (Zc (Zd 1) Zi)) Zi))) Zc6)))) (Zp (ZA ZbR)) Zab)
  (Zj (Za3 (Znj (ZrH (Z8 (cNe hr) (Zd 5) Zc6) (ZpZ (Z8 cGt (Zl Zcs hr (Zc (Zd 1) (Zc (Zl ZeM hr (Zc (Zd 1) Zi)) Zi))) (Zl Zcs hr (Zc (Zd 1) (Zc (Zd 2) Zi))))))) (Zp (ZA ZbR)) Zab)
  (Zj (ZaV 6 ZdM.nd (Zcp Zi))
  (Zj (ZcC 7 ZdM.nd rfl rfl (Z5 (Zau (Zx 1) Zo)) (Zp (Zdr 6 (Zav T.n_tuple (ZaO (Zaf rfl rfl (N:=["_law_row","_law_script","_law_works_here","_law_looks_here","_law_some","_law_words","_law_found","_law_deeds","_law_deed_here","_law_plain"]) (ZK (sc:=Zh ZeI) (XN:=["_law_script","_law_works_here","_law_looks_here","_law_some","_law_words","_law_found","_law_deeds","_law_deed_here","_law_plain"])) (Z5 (Zd 7)) (λ_ _ _ _ _=>Zby) (λ_ _ _ _ _=>(Znr (Zd 0) Zlx (Zl4 Zo)))))))))
  (Zj (ZV 8 ZdM.nd (Zuy (Zc7 (Zc (Zau (Zx 1) Zo) (Zc (Zav T.n_tuple (Zx 6)) (Zc (Zc7 (Zc (ZgR T.n_tuple T.n_range rfl (Zau (Zx 1) Zo)) Zi)) Zi)))) (Znr (Zd 1) (Zl4 Zo) Zlx)))
  (Zj (Za3 (Z8 (cEq hr) (Zl Zd1 hr (Zc (Zd 8) (Zc (Zc7 (Zc Zo Zi)) Zi))) Zc6) (Zp (ZA ZbR)) Zab)
  (Zp (ZA (Zet (cEq hr) (Zet ZqV (Zl Zdy hr (Zc (Zd 8) (Zc (Zc7 (Zc Zo Zi)) Zi))) Zbg) (Zet ZqV (Zl Zbd hr (Zc (Zd 8) (Zc (Zc7 (Zc Zo Zi)) Zi))) Zbg))))))))))))))))))
end
section
variable[FX]{P:Program}{w:World}{K:ZyK}{mg:Str->Option Value}{base:Heap}{k:Nat}
def FvI(K:ZyK)(t:Nat)(cs:List PyData)(F:Hp)(a:Addr):Prop :=
 (t=0/\cs=[]/\ZAv K Zzr "deeds_by" = some (some (.ref a)))\/(t=3/\cs=[]/\ZAv K Zzr "deeds_by_luck" = some (some (.ref a)))\/(t=1/\Clo K F a (Zrg ZY) (Zl3 ZY) (ZfA ZY) ["works","looks"] cs)\/(t=4/\Clo K F a (Zrg ZJ) (Zl3 ZJ) (ZfA ZJ) ["reach","luck"] cs)
theorem Zsl:Zh4 (ZfA ZY) "part" ["works","looks"]:=⟨rfl,rfl,rfl,by decide +kernel,rfl,by decide +kernel,by decide +kernel⟩
theorem Zsx(T:Txt K mg)(ZcJ:Callee P w K mg base k "ways_with" ZaC)(qual:Str)(f:Addr)(cd:Value)(clos:List (Str × Addr))(A:Around)(outer:List PySem.Env)(s:Shared)(H:Hp)(hr:ZaE k (A.deeper (ZBE qual (ZfA ZY) s.heap.objs.size f cd clos))) :
  XE (ZkS P w K mg base ["part","works","looks"] qual (ZfA ZY) f cd clos A outer s H) (Zl3 ZY) (Zf ZaC (Za (Zb 1) (Za (Zb 2) (Za (Zb 0) Zg)))):=by
 have hu:=ZL hr;exact(Zl ZcJ hr (Zc (Zd 1) (Zc (Zd 2) (Zc (Zd 0) Zi))))
theorem Zwn:Zh4 (ZfA ZJ) "crowd" ["reach","luck"]:=⟨rfl,rfl,rfl,by decide +kernel,rfl,by decide +kernel,by decide +kernel⟩
theorem ZwM(T:Txt K mg)(Zdo:Callee P w K mg base k "patient_ways" (Zas ap0))(qual:Str)(f:Addr)(cd:Value)(clos:List (Str × Addr))(A:Around)(outer:List PySem.Env)(s:Shared)(H:Hp)(hr:ZaE k (A.deeper (ZBE qual (ZfA ZJ) s.heap.objs.size f cd clos))) :
  XE (ZkS P w K mg base ["crowd","reach","luck"] qual (ZfA ZJ) f cd clos A outer s H) (Zl3 ZJ) (Zf (Zas ap0) (Za (Zb 1) (Za (Zb 2) (Za (Zb 0) Zg)))):=by
 have hu:=ZL hr;exact(Zl Zdo hr (Zc (Zd 1) (Zc (Zd 2) (Zc (Zd 0) Zi))))
theorem ZwU(T:Txt K mg)(V:∀t cs F a,FX.fv t cs F a->FvI K t cs F a){f0:Addr}{fd0:FuncData}(Fn0:Fun K "deeds_by" "deeds_by" Zd0 f0 fd0)(hm0:mg "deeds_by" = some (.ref f0))(hn0:∀a,ZAv K Zzr "deeds_by" = some (some (.ref a))->mg "deeds_by" = some (.ref a))(Zdh:Callee P w K mg base (k+1) "deeds_by" Zb3){f1:Addr}{fd1:FuncData}(Fn1:Fun K "deeds_by_luck" "deeds_by_luck" ZbC f1 fd1)(hm1:mg "deeds_by_luck" = some (.ref f1))(hn1:∀a,ZAv K Zzr "deeds_by_luck" = some (some (.ref a))->mg "deeds_by_luck" = some (.ref a))(ZbE:Callee P w K mg base (k+1) "deeds_by_luck" Z4)(Lf_ways_with:Callee P w K mg base k "ways_with" ZaC):ZcS P w K mg base (k+1) ap0:=by
 constructor
 ·intro t cs F a h A outer s H e0 sub
  rcases V t cs F a h with⟨rfl,rfl,hn⟩ | ⟨rfl,rfl,hn⟩ | ⟨rfl,hC⟩ | ⟨rfl,hC⟩
  ·exact ZjG Fn0 hm0 (hn0 a hn) e0
  ·exact ZjG Fn1 hm1 (hn1 a hn) e0
  ·exact Zk3 hC e0 sub
  ·exact Zk3 hC e0 sub
 ·intro t cs F a h A outer s H e0 sub us vs ds d Q hr tb nt rv rs hap kk
  rcases V t cs F a h with⟨rfl,rfl,hn⟩ | ⟨rfl,rfl,hn⟩ | ⟨rfl,hC⟩ | ⟨rfl,hC⟩
  ·exact Zh7 Zdh (hn0 a hn) e0 sub hr tb nt rv rs hap kk
  ·exact Zh7 ZbE (hn1 a hn) e0 sub hr tb nt rv rs hap kk
  ·exact ZlM Zsl (λ_ _ _ _ _ _=>rfl) (Zsx T Lf_ways_with) hC e0 sub hr tb nt rv rs hap kk
  ·exact absurd (show(none:Option PyData)=some d from hap) (by simp)
theorem Zxv(T:Txt K mg)(V:∀t cs F a,FX.fv t cs F a->FvI K t cs F a){f0:Addr}{fd0:FuncData}(Fn0:Fun K "deeds_by" "deeds_by" Zd0 f0 fd0)(hm0:mg "deeds_by" = some (.ref f0))(hn0:∀a,ZAv K Zzr "deeds_by" = some (some (.ref a))->mg "deeds_by" = some (.ref a))(Zdh:Callee P w K mg base (k+1) "deeds_by" Zb3){f1:Addr}{fd1:FuncData}(Fn1:Fun K "deeds_by_luck" "deeds_by_luck" ZbC f1 fd1)(hm1:mg "deeds_by_luck" = some (.ref f1))(hn1:∀a,ZAv K Zzr "deeds_by_luck" = some (some (.ref a))->mg "deeds_by_luck" = some (.ref a))(ZbE:Callee P w K mg base (k+1) "deeds_by_luck" Z4)(Lf_ways_with:Callee P w K mg base k "ways_with" ZaC)(Lf_patient_ways:Callee P w K mg base k "patient_ways" (Zas ap0)):ZcS P w K mg base (k+1) ap:=by
 constructor
 ·intro t cs F a h A outer s H e0 sub
  rcases V t cs F a h with⟨rfl,rfl,hn⟩ | ⟨rfl,rfl,hn⟩ | ⟨rfl,hC⟩ | ⟨rfl,hC⟩
  ·exact ZjG Fn0 hm0 (hn0 a hn) e0
  ·exact ZjG Fn1 hm1 (hn1 a hn) e0
  ·exact Zk3 hC e0 sub
  ·exact Zk3 hC e0 sub
 ·intro t cs F a h A outer s H e0 sub us vs ds d Q hr tb nt rv rs hap kk
  rcases V t cs F a h with⟨rfl,rfl,hn⟩ | ⟨rfl,rfl,hn⟩ | ⟨rfl,hC⟩ | ⟨rfl,hC⟩
  ·exact Zh7 Zdh (hn0 a hn) e0 sub hr tb nt rv rs hap kk
  ·exact Zh7 ZbE (hn1 a hn) e0 sub hr tb nt rv rs hap kk
  ·exact ZlM Zsl (λ_ _ _ _ _ _=>rfl) (Zsx T Lf_ways_with) hC e0 sub hr tb nt rv rs hap kk
  ·exact ZlM Zwn (λ_ _ _ _ _ _=>rfl) (ZwM T Lf_patient_ways) hC e0 sub hr tb nt rv rs hap kk
def tlI:List (Addr × Str):=[(233,"coming_from.<locals>.<lambda>"),(297,"patient_table.<locals>.<lambda>")]
@[reducible] def fxI(K:ZyK):FX where
 tl:=tlI
 fv:=FvI K
 sw:=λhF hob h=>by
  rcases h with h | h | h | h
  ·exact ZzO (h)
  ·exact Zzi (ZzO (h))
  ·exact Zzi (Zzi (ZzO (⟨h.1,h.2.sw hF hob⟩)))
  ·exact Zzi (Zzi (Zzi ((⟨h.1,h.2.sw hF hob⟩))))
 drop:=λh=>by
  rcases h with h | h | h | h
  ·exact ZzO (h)
  ·exact Zzi (ZzO (h))
  ·exact Zzi (Zzi (ZzO (⟨h.1,h.2.drop⟩)))
  ·exact Zzi (Zzi (Zzi ((⟨h.1,h.2.drop⟩))))
 mono:=λh s=>by
  rcases h with h | h | h | h
  ·exact ZzO (h)
  ·exact Zzi (ZzO (h))
  ·exact Zzi (Zzi (ZzO (⟨h.1,h.2.mono s⟩)))
  ·exact Zzi (Zzi (Zzi ((⟨h.1,h.2.mono s⟩))))
structure Def(K:ZyK)(mg:Str->Option Value)(x:Str)(st:Stmt)(ps:List Str):Prop where
 ex:∃f fd,Fun K x x st f fd/\mg x=some (.ref f)/\Binds K fd ps []
theorem ZvQ{h:Heap}{x:Str}{st:Stmt}{ps:List Str}{f:Addr}{oc:Value}{od an:Option Addr}{osl:Array (Option Value)}{kV doc pm cdv ct:Value}(X:K.In h)(G:h.Ns Zzr mg)(a:ZAv K Zzr x=some (some (.ref f)))
  (l:K.lookup f=some ⟨oc,od,.func (ZAb x x (Zcn st) (ZaY st) (Zh st) .none kV doc pm an cdv ct),osl⟩) (c:ZAV K cdv x=true) (kp:ZAh K (.ref f)=true)
  (b:∀(kV doc pm:Value) (an:Option Addr) (cdv ct:Value) (us:List Value),us.length=ps.length->bindArgs (ZAb x x (Zcn st) (ZaY st) (Zh st) .none kV doc pm an cdv ct) ⟨us,[]⟩=pure (ps.zip us)):Def K mg x st ps :=
 ⟨f,_,ZnW l c kp,ZCc X G a,(ZnW l c kp).binds b⟩
structure Ztr(K:ZyK)(mg:Str->Option Value)(x:Str)(st:Stmt)(ps:List Str)(c T:Addr):Prop where
 ex:∃f fd,Zoa K x x st f fd c/\mg x=some (.ref f)/\Binds K fd ps []/\ZAf K c T=true
theorem ZuT{h:Heap}{x:Str}{st:Stmt}{ps:List Str}{f c T:Addr}{oc:Value}{od an:Option Addr}{osl:Array (Option Value)}{kV doc pm cdv ct:Value}(X:K.In h)(G:h.Ns Zzr mg)(a:ZAv K Zzr x=some (some (.ref f)))
  (l:K.lookup f=some ⟨oc,od,.func (ZAb x x (Zcn st) (ZaY st) (Zh st) .none kV doc pm an cdv ct),osl⟩) (cc:ZAV K cdv x=true) (kp:ZAh K (.ref f)=true)
  (b:∀(kV doc pm:Value) (an:Option Addr) (cdv ct:Value) (us:List Value),us.length=ps.length->bindArgs (ZAb x x (Zcn st) (ZaY st) (Zh st) .none kV doc pm an cdv ct) ⟨us,[]⟩=pure (ps.zip us)) (e:cdv=.ref c) (hc:ZAf K c T=true):Ztr K mg x st ps c T:=by
 subst e;exact⟨f,_,Zvc l cc kp,ZCc X G a,.all (b kV doc pm an _ ct),hc⟩
def NsV(K:ZyK)(mg:Str->Option Value)(x:Str):Prop:=(∀a,ZAv K Zzr x=some (some (.ref a))->mg x=some (.ref a))/\∃f,ZAv K Zzr x=some (some (.ref f))
theorem ZwF{h:Heap}{x:Str}{f:Addr}(X:K.In h)(G:h.Ns Zzr mg)(a:ZAv K Zzr x=some (some (.ref f))):NsV K mg x:=⟨λ_ e=>ZCc X G e,f,a⟩
end
structure Ds(K:ZyK)(mg:Str->Option Value):Prop where
 ZpC:Def K mg "_law_cell" Zg0 ["_law_script","_law_k"]
 ZqJ:Def K mg "_law_mix" ZhK ["_law_cell_here","_law_prime","_law_many"]
 ZnL:Def K mg "_law_crowd" ZeF ["_law_cell_here","_law_many","_law_least"]
 ZpD:Def K mg "_law_deed" Zg1 ["_law_cell_here","_law_many"]
 ZpE:Def K mg "_law_walk" Zg2 ["_law_cell_here","_law_many"]
 ZnM:Def K mg "_law_works" ZeG ["_law_script","_law_at"]
 ZnN:Def K mg "_law_looks" ZeH ["_law_works_here","_law_cell_here"]
 ZnO:Def K mg "is_number" Zf5 ["thing","least","most"]
 ZnP:Def K mg "is_rising" Zf6 ["thing","many"]
 ZpF:Def K mg "is_crowd" ZgV ["thing","many"]
 ZrL:Def K mg "is_row" ZiJ ["thing","least","most"]
 ZqK:Def K mg "is_deed" ZfH ["thing","many"]
 ZnQ:Def K mg "are_deeds" ZeA ["thing","many"]
 ZqL:Def K mg "is_look" ZfI ["thing","many"]
 ZnR:Def K mg "are_looks" ZeB ["thing","many"]
 ZnS:Def K mg "are_works" Zf7 ["thing"]
 ZqM:Def K mg "checked" ZhJ ["works"]
 ZpG:Def K mg "looks_of" ZgX ["works"]
 Zkf:Def K mg "checked_looks" Zd9 ["works","looks"]
 ZpH:Def K mg "begin_of" ZgY ["works"]
 ZiS:Def K mg "crowds_in" ZcH ["rows"]
 Zkg:Def K mg "cost_at_worst" ZcW ["rows","costs"]
 Zj1:Def K mg "deeds_by" Zd0 ["way","depths"]
 Zgi:Def K mg "deeds_by_luck" ZbC ["way","luck"]
 ZqN:Def K mg "seen_in" ZfJ ["works","looks","state"]
 ZrM:Def K mg "parted" ZgE ["works","looks","crowd"]
 ZpI:Def K mg "deeds_of" ZgW ["works"]
 Zlu:Def K mg "can_be_done" ZdJ ["works","crowd","deed"]
 ZmX:Def K mg "deeds_with" Zd3 ["works","crowd"]
 ZrN:Def K mg "led_to" ZiK ["works","crowd","deed"]
 ZnT:Def K mg "ways_with" ZeD ["works","looks","crowd"]
 Zir:Def K mg "least_cost" Zc9 ["ways","costs","cost_by"]
 ZmY:Def K mg "next_costs" Zfu ["reach","costs","cost_by"]
 ZqO:Def K mg "goal_of" ZhI ["works"]
 ZpJ:Def K mg "is_there" Zfg ["works","crowd"]
 ZpK:Def K mg "costs_of" Zdg ["works","reach","cost_by"]
 ZnU:Def K mg "depths_of" Zf9 ["works","coming"]
 ZkO:Def K mg "reached_from" ZeC ["crowds","ways_for"]
 Zlv:Ztr K mg "coming_from" ZY ["works","looks","crowd"] 237 233
 ZrO:Def K mg "fewest" ZiL ["works","looks"]
 Zlw:Def K mg "ways_within" ZdK ["reach","crowds"]
 Zkh:Def K mg "patient_reach" Zea ["works","coming"]
 ZjP:Def K mg "parts_of_begin" ZdU ["works","looks"]
 Zj2:Def K mg "best_way" Zfh ["ways","costs","cost_by"]
 ZgG:Def K mg "patient_ways" ZeE ["reach","luck","crowd"]
 Zki:Ztr K mg "patient_table" ZJ ["works","looks"] 299 297
 ZqP:Def K mg "by_luck" ZfK ["works","looks"]
 ZpL:Def K mg "strength" ZgZ ["works","looks"]
 ZnV:Def K mg "all_looks" Zf8 ["works"]
 Nf_deeds_by:NsV K mg "deeds_by"
 Nf_deeds_by_luck:NsV K mg "deeds_by_luck"
section
variable[FX]{P:Program}{w:World}{K:ZyK}{mg:Str->Option Value}{base:Heap}{k:Nat}
theorem ZvW(T:Txt K mg)(hV:∀t cs F a,FX.fv t cs F a↔FvI K t cs F a)(hTL:FX.tl=tlI)(Dd:Ds K mg)(bm:BMod base mg){f:Addr}{fd:FuncData}(Fn:Fun K "law" "law" ZeI f fd):ZdB P w K mg base CX0 16 f fd ["_law_script"] (spD K 1 (Zf4 ap)):=by
 have Vff_deeds_by:GFn mg "deeds_by" 0:=by obtain⟨h1,g,h2⟩:=Dd.Nf_deeds_by;exact⟨g,h1 g h2,λF=>(hV _ _ _ _).mpr (ZzO (⟨rfl,rfl,h2⟩))⟩
 have Vff_deeds_by_luck:GFn mg "deeds_by_luck" 3:=by obtain⟨h1,g,h2⟩:=Dd.Nf_deeds_by_luck;exact⟨g,h1 g h2,λF=>(hV _ _ _ _).mpr (Zzi (ZzO (⟨rfl,rfl,h2⟩)))⟩
 have Za8:Callee P w K mg base 1 "_law_cell" Zak:=by obtain⟨f,fd,F,m,b⟩:=Dd.ZpC.ex;exact Znu T  F m b
 have ZQ:Callee P w K mg base 1 "_law_mix" ZP:=by obtain⟨f,fd,F,m,b⟩:=Dd.ZqJ.ex;exact Zpq T  F m b
 have ZeJ:Callee P w K mg base 2 "_law_crowd" ZbN:=by obtain⟨f,fd,F,m,b⟩:=Dd.ZnL.ex;exact ZmE T (ZQ.mono (by decide)) F m b
 have Zg3:Callee P w K mg base 2 "_law_deed" Zde:=by obtain⟨f,fd,F,m,b⟩:=Dd.ZpD.ex;exact Znv T (ZQ.mono (by decide)) F m b
 have Zg4:Callee P w K mg base 2 "_law_walk" Zdf:=by obtain⟨f,fd,F,m,b⟩:=Dd.ZpE.ex;exact Znw T (ZQ.mono (by decide)) F m b
 have Zgg:Callee P w K mg base 3 "_law_works" Za7:=by obtain⟨f,fd,F,m,b⟩:=Dd.ZnM.ex;exact ZmF T (Za8.mono (by decide)) (ZeJ.mono (by decide)) (ZQ.mono (by decide)) (Zg3.mono (by decide)) (Zg4.mono (by decide)) F m b
 have Zgh:Callee P w K mg base 2 "_law_looks" ZcG:=by obtain⟨f,fd,F,m,b⟩:=Dd.ZnN.ex;exact ZmH T (ZQ.mono (by decide)) F m b
 have Zbp:Callee P w K mg base 1 "is_number" Za6:=by obtain⟨f,fd,F,m,b⟩:=Dd.ZnO.ex;exact ZmJ T  F m b
 have ZaD:Callee P w K mg base 2 "is_rising" Z9:=by obtain⟨f,fd,F,m,b⟩:=Dd.ZnP.ex;exact ZmK T (Zbp.mono (by decide)) F m b
 have Zg5:Callee P w K mg base 3 "is_crowd" Zdd:=by obtain⟨f,fd,F,m,b⟩:=Dd.ZpF.ex;exact Zny T (ZaD.mono (by decide)) F m b
 have ZaQ:Callee P w K mg base 1 "is_row" Za4:=by obtain⟨f,fd,F,m,b⟩:=Dd.ZrL.ex;exact ZqF T  F m b
 have ZhL:Callee P w K mg base 3 "is_deed" Zcq:=by obtain⟨f,fd,F,m,b⟩:=Dd.ZqK.ex;exact Zps T (ZaQ.mono (by decide)) (ZaD.mono (by decide)) F m b
 have Zga:Callee P w K mg base 4 "are_deeds" ZcD:=by obtain⟨f,fd,F,m,b⟩:=Dd.ZnQ.ex;exact ZmM T (ZaQ.mono (by decide)) (ZhL.mono (by decide)) F m b
 have ZhM:Callee P w K mg base 2 "is_look" Zcr:=by obtain⟨f,fd,F,m,b⟩:=Dd.ZqL.ex;exact Zpu T (ZaQ.mono (by decide)) (Zbp.mono (by decide)) F m b
 have Zgb:Callee P w K mg base 3 "are_looks" ZcE:=by obtain⟨f,fd,F,m,b⟩:=Dd.ZnR.ex;exact ZmO T (ZaQ.mono (by decide)) (ZhM.mono (by decide)) F m b
 have Zgc:Callee P w K mg base 5 "are_works" ZcF:=by obtain⟨f,fd,F,m,b⟩:=Dd.ZnS.ex;exact ZmP T (Zg5.mono (by decide)) (ZaD.mono (by decide)) (ZaQ.mono (by decide)) (Zbp.mono (by decide)) (Zga.mono (by decide)) (Zgb.mono (by decide)) F m b
 have Zbb:Callee P w K mg base 6 "checked" Zba:=by obtain⟨f,fd,F,m,b⟩:=Dd.ZqM.ex;exact Zpw T (Zgc.mono (by decide)) F m b
 have ZbJ:Callee P w K mg base 1 "looks_of" Zbm:=by obtain⟨f,fd,F,m,b⟩:=Dd.ZpG.ex;exact ZnA T  F m b
 have Zaw:Callee P w K mg base 3 "checked_looks" Zaj:=by obtain⟨f,fd,F,m,b⟩:=Dd.Zkf.ex;exact ZjK T (ZaD.mono (by decide)) (ZbJ.mono (by decide)) F m b
 have ZaT:Callee P w K mg base 1 "begin_of" Zac:=by obtain⟨f,fd,F,m,b⟩:=Dd.ZpH.ex;exact ZnC T  F m b
 have Z0:Callee P w K mg base 1 "crowds_in" Zv:=by obtain⟨f,fd,F,m,b⟩:=Dd.ZiS.ex;exact ZmQ T  F m b
 have Zgd:Zeo P w K mg base 1 "crowds_in" Zv:=by obtain⟨f,fd,F,m,b⟩:=Dd.ZiS.ex;exact Zlr T  F m b
 have ZbD:Callee P w K mg base 2 "cost_at_worst" Zal:=by obtain⟨f,fd,F,m,b⟩:=Dd.Zkg.ex;exact ZjL T (Z0.mono (by decide)) F m b
 have Zdh:Callee P w K mg base 3 "deeds_by" Zb3:=by obtain⟨f,fd,F,m,b⟩:=Dd.Zj1.ex;exact ZnD T (ZbD.mono (by decide)) F m b
 have ZbE:Callee P w K mg base 2 "deeds_by_luck" Z4:=by obtain⟨f,fd,F,m,b⟩:=Dd.Zgi.ex;exact ZjM T (Z0.mono (by decide)) F m b
 have ZhO:Callee P w K mg base 2 "seen_in" ZdG:=by obtain⟨f,fd,F,m,b⟩:=Dd.ZqN.ex;exact Zpy T (ZbJ.mono (by decide)) F m b
 have Zbu:Callee P w K mg base 3 "parted" Zag:=by obtain⟨f,fd,F,m,b⟩:=Dd.ZrM.ex;exact ZqG T (ZhO.mono (by decide)) F m b
 have ZbK:Callee P w K mg base 1 "deeds_of" Zbl:=by obtain⟨f,fd,F,m,b⟩:=Dd.ZpI.ex;exact ZnF T  F m b
 have ZeY:Callee P w K mg base 2 "can_be_done" Zb7:=by obtain⟨f,fd,F,m,b⟩:=Dd.Zlu.ex;exact ZkK T (ZbK.mono (by decide)) F m b
 have Zfw:Callee P w K mg base 3 "deeds_with" Zcl:=by obtain⟨f,fd,F,m,b⟩:=Dd.ZmX.ex;exact Zlt T (ZeY.mono (by decide)) (ZbK.mono (by decide)) F m b
 have ZiN:Callee P w K mg base 2 "led_to" Zds:=by obtain⟨f,fd,F,m,b⟩:=Dd.ZrN.ex;exact ZqH T (ZbK.mono (by decide)) F m b
 have ZcJ:Callee P w K mg base 4 "ways_with" ZaC:=by obtain⟨f,fd,F,m,b⟩:=Dd.ZnT.ex;exact ZmS T (Zbu.mono (by decide)) (Zfw.mono (by decide)) (ZiN.mono (by decide)) F m b
 obtain⟨f0,fd0,F0,m0,b0⟩:=Dd.Zj1.ex;obtain⟨f1,fd1,F1,m1,b1⟩:=Dd.Zgi.ex;have CV0:ZcS P w K mg base 5 ap0:=ZwU (k:=4) T (λt cs F a h=>(hV t cs F a).mp h) F0 m0 Dd.Nf_deeds_by.1 (Zdh.mono (by decide)) F1 m1 Dd.Nf_deeds_by_luck.1 (ZbE.mono (by decide)) (ZcJ.mono (by decide));have C0f_least_cost:Callee P w K mg base 6 "least_cost" (ZaB ap0):=by obtain⟨f,fd,F,m,b⟩:=Dd.Zir.ex;exact Zht T  (CV0.mono (by decide)) F m b
 have C0f_best_way:Callee P w K mg base 7 "best_way" (Zb4 ap0):=by obtain⟨f,fd,F,m,b⟩:=Dd.Zj2.ex;exact ZiR T (C0f_least_cost.mono (by decide)) (CV0.mono (by decide)) F m b
 have C0f_patient_ways:Callee P w K mg base 8 "patient_ways" (Zas ap0):=by obtain⟨f,fd,F,m,b⟩:=Dd.ZgG.ex;exact Zgf T (C0f_best_way.mono (by decide)) Vff_deeds_by_luck F m b
 have CV:ZcS P w K mg base 9 ap:=Zxv (k:=8) T (λt cs F a h=>(hV t cs F a).mp h) F0 m0 Dd.Nf_deeds_by.1 (Zdh.mono (by decide)) F1 m1 Dd.Nf_deeds_by_luck.1 (ZbE.mono (by decide)) (ZcJ.mono (by decide)) (C0f_patient_ways.mono (by decide));have Zcm:Callee P w K mg base 10 "least_cost" (ZaB ap):=by obtain⟨f,fd,F,m,b⟩:=Dd.Zir.ex;exact Zht T  (CV.mono (by decide)) F m b
 have Gf_next_costs:Zem P w K mg base 11 "next_costs" (Zbv ap):=by obtain⟨f,fd,F,m,b⟩:=Dd.ZmY.ex;exact Zk0 T (Zcm.mono (by decide)) F m b
 have ZhP:Callee P w K mg base 1 "goal_of" ZdH:=by obtain⟨f,fd,F,m,b⟩:=Dd.ZqO.ex;exact ZpA T  F m b
 have Zg6:Callee P w K mg base 2 "is_there" ZbI:=by obtain⟨f,fd,F,m,b⟩:=Dd.ZpJ.ex;exact ZnH T (ZhP.mono (by decide)) F m b
 have ZaH:Callee P w K mg base 12 "costs_of" (Z3 ap):=by obtain⟨f,fd,F,m,b⟩:=Dd.ZpK.ex;exact ZnI T (Zg6.mono (by decide)) (Gf_next_costs.mono (by decide)) F m b
 have Zge:Callee P w K mg base 13 "depths_of" (Zdx ap):=by obtain⟨f,fd,F,m,b⟩:=Dd.ZnU.ex;exact ZmU T (ZaH.mono (by decide)) Vff_deeds_by F m b
 have ZbS:Callee P w K mg base 10 "reached_from" (Zah ap):=by obtain⟨f,fd,F,m,b⟩:=Dd.ZkO.ex;exact Zkd T (Z0.mono (by decide)) (Zgd.mono (by decide)) (CV.mono (by decide)) F m b
 have ZaX:Callee P w K mg base 11 "coming_from" (ZaG ap):=by obtain⟨f,fd,F,m,b,hc⟩:=Dd.Zlv.ex;exact ZkM T (ZbS.mono (by decide)) (Z0.mono (by decide)) (Zbu.mono (by decide)) (ZcJ.mono (by decide)) hc (by rw[hTL]; decide) (by rw[hTL]; intro q h; simpa [tlI]using h) bm (λF p cs h=>(hV _ _ _ _).mpr (Zzi (Zzi (ZzO (⟨rfl,h⟩))))) F m b
 have Zdy:Callee P w K mg base 14 "fewest" (ZaJ ap):=by obtain⟨f,fd,F,m,b⟩:=Dd.ZrO.ex;exact ZqI T (Zbb.mono (by decide)) (Zaw.mono (by decide)) (ZaT.mono (by decide)) (Zge.mono (by decide)) (ZbD.mono (by decide)) (ZaX.mono (by decide)) (Zbu.mono (by decide)) F m b
 have ZeZ:Callee P w K mg base 2 "ways_within" Zb8:=by obtain⟨f,fd,F,m,b⟩:=Dd.Zlw.ex;exact ZkN T (Z0.mono (by decide)) F m b
 have Zeb:Callee P w K mg base 13 "patient_reach" (ZbB ap):=by obtain⟨f,fd,F,m,b⟩:=Dd.Zkh.ex;exact ZjN T (ZaH.mono (by decide)) (ZeZ.mono (by decide)) Vff_deeds_by_luck F m b
 have Zbt:Callee P w K mg base 4 "parts_of_begin" Zad:=by obtain⟨f,fd,F,m,b⟩:=Dd.ZjP.ex;exact ZiP T (Z0.mono (by decide)) (Zbu.mono (by decide)) (ZaT.mono (by decide)) F m b
 have Zg7:Callee P w K mg base 11 "best_way" (Zb4 ap):=by obtain⟨f,fd,F,m,b⟩:=Dd.Zj2.ex;exact ZiR T (Zcm.mono (by decide)) (CV.mono (by decide)) F m b
 have Zdo:Callee P w K mg base 12 "patient_ways" (Zas ap):=by obtain⟨f,fd,F,m,b⟩:=Dd.ZgG.ex;exact Zgf T (Zg7.mono (by decide)) Vff_deeds_by_luck F m b
 have Zbd:Callee P w K mg base 14 "patient_table" (ZI ap):=by obtain⟨f,fd,F,m,b,hc⟩:=Dd.Zki.ex;exact ZjO T (Zbb.mono (by decide)) (Zaw.mono (by decide)) (Zeb.mono (by decide)) (Zbt.mono (by decide)) (ZaH.mono (by decide)) (ZbS.mono (by decide)) (ZaX.mono (by decide)) (ZaT.mono (by decide)) (Zdo.mono (by decide)) Vff_deeds_by_luck hc (by rw[hTL]; decide) (by rw[hTL]; intro q h; simpa [tlI]using h) bm (λF p cs h=>(hV _ _ _ _).mpr (Zzi (Zzi (Zzi ((⟨rfl,h⟩)))))) F m b
 have Zcs:Callee P w K mg base 13 "by_luck" (ZaW ap):=by obtain⟨f,fd,F,m,b⟩:=Dd.ZqP.ex;exact ZpB T (Zbb.mono (by decide)) (Zaw.mono (by decide)) (ZaH.mono (by decide)) (ZaX.mono (by decide)) (ZaT.mono (by decide)) (Zbt.mono (by decide)) Vff_deeds_by_luck F m b
 have Zd1:Callee P w K mg base 15 "strength" (Zb5 ap):=by obtain⟨f,fd,F,m,b⟩:=Dd.ZpL.ex;exact ZnK T (Zdy.mono (by decide)) (Zbd.mono (by decide)) (Zcs.mono (by decide)) F m b
 have ZeM:Callee P w K mg base 7 "all_looks" Zcb:=by obtain⟨f,fd,F,m,b⟩:=Dd.ZnV.ex;exact ZmW T (ZbJ.mono (by decide)) (Zbb.mono (by decide)) F m b
 exact Zuz (k:=15) T (Zgg.mono (by decide)) (Zgh.mono (by decide)) (Zd1.mono (by decide)) (Za8.mono (by decide)) (Zdy.mono (by decide)) (Zbd.mono (by decide)) (Zcs.mono (by decide)) (ZeM.mono (by decide)) Fn
end
theorem all_mk{l:ZDr}{w:World}{K:ZyK}{h:Heap}{mg:Str->Option Value}{fa f4:Addr}{od4 an4:Option Addr}{sl4:Array (Option Value)}{oc4 kV4 dc4 pm4 cd4 ct4:Value}(X:K.In h)(G:h.Ns Zzr mg)(hfa:mg "law" = some (.ref fa))
  (T:Txt K mg) (Dd:Ds K mg) (a4:ZAv K Zzr "law" = some (some (.ref f4)))
  (l4:K.lookup f4=some ⟨oc4,od4,.func (ZAb "law" "law" (Zcn ZeI) (ZaY ZeI) (Zh ZeI) .none kV4 dc4 pm4 an4 cd4 ct4),sl4⟩) (c4:ZAV K cd4 "law" = true) (k4:ZAh K (.ref f4)=true) :
  ∃fd:FuncData,(∀(s:Shared) (v:Value),BindsTo s fd ⟨[v],[]⟩ [("_law_script",v)])/\∀base:Heap,K.In base->base.Ns Zzr mg->BMod base mg->ZdB l.prog w K mg base CX0 16 fa fd ["_law_script"] (@spD (fxI K) K 1 (Zf4 ap)):=by
 have e:=hfa.symm.trans (ZCc X G a4);cases e;have fx0:FX:=FX0;exact⟨_,λs v=>.of_eq rfl,λbase _ _ bm=>@ZvW (fxI K) _ _ _ _ _ T (λ_ _ _ _=>Iff.rfl) rfl Dd bm _ _ (ZnW (st:=ZeI) l4 c4 k4)⟩
theorem walk{l:ZDr}{q:Program}{loose:List Str}{XP:(Str->Option Value)->Heap->Prop}{YP:World->Heap->Prop}{d:DefRec}{K:Params->ZyK}(hn:l.most=some 63)(hdf:d.params.defaults=[])
  (Zkx:∀ns:List Int,ns.length<=63->(Zf4 ap) [.list (HM.ofInts ns)]=some (.bool true)) (hY:∀(w:World) (h:Heap),YP w h->(K w.params).In h) (hYT:∀(w:World) (h:Heap),YP w h->∀q∈([(237,233),(299,297)]:List (Addr × Addr)),h.get? q.2=some (ZBF #[]))
  (hT:∀(w:World),∀q∈([(237,233),(299,297)]:List (Addr × Addr)),ZAf (K w.params) q.1 q.2=true/\(K w.params).lookup q.2=none)
  (F:∀(w:World) (mg:Str->Option Value) (fa:Addr) (h:Heap),(K w.params).In h->h.Ns Zzr mg->mg d.name=some (.ref fa) ->
   ∃fd:FuncData,(∀(s:Shared) (u:Value),BindsTo s fd ⟨[u],[]⟩ [("_law_script",u)])/\∀base:Heap,(K w.params).In base->base.Ns Zzr mg->BMod base mg->ZdB l.prog w (K w.params) mg base CX0 16 fa fd ["_law_script"] (@spD (fxI (K w.params)) (K w.params) 1 (Zf4 ap))) :
  PySem.W.WalkO q loose XP YP l.row.toRowW d [] (λf vs=>PySem.call f vs) :=
 Zt3 (n:=63) (k:=16) (x:="_law_script") (sp:=λw=>@spD (fxI (K w.params)) (K w.params) 1 (Zf4 ap)) (tabs:=[(237,233),(299,297)]) hn (by decide) hdf ⟨rfl,by decide,by decide⟩ hY hYT hT F λw H a ns hl hO hS=>@Zv0 (fxI (K w.params)) _ _ _ _ _ _ hO (λT q h=>by
  have:∀p∈tlI,p.1∈([(237,233),(299,297)]:List (Addr × Addr)).map (·.2):=by decide
  exact this _ h) hS (Zkx ns hl)
section
variable{P:Program}{w:World}{K:ZyK}{mg:Str->Option Value}{base:Heap}{k:Nat}
abbrev ZxZ{K:ZyK}{h:Heap}(_:K.In h)(mg:Str->Option Value):Prop:=Ds K mg
abbrev Zxq{K:ZyK}{h:Heap}(_:K.In h)(mg:Str->Option Value):Prop:=Txt K mg
theorem int_mk{mg:Str->Option Value}{n:Str}{v:Value}{k:Int}(h:mg n=some v)(e:∃t,v=.int k t):∃t,mg n=some (.int k t):=by obtain⟨t,rfl⟩:=e;exact⟨t,h⟩
end
end HT
namespace PySem.W.Fast
theorem tw10236362453937438701:True:=⟨⟩
theorem tw11231182124136118220:True:=⟨⟩
theorem tw11482187308945873841:True:=⟨⟩
theorem tw12231262219790179150:True:=⟨⟩
theorem tw12304654945617394853:True:=⟨⟩
theorem tw12346462199571020786:True:=⟨⟩
theorem tw13167788555771560100:True:=⟨⟩
theorem tw13431749849184724071:True:=⟨⟩
theorem tw13617118690576929735:True:=⟨⟩
theorem tw13671332435545256469:True:=⟨⟩
theorem tw15189179663198540168:True:=⟨⟩
theorem tw1528435874189747735:True:=⟨⟩
theorem tw16407202756237460683:True:=⟨⟩
theorem tw16830185878591656443:True:=⟨⟩
theorem tw17928400810706212805:True:=⟨⟩
theorem tw17968639354230920498:True:=⟨⟩
theorem tw2314734305603402277:True:=⟨⟩
theorem tw4584719754388535157:True:=⟨⟩
theorem tw4897287178912247014:True:=⟨⟩
theorem tw51646432869539082:True:=⟨⟩
theorem tw5986725125749764809:True:=⟨⟩
theorem tw6055992350793500418:True:=⟨⟩
theorem tw6264278812572880840:True:=⟨⟩
theorem tw8275928514346808029:True:=⟨⟩
theorem tw8649789345960905164:True:=⟨⟩
theorem tw9373933034141628491:True:=⟨⟩
theorem tw9671511352928961838:True:=⟨⟩
theorem tw9947715439270119975:True:=⟨⟩
end PySem.W.Fast
open PySem PySem.W PyProof.Rows
set_option maxRecDepth 100000 in
set_option maxHeartbeats 0 in
theorem PySem.Challenge.cw_halfseen_k20_whole_strengths_holds : PySem.Challenge.rw_halfseen_k20_whole_strengths.Holds := by
 w_on; o_law; k_head; (case hw=>w_witness2)
 k_fill
 refine HT.walk (l:=PySem.Challenge.rw_halfseen_k20_whole_strengths) rfl rfl HG20.Zkx (λw h Y=>PySem.W.km_in_of Y) (λw h Y q hq=>PySem.W.km_tabs_of Y _ (by clear Y; revert q; decide)) ?Tab ?F
 case Tab =>
  intro w q hq;rcases Zzb.mp hq with e | hq
  ·cases e
   exact⟨by kernel_rfl,by kernel_rfl⟩
  cases ZyY.mp hq;exact⟨by kernel_rfl,by kernel_rfl⟩
 case F =>
  intro w mg fa h KX G hmg;have fx0:HP.FX:=HP.FX0;have T:HT.Zxq KX mg:=by
   refine⟨?_,?_,?_,?_,?_,?_,?_,?_,?_,?_,?_,?_,?_,?_,?_,?_⟩
   all_goals first
    | (refine PySem.W.mg_none_of KX G ?z; (case z=>k_is))
    | (refine' HT.int_mk (ZCc KX G ?z) ?e; (case z=>k_is); (case e=>exact⟨_,rfl⟩))
  have Dd:HT.ZxZ KX mg:=by
   refine⟨?_,?_,?_,?_,?_,?_,?_,?_,?_,?_,?_,?_,?_,?_,?_,?_,?_,?_,?_,?_,?_,?_,?_,?_,?_,?_,?_,?_,?_,?_,?_,?_,?_,?_,?_,?_,?_,?_,?_,?_,?_,?_,?_,?_,?_,?_,?_,?_,?_,?_,?_⟩
   all_goals first
    | (refine' HT.ZvQ KX G ?a ?l ?c ?k ?b; (case a=>k_is); (case l=>k_is); (case c=>k_is); (case k=>k_is); (case b=>first | exact λ_ _ _ _ _ _ us hl=>(match us,hl with | [_],_=>rfl) | exact λ_ _ _ _ _ _ us hl=>(match us,hl with | [_,_],_=>rfl) | exact λ_ _ _ _ _ _ us hl=>(match us,hl with | [_,_,_],_=>rfl)))
    | (refine' HT.ZuT KX G ?a ?l ?c ?k ?b ?e ?h; (case a=>k_is); (case l=>k_is); (case c=>k_is); (case k=>k_is); (case h=>kernel_rfl); (case e=>exact rfl); (case b=>first | exact λ_ _ _ _ _ _ us hl=>(match us,hl with | [_],_=>rfl) | exact λ_ _ _ _ _ _ us hl=>(match us,hl with | [_,_],_=>rfl) | exact λ_ _ _ _ _ _ us hl=>(match us,hl with | [_,_,_],_=>rfl)))
    | (refine' HT.ZwF KX G ?z; (case z=>k_is))
  refine' HT.all_mk KX G hmg T Dd ?a4 ?l4 ?c4 ?k4
  (case a4=>k_is); (case l4=>k_is); (case c4=>k_is); (case k4=>k_is)