import PyProof.Rows.All
import Wide.All
import OpenK.AllK
import Wide.FinOn
import Lean
import PyProof.EqAt
import PyProof.EqKinds
import PyProof.TupleCall
import PyProof.P3Statements
import PyProof.P3Eq
import PyProof.NeData
import PyProof.IsiPairs
import PyProof.IsiHeapPairs
import KE.LcSums
import PyProof.IsiNone
import PyProof.DictRoadsH
import PyProof.Rows.SetFrom
import PyProof.DictWalks
import PyProof.Rows.MinMaxN
import PyProof.Rows.SumAny
import PyProof.WalkInts
import PySem.Challenge.RW_halfseen_k14_a_foe_answers
set_option Elab.async false
set_option linter.all false
set_option maxRecDepth 100000
open PySem renaming wpAny_bind->Zyr,wpAny_pure->Zyv,starEach->ZyF,wpAny_newObj_type->Zzb,mainGlobals->Zzd,bootBuiltins->Zzt,wpAny_holding->Zzz,behindInMarks->ZzE,compareOp->ZzF,wpAny_call_entry->ZzH,wpAny_mono->ZzJ,codeAny_builtin->ZzN,sizeLine_eq->ZzP,foldedSetIterable->ZzV,mem_of_lookup->ZzY,sysModules->Zz0,tupleKind_room_in1->ZAm,lookup_relabel_local->ZAu,wpAny_truthy_bool->ZAv,attributeBase->ZAx,wpAny_typeNameOfWhole_keyiter->ZAy,assignEach->ZAB,swapsWith->ZAE,codeAny_mono->ZAG,wpAny_Call_Name_kw->ZAH,wpAny_passesOwn->ZAJ,wpAny_ite_split->ZAK,plainId_quiet->ZAN,wpAny_typeNameOf_keyiter->ZAX,tupleKind->ZBg,binaryOp->ZBi,wpAny_askSetting->ZBm,sliceBounds->ZBo,keywordEach->ZBp,wpAny_setField->ZBF,wpAny_tryCatch->ZBG,wpAny_dictEntries->ZBL,wpAny_setState_of->ZBN,wpAny_execs_nil->ZB3,letOwnedTupleGo->ZB4,call_meetsIn->ZB5,wpAny_newFunctionEnv->ZB9,wpAny_setEntries_of->ZCd,backToKw->ZCf,wpAny_fieldsOf->ZCi,firstArgMember->ZCj,codeAmong->ZCm,wpAny_attempt->ZCv,wpAny_Call_method->ZCB,wpAny_pyIter_list->ZCC,wpAny_pyIter_slot->ZCE,builtinsNs->ZCI,call_meets->ZCJ,intKind_is->ZCL,wpAny_isInstance->ZCS,pickOrder->ZC1,wpAny_dictEpoch->ZC2,wpAny_updateSeq->ZC4,subscripted->ZC8,wpAny_of_eq->ZC9,wpAny_letGo->ZDa
open PySem.W renaming Frag->Zys,fnOf->ZzM,keepIn->ZzQ,codeHdIn->Zz8,codeIn->ZAA,nsIn->ZAY,tabObj->ZBf,envX->ZBz,mg_of->ZBX,kla_obj->ZCb,methodObj->ZCA,OpenLaw->ZC5,cellsFrom_some->ZC6,codeHd_of_K->ZDr,callWith_K->ZDu,FnAt->ZDx
open List renaming length_map->Zyt,mem_cons_self->Zyw,mem_cons_of_mem->Zyx,map_cons->Zyz,range->ZyA,mem_map->ZyC,all_eq_true->ZyD,getElem?_eq_some_iff->ZyG,getElem?_eq_getElem->ZyH,length_cons->ZyI,size_toArray->ZyJ,mem_singleton->ZyL,length_append->ZyM,map_map->ZyP,mem_cons->ZyR,mem_range->ZyS,getElem?_map->ZyU,mem_of_getElem?->ZyW,mem_append_right->ZyY,mem_append->ZyZ,getElem?_set_ne->Zy0,replicate->Zy1,mem_filter->Zy2,getElem?_append_left->Zy3,append_nil->Zy7,map_append->Zy8,mem_append_left->Zy9,getElem?_cons_succ->Zza,getElem?_append_right->Zze,length->Zzf,length_replicate->Zzh,pairwise_cons->Zzi,getElem?_set_self->Zzk,length_filter_le->Zzm,nodup_cons->Zzq,foldl_cons->Zzr,find?_cons->Zzs,mem_filterMap->Zzy,any_eq_true->ZzA,length_set->ZzG,filterMap_cons->ZzI,append_assoc->ZzK,all_cons->ZzL,length_take->ZzO,getD->ZzX,map_congr_left->ZzZ,length_singleton->Zz2,eq_nil_of_length_eq_zero->Zz3,getElem_mem->Zz5,filter_cons->Zz9,any_cons->ZAa,nodup_nil->ZAb,contains_eq_mem->ZAc,replicate_succ->ZAe,filter_eq_self->ZAf,lookup_cons->ZAj,nil_append->ZAr,map_nil->ZAs,length_range->ZAw,flatten_cons->ZAO,nodup_append->ZAP,length_drop->ZAT,mem_flatMap->ZAW,getElem_of_mem->ZAZ,length_pos_iff->ZA0,getElem?_replicate->ZA3,getElem?_cons_zero->ZA4,filter_cons_of_pos->ZA6,set_getElem_self->ZBc,max?_eq_some_iff->ZBe,mergeSort_perm->ZBq,drop_eq_getElem_cons->ZBs,mem_of_find?_eq_some->ZBu,pairwise_mergeSort->ZBJ,filter_eq_nil_iff->ZBT,min?_eq_some_iff->ZB1,max?_eq_none_iff->ZB2,set_set->ZB6,map->ZCg,range'->ZCl,filter_append->ZCq,ne_nil_of_mem->ZCr,nodup_iff_pairwise_ne->ZCy,exists_cons_of_ne_nil->ZCz,find?_append->ZCD,pairwise_map->ZCG,find?_isSome->ZCH,pairwise_iff_getElem->ZCK,getElem?_take_of_lt->ZCO,set_eq_of_length_le->ZCQ,drop_length->ZCR,cons_append->ZCT,length_filterMap_le->ZCU,filter_cons_of_neg->ZCY,of_mem_zip->ZCZ,length_nil->ZC0,pairwise_lt_range->ZDb,getElem?_eq_none->ZDe,dropLast_eq_take->ZDj,min?_eq_none_iff->ZDk,all_nil->ZDy
open Option renaming map_eq_some_iff->Zyu,isSome_iff_exists->Zy4,isSome_map->ZzW,map->ZAi,isSome->ZBn,bind_eq_some_iff->ZBI
open PySem.Heap renaming get?_push_of_some->Zyy,lt_size->ZyK,get?_push_size->ZyO,get?_update_self->ZzD,get?_update_other->ZzR,SameBut->ZAq,size_push->ZBd,get?_push_ne->ZBQ,size_update->ZBZ
open Nat renaming le_refl->ZyB,ne_of_lt->ZyQ,lt_of_lt_of_le->ZyX,le_trans->Zzg,zero_le->ZzS,lt_irrefl->ZAh,le_of_lt->ZAp,lt_trans->ZAt,lt_succ_self->ZAV,lt_succ_of_lt->ZBb,le_of_not_lt->ZBk,ne_of_gt->ZBv,blt_eq->ZBD,le_of_eq->ZB8
open PySem.SetTable renaming below->ZyE,insertAt->ZyV,insertAt_perm->ZAg,tooFull->ZBl,toList_insertAt->ZBy,fits->ZBU,fill->ZBV,turns->ZDf,bits->ZDm
open Bool renaming and_eq_true->ZyN,false_ne_true->Zzc,or_eq_true->ZAd,false_eq_true->ZAo,eq_iff_iff->ZCa,false_or->ZCu,true_and->ZDo
open Array renaming length_toList->ZyT,getElem?_toList->Zzl,getD->ZAD,toList_push->ZAQ,getElem?_eq_getElem->ZAS,getElem?_eq_none->ZBR,perm_iff_toList_perm->ZCw
open Or renaming inr->Zy5,inl->Zzo
open PySem.PyData renaming int->Zy6,tuple->Zzn,eqv->ZzB,bool->ZzU,canLayAll0->ZBa,depthAll->ZCc,eqvAll->ZCx
open PySem.Value renaming ref->Zzj,none->Zzv,int->ZAl,type->ZBA
open Option.some renaming inj->Zzp
open Ne renaming symm->Zzu
open False renaming elim->Zzw
open PySem.Around renaming under_plainId->Zzx,frames_deeper->ZDl
open PySem.Heap.SameBut renaming update->ZzC,refl->ZDz
open PySem.F renaming plain_min_loop->ZzT,called_set->Zz6,slot_dict_get->ZAn,plainAttrs_list->ZAz,plain_list_iadd->ZA5,entry_dict_get->ZA9,slot_list_append->ZBw,type_list_append->ZBx,plainAttrs_dict->ZBH,entry_min_loop->ZBS,slot_dict_setdefault->ZCh,plain_proto_collect->ZCo,args_tuple_add_2->ZCP,entry_tuple_add->ZCV,args_dict_get_2->ZCW,args_dict_get_3->ZCX,slot_tuple_add->ZC7,type_dict_get->ZDd,plain_set_new->ZDg,slot_set_iter->ZDh
open List.Nodup renaming length_le_of_subset->Zz1
open PySem.Builtin.Tuple renaming tupleExact->Zz4
open PySem.Obj renaming data_mapFields->Zz7,mapSeq->ZBB,putSet->ZBE,isFreed_of_fields->ZB0,cls_mapFields->ZCF,mapFields->ZDn
open Sum renaming inl->ZAk,inr->ZCN
open PySem.Calls renaming callWith_builtin->ZAC,spliced_cons->ZAF,evalArgs_plain->ZBj,spliced_nil->ZBK,Name_function_global->ZCs,call_function_entry->ZCM
open PySem.Str renaming ofString->ZAI
open PyProof.Rows.KeyOrd renaming kle_of_not_klt->ZAL,kle_refl->ZA8,kle_of_klt->ZBP,kle_trans->ZBY,kle_antisymm->ZDp
open PySem.NameKind renaming free->ZAM
open PySem.Builtin.Slice renaming slicePlaces->ZAR,sliceAdjust->ZBr,sliceApplied->ZCt
open PySem.Builtin.List renaming listTooLong->ZAU,listLengthHint->ZCn,listExtendWith->ZCp
open PyProof.Rows renaming slot_tuple_getitem->ZA1,callWith_type1->ZBh,entry_list_sort->ZC3
open PySem.Builtin.Range renaming rangeSize->ZA2,small->ZDq
open PySem.Paired renaming length->ZA7
open Classical renaming byContradiction->ZBt
open True renaming intro->ZBC
open PySem.SetTable.below renaming go->ZBM
open Int renaming toNat_natCast->ZBO,toNat_of_nonneg->ZCe,le_refl->ZDc
open Function renaming comp->ZBW
open ForInStep renaming yield->ZB7
open PySem.Builtin.Dict_items renaming ownsTuple->ZCk
open PySem.Builtin.Dict renaming showsAll->ZDi
open PySem.SeqAt.EqAt renaming int_str->ZDs,str_int->ZDt
open PyProof.Rows.IsTup renaming new->ZDv
open PySem.Expr renaming Call->ZDw
namespace L2
open PySem PySem.Spec PyProof.Rows
abbrev Key:=Sum Int Str
def ZhV:Key->Value->Bool
 | .inl k,v=>Value.isInt k v
 | .inr x,v=>Value.isStrOf x v
def ZxS(w:World):Key->Int
 | .inl k=>hashInt k
 | .inr x=>hashStr w x
theorem Zbe:∀{k:Key} {v:Value},ZhV k v=true->(∃i t,k=ZAk i/\v=ZAl i t)\/(∃x t,k=ZCN x/\v=Value.str x t)
 | .inl i,v,h=>by obtain⟨t,e⟩:=Value.isInt_shape (k:=i) (v:=v) h;exact .inl ⟨i,t,rfl,e⟩
 | .inr x,v,h=>by obtain⟨t,e⟩:=Value.isStrOf_shape (x:=x) (v:=v) h;exact .inr ⟨x,t,rfl,e⟩
theorem Zsh(i:Int)(t:Tok):ZhV (.inl i) (.int i t)=true:=by simp[ZhV,Value.isInt]
theorem Zsj(x:Str)(t:Tok):ZhV (.inr x) (.str x t)=true:=by simp[ZhV,Value.isStrOf]
theorem ZwE(a b:Int):decide ((ZAk a:Key)=ZAk b)=(a==b):=by
 by_cases e:a=b
 ·subst e; simp
 ·have h:¬(ZAk a:Key)=ZAk b:=λq=>e (Sum.inl.inj q)
  rw[decide_eq_false h];exact(beq_eq_false_iff_ne.mpr e).symm
theorem Zwc(a b:Str):decide ((ZCN a:Key)=ZCN b)=decide (a=b):=by
 by_cases e:a=b
 ·subst e; simp
 ·have h:¬(ZCN a:Key)=ZCN b:=λq=>e (Sum.inr.inj q)
  rw[decide_eq_false h,decide_eq_false e]
theorem ZwS(a:Int)(b:Str):decide ((ZAk a:Key)=ZCN b)=false:=decide_eq_false (λq=>nomatch q)
theorem Zwn(a:Str)(b:Int):decide ((ZCN a:Key)=ZAk b)=false:=decide_eq_false (λq=>nomatch q)
def Zah(prog:Program)(w:World):PySem.KeyKind prog w Key where
 is:=ZhV
 hash:=ZxS w
 inj:=λv a b ha hb=>by
  rcases Zbe ha with⟨i,t,rfl,rfl⟩ | ⟨x,t,rfl,rfl⟩
  ·rcases Zbe hb with⟨j,u,rfl,e⟩ | ⟨y,u,rfl,e⟩
   ·injection e with e1 _; rw[e1]
   ·exact nomatch e
  ·rcases Zbe hb with⟨j,u,rfl,e⟩ | ⟨y,u,rfl,e⟩
   ·exact nomatch e
   ·injection e with e1 _; rw[e1]
 byValue:=λk v h=>by rcases Zbe h with⟨i,t,rfl,rfl⟩ | ⟨x,t,rfl,rfl⟩<;>rfl
 pyHash:=λhv h=>by
  rcases Zbe hv with⟨i,t,rfl,rfl⟩ | ⟨x,t,rfl,rfl⟩
  ·exact wpAny_pyHash_int h
  ·exact wpAny_pyHash_str h
 eqBool:=λhu hv h=>by
  rcases Zbe hu with⟨i,t,rfl,rfl⟩ | ⟨x,t,rfl,rfl⟩
  ·rcases Zbe hv with⟨j,u,rfl,rfl⟩ | ⟨y,u,rfl,rfl⟩
   ·rw[ZwE]at h; exact wpAny_eqBool_int h
   ·rw[ZwS]at h; exact ZDs i t y u _ _ _ _ h
  ·rcases Zbe hv with⟨j,u,rfl,rfl⟩ | ⟨y,u,rfl,rfl⟩
   ·rw[Zwn]at h; exact ZDt x t j u _ _ _ _ h
   ·rw[Zwc]at h; exact wpAny_eqBool_str h
 «strs»:=λk x t v h=>by
  rcases Zbe h with⟨i,u,rfl,e⟩ | ⟨y,u,rfl,e⟩
  ·exact nomatch e
  ·injection e with e1 _
   subst e1;cases v<;>rfl
theorem Zrm(prog:Program)(w:World)(k:Key)(v:Value):(Zah prog w).is k v=ZhV k v:=rfl
theorem ZpX(prog:Program)(w:World)(i:Int)(t:Tok):(Zah prog w).is (.inl i) (.int i t)=true:=Zsh i t
theorem ZpM(prog:Program)(w:World)(x:Str)(t:Tok):(Zah prog w).is (.inr x) (.str x t)=true:=Zsj x t
end L2
namespace L2
open PySem PySem.Spec PyProof.Rows
inductive V where
 | non | bl (b:Bool) | int (i:Int) | str (x:Str) | byt (b:Array UInt8) | flt (b:UInt64) | ref (a:Addr) | ty (n:String)
 deriving DecidableEq
def RelV:V->Value->Prop
 | .non,u=>u=Zzv
 | .bl b,u=>u=Value.bool b
 | .int i,u=>∃t,u=ZAl i t
 | .str x,u=>∃t,u=Value.str x t
 | .byt b,u=>∃t,u=Value.bytes b t
 | .flt b,u=>∃t,u=Value.float b t
 | .ref a,u=>u=Zzj a
 | .ty n,u=>u=ZBA n
abbrev Vals:List V->List Value->Prop:=Paired RelV
theorem Vals.length{xs:List V}{us:List Value}(r:Vals xs us):xs.length=us.length:=ZA7 r
theorem Vals.get:∀{xs:List V} {us:List Value} {i:Nat} {x:V},Vals xs us->xs[i]?=some x->∃u,us[i]?=some u/\RelV x u
 | _,_,_,_,.nil,e=>by simp at e
 | _,_,0,_,.cons r _,e=>by simp at e; subst e; exact⟨_,rfl,r⟩
 | _,_,i+1,x,.cons _ t,e=>by obtain⟨u,h1,h2⟩:=Vals.get (i:=i) (x:=x) t (by simpa using e);exact⟨u,by simpa using h1,h2⟩
theorem Vals.set{x:V}{u:Value}(r:RelV x u):∀{xs:List V} {us:List Value} (i:Nat),Vals xs us->Vals (xs.set i x) (us.set i u)
 | _,_,_,.nil=>.nil
 | _,_,0,.cons _ t=>.cons r t
 | _,_,i+1,.cons q t=>.cons q (Vals.set r i t)
theorem Vals.append:∀{xs ys:List V} {us ws:List Value},Vals xs us->Vals ys ws->Vals (xs++ys) (us++ws)
 | _,_,_,_,.nil,s=>s
 | _,_,_,_,.cons r t,s=>.cons r (Vals.append t s)
theorem Vals.take:∀{xs:List V} {us:List Value} (n:Nat),Vals xs us->Vals (xs.take n) (us.take n)
 | _,_,0,_=>.nil
 | _,_,_+1,.nil=>.nil
 | _,_,n+1,.cons r t=>.cons r (Vals.take n t)
theorem Vals.drop:∀{xs:List V} {us:List Value} (n:Nat),Vals xs us->Vals (xs.drop n) (us.drop n)
 | _,_,0,r=>r
 | _,_,_+1,.nil=>.nil
 | _,_,n+1,.cons _ t=>Vals.drop n t
def Zfv:Option V->Option Value->Prop
 | some v,some u=>RelV v u
 | none,none=>True
 | _,_=>False
def KV{κ:Type}:List (κ × V)->List (κ × Value)->Prop:=Paired λ(p:κ × V) (q:κ × Value)=>p.1=q.1/\RelV p.2 q.2
def kV:Key->V
 | .inl i=>.int i
 | .inr x=>.str x
inductive HO where
 | lst (xs:List V)
 | tup (xs:List V)
 | dK (kvs:List (Key × V)) | dT (kvs:List (List Key × V))
 | set (S:Int->Bool) (n:Nat)
 | ins (C dx:Addr) (fs:List (Str × V))
 | own (x:Addr)
 | xd (fs:List (Str × V))
 | met (f x:Addr)
 | rng (lo hi:Int)
 | frz (o:Obj) (u:HO)
 | tbl (ps:Array Value)
 | ext (φ:Heap->Prop)
abbrev Hp:=Addr->Option HO
def upd(H:Hp)(a:Addr)(o:HO):Hp:=λb=>if b=a then some o else H b
theorem ZC{H:Hp}{a:Addr}{o:HO}:upd H a o a=some o:=by unfold upd; rw[if_pos rfl]
theorem ZA{H:Hp}{a b:Addr}{o:HO}(h:b≠a):upd H a o b=H b:=by unfold upd; rw[if_neg h]
theorem Zuv{H:Hp}{a b:Addr}{o u:HO}(h:H a=some o)(h':H b=some u)(d:o≠u):a≠b:=by intro e; subst e; rw[h]at h'; exact d (Zzp h')
theorem Zat{H:Hp}{a b:Addr}{o:HO}(h:H a=some o)(h':H b=none):a≠b:=by intro e; subst e; rw[h]at h'; cases h'
section
variable(P:Program)(w:World)
def Zab(H:Hp)(h:Heap)(a:Addr):HO->Prop
 | .lst xs=>xs.length<=sizeLine/\∃(its:List Value) (n:Nat),Vals xs its/\h.get? a=some { cls:=.type "list",data:=.seq its.toArray n }
 | .tup xs=>xs.length<=sizeLine/\∃its:List Value,Vals xs its/\IsTup h a its.toArray
 | .dK kvs=>kvs.length<=sizeLine/\(a==Zz0)=false/\∃vs,KV kvs vs/\h.DictOf (Zah P w) a vs
 | .dT kvs=>kvs.length<=sizeLine/\(a==Zz0)=false/\∃xs:List (List Key × Addr × Value),
   Paired (λ(p:List Key × V) (q:List Key × Addr × Value)=>p.1=q.1/\H q.2.1=some (.tup (p.1.map kV))/\RelV p.2 q.2.2) kvs xs /\
   ∃o es ep,h.get? a=some o/\o.ExactDict/\o.data=.dict es ep/\es.toList=xs.map (entryOfKey (ZBg (Zah P w)))/\(xs.map (·.1)).Nodup
 | .set S n=>h.SetOf (intKind P w) a S n
 | .ins C dx fs=>H dx=some (.own a)/\fs.length<=1000/\dx≠a/\h.get? a=some (PySem.W.instObj C dx) /\
   ∃mA,h.Ns1 dx mA/\(∀f,Zfv (fs.lookup f) (mA f))/\PySem.Within mA (fs.map (·.1))
 | .own _=>∃o,h.get? a=some o
 | .xd fs=>∃mA,h.Ns1 a mA/\∀f,Zfv (fs.lookup f) (mA f)
 | .rng lo hi=>∃t u v,h.get? a=some { cls:=.type "range",data:=.fields #[.int lo t,.int hi u,.int 1 v] }
 | .frz o u=>h.get? a=some o/\Zab H h a u
 | .tbl ps=>h.get? a=some { cls:=.none,data:=.fields ps }
 | .met f x=>h.get? a=some (ZCA (.ref f) (.ref x))
 | .ext φ=>φ h/\(∃o,h.get? a=some o)/\∀h1 h2:Heap,φ h1->(∀o,h1.get? a=some o->h2.get? a=some o)->φ h2
def HOk(H:Hp)(h:Heap):Prop:=∀a o,H a=some o->Zab P w H h a o
end
section
variable{P:Program}{w:World}{H H':Hp}{h h':Heap}{a:Addr}{o:HO}
theorem Zab.lt(x:Zab P w H h a o):a<h.objs.size:=by
 cases o with
 | lst xs=>obtain⟨_,_,_,_,e⟩:=x; exact ZyK e
 | tup xs=>obtain⟨_,_,_,p⟩:=x; exact p.lt
 | dK kvs=>obtain⟨_,_,_,_,o,_,_,e,_⟩:=x; exact ZyK e
 | dT kvs=>obtain⟨_,_,_,_,o,_,_,e,_⟩:=x; exact ZyK e
 | set S n=>obtain⟨o,_,_,_,e,_⟩:=x; exact ZyK e
 | ins C dx fs=>obtain⟨_,_,_,e,_⟩:=x; exact ZyK e
 | own y=>obtain⟨_,e⟩:=x; exact ZyK e
 | xd fs=>obtain⟨_,⟨_,_,_,e,_⟩,_⟩:=x; exact ZyK e
 | rng lo hi=>obtain⟨_,_,_,e⟩:=x; exact ZyK e
 | frz ob u=>obtain⟨e,_⟩:=x; exact ZyK e
 | tbl ps=>exact ZyK (show h.get? a=some _ from x)
 | met f y=>exact ZyK (show h.get? a=some _ from x)
 | ext φ=>obtain⟨_,⟨_,e⟩,_⟩:=x; exact ZyK e
theorem Paired.mapP{α β:Type}{F G:α->β->Prop}:∀{l₁:List α} {l₂:List β},Paired F l₁ l₂->(∀a b,F a b->G a b)->Paired G l₁ l₂
 | _,_,.nil,_=>.nil
 | _,_,.cons r t,f=>.cons (f _ _ r) (Paired.mapP t f)
theorem Zab.stay(x:Zab P w H h a o)(k:∀b u,(b=a\/H b=some (.own a))->h.get? b=some u->h'.get? b=some u)
  (ho:∀b,H b=some (.own a)->H' b=some (.own a)) (ht:∀b xs,H b=some (.tup xs)->H' b=some (.tup xs)):Zab P w H' h' a o:=by
 induction o with
 | lst xs=>obtain⟨z,its,n,r,e⟩:=x; exact⟨z,its,n,r,k _ _ (.inl rfl) e⟩
 | tup xs=>obtain⟨z,its,r,ob,e,c⟩:=x; exact⟨z,its,r,ob,k _ _ (.inl rfl) e,c⟩
 | dK kvs=>obtain⟨z,y,vs,r,ob,es,ep,e,c⟩:=x; exact⟨z,y,vs,r,ob,es,ep,k _ _ (.inl rfl) e,c⟩
 | dT kvs=>obtain⟨z,y,xs,r,ob,es,ep,e,c⟩:=x;exact⟨z,y,xs,Paired.mapP r λp q z=>⟨z.1,ht _ _ z.2.1,z.2.2⟩,ob,es,ep,k _ _ (.inl rfl) e,c⟩
 | set S n=>obtain⟨ob,es,ep,t,e,c⟩:=x; exact⟨ob,es,ep,t,k _ _ (.inl rfl) e,c⟩
 | ins C dx fs=>obtain⟨d,z,ne,e,mA,⟨od,es,ep,e2,c⟩,r⟩:=x;exact⟨ho _ d,z,ne,k _ _ (.inl rfl) e,mA,⟨od,es,ep,k _ _ (.inr d) e2,c⟩,r⟩
 | own y=>obtain⟨ob,e⟩:=x; exact⟨ob,k _ _ (.inl rfl) e⟩
 | xd fs=>obtain⟨mA,⟨od,es,ep,e,c⟩,r⟩:=x; exact⟨mA,⟨od,es,ep,k _ _ (.inl rfl) e,c⟩,r⟩
 | rng lo hi=>obtain⟨t,u,v,e⟩:=x; exact⟨t,u,v,k _ _ (.inl rfl) e⟩
 | frz ob u ih=>obtain⟨e,q⟩:=x; exact⟨k _ _ (.inl rfl) e,ih q⟩
 | tbl ps=>have e:h.get? a=some { cls:=.none,data:=.fields ps }:=x;show h'.get? a=some { cls:=.none,data:=.fields ps };exact k a _ (.inl rfl) e
 | met f y=>have e:h.get? a=some (ZCA (.ref f) (.ref y)):=x;show h'.get? a=some (ZCA (.ref f) (.ref y));exact k a _ (.inl rfl) e
 | ext φ=>obtain⟨p,⟨o,e⟩,st⟩:=x; exact⟨st _ _ p λo q=>k _ _ (.inl rfl) q,⟨o,k _ _ (.inl rfl) e⟩,st⟩
theorem HOk.lt(x:HOk P w H h)(e:H a=some o):a<h.objs.size:=(x a o e).lt
theorem HOk.fresh(x:HOk P w H h)(e:h.objs.size<=a):H a=none:=by
 cases q:H a with
 | none=>rfl
 | some u=>exact absurd (ZyX (x.lt q) e) (ZAh _)
theorem HOk.kept(x:HOk P w H h)(k:∀b u,h.get? b=some u->h'.get? b=some u):HOk P w H h':=λa o e=>(x a o e).stay (λb u _ q=>k b u q) (λ_ q=>q) λ_ _ q=>q
theorem HOk.laid(x:HOk P w H h)(k:∀b u,h.get? b=some u->h'.get? b=some u)(hp:h.objs.size<=a)(new:Zab P w (upd H a o) h' a o):HOk P w (upd H a o) h':=λb u e=>by
 have hn:=x.fresh hp
 by_cases hb:b=a
 ·subst hb; rw[ZC]at e; cases e; exact new
 ·rw[ZA hb]at e
  exact(x b u e).stay (λc v _ q=>k c v q) (λc q=>by rw[ZA (Zat q hn)]; exact q) λc xs q=>by rw[ZA (Zat q hn)]; exact q
end
def Rd(H:Hp)(a:Addr)(u:HO):Prop:=H a=some u\/∃o,H a=some (.frz o u)
theorem Rd.ok{P:Program}{w:World}{H:Hp}{h:Heap}{a:Addr}{u:HO}(r:Rd H a u)(x:HOk P w H h):Zab P w H h a u:=by
 rcases r with r | ⟨o,r⟩
 ·exact x a u r
 ·obtain⟨_,q⟩:=x a _ r
  exact q
def Mut:Option HO->Prop
 | some (.lst _)=>True
 | some (.dK _)=>True
 | some (.dT _)=>True
 | some (.set _ _)=>True
 | some (.ins _ _ _)=>True
 | some (.ext _)=>True
 | _=>False
section
variable{P:Program}{w:World}{H:Hp}{h h':Heap}{x e:Addr}{o':HO}
theorem HOk.write(ok:HOk P w H h)(mu:Mut (H x))(he:e=x\/H e=some (.own x))(k:∀b u,b≠e->h.get? b=some u->h'.get? b=some u)(heo:∃u,h'.get? e=some u)
  (new:Zab P w (upd H x o') h' x o'):HOk P w (upd H x o') h':=λb u q=>by
 have nown:∀c y,H c=some (.own y)->c≠x:=λc y r z=>by subst z; rw[r]at mu; exact mu
 have ntup:∀c xs,H c=some (.tup xs)->c≠x:=λc xs r z=>by subst z; rw[r]at mu; exact mu
 by_cases hb:b=x
 ·subst hb; rw[ZC]at q; cases q; exact new
 ·rw[ZA hb]at q
  by_cases hbe:b=e
  ·have q':H b=some (.own x):=by
    rcases he with z | z
    ·exact absurd (hbe.trans z) hb
    ·rw[hbe]; exact z
   rw[q]at q'; cases q';obtain⟨v,hv⟩:=heo;exact⟨v,by rw[hbe]; exact hv⟩
  ·refine(ok b u q).stay (λc v hc r=>k c v ?_ r) (λc r=>by rw[ZA (nown c b r)]; exact r) λc xs r=>by rw[ZA (ntup c xs r)]; exact r
   rcases hc with rfl | hc
   ·exact hbe
   ·rintro rfl
    rcases he with z | z
    ·exact nown c b hc z
    ·rw[hc]at z; cases z; exact hb rfl
end
structure Un(fs ex:List Addr)(H H':Hp)(h h':Heap):Prop where
 keep:∀b o,h.get? b=some o->H b=none->b ∉ fs->b ∉ ex->h'.get? b=some o
 slot:∀b o,h.get? b=some o->H b=none->b∈fs->b ∉ ex->∃sl,h'.get? b=some { o with slots:=sl }
 free:∀b o,h.get? b=some o->H b=none->b ∉ ex->H' b=none
 there:∀b o,h.get? b=some o->b ∉ ex->∃o',h'.get? b=some o'
 tups:∀b xs,H b=some (.tup xs)->H' b=some (.tup xs)
 frzs:∀b o u,H b=some (.frz o u)->H' b=some (.frz o u)
 tbls:∀b ps,H b=some (.tbl ps)->∃more,H' b=some (.tbl (ps++more))
section
variable{fs fs' ex ex':List Addr}{H H1 H2:Hp}{h h1 h2 h':Heap}{a x e:Addr}{o:HO}
theorem Un.any(u:Un fs ex H H1 h h1){b:Addr}{ob:Obj}(q:h.get? b=some ob)(n:H b=none)(hx:b ∉ ex):∃sl,h1.get? b=some { ob with slots:=sl }:=by
 by_cases hb:b∈fs
 ·exact u.slot b ob q n hb hx
 ·exact⟨ob.slots,u.keep b ob q n hb hx⟩
theorem Un.kept(k:∀b u,h.get? b=some u->h'.get? b=some u):Un fs ex H H h h' :=
 ⟨λb ob q _ _ _=>k b ob q,λb ob q _ _ _=>⟨ob.slots,k b ob q⟩,λ_ _ _ n _=>n,λb ob q _=>⟨ob,k b ob q⟩,λ_ _ q=>q,λ_ _ _ q=>q,λ_ ps q=>⟨#[],by rw[q]; simp⟩⟩
theorem Un.refl:Un fs ex H H h h:=Un.kept λ_ _ q=>q
theorem Un.laid(k:∀b u,h.get? b=some u->h'.get? b=some u)(hp:h.objs.size<=a)(hn:H a=none):Un fs ex H (upd H a o) h h' where
 keep:=λb u q _ _ _=>k b u q
 slot:=λb u q _ _ _=>⟨u.slots,k b u q⟩
 free:=λb u q n _=>by rw[ZA (ZyQ (ZyX (ZyK q) hp))]; exact n
 there:=λb u q _=>⟨u,k b u q⟩
 tups:=λb xs q=>by rw[ZA (Zat q hn)]; exact q
 frzs:=λb u xs q=>by rw[ZA (Zat q hn)]; exact q
 tbls:=λb ps q=>⟨#[],by rw[ZA (Zat q hn),q]; simp⟩
theorem Un.write(mu:Mut (H x))(he:e=x\/H e=some (.own x))(k:∀b u,b≠e->h.get? b=some u->h'.get? b=some u)(heo:∃u,h'.get? e=some u):Un fs ex H (upd H x o) h h':=by
 have hx:∀b,H b=none->b≠x:=λb n z=>by subst z; rw[n]at mu; exact mu
 have hb:∀b,H b=none->b≠e:=λb n z=>by
  subst z;rcases he with r | r
  ·exact hx b n r
  ·rw[n]at r; cases r
 have hm:∀b u,H b=some u->¬Mut (some u)->b≠x:=λb u q nm z=>by subst z; rw[q]at mu; exact nm mu
 refine⟨λb u q n _ _=>k b u (hb b n) q,λb u q n _ _=>⟨u.slots,k b u (hb b n) q⟩,λb u q n _=>by rw[ZA (hx b n)]; exact n,λb u q _=>?_,
  λb xs q=>by rw[ZA (hm b _ q λz=>z)]; exact q,λb u xs q=>by rw[ZA (hm b _ q λz=>z)]; exact q,λb ps q=>⟨#[],by rw[ZA (hm b _ q λz=>z),q]; simp⟩⟩
 by_cases hbe:b=e
 ·subst hbe; exact heo
 ·exact⟨u,k b u hbe q⟩
end
def trk(h:Heap)(H:Hp):List Addr:=(ZyA h.objs.size).filter λa=>(H a).isSome
def Zhc(h:Heap)(H:Hp):Heap:=PySem.W.hideAll h (trk h H)
theorem ZsF(h:Heap)(H:Hp):(Zhc h H).objs.size=h.objs.size:=PySem.W.hideAll_size _ _
theorem Ztf{h:Heap}{H:Hp}{b:Addr}{o:Obj}(e:h.get? b=some o)(n:H b=none):(Zhc h H).get? b=some o :=
 PySem.W.hideAll_get _ e λhm=>by have q:(H b).isSome=true:=(Zy2.mp hm).2;rw[n]at q; simp at q
theorem ZuN{h:Heap}{H:Hp}{b:Addr}{o:Obj}(e:(Zhc h H).get? b=some o):h.get? b=some o/\H b=none:=by
 have e':h.get? b=some o:=PySem.W.of_hideAll (trk h H) e;refine⟨e',?_⟩;cases q:H b with
 | none=>rfl
 | some x=>have hm:b∈trk h H:=Zy2.mpr ⟨ZyS.mpr (ZyK e'),by simp[q]⟩;have z:(Zhc h H).get? b=none:=PySem.W.hideAll_none (trk h H) hm;rw[z]at e; cases e
end L2
namespace L2
open PySem PySem.Spec PyProof.Rows
structure Mod(K:Zys)(mg:Str->Option Value)(base:Heap):Prop where
 kin:K.In base
 glob:base.Ns Zzd mg
 blt:∃mb,base.Ns ZCI mb/\∀x:Str,x ≠ "__name__"->mb x=Zzt x
 nolimit:base.NoLimit
structure Cx where
 prog:Program
 w:World
 K:Zys
 mg:Str->Option Value
 base:Heap
 A:Around
 N:List Str
 s₀:Shared
 H₀:Hp
 env:Env
 outer:List Env
 stack:List Env
 ex:List Addr
 fn:Str->Bool
 calm:Bool
 pn:List (Addr × Obj)
 xe:Value->Shared->Prop
def frs(l:List Env):List Addr:=l.filterMap (·.frame)
abbrev Cx.fs(X:Cx):List Addr:=frs X.outer
def Vis(sc:Scope)(x:Str):Prop:=sc.names.lookup x=some .local\/sc.names.lookup x=some .cell\/sc.names.lookup x=some .free
def Loc(sc:Scope)(x:Str):Prop:=sc.names.lookup x=some .local\/sc.names.lookup x=some .cell
def Look(env:Env)(h:Heap)(m:Str->Option Value)(x:Str)(u:Value):Prop :=
 (env.kindOf x=some .local/\m x=some u)\/((env.kindOf x=some .cell\/env.kindOf x=some .free)/\∃c,env.cells.lookup x=some c/\h.IsCell c (some u))
structure Cx.Ok(X:Cx):Prop where
 mod:Mod X.K X.mg X.base
 kind:X.env.scope.kind=.function
 glob:X.env.globals=Zzd
 blt:X.env.builtins=ZCI
 above:X.s₀.heap.objs.size<=X.env.locals
 inj:∀x y c,X.env.cells.lookup x=some c->X.env.cells.lookup y=some c->x=y
 has:∀x,(X.env.kindOf x=some .cell\/X.env.kindOf x=some .free)->∃c,X.env.cells.lookup x=some c
 cab:∀x c,X.fn x=true->X.env.cells.lookup x=some c->X.s₀.heap.objs.size<=c
 hd:X.calm=true->X.A.handled=none
 frames:X.A.frames=some X.stack
 stk:X.stack=X.outer\/(X.stack=X.env::X.outer/\X.env.frame=some X.env.locals)
 exf:∀b∈X.ex,b≠X.env.locals/\∀x c,X.env.cells.lookup x=some c->c≠b
 bs:∀b o,X.base.get? b=some o->X.s₀.heap.get? b=some o/\X.H₀ b=none
 bsz:X.base.objs.size<=X.s₀.heap.objs.size
 noex:∀b o,X.base.get? b=some o->b ∉ X.ex
 exfs:∀b∈X.ex,b ∉ X.fs
 funs:X.s₀.heap.FunFrames X.base X.outer
 frf:∀b∈X.fs,X.H₀ b=none
structure Inv(X:Cx)(pins:List (Addr × Obj))(σ:List (Option V))(H:Hp)(s:Shared):Prop where
 ok:X.Ok
 os:s.os=X.s₀.os
 bare:AllBare s.gens
 base:Un X.fs X.ex X.H₀ H X.s₀.heap s.heap
 loc:∃m,s.heap.Ns X.env.locals m/\∀(i:Nat) (x:Str) (v:V),X.N[i]?=some x->σ[i]?=some (some v)->Vis X.env.scope x->∃u,RelV v u/\Look X.env s.heap m x u
 cell:∀x c,X.env.cells.lookup x=some c->∃v,s.heap.IsCell c v
 free:H X.env.locals=none
 freeC:∀x c,X.env.cells.lookup x=some c->H c=none
 pin:∀p∈X.pn++pins,s.heap.get? p.1=some p.2/\H p.1=none/\p.1≠X.env.locals/\p.1 ∉ X.fs/\∀v,p.2.data≠.cell v
 hok:HOk X.prog X.w H s.heap
 len:σ.length=X.N.length
section
variable{X:Cx}{pins:List (Addr × Obj)}{σ:List (Option V)}{H H':Hp}{s:Shared}{h':Heap}
theorem Cx.Ok.nofr(ok:X.Ok){b:Addr}{o:Obj}(e:X.base.get? b=some o):b ∉ X.fs:=λhb=>by have:=(ok.funs.mem hb).1;rw[e]at this; cases this
theorem Inv.bs(I:Inv X pins σ H s):∀b o,X.base.get? b=some o->s.heap.get? b=some o/\H b=none:=λb o e=>⟨I.base.keep b o (I.ok.bs b o e).1 (I.ok.bs b o e).2 (I.ok.nofr e) (I.ok.noex b o e),I.base.free b o (I.ok.bs b o e).1 (I.ok.bs b o e).2 (I.ok.noex b o e)⟩
theorem Inv.bk(I:Inv X pins σ H s):∀b o,X.base.get? b=some o->s.heap.get? b=some o:=λb o e=>(I.bs b o e).1
theorem Inv.mod(I:Inv X pins σ H s):Mod X.K X.mg X.base:=I.ok.mod
theorem Inv.kIn(I:Inv X pins σ H s):X.K.In s.heap:=I.ok.mod.kin.keeps I.bk
theorem Inv.lt(I:Inv X pins σ H s):X.env.locals<s.heap.objs.size:=let ⟨_,hn,_⟩:=I.loc; hn.lt
theorem Inv.sz(I:Inv X pins σ H s):X.s₀.heap.objs.size<=s.heap.objs.size:=Zzg I.ok.above (ZAp I.lt)
theorem Inv.nofs(I:Inv X pins σ H s){a:Addr}(h:s.heap.objs.size<=a):a ∉ X.fs:=λhb=>by obtain⟨_,o,ho,_⟩:=I.ok.funs.mem hb;exact absurd (ZyX (ZyK ho) (Zzg I.sz h)) (ZAh _)
theorem Inv.cne(I:Inv X pins σ H s):∀x c,X.env.cells.lookup x=some c->c≠X.env.locals:=λx c e z=>by obtain⟨v,o,ho,hd⟩:=I.cell x c e;obtain⟨m,⟨o',es,ep,ho',hd',_⟩,_⟩:=I.loc;rw[z,ho']at ho; cases ho; rw[hd']at hd; cases hd
theorem Inv.funs(I:Inv X pins σ H s):s.heap.FunFrames X.base X.outer:=by
 have all:∀(l:List Env),(∀b∈frs l,b∈X.fs)->X.s₀.heap.FunFrames X.base l->s.heap.FunFrames X.base l:=by
  intro l
  induction l with
  | nil=>intro _ _; trivial
  | cons env r ih=>intro hs hl;obtain⟨hk,⟨L,o,hf,hn,ho,hd⟩,hr⟩:=hl;have hL:L∈X.fs:=hs L (by unfold frs; rw[ZzI,hf]; exact Zyw);obtain⟨sl,e⟩:=I.base.slot L o ho (I.ok.frf L hL) hL λz=>I.ok.exfs L z hL;exact⟨hk,⟨L,_,hf,hn,e,hd⟩,ih (λb hb=>hs b (by unfold frs; rw[ZzI,hf]; exact Zyx _ hb)) hr⟩
 exact all X.outer (λ_ hb=>hb) I.ok.funs
theorem Inv.stack(I:Inv X pins σ H s):s.heap.FunFrames X.base X.stack:=by
 rcases I.ok.stk with e | ⟨e,hf⟩
 ·rw[e]; exact I.funs
 ·rw[e]
  obtain⟨m,hn,_⟩:=I.loc;refine .cons (by rw[I.ok.kind]; decide) hf hn ?_ I.funs;exact Heap.get?_none_of_le (Zzg I.ok.bsz I.ok.above)
theorem Inv.stkSub(I:Inv X pins σ H s):∀b∈frs X.stack,b∈X.env.locals::X.fs:=λb hb=>by
 rcases I.ok.stk with e | ⟨e,hf⟩
 ·rw[e]at hb; exact Zyx _ hb
 ·rw[e]at hb
  unfold frs at hb;rw[ZzI,hf]at hb;exact hb
theorem Inv.stkFree(I:Inv X pins σ H s):∀b∈frs X.stack,H b=none:=λb hb=>by
 rcases ZyR.mp (I.stkSub b hb)with e | hb
 ·rw[e]; exact I.free
 ·obtain⟨_,o,ho,_⟩:=I.ok.funs.mem hb
  exact I.base.free b o ho (I.ok.frf b hb) λz=>I.ok.exfs b z hb
theorem Inv.step{g':Array GenState}{t':Nat}{d':Drawn}{ch:List Addr}(I:Inv X pins σ H s)
  (hch:∀b∈ch,(b∈X.ex\/X.s₀.heap.objs.size<=b)/\b≠X.env.locals/\(∀x c,X.env.cells.lookup x=some c->c≠b)/\∀p∈X.pn++pins,p.1≠b)
  (keep:∀b o,b≠X.env.locals->b ∉ X.fs->b ∉ ch->s.heap.get? b=some o->H b=none->h'.get? b=some o)
  (slot:∀b o,b≠X.env.locals->b∈X.fs->b ∉ ch->s.heap.get? b=some o->H b=none->∃sl,h'.get? b=some { o with slots:=sl }) (free:∀b o,b ∉ ch->s.heap.get? b=some o->H b=none->H' b=none)
  (there:∀b o,b ∉ ch->s.heap.get? b=some o->∃o',h'.get? b=some o')
  (tups:∀b xs,H b=some (.tup xs)->H' b=some (.tup xs)) (frzs:∀b o u,H b=some (.frz o u)->H' b=some (.frz o u)) (tbls:∀b ps,H b=some (.tbl ps)->∃more,H' b=some (.tbl (ps++more)))
  (ns:∀m,s.heap.Ns X.env.locals m->h'.Ns X.env.locals m) (hok:HOk X.prog X.w H' h') (hg:AllBare g') :
  Inv X pins σ H' { s with heap:=h',gens:=g',drawn:=d',toks:=t' }:=by
 have neL:∀b o,X.s₀.heap.get? b=some o->b≠X.env.locals:=λb o e=>ZyQ (ZyX (ZyK e) I.ok.above);have neC:∀b o,X.s₀.heap.get? b=some o->b ∉ X.ex->b ∉ ch:=λb o e hx hb=>by
  rcases(hch b hb).1 with z | z
  ·exact hx z
  ·exact absurd (ZyX (ZyK e) z) (ZAh _)
 have cellK:∀x c,X.env.cells.lookup x=some c->∀v,s.heap.IsCell c v->h'.IsCell c v:=λx c e v ⟨o,ho,hd⟩=>by
  have nch:c ∉ ch:=λz=>(hch c z).2.2.1 x c e rfl
  by_cases hc:c∈X.fs
  ·obtain⟨sl,q⟩:=slot c o (I.cne x c e) hc nch ho (I.freeC x c e)
   exact⟨_,q,hd⟩
  ·exact⟨o,keep c o (I.cne x c e) hc nch ho (I.freeC x c e),hd⟩
 refine⟨I.ok,I.os,hg,⟨λb o e n hb hx=>?_,λb o e n hb hx=>?_,λb o e n hx=>?_,λb o e hx=>?_,λb xs e=>tups b xs (I.base.tups b xs e),λb o xs e=>frzs b o xs (I.base.frzs b o xs e),λb ps e=>?_⟩,?_,λx c e=>?_,?_,λx c e=>?_,λp hp=>?_,hok,I.len⟩
 ·exact keep b o (neL b o e) hb (neC b o e hx) (I.base.keep b o e n hb hx) (I.base.free b o e n hx)
 ·obtain⟨sl,e1⟩:=I.base.slot b o e n hb hx
  obtain⟨sl',e2⟩:=slot b _ (neL b o e) hb (neC b o e hx) e1 (I.base.free b o e n hx);exact⟨sl',e2⟩
 ·obtain⟨o',e1⟩:=I.base.there b o e hx
  exact free b o' (neC b o e hx) e1 (I.base.free b o e n hx)
 ·obtain⟨o',e1⟩:=I.base.there b o e hx
  exact there b o' (neC b o e hx) e1
 ·obtain⟨m1,e1⟩:=I.base.tbls b ps e
  obtain⟨m2,e2⟩:=tbls b _ e1;exact⟨m1++m2,by rw[e2,Array.append_assoc]⟩
 ·obtain⟨m,hn,hl⟩:=I.loc
  refine⟨m,ns m hn,λi x v e1 e2 e3=>?_⟩;obtain⟨u,r,l⟩:=hl i x v e1 e2 e3;refine⟨u,r,?_⟩;rcases l with l | ⟨k,c,e,z⟩
  ·exact .inl l
  ·exact .inr ⟨k,c,e,cellK x c e _ z⟩
 ·obtain⟨v,z⟩:=I.cell x c e
  exact⟨v,cellK x c e v z⟩
 ·obtain⟨m,⟨o,_,_,ho,_⟩,_⟩:=I.loc
  exact free _ o (λz=>(hch _ z).2.1 rfl) ho I.free
 ·obtain⟨v,o,ho,hd⟩:=I.cell x c e
  exact free c o (λz=>(hch c z).2.2.1 x c e rfl) ho (I.freeC x c e)
 ·obtain⟨e,n,ne,nf,d⟩:=I.pin p hp
  have nch:p.1 ∉ ch:=λz=>(hch p.1 z).2.2.2 p hp rfl;exact⟨keep p.1 p.2 ne nf nch e n,free p.1 p.2 nch e n,ne,nf,d⟩
theorem Inv.un{t':Nat}(I:Inv X pins σ H s)(u:Un X.fs [] H H' s.heap h')(hok:HOk X.prog X.w H' h'):Inv X pins σ H' { s with heap:=h',toks:=t' }:=by obtain⟨m,⟨o,es,ep,ho,r⟩,_⟩:=id I.loc;obtain⟨sl,hL⟩:=u.any ho I.free (by simp);exact I.step (g':=s.gens) (d':=s.drawn) (ch:=[]) (λ_ z=>nomatch z) (λb o _ hb _ e n=>u.keep b o e n hb (by simp)) (λb o _ hb _ e n=>u.slot b o e n hb (by simp)) (λb o _ e n=>u.free b o e n (by simp)) (λb o _ e=>u.there b o e (by simp)) u.tups u.frzs u.tbls (λm' hm=>by obtain⟨o',es',ep',ho',r'⟩:=hm;rw[ho]at ho'; cases ho';exact⟨_,es',ep',hL,r'⟩) hok I.bare
theorem Inv.call{g':Array GenState}{t':Nat}{d':Drawn}{ch:List Addr}(I:Inv X pins σ H s)(u:Un (frs X.stack) ch H H' s.heap h')(hok:HOk X.prog X.w H' h')(hg:AllBare g')
  (hch:∀b∈ch,(b∈X.ex\/X.s₀.heap.objs.size<=b)/\b≠X.env.locals/\(∀x c,X.env.cells.lookup x=some c->c≠b)/\∀p∈X.pn++pins,p.1≠b) :
  Inv X pins σ H' { s with heap:=h',gens:=g',drawn:=d',toks:=t' }:=by
 obtain⟨m,⟨o,es,ep,ho,r⟩,_⟩:=id I.loc;obtain⟨sl,hL⟩:=u.any ho I.free λz=>(hch _ z).2.1 rfl;exact I.step (ch:=ch) hch (λb o hL hb hc e n=>u.keep b o e n (λz=>(ZyR.mp (I.stkSub b z)).elim hL hb) hc) (λb o _ _ hc e n=>u.any e n hc) (λb o hc e n=>u.free b o e n hc) (λb o hc e=>u.there b o e hc) u.tups u.frzs u.tbls (λm' hm=>by obtain⟨o',es',ep',ho',r'⟩:=hm;rw[ho]at ho'; cases ho';exact⟨_,es',ep',hL,r'⟩) hok hg
theorem Inv.turned{t':Nat}{it:Addr}(I:Inv X pins σ H s)(k:∀b o,b≠it->s.heap.get? b=some o->h'.get? b=some o)(hn:H it=none)(hL:it≠X.env.locals)
  (h1:it∈X.ex\/X.s₀.heap.objs.size<=it) (h2:∀x c,X.env.cells.lookup x=some c->c≠it) (h3:∀p∈X.pn++pins,p.1≠it):Inv X pins σ H { s with heap:=h',toks:=t' }:=by
 have nit:∀b u,H b=some u->b≠it:=λb u e z=>by rw[z,hn]at e; cases e
 refine I.step (g':=s.gens) (d':=s.drawn) (ch:=[it]) (λb hb=>?_) (λb o _ _ hc e _=>k b o (λz=>hc (by simp[z])) e) (λb o _ _ hc e _=>⟨o.slots,k b o (λz=>hc (by simp[z])) e⟩) (λ_ _ _ _ n=>n)
  (λb o hc e=>⟨o,k b o (λz=>hc (by simp[z])) e⟩) (λ_ _ e=>e) (λ_ _ _ e=>e) (λb ps e=>⟨#[],by rw[e]; simp⟩) (λm hm=>?_) (λb u e=>?_) I.bare
 ·have e:b=it:=by simpa using hb
  subst e;exact⟨h1,hL,h2,h3⟩
 ·obtain⟨o,es,ep,ho,r⟩:=hm
  exact⟨o,es,ep,k _ o (Zzu hL) ho,r⟩
 ·refine(I.hok b u e).stay (λc v hc q=>k c v ?_ q) (λ_ q=>q) λ_ _ q=>q
  rcases hc with z | z
  ·rw[z]; exact nit b u e
  ·exact nit c _ z
theorem Inv.tok(I:Inv X pins σ H s)(t:Nat):Inv X pins σ H { s with toks:=t }:=I.un (h':=s.heap) (t':=t) Un.refl I.hok
theorem Inv.kept{t':Nat}(I:Inv X pins σ H s)(k:∀b u,s.heap.get? b=some u->h'.get? b=some u):Inv X pins σ H { s with heap:=h',toks:=t' }:=I.un (Un.kept k) (I.hok.kept k)
theorem Inv.laid{a:Addr}{o:HO}{t':Nat}(I:Inv X pins σ H s)(k:∀b u,s.heap.get? b=some u->h'.get? b=some u)(hp:s.heap.objs.size<=a)(new:Zab X.prog X.w (upd H a o) h' a o) :
  Inv X pins σ (upd H a o) { s with heap:=h',toks:=t' }:=I.un (Un.laid k hp (I.hok.fresh hp)) (I.hok.laid k hp new)
theorem Inv.write{x e:Addr}{o:HO}{t':Nat}(I:Inv X pins σ H s)(mu:Mut (H x))(he:e=x\/H e=some (.own x))(k:∀b u,b≠e->s.heap.get? b=some u->h'.get? b=some u)(heo:∃u,h'.get? e=some u)
  (new:Zab X.prog X.w (upd H x o) h' x o):Inv X pins σ (upd H x o) { s with heap:=h',toks:=t' }:=I.un (Un.write mu he k heo) (I.hok.write mu he k heo new)
theorem Inv.weak{σ':List (Option V)}(I:Inv X pins σ H s)(hl:σ'.length=σ.length)(w:∀(i:Nat) v,σ'[i]?=some (some v)->σ[i]?=some (some v)):Inv X pins σ' H s :=
 ⟨I.ok,I.os,I.bare,I.base,let ⟨m,hn,hl'⟩:=I.loc; ⟨m,hn,λi x v e1 e2 e3=>hl' i x v e1 (w i v e2) e3⟩,I.cell,I.free,I.freeC,I.pin,I.hok,hl.trans I.len⟩
theorem Inv.pins_of{pins':List (Addr × Obj)}(I:Inv X pins σ H s)(h:∀p∈pins',s.heap.get? p.1=some p.2/\H p.1=none/\p.1≠X.env.locals/\p.1 ∉ X.fs/\∀v,p.2.data≠.cell v):Inv X pins' σ H s :=
 ⟨I.ok,I.os,I.bare,I.base,I.loc,I.cell,I.free,I.freeC,λp hp=>(ZyZ.mp hp).elim (λz=>I.pin p (Zy9 _ z)) (h p),I.hok,I.len⟩
theorem Zog{N:List Str}(hN:N.Nodup){i j:Nat}{x:Str}(a:N[i]?=some x)(b:N[j]?=some x):i=j:=by obtain⟨h1,e1⟩:=ZyG.mp a;obtain⟨h2,e2⟩:=ZyG.mp b;exact(List.getElem_inj hN).mp (e1.trans e2.symm)
theorem Zmm{M:Model}{A:Around}{E:Value->Shared->Prop}{i:Nat}{x:Str}{v:V}{u:Value}{Q:Unit->Shared->Prop}(I:Inv X pins σ H s)(hN:X.N.Nodup)(hi:X.N[i]?=some x)(hx:Loc X.env.scope x)(r:RelV v u)
  (h:∀s',Inv X pins (σ.set i (some v)) H s'->(∃a,ZAq a s.heap s'.heap/\(a=X.env.locals\/X.env.cells.lookup x=some a))->Q () s') (hf:X.fn x=true\/X.env.scope.names.lookup x=some .local:=by first | exact .inl rfl | exact .inr rfl | assumption):wpAny M A (storeName X.env x u) Q E s:=by
 obtain⟨m,hn,hl⟩:=id I.loc;have hcls:(X.env.scope.kind==.class||(X.env.scope.kind==.module&&X.env.locals != X.env.globals))=false:=by rw[I.ok.kind]; rfl
 have hiσ:i<σ.length:=by rw[I.len]; exact(ZyG.mp hi).1
 have cne:=I.cne;have tracked:∀{a:Addr} {h':Heap},(∃o,s.heap.get? a=some o/\H a=none)->ZAq a s.heap h'->HOk X.prog X.w H h':=λ{a h'} ha hs b ob e=>by
  obtain⟨_,_,hfree⟩:=ha;refine(I.hok b ob e).stay (λc w' hc q=>(hs.2 c ?_).trans q) (λ_ q=>q) λ_ _ q=>q
  rintro rfl
  rcases hc with rfl | hc
  ·rw[hfree]at e; cases e
  ·rw[hfree]at hc; cases hc
 rcases hx with hk | hk
 ·refine wpAny_storeName_local hk hn (λh' hn' hs=>?_) hcls
  obtain⟨oL,_,_,hoL,_⟩:=id hn;refine h _ ⟨I.ok,I.os,I.bare,⟨λb o e n hb hx=>?_,λb o e n hb hx=>?_,I.base.free,λb o e hx=>?_,I.base.tups,I.base.frzs,I.base.tbls⟩,⟨_,hn',λj y v' e1 e2 e3=>?_⟩,λy c e=>?_,I.free,I.freeC,λp hp=>?_,tracked ⟨oL,hoL,I.free⟩ hs,by simpa using I.len⟩ ⟨_,hs,.inl rfl⟩
  ·exact(hs.2 b (ZyQ (ZyX (ZyK e) I.ok.above))).trans (I.base.keep b o e n hb hx)
  ·obtain⟨sl,e1⟩:=I.base.slot b o e n hb hx
   exact⟨sl,(hs.2 b (ZyQ (ZyX (ZyK e) I.ok.above))).trans e1⟩
  ·obtain⟨o',e1⟩:=I.base.there b o e hx
   exact⟨o',(hs.2 b (ZyQ (ZyX (ZyK e) I.ok.above))).trans e1⟩
  ·by_cases hj:j=i
   ·subst hj
    rw[hi]at e1; cases e1;rw[Zzk hiσ]at e2;cases e2;exact⟨u,r,.inl ⟨hk,by simp⟩⟩
   ·rw[Zy0 (Zzu hj)]at e2
    obtain⟨u',r',q⟩:=hl j y v' e1 e2 e3;refine⟨u',r',?_⟩;rcases q with⟨k,e⟩ | ⟨k,c,e,z⟩
    ·refine .inl ⟨k,?_⟩
     have:y≠x:=λe=>hj (Zog hN e1 (e▸hi));simp[this,e]
    ·exact .inr ⟨k,c,e,z.sameBut hs (cne y c e)⟩
  ·obtain⟨w',z⟩:=I.cell y c e
   exact⟨w',z.sameBut hs (cne y c e)⟩
  ·obtain⟨e,n,ne,nf,d⟩:=I.pin p hp
   exact⟨(hs.2 p.1 ne).trans e,n,ne,nf,d⟩
 ·have hfn:X.fn x=true:=by
   rcases hf with z | z
   ·exact z
   ·rw[z]at hk; cases hk
  obtain⟨c,hc⟩:=I.ok.has x (.inl hk);obtain⟨w',z⟩:=I.cell x c hc;refine wpAny_storeName_cell I.ok.kind hk hc z (λh' hc' hs=>?_);obtain⟨oc,hoc,hocd⟩:=id z;refine h { s with heap:=h' } ⟨I.ok,I.os,I.bare,⟨λb o e n hb hx=>?_,λb o e n hb hx=>?_,I.base.free,λb o e hx=>?_,I.base.tups,I.base.frzs,I.base.tbls⟩,⟨m,hn.sameBut hs (Zzu (cne x c hc)),λj y v' e1 e2 e3=>?_⟩,λy c' e=>?_,I.free,I.freeC,λp hp=>?_,tracked ⟨oc,hoc,I.freeC x c hc⟩ hs,by simpa using I.len⟩ ⟨c,hs,.inr hc⟩
  ·exact(hs.2 b (ZyQ (ZyX (ZyK e) (I.ok.cab x c hfn hc)))).trans (I.base.keep b o e n hb hx)
  ·obtain⟨sl,e1⟩:=I.base.slot b o e n hb hx
   exact⟨sl,(hs.2 b (ZyQ (ZyX (ZyK e) (I.ok.cab x c hfn hc)))).trans e1⟩
  ·obtain⟨o',e1⟩:=I.base.there b o e hx
   exact⟨o',(hs.2 b (ZyQ (ZyX (ZyK e) (I.ok.cab x c hfn hc)))).trans e1⟩
  ·by_cases hj:j=i
   ·subst hj
    rw[hi]at e1; cases e1;rw[Zzk hiσ]at e2;cases e2;exact⟨u,r,.inr ⟨.inl hk,c,hc,hc'⟩⟩
   ·rw[Zy0 (Zzu hj)]at e2
    obtain⟨u',r',q⟩:=hl j y v' e1 e2 e3;refine⟨u',r',?_⟩;rcases q with q | ⟨k,c',e,z'⟩
    ·exact .inl q
    ·refine .inr ⟨k,c',e,z'.sameBut hs ?_⟩
     rintro rfl
     exact hj (Zog hN e1 (I.ok.inj _ _ _ e hc▸hi))
  ·by_cases hcc:c'=c
   ·subst hcc; exact⟨_,hc'⟩
   ·obtain⟨w2,z2⟩:=I.cell y c' e
    exact⟨w2,z2.sameBut hs hcc⟩
  ·obtain⟨e,n,ne,nf,d⟩:=I.pin p hp
   refine⟨(hs.2 p.1 ?_).trans e,n,ne,nf,d⟩;intro q;rw[q,hoc]at e;have q':oc=p.2:=Zzp e;exact d w' (by rw[<-q']; exact hocd)
theorem Zpc{M:Model}{A:Around}{E:Value->Shared->Prop}{i:Nat}{x:Str}{v:V}{u:Value}{Q:Unit->Shared->Prop}(I:Inv X pins σ H s)(hN:X.N.Nodup)(hi:X.N[i]?=some x)(hx:Loc X.env.scope x)(r:RelV v u)
  (h:∀s',Inv X pins (σ.set i (some v)) H s'->Q () s') (hf:X.fn x=true\/X.env.scope.names.lookup x=some .local:=by first | exact .inl rfl | exact .inr rfl | assumption):wpAny M A (storeName X.env x u) Q E s :=
 Zmm I hN hi hx r (λs' I' _=>h s' I') hf
theorem Inv.call'{s':Shared}{ch:List Addr}(I:Inv X pins σ H s)(ho:s'.os=s.os)(u:Un (frs X.stack) ch H H' s.heap s'.heap)(hok:HOk X.prog X.w H' s'.heap)(hg:AllBare s'.gens)
  (hch:∀b∈ch,(b∈X.ex\/X.s₀.heap.objs.size<=b)/\b≠X.env.locals/\(∀x c,X.env.cells.lookup x=some c->c≠b)/\∀p∈X.pn++pins,p.1≠b):Inv X pins σ H' s':=by
 obtain⟨h',g',d',t',o'⟩:=s';have e:o'=s.os:=ho;subst e;exact I.call (g':=g') (t':=t') (d':=d') u hok hg hch
end
abbrev XK:=Value->Option Addr->Hp->Prop
abbrev St:=List (Option V)
abbrev VK:=V->Hp->Prop
abbrev TE:=St->Hp->VK->Prop
abbrev TT:=St->Hp->(Bool->Hp->Prop)->Prop
abbrev TA:=St->Hp->(List V->Hp->Prop)->Prop
structure Ends where
 nx:St->Hp->Prop
 rt:VK
 bk:St->Hp->Prop:=λ_ _=>False
 ct:St->Hp->Prop:=λ_ _=>False
abbrev TS:=Ends->St->Hp->Prop
inductive EP(X:Cx)(pins:List (Addr × Obj))(σ:St)(Q:VK)(u:Value)(s':Shared):Prop
 | mk (v:V) (H':Hp) (I:Inv X pins σ H' s') (r:RelV v u) (q:Q v H'):EP X pins σ Q u s'
inductive TP(X:Cx)(pins:List (Addr × Obj))(σ:St)(Q:Bool->Hp->Prop)(b:Bool)(s':Shared):Prop
 | mk (H':Hp) (I:Inv X pins σ H' s') (q:Q b H'):TP X pins σ Q b s'
inductive AP(X:Cx)(pins:List (Addr × Obj))(σ:St)(Q:List V->Hp->Prop)(us:List Value)(s':Shared):Prop
 | mk (vs:List V) (H':Hp) (I:Inv X pins σ H' s') (r:Vals vs us) (q:Q vs H'):AP X pins σ Q us s'
inductive SPn(X:Cx)(pins:List (Addr × Obj))(N:St->Hp->Prop)(s':Shared):Prop
 | mk (σ':St) (H':Hp) (I:Inv X pins σ' H' s') (q:N σ' H'):SPn X pins N s'
inductive SPr(X:Cx)(pins:List (Addr × Obj))(R:V->Hp->Prop)(u:Value)(s':Shared):Prop
 | mk (v:V) (σ':St) (H':Hp) (I:Inv X pins σ' H' s') (r:RelV v u) (q:R v H'):SPr X pins R u s'
def SP(X:Cx)(pins:List (Addr × Obj))(D:Ends)(f:Flow)(s':Shared):Prop :=
 match f with
 | .next=>SPn X pins D.nx s'
 | .brk=>SPn X pins D.bk s'
 | .cont=>SPn X pins D.ct s'
 | .ret u=>SPr X pins D.rt u s'
def PE(X:Cx)(e:Expr)(t:TE):Prop :=
 ∀(pins:List (Addr × Obj)) (s:Shared) (σ:St) (H:Hp) (Q:VK),Inv X pins σ H s->t σ H Q->wpAny (model X.prog X.w) X.A (eval e X.env) (EP X pins σ Q) X.xe s
def PT(X:Cx)(e:Expr)(t:TT):Prop :=
 ∀(pins:List (Addr × Obj)) (s:Shared) (σ:St) (H:Hp) (Q:Bool->Hp->Prop),Inv X pins σ H s->t σ H Q->wpAny (model X.prog X.w) X.A (isTrue e X.env (eval e X.env)) (TP X pins σ Q) X.xe s
def PW(X:Cx)(e:Expr)(t:TT):Prop :=
 ∀(whole:Sem Value) (pins:List (Addr × Obj)) (s:Shared) (σ:St) (H:Hp) (Q:Bool->Hp->Prop),Inv X pins σ H s->t σ H Q->wpAny (model X.prog X.w) X.A (isTrue e X.env whole) (TP X pins σ Q) X.xe s
theorem PW.pt{X:Cx}{e:Expr}{t:TT}(h:PW X e t):PT X e t:=h _
def PA(X:Cx)(es:List Expr)(t:TA):Prop :=
 ∀(pos:Pos) (pins:List (Addr × Obj)) (s:Shared) (σ:St) (H:Hp) (Q:List V->Hp->Prop),Inv X pins σ H s->t σ H Q->wpAny (model X.prog X.w) X.A (spliced (backTo pos (ZyF es X.env))) (AP X pins σ Q) X.xe s
def PS(X:Cx)(st:Stmt)(t:TS):Prop :=
 ∀(pins:List (Addr × Obj)) (s:Shared) (σ:St) (H:Hp) (D:Ends),Inv X pins σ H s->t D σ H->wpAny (model X.prog X.w) X.A (exec st X.env) (SP X pins D) X.xe s
def PSs(X:Cx)(st:List Stmt)(t:TS):Prop :=
 ∀(pins:List (Addr × Obj)) (s:Shared) (σ:St) (H:Hp) (D:Ends),Inv X pins σ H s->t D σ H->wpAny (model X.prog X.w) X.A (execs st X.env) (SP X pins D) X.xe s
theorem thn{α:Type}{t:Sem α}{Q Q':α->Shared->Prop}{M:Model}{A:Around}{E:Value->Shared->Prop}{s:Shared}(h:wpAny M A t Q E s)(hQ:∀a s,Q a s->Q' a s):wpAny M A t Q' E s:=ZzJ h hQ λ_ _ x=>x
end L2
namespace L2
open PySem PySem.Spec PyProof.Rows
section
variable{X:Cx}
def ZxW(i:Nat):TE:=λσ H Q=>∃v,σ[i]?=some (some v)/\Q v H
def tC(v:V):TE:=λ_ H Q=>Q v H
theorem Zb8{i:Nat}{x:Str}{pos:Pos}(hN:X.N[i]?=some x)(hv:Vis X.env.scope x)(hd:(x==("__debug__":Str))=false:=by decide)(hcd:(x==("__classdict__":Str))=false:=by decide):PE X (.Name x pos) (ZxW i):=by
 intro pins s σ H Q I h;obtain⟨v,e,h⟩:=h;obtain⟨m,hn,hl⟩:=I.loc;obtain⟨u,r,l⟩:=hl i x v hN e hv;have fin:EP X pins σ Q u s:=⟨v,H,I,r,h⟩;rcases l with⟨hk,hm⟩ | ⟨hk,c,hc,hcell⟩
 ·exact wpAny_Name (wpAny_loadName_local I.ok.kind hk hn hm fin) hd
 ·rcases hk with hk | hk
  ·exact wpAny_Name (wpAny_loadName_cell I.ok.kind hk hc hcell fin) hd
  ·exact wpAny_Name (wpAny_loadName_free I.ok.kind hk hc hcell fin hcd) hd
theorem Zr9{i j pos}:PE X (.Constant (.int i) j pos) (tC (.int i)):=λ_ _ _ H _ I h=>wpAny_Constant_int ⟨.int i,H,I.tok _,⟨_,rfl⟩,h⟩
theorem Zxj{b j pos}:PE X (.Constant (.bool b) j pos) (tC (.bl b)):=λ_ _ _ H _ I h=>Constant_bool ⟨.bl b,H,I,rfl,h⟩
theorem Zsa{j pos}:PE X (.Constant .none j pos) (tC .non):=λ_ _ _ H _ I h=>Constant_none ⟨.non,H,I,rfl,h⟩
def Gl(X:Cx)(x:Str):Prop:=X.env.kindOf x=some .globalImplicit
theorem ZlT{E:Value->Shared->Prop}{pins:List (Addr × Obj)}{s:Shared}{σ:St}{H:Hp}{x:Str}{u:Value}{pos:Pos}{Q:Value->Shared->Prop}(I:Inv X pins σ H s)(hg:Gl X x)(hm:X.mg x=some u)(h:Q u s)
  (hd:(x==("__debug__":Str))=false:=by decide):wpAny (model X.prog X.w) X.A (eval (.Name x pos) X.env) Q E s :=
 ZCs I.ok.kind hg (Calls.loadGlobal_global (by rw[I.ok.glob]; exact I.mod.glob.keeps I.bk) hm h) hd
theorem Zht{E:Value->Shared->Prop}{pins:List (Addr × Obj)}{s:Shared}{σ:St}{H:Hp}{x:Str}{u:Value}{pos:Pos}{Q:Value->Shared->Prop}(I:Inv X pins σ H s)(hg:Gl X x)(hm:X.mg x=none)(hv:Zzt x=some u)(h:Q u s)
  (hn:x ≠ "__name__":=by decide) (hd:(x==("__debug__":Str))=false:=by decide):wpAny (model X.prog X.w) X.A (eval (.Name x pos) X.env) Q E s:=by
 obtain⟨mb,h1,h2⟩:=I.mod.blt;exact ZCs I.ok.kind hg (Calls.loadGlobal_builtin (by rw[I.ok.glob]; exact I.mod.glob.keeps I.bk) hm (by rw[I.ok.blt]; exact h1.keeps I.bk) ((h2 x hn).trans hv) h) hd
theorem Zqb{x:Str}{v:V}{u:Value}{pos:Pos}(hg:Gl X x)(hm:X.mg x=some u)(r:RelV v u)(hd:(x==("__debug__":Str))=false:=by decide):PE X (.Name x pos) (tC v) :=
 λ_ _ _ H _ I h=>ZlT I hg hm ⟨v,H,I,r,h⟩ hd
theorem ZuQ{x:Str}{v:V}{u:Value}{pos:Pos}(hg:Gl X x)(hm:X.mg x=none)(hv:Zzt x=some u)(r:RelV v u)(hn:x ≠ "__name__":=by decide)(hd:(x==("__debug__":Str))=false:=by decide):PE X (.Name x pos) (tC v) :=
 λ_ _ _ H _ I h=>Zht I hg hm hv ⟨v,H,I,r,h⟩ hn hd
variable{a b:Expr}{ta tb:TE}{pos:Pos}
def PC(X:Cx)(op:CmpOp)(a b:Expr)(t:TE):Prop :=
 ∀(pins:List (Addr × Obj)) (s:Shared) (σ:St) (H:Hp) (Q:VK),Inv X pins σ H s->t σ H Q ->
  wpAny (model X.prog X.w) X.A (eval a X.env) (λv s₁=>wpAny (model X.prog X.w) X.A (eval b X.env) (λu s₂=>wpAny (model X.prog X.w) X.A (ZzF op v u) (EP X pins σ Q) X.xe s₂) X.xe s₁) X.xe s
theorem Zku(b:Expr){op:CmpOp}(h:op≠.In)(h2:op≠.NotIn):ZzE op b=false:=by
 have e1:(op==CmpOp.In)=false:=by cases op<;>first | rfl | exact absurd rfl h
 have e2:(op==CmpOp.NotIn)=false:=by cases op<;>first | rfl | exact absurd rfl h2
 cases b<;>simp[ZzE,e1,e2]
def tB(t:TE):TT:=λσ H Q=>t σ H λx H1=>∃c,x=.bl c/\Q c H1
theorem ZnV{op:CmpOp}{t:TE}(h:PC X op a b t)(h1:ZzE op b=false:=by first | exact Zku _ (by decide) (by decide) | rfl):PT X (.Compare a [op] [b] pos) (tB t):=by intro pins s σ H Q I hw;refine wpAny_isTrue_Compare1 (thn (h pins s σ H _ I hw) λv s1 h1=>thn h1 λu s2 h2=>thn h2 λc s3 ⟨x,H1,I1,r1,q1⟩=>?_) h1;obtain⟨d,rfl,q⟩:=q1;cases r1;exact ZAv ⟨H1,I1,q⟩
theorem Zwv{e:Expr}{t:TE}(h:PE X e t)(he:∀whole,isTrue e X.env whole=(do let v <-whole; standAt e.pos; holding [v] (truthy v)):=by intro _; rfl):PT X e (tB t):=by intro pins s σ H Q I hw;refine isTrue_plain (thn (h pins s σ H _ I hw) λv s1 ⟨x,H1,I1,r1,q1⟩=>?_) (he _);obtain⟨d,rfl,q⟩:=q1;cases r1;exact ZAv ⟨H1,I1,q⟩
variable{tA tB':TT}{rest:List Expr}
def ZoS(t u:TT):TT:=λσ H Q=>t σ H λc H1=>if c=true then u σ H1 Q else Q false H1
def tOr(t u:TT):TT:=λσ H Q=>t σ H λc H1=>if c=true then Q true H1 else u σ H1 Q
def Zd6(t:TT):TT:=λσ H Q=>t σ H λc H1=>Q (!c) H1
theorem Zvd(ha:PT X a tA):PW X (.BoolOp .And [a] pos) tA:=by
 intro wh pins s σ H Q I h;refine isTrue_and (thn (ha pins s σ H Q I h) λc s1 e=>?_);cases c with
 | true=>exact isTrue_and_nil e
 | false=>exact e
theorem ZvN(ha:PT X a tA):PW X (.BoolOp .Or [a] pos) tA:=by
 intro wh pins s σ H Q I h;refine isTrue_or (thn (ha pins s σ H Q I h) λc s1 e=>?_);cases c with
 | false=>exact isTrue_or_nil e
 | true=>exact e
theorem ZrO(ha:PT X a tA)(hb:PW X (.BoolOp .And (b::rest) pos) tB'):PW X (.BoolOp .And (a::b::rest) pos) (ZoS tA tB'):=by
 intro wh pins s σ H Q I h;refine isTrue_and (thn (ha pins s σ H _ I h) λc s1 ⟨H1,I1,q1⟩=>?_);cases c with
 | true=>exact hb wh pins s1 σ H1 Q I1 q1
 | false=>exact⟨H1,I1,q1⟩
theorem Zur(ha:PT X a tA)(hb:PW X (.BoolOp .Or (b::rest) pos) tB'):PW X (.BoolOp .Or (a::b::rest) pos) (tOr tA tB'):=by
 intro wh pins s σ H Q I h;refine isTrue_or (thn (ha pins s σ H _ I h) λc s1 ⟨H1,I1,q1⟩=>?_);cases c with
 | true=>exact⟨H1,I1,q1⟩
 | false=>exact hb wh pins s1 σ H1 Q I1 q1
theorem Zwr(ha:PT X a tA):PT X (.UnaryOp .Not a pos) (Zd6 tA):=by intro pins s σ H Q I h;exact isTrue_not (thn (ha pins s σ H (λc H1=>Q (!c) H1) I h) λ_ _ ⟨H',I',q'⟩=>⟨H',I',q'⟩)
def Zw8(ta tb:TE):TE:=λσ H Q=>ta σ H λx H1=>∃c,x=.bl c/\if c=true then tb σ H1 Q else Q (.bl false) H1
theorem ZvE{op}{t:TE}(h:PE X a t):PE X (.BoolOp op [a] pos) t:=λpins s σ H Q I hw=>BoolOp_one (h pins s σ H Q I hw)
theorem ZsV(ha:PE X a ta)(hb:PE X (.BoolOp .And (b::rest) pos) tb):PE X (.BoolOp .And (a::b::rest) pos) (Zw8 ta tb):=by
 intro pins s σ H Q I h;refine BoolOp_and (thn (ha pins s σ H _ I h) λv s1 ⟨x,H1,I1,r1,q1⟩=>?_);obtain⟨c,rfl,q1⟩:=q1;cases r1;refine ZAv ?_;cases c with
 | true=>exact hb pins s1 σ H1 Q I1 q1
 | false=>exact⟨.bl false,H1,I1,rfl,q1⟩
def tIf(t:TT)(ta tb:TE):TE:=λσ H Q=>t σ H λc H1=>if c=true then ta σ H1 Q else tb σ H1 Q
theorem Zol{c:Expr}(hc:PT X c tA)(ha:PE X a ta)(hb:PE X b tb):PE X (.IfExp c a b pos) (tIf tA ta tb):=by
 intro pins s σ H Q I h;refine wpAny_IfExp (thn (hc pins s σ H _ I h) λd s1 ⟨H1,I1,q1⟩=>?_);cases d with
 | true=>exact ha pins s1 σ H1 Q I1 q1
 | false=>exact hb pins s1 σ H1 Q I1 q1
end
end L2
namespace L2
open PySem PySem.Spec PyProof.Rows
def SqL(K:Zys)(H:Hp)(a:Addr)(xs:List V):Prop :=
 Rd H a (.lst xs) \/
  ∃(o:Obj) (its:Array Value) (n:Nat),K.lookup a=some o/\o.cls=.type "list"/\o.dict=none/\o.data=.seq its n/\its.size<=sizeLine/\Vals xs its.toList
def SqT(K:Zys)(H:Hp)(a:Addr)(xs:List V):Prop :=
 Rd H a (.tup xs) \/
  ∃(o:Obj) (its:Array Value) (n:Nat),K.lookup a=some o/\o.cls=.type "tuple"/\o.data=.seq its n/\its.size<=sizeLine/\Vals xs its.toList
def Zye:Value->Option V
 | .none=>some .non
 | .bool b=>some (.bl b)
 | .int i _=>some (.int i)
 | .str x _=>some (.str x)
 | .bytes b _=>some (.byt b)
 | .float b _=>some (.flt b)
 | .ref a=>some (.ref a)
 | .type n=>some (.ty n)
 | _=>none
theorem RelV.abs{x:V}{u:Value}(r:RelV x u):Zye u=some x:=by
 cases x with
 | non=>cases r; rfl
 | bl _=>cases r; rfl
 | int _=>obtain⟨t,rfl⟩:=r; rfl
 | str _=>obtain⟨t,rfl⟩:=r; rfl
 | byt _=>obtain⟨t,rfl⟩:=r; rfl
 | flt _=>obtain⟨t,rfl⟩:=r; rfl
 | ref _=>cases r; rfl
 | ty _=>cases r; rfl
theorem RelV.inj{x y:V}{u:Value}(r:RelV x u)(q:RelV y u):x=y:=Zzp (r.abs.symm.trans q.abs)
theorem Vals.inj:∀{xs ys:List V} {us:List Value},Vals xs us->Vals ys us->xs=ys
 | _,_,_,.nil,.nil=>rfl
 | _,_,_,.cons r t,.cons r' t'=>by rw[r.inj r',Vals.inj t t']
section
variable{X:Cx}{pins:List (Addr × Obj)}{σ:St}{H:Hp}{s:Shared}{a:Addr}{xs ys:List V}
theorem SqL.of{K:Zys}(h:H a=some (.lst xs)):SqL K H a xs:=.inl (.inl h)
theorem SqT.of{K:Zys}(h:H a=some (.tup xs)):SqT K H a xs:=.inl (.inl h)
theorem Inv.list(I:Inv X pins σ H s)(h:SqL X.K H a xs):∃its:List Value,Vals xs its/\PlainL s.heap a its.toArray/\xs.length<=sizeLine:=by
 rcases h with h | ⟨o,its,n,hk,hc,hd,hs,hz,r⟩
 ·obtain⟨z,its,n,r,e⟩:=h.ok I.hok
  exact⟨its,r,⟨_,n,e,rfl,rfl,rfl⟩,z⟩
 ·refine⟨its.toList,r,⟨o,n,I.kIn a o hk,hc,hd,by simpa using hs⟩,?_⟩
  have e:=r.length;simp only[ZyT]at e;omega
theorem Inv.tuple(I:Inv X pins σ H s)(h:SqT X.K H a xs):∃its:List Value,Vals xs its/\IsTup s.heap a its.toArray/\xs.length<=sizeLine:=by
 rcases h with h | ⟨o,its,n,hk,hc,hs,hz,r⟩
 ·obtain⟨z,its,r,p⟩:=h.ok I.hok
  exact⟨its,r,p,z⟩
 ·refine⟨its.toList,r,⟨o,I.kIn a o hk,hc,n,by simpa using hs⟩,?_⟩
  have e:=r.length;simp only[ZyT]at e;omega
theorem Inv.list_inj(I:Inv X pins σ H s)(h:SqL X.K H a xs)(h':SqL X.K H a ys):xs=ys:=by
 obtain⟨its,r,⟨o,n,e,_,_,d⟩,_⟩:=I.list h;obtain⟨its',r',⟨o',n',e',_,_,d'⟩,_⟩:=I.list h';rw[e]at e'; cases e';rw[d]at d';injection d' with d1 _
 have:its=its':=by simpa using congrArg Array.toList d1
 subst this;exact r.inj r'
theorem Inv.tuple_inj(I:Inv X pins σ H s)(h:SqT X.K H a xs)(h':SqT X.K H a ys):xs=ys:=by
 obtain⟨its,r,⟨o,e,_,n,d⟩,_⟩:=I.tuple h;obtain⟨its',r',⟨o',e',_,n',d'⟩,_⟩:=I.tuple h';rw[e]at e'; cases e';rw[d]at d';injection d' with d1 _
 have:its=its':=by simpa using congrArg Array.toList d1
 subst this;exact r.inj r'
end
abbrev Cx.wish(X:Cx)(E:Value->Shared->Prop):Cx:={ X with xe:=E }
abbrev Cx.nox(X:Cx):Cx:=X.wish λ_ _=>False
theorem Cx.Ok.wish{X:Cx}(ok:X.Ok)(E:Value->Shared->Prop):(X.wish E).Ok :=
 ⟨ok.mod,ok.kind,ok.glob,ok.blt,ok.above,ok.inj,ok.has,ok.cab,ok.hd,ok.frames,ok.stk,ok.exf,ok.bs,ok.bsz,ok.noex,ok.exfs,ok.funs,ok.frf⟩
theorem Cx.Ok.unwish{X:Cx}{E:Value->Shared->Prop}(ok:(X.wish E).Ok):X.Ok :=
 ⟨ok.mod,ok.kind,ok.glob,ok.blt,ok.above,ok.inj,ok.has,ok.cab,ok.hd,ok.frames,ok.stk,ok.exf,ok.bs,ok.bsz,ok.noex,ok.exfs,ok.funs,ok.frf⟩
section
variable{X:Cx}{pins:List (Addr × Obj)}{σ:St}{H:Hp}{s:Shared}{E:Value->Shared->Prop}
theorem Inv.wish(I:Inv X pins σ H s)(E:Value->Shared->Prop):Inv (X.wish E) pins σ H s:=⟨I.ok.wish E,I.os,I.bare,I.base,I.loc,I.cell,I.free,I.freeC,I.pin,I.hok,I.len⟩
theorem Inv.unwish(I:Inv (X.wish E) pins σ H s):Inv X pins σ H s:=⟨I.ok.unwish,I.os,I.bare,I.base,I.loc,I.cell,I.free,I.freeC,I.pin,I.hok,I.len⟩
theorem SP.unwish{D:Ends}{f:Flow}{s':Shared}(h:SP (X.wish E) pins D f s'):SP X pins D f s':=by
 cases f with
 | next=>obtain⟨σ',H',I,q⟩:=h; exact⟨σ',H',I.unwish,q⟩
 | brk=>obtain⟨σ',H',I,q⟩:=h; exact⟨σ',H',I.unwish,q⟩
 | cont=>obtain⟨σ',H',I,q⟩:=h; exact⟨σ',H',I.unwish,q⟩
 | ret u=>obtain⟨v,σ',H',I,r,q⟩:=h; exact⟨v,σ',H',I.unwish,r,q⟩
theorem PSs.nox{st:List Stmt}{t:TS}(h:PSs X.nox st t):PSs X st t:=λpins s σ H D I hw=>ZzJ (h pins s σ H D (I.wish _) hw) (λ_ _ q=>q.unwish) λ_ _ z=>Zzw z
end
section
variable{X:Cx}{st:Stmt}{rest:List Stmt}{t u:TS}{e:Expr}{te:TE}{pos:Pos}
def Zxc:TS:=λD σ H=>D.nx σ H
def ZxT(t u:TS):TS:=λD σ H=>t { D with nx:=u D } σ H
theorem ZuO:PSs X [] Zxc:=λ_ _ σ H _ I h=>ZB3 ⟨σ,H,I,h⟩
theorem Zig(h1:PS X st t)(h2:PSs X rest u):PSs X (st::rest) (ZxT t u):=by
 intro pins s σ H D I h;refine wpAny_execs_cons (thn (h1 pins s σ H { D with nx:=u D } I h) λf s1 q=>?_);cases f with
 | next=>obtain⟨σ',H',I',q⟩:=q;exact h2 pins s1 σ' H' D I' q
 | ret v=>exact q
 | brk=>exact q
 | cont=>exact q
theorem Zqj(h1:PS X st t):PSs X [st] t:=by
 intro pins s σ H D I h;refine wpAny_execs_cons (thn (h1 pins s σ H D I h) λf s1 q=>?_);cases f with
 | next=>exact ZB3 q
 | ret v=>exact q
 | brk=>exact q
 | cont=>exact q
theorem Inv.quiet{pins:List (Addr × Obj)}{σ:St}{H:Hp}{s:Shared}(I:Inv X pins σ H s):interactive X.env=false:=by simp[interactive,I.ok.kind]
def Zxh(te:TE):TS:=λD σ H=>te σ H λ_ H1=>D.nx σ H1
theorem ZhC(he:PE X e te)(hs:ZAE e none pos.line X.env=pure false:=by rfl):PS X (.Expr e pos) (Zxh te):=by intro pins s σ H D I h;exact wpAny_Expr_any (thn (he pins s σ H _ I h) λv s1 ⟨x,H1,I1,r1,q1⟩=>⟨σ,H1,I1,q1⟩) I.quiet hs
def ZxZ(te:TE):TS:=λD σ H=>te σ H D.rt
theorem Zoq(he:PE X e te):PS X (.Return (some e) pos) (ZxZ te):=by intro pins s σ H D I h;exact wpAny_Return_some (thn (he pins s σ H _ I h) λv s1 ⟨x,H1,I1,r1,q1⟩=>⟨x,σ,H1,I1,r1,q1⟩)
def ZxX(c:TT)(t u:TS):TS:=λD σ H=>c σ H λb H1=>if b=true then t D σ H1 else u D σ H1
theorem Zuo{c:Expr}{a b:List Stmt}{tc:TT}(hc:PT X c tc)(ha:PSs X a t)(hb:PSs X b u):PS X (.If c a b pos) (ZxX tc t u):=by
 intro pins s σ H D I h;refine wpAny_If (thn (hc pins s σ H _ I h) λd s1 ⟨H1,I1,q1⟩=>?_);cases d with
 | true=>exact ha pins s1 σ H1 D I1 q1
 | false=>exact hb pins s1 σ H1 D I1 q1
def Zv1:TS:=λ_ _ _=>False
theorem ZgY{sts:List Stmt}:PSs X sts Zv1:=λ_ _ _ _ _ _ h=>h.elim
end
abbrev TG:=V->St->Hp->(St->Hp->Prop)->Prop
abbrev TGs:=List V->St->Hp->(St->Hp->Prop)->Prop
def PG(X:Cx)(target:Expr)(t:TG):Prop :=
 ∀(pins:List (Addr × Obj)) (s:Shared) (σ:St) (H:Hp) (v:V) (u:Value) (Q:St->Hp->Prop),Inv X pins σ H s->RelV v u->t v σ H Q ->
  wpAny (model X.prog X.w) X.A (assign target X.env u) (λ_ s'=>∃σ' H',Inv X pins σ' H' s'/\Q σ' H') X.xe s
def PGs(X:Cx)(ts:List Expr)(t:TGs):Prop :=
 ∀(pins:List (Addr × Obj)) (s:Shared) (σ:St) (H:Hp) (vs:List V) (us:List Value) (Q:St->Hp->Prop),Inv X pins σ H s->Vals vs us->t vs σ H Q ->
  wpAny (model X.prog X.w) X.A (assignInOrder ((ZAB ts X.env).map (·.2)) us) (λ_ s'=>∃σ' H',Inv X pins σ' H' s'/\Q σ' H') X.xe s
abbrev Zt5:=V->V->V->Hp->(Hp->Prop)->Prop
def ZwJ(X:Cx)(t:Zt5):Prop :=
 ∀(pins:List (Addr × Obj)) (s:Shared) (σ:St) (H:Hp) (o i v:V) (ov iv u:Value) (Q:Hp->Prop),Inv X pins σ H s->RelV o ov->RelV i iv->RelV v u->t o i v H Q ->
  wpAny (model X.prog X.w) X.A (setItem ov iv u) (λ_ s'=>∃H',Inv X pins σ H' s'/\Q H') X.xe s
section
variable{X:Cx}{pos:Pos}
def Zna(i:Nat):TG:=λv σ H Q=>Q (σ.set i (some v)) H
theorem ZfR{i:Nat}{x:Str}(hN:X.N.Nodup)(hi:X.N[i]?=some x)(hx:Loc X.env.scope x)(hf:X.fn x=true\/X.env.scope.names.lookup x=some .local:=by first | exact .inl rfl | exact .inr rfl | assumption):PG X (.Name x pos) (Zna i):=by intro pins s σ H v u Q I r h;exact wpAny_assign_Name (Zpc I hN hi hx r (λs' I'=>⟨_,H,I',h⟩) hf)
def Zwd:TGs:=λvs σ H Q=>vs=[]/\Q σ H
def ZqY(t:TG)(u:TGs):TGs:=λvs σ H Q=>∃v r,vs=v::r/\t v σ H λσ' H'=>u r σ' H' Q
theorem Zqp:PGs X [] Zwd:=by intro pins s σ H vs us Q I r h;obtain⟨e,h⟩:=h;subst e;cases r;exact assignInOrder_nil ⟨σ,H,I,h⟩
theorem Zil{e:Expr}{es:List Expr}{t:TG}{u:TGs}(h1:PG X e t)(h2:PGs X es u)
  (hs:(ZAB (e::es) X.env).map (·.2)=assign e X.env::(ZAB es X.env).map (·.2):=by rfl):PGs X (e::es) (ZqY t u):=by
 intro pins s σ H vs us Q I r h;obtain⟨v,vr,e1,h⟩:=h;subst e1;cases r with
 | cons r rr=>rw[hs];refine assignInOrder_cons (thn (h1 pins s σ H _ _ _ I r h) λ_ s1 ⟨σ1,H1,I1,q1⟩=>?_);exact h2 pins s1 σ1 H1 _ _ Q I1 rr q1
def ZvM(K:Zys)(n:Nat)(t:TGs):TG:=λv σ H Q=>∃a xs,v=.ref a/\SqT K H a xs/\xs.length=n/\t xs σ H Q
theorem Zsn{es:List Expr}{k:Nat}{t:TGs}{n:Nat}(hc:X.calm=true)(h:PGs X es t)
  (hn:(ZAB es X.env).length=n:=by rfl) (hst:(ZAB es X.env).findIdx? (·.1)=none:=by rfl):PG X (.Tuple es k pos) (ZvM X.K n t):=by
 intro pins s σ H v u Q I r hw;obtain⟨a,xs,e1,hq,hl,hw⟩:=hw;subst e1;cases r;obtain⟨its,rv,ht,hz⟩:=I.tuple hq;refine assign_Tuple_tuple (I.ok.hd hc) ht (by simp[hn,<-hl,rv.length]) hst λh' hx=>?_;have I1:Inv X pins σ H { s with heap:=h' }:=I.kept (t':=s.toks) λb o e=>hx b o (ZyQ (ZyK e)) e;exact h pins _ σ H xs _ Q I1 (by simpa using rv) hw
def ZkC(to ti:TE)(t:Zt5):TG:=λv σ H Q=>to σ H λo H1=>ti σ H1 λi H2=>t o i v H2 λH3=>Q σ H3
theorem ZvH{o i:Expr}{to ti:TE}{t:Zt5}(ho:PE X o to)(hi:PE X i ti)(hs:ZwJ X t)
  (ha:∀v,assign (.Subscript o i pos) X.env v=(do
   let ov <-holding [v] (eval o X.env)
   let iv <-holding [v,ov] (eval i X.env)
   standAt pos
   holding [v,ov,iv] (setItem ov iv v)
   release [v,ov,iv] []):=by intro _; rfl):PG X (.Subscript o i pos) (ZkC to ti t):=by
 intro pins s σ H v u Q I r h;rw[ha];refine Zyr (Zzz (thn (ho pins s σ H _ I h) λov s1 ⟨x,H1,I1,r1,q1⟩=>?_));refine Zyr (Zzz (thn (hi pins s1 σ H1 _ I1 q1) λiv s2 ⟨y,H2,I2,r2,q2⟩=>?_));refine Zyr (wpAny_standAt (Zyr (Zzz (thn (hs pins s2 σ H2 x y v ov iv u _ I2 r1 r2 r q2) λ_ s3 ⟨H3,I3,q3⟩=>?_))));exact wpAny_release ⟨σ,H3,I3,q3⟩
def Zwb(te:TE)(g:TG):TS:=λD σ H=>te σ H λx H1=>g x σ H1 D.nx
theorem Zwu{tg e:Expr}{te:TE}{g:TG}(he:PE X e te)(hg:PG X tg g)(hs:swapsWithSole [tg] e pos.line X.env=pure false:=by rfl)(hw:swappedStores [tg] e X.env=pure none:=by rfl)
  (h1:(ZAB [tg] X.env).map (·.2)=[assign tg X.env]:=by rfl):PS X (.Assign [tg] e pos) (Zwb te g):=by
 intro pins s σ H D I h;refine wpAny_Assign_stores (thn (he pins s σ H _ I h) λv s1 ⟨x,H1,I1,r1,q1⟩=>?_) hs hw;rw[h1];exact thn (hg pins s1 σ H1 x v _ I1 r1 q1) λ_ s2 ⟨σ',H',I',q'⟩=>⟨σ',H',I',q'⟩
theorem Zoo{i:Nat}{x:Str}{e:Expr}{te:TE}{pos':Pos}(hN:X.N.Nodup)(hi:X.N[i]?=some x)(hx:Loc X.env.scope x)(he:PE X e te)(hs:ZAE e (some (.Name x pos')) pos.line X.env=pure false:=by rfl)(hf:X.fn x=true\/X.env.scope.names.lookup x=some .local:=by first | exact .inl rfl | exact .inr rfl | assumption) :
  PS X (.Assign [.Name x pos'] e pos) (Zwb te (Zna i)):=by
 intro pins s σ H D I h;refine wpAny_Assign_Name (thn (he pins s σ H _ I h) λv s1 ⟨y,H1,I1,r1,q1⟩=>?_) hs;exact Zpc I1 hN hi hx r1 (λs2 I2=>⟨_,H1,I2,q1⟩) hf
end
section
variable{X:Cx}{pos:Pos}
def ZwA(c:TT)(tb:TS):TS:=λD σ H=>∃W:Nat->St->Hp->Prop,(∃m,W m σ H)/\∀m σ H,W m σ H ->
 c σ H λb H1=>if b=true then ∃N:St->Hp->Prop,(∀σ' H',N σ' H'->∃m',m'<m/\W m' σ' H')/\tb { D with nx:=N,ct:=N,bk:=D.nx } σ H1 else D.nx σ H1
theorem Ztu{c:Expr}{body:List Stmt}{tc:TT}{tb:TS}(hp:PassesOwn (model X.prog X.w) X.A X.env X.xe)(hc:PT X c tc)(hb:PSs X body tb):PS X (.While c body [] pos) (ZwA tc tb):=by
 intro pins s σ H D I h;obtain⟨W,⟨m0,w0⟩,turn⟩:=h;refine wpAny_While (codeAny_whileLoop (λn s'=>∃σ' H',Inv X pins σ' H' s'/\W n σ' H') ?_ m0 ⟨σ,H,I,w0⟩)
 rintro n s1 ⟨σ1,H1,I1,w1⟩
 refine ZAJ hp (thn (hc pins s1 σ1 H1 _ I1 (turn n σ1 H1 w1)) λb s2 ⟨H2,I2,q2⟩=>?_);cases b with
 | true =>
  obtain⟨N,hN,q2⟩:=q2;rw[if_pos rfl];refine ZAJ hp (thn (hb pins s2 σ1 H2 _ I2 q2) λf s3 q3=>?_);cases f with
  | next=>obtain⟨σ3,H3,I3,n3⟩:=q3;obtain⟨m',hm,w3⟩:=hN σ3 H3 n3;exact⟨m',hm,σ3,H3,I3,w3⟩
  | cont=>obtain⟨σ3,H3,I3,n3⟩:=q3;obtain⟨m',hm,w3⟩:=hN σ3 H3 n3;exact⟨m',hm,σ3,H3,I3,w3⟩
  | brk=>exact q3
  | ret v=>exact q3
 | false=>rw[if_neg Zzc];exact ZB3 ⟨σ1,H2,I2,q2⟩
end
structure It where
 go:Nat->Hp->Prop
 yld:Nat->Hp->V->Hp->Prop
 stop:Nat->Hp->Prop
def ZgC(X:Cx)(pins:List (Addr × Obj))(H:Hp)(b:Addr):Prop :=
 H b=none/\b≠X.env.locals/\b ∉ X.fs/\(b∈X.ex\/X.s₀.heap.objs.size<=b)/\(∀x c,X.env.cells.lookup x=some c->c≠b)/\∀p∈X.pn++pins,p.1≠b
theorem Inv.fpOk{X:Cx}{pins:List (Addr × Obj)}{σ:St}{H H':Hp}{s:Shared}{b:Addr}(I:Inv X pins σ H s)(hb:s.heap.objs.size<=b)(hn:H' b=none):ZgC X pins H' b:=by
 refine⟨hn,ZBv (ZyX I.lt hb),I.nofs hb,.inr (Zzg I.sz hb),λx c e z=>?_,λp hp z=>?_⟩
 ·obtain⟨v,q⟩:=I.cell x c e
  exact absurd (ZyX q.lt (by rw[z]; exact hb)) (ZAh _)
 ·exact absurd (ZyX (ZyK (I.pin p hp).1) (by rw[z]; exact hb)) (ZAh _)
structure Turn(P:Program)(w:World)(K:Zys)(tg:Expr)(J:It)(fp:List Addr)(it:Addr)(tn:Nat->Heap->Prop):Prop where
 mem:it∈fp
 obj:∀i h,tn i h->∀b∈fp,∃o,h.get? b=some o/\∀v,o.data≠.cell v
 keep:∀i h h',tn i h->(∀b∈fp,∀o,h.get? b=some o->h'.get? b=some o)->tn i h'
 item:∀(X:Cx),X.prog=P->X.w=w->X.K=K->X.calm=true->∀(i:Nat) (pins:List (Addr × Obj)) (s:Shared) (σ:St) (H:Hp) (E:Value->Shared->Prop),Inv X pins σ H s->(∀b∈fp,ZgC X pins H b)->tn i s.heap->J.go i H ->
  wpAny (model P w) X.A (pyNext (.ref it)) (λr s1=>∃u,r=some u /\
   wpAny (model P w) X.A (ZB4 tg (.ref it) u) (λ_ s2=>∃x H',Inv X pins σ H' s2/\RelV x u/\J.yld i H x H'/\tn (i+1) s2.heap/\∀b∈fp,H' b=none) E s1) E s
 done:∀(X:Cx),X.prog=P->X.w=w->X.K=K->X.calm=true->∀(i:Nat) (pins:List (Addr × Obj)) (s:Shared) (σ:St) (H:Hp) (E:Value->Shared->Prop),Inv X pins σ H s->(∀b∈fp,ZgC X pins H b)->tn i s.heap->J.stop i H ->
  wpAny (model P w) X.A (pyNext (.ref it)) (λr s1=>r=none/\Inv X pins σ H s1) E s
 self:∀(A:Around) (i:Nat) (s:Shared) (Q:Value->Shared->Prop) (E:Value->Shared->Prop),tn i s.heap->Q (.ref it) s->wpAny (model P w) A (pyIter (.ref it)) Q E s
abbrev TI:=St->Hp->(It->Hp->Prop)->Prop
def PIE(X:Cx)(pins:List (Addr × Obj))(σ:St)(tg:Expr)(R:It->Hp->Prop)(itv:Value)(s2:Shared):Prop :=
 ∃(it:Addr) (fp:List Addr) (tn:Nat->Heap->Prop) (J:It) (H':Hp),itv=.ref it/\Inv X pins σ H' s2/\Turn X.prog X.w X.K tg J fp it tn/\tn 0 s2.heap/\(∀b∈fp,ZgC X pins H' b)/\R J H'
def PI(X:Cx)(tg iter:Expr)(wi:TI):Prop :=
 ∀(pins:List (Addr × Obj)) (s:Shared) (σ:St) (H:Hp) (R:It->Hp->Prop),Inv X pins σ H s->wi σ H R ->
  wpAny (model X.prog X.w) X.A (eval iter X.env) (λv s1=>wpAny (model X.prog X.w) X.A (pyIter v) (PIE X pins σ tg R) X.xe s1) X.xe s
theorem Zng{M:Model}{A:Around}{E:Value->Shared->Prop}{s:Shared}{tg:Expr}{it:Addr}{u:Value}{o:Obj}{n:String}{vs:Array Value}{Q:Unit->Shared->Prop}(ho:s.heap.get? it=some o)(hc:o.cls=.type n)(hd:o.data=.fields vs)
    (hn:["enumerate","zip","dict_itemiterator","dict_reverseitemiterator","odict_iterator","itertools.zip_longest","itertools.pairwise"].contains n=false) (hQ:Q () s):wpAny M A (ZB4 tg (.ref it) u) Q E s:=by
  unfold ZB4
  cases tg<;>first
    | exact Zyv hQ
    | (cases u<;>first
        | exact Zyv hQ
        | (refine Zyr (wpAny_load ho ?_)
           rw [hc, hd]
           show wpAny M A (if (["enumerate", "zip", "dict_itemiterator", "dict_reverseitemiterator", "odict_iterator", "itertools.zip_longest", "itertools.pairwise"].contains n && vs[0]? == some (rawInt _)) = true then _ else _) Q E s
           rw [if_neg (by intro h; rw [hn, Bool.false_and] at h; cases h)]
           exact Zyv hQ))
def Itl(K:Zys)(a:Addr):It :=
 ⟨λi H=>∃xs x,SqL K H a xs/\xs[i]?=some x,λi H x H'=>H'=H/\∀xs,SqL K H a xs->xs[i]?=some x,λi H=>∃xs,SqL K H a xs/\xs.length<=i⟩
def Itt(K:Zys)(a:Addr):It :=
 ⟨λi H=>∃xs x,SqT K H a xs/\xs[i]?=some x,λi H x H'=>H'=H/\∀xs,SqT K H a xs->xs[i]?=some x,λi H=>∃xs,SqT K H a xs/\xs.length<=i⟩
def Itr(lo:Int)(n:Nat):It:=⟨λi _=>i<n,λi H x H'=>H'=H/\x=.int (lo+i),λi _=>n<=i⟩
theorem Zsm{P:Program}{w:World}{K:Zys}{tg:Expr}(a it:Addr):Turn P w K tg (Itl K a) [it] it (λi h=>h.IsListIter it a i) where
 mem:=by simp
 obj:=λi h st b hb=>by
  have e:b=it:=by simpa using hb
  subst e;obtain⟨o,e,c,d⟩:=st;exact⟨o,e,λv z=>by rw[d]at z; cases z⟩
 keep:=λi h h' st k=>st.at λo e=>k it (by simp) o e
 item:=by intro X hP hw hK hc i pins s σ H E I hf st hg;subst hP hw hK;obtain⟨xs,x,hq,hx⟩:=hg;obtain⟨its,rv,p,hz⟩:=I.list hq;obtain⟨u,hu,ru⟩:=rv.get hx;obtain⟨f0,f1,f2,f3,f4,f5⟩:=hf it (by simp);refine wpAny_pyNext_list_item st p.isList (x:=u) (by simpa using hu) λh' st' sb=>?_;have I1:Inv X pins σ H { s with heap:=h' }:=I.turned (t':=s.toks) (λb o hb e=>(sb.2 b hb).trans e) f0 f1 f3 f4 f5;obtain⟨o,e,c,d⟩:=id st';exact⟨u,rfl,Zng (s:={ s with heap:=h' }) e c d (by decide) ⟨x,H,I1,ru,⟨rfl,λys hy=>by rw[I.list_inj hy hq]; exact hx⟩,st',λb hb=>(hf b hb).1⟩⟩
 done:=by intro X hP hw hK hc i pins s σ H E I hf st hg;subst hP hw hK;obtain⟨xs,hq,hx⟩:=hg;obtain⟨its,rv,p,hz⟩:=I.list hq;obtain⟨f0,f1,f2,f3,f4,f5⟩:=hf it (by simp);have hl:=rv.length;exact wpAny_pyNext_list_end (I.ok.hd hc) st p.isList (by simp; omega) λh' eb=>⟨rfl,I.turned (t':=s.toks) (λb o hb e=>eb b o hb e) f0 f1 f3 f4 f5⟩
 self:=λ_ _ _ _ _ st h=>wpAny_pyIter_listiter st h
theorem Zra{P:Program}{w:World}{K:Zys}{tg:Expr}(a it:Addr):Turn P w K tg (Itt K a) [it] it (λi h=>h.IsTupleIter it a i) where
 mem:=by simp
 obj:=λi h st b hb=>by
  have e:b=it:=by simpa using hb
  subst e;obtain⟨o,e,c,d⟩:=st;exact⟨o,e,λv z=>by rw[d]at z; cases z⟩
 keep:=λi h h' st k=>st.at λo e=>k it (by simp) o e
 item:=by intro X hP hw hK hc i pins s σ H E I hf st hg;subst hP hw hK;obtain⟨xs,x,hq,hx⟩:=hg;obtain⟨its,rv,p,hz⟩:=I.tuple hq;obtain⟨u,hu,ru⟩:=rv.get hx;obtain⟨f0,f1,f2,f3,f4,f5⟩:=hf it (by simp);refine wpAny_pyNext_tuple_item st (show s.heap.IsTuple a its.toArray from p) (x:=u) (by simpa using hu) λh' st' sb=>?_;have I1:Inv X pins σ H { s with heap:=h' }:=I.turned (t':=s.toks) (λb o hb e=>(sb.2 b hb).trans e) f0 f1 f3 f4 f5;obtain⟨o,e,c,d⟩:=id st';exact⟨u,rfl,Zng (s:={ s with heap:=h' }) e c d (by decide) ⟨x,H,I1,ru,⟨rfl,λys hy=>by rw[I.tuple_inj hy hq]; exact hx⟩,st',λb hb=>(hf b hb).1⟩⟩
 done:=by intro X hP hw hK hc i pins s σ H E I hf st hg;subst hP hw hK;obtain⟨xs,hq,hx⟩:=hg;obtain⟨its,rv,p,hz⟩:=I.tuple hq;obtain⟨f0,f1,f2,f3,f4,f5⟩:=hf it (by simp);have hl:=rv.length;exact wpAny_pyNext_tuple_end (I.ok.hd hc) st (show s.heap.IsTuple a its.toArray from p) (by simp; omega) λh' eb=>⟨rfl,I.turned (t':=s.toks) (λb o hb e=>eb b o hb e) f0 f1 f3 f4 f5⟩
 self:=λ_ _ _ _ _ st h=>wpAny_pyIter_tupleiter st h
theorem ZqU{P:Program}{w:World}{K:Zys}{tg:Expr}(it:Addr)(lo:Int)(n:Nat):Turn P w K tg (Itr lo n) [it] it (λi h=>IsRangeIter h it (lo+(i:Nat)*1) ((n:Int)-(i:Nat)) 1) where
 mem:=by simp
 obj:=λi h st b hb=>by
  have e:b=it:=by simpa using hb
  subst e;exact⟨_,st,λv z=>by have z':Data.fields _=Data.cell v:=z;cases z'⟩
 keep:=λi h h' st k=>k it (by simp) _ st
 item:=by intro X hP hw hK hc i pins s σ H E I hf st hg;subst hP hw hK;obtain⟨f0,f1,f2,f3,f4,f5⟩:=hf it (by simp);have W:=Walks.range (prog:=X.prog) (w:=X.w) (I.ok.hd hc) it lo 1 n;refine W.item i s _ _ hg st λv h' tk hv st' kk=>?_;obtain⟨t,rfl⟩:=hv;have I1:Inv X pins σ H { s with heap:=h',toks:=tk }:=I.turned (λb o hb e=>kk b o (by simpa using hb) e) f0 f1 f3 f4 f5;refine⟨_,rfl,Zng (s:={ s with heap:=h',toks:=tk }) (n:="range_iterator") st' rfl rfl (by decide) ⟨.int (lo+i),H,I1,⟨t,?_⟩,⟨rfl,rfl⟩,st',λb hb=>(hf b hb).1⟩⟩;rw[Int.mul_one]
 done:=by intro X hP hw hK hc i pins s σ H E I hf st hg;subst hP hw hK;obtain⟨f0,f1,f2,f3,f4,f5⟩:=hf it (by simp);exact wpAny_pyNext_range_end (I.ok.hd hc) st (by have:n<=i:=hg; omega) λh' eb=>⟨rfl,I.turned (t':=s.toks) (λb o hb e=>eb b o hb e) f0 f1 f3 f4 f5⟩
 self:=λ_ _ _ _ _ st h=>wpAny_pyIter_rangeiter st h
end L2
namespace L2
open PySem PySem.Spec PyProof.Rows
section
variable{X:Cx}{tg:Expr}
theorem ZoX{pins:List (Addr × Obj)}{σ:St}{H:Hp}{s:Shared}{R:It->Hp->Prop}{E:Value->Shared->Prop}{lo hi:Int}{t u v:Tok}{tk:Nat}(I:Inv X pins σ H s)(h1:-(2 ^ 62)<=lo)(h2:lo<2 ^ 62)(h3:-(2 ^ 62)<=hi)(h4:hi<2 ^ 62)
  (q:R (Itr lo (hi-lo).toNat) H):wpAny (model X.prog X.w) X.A (pyIter (.ref s.heap.objs.size)) (PIE X pins σ tg R) E { s with heap:=s.heap.push { cls:=.type "range",data:=.fields #[.int lo t,.int hi u,.int 1 v] },toks:=tk }:=by
 refine wpAny_pyIter_range (IsRange.new ..) (small_one h1 h2 h3 h4) ?_;have I1:Inv X pins σ H { s with heap:=s.heap.push { cls:=.type "range",data:=.fields #[.int lo t,.int hi u,.int 1 v] },toks:=tk }:=I.kept λb o e=>Zyy _ e;refine⟨(s.heap.push { cls:=.type "range",data:=.fields #[.int lo t,.int hi u,.int 1 v] }).objs.size,[(s.heap.push { cls:=.type "range",data:=.fields #[.int lo t,.int hi u,.int 1 v] }).objs.size],_,_,H,rfl,
  I1.kept (t':=tk) λb o e=>Zyy _ e,ZqU _ lo (hi-lo).toNat,?_,λb hb=>?_,q⟩
 ·have e1:lo+((0:Nat):Int)*1=lo:=by simp
  have e2:(((hi-lo).toNat:Nat):Int)-((0:Nat):Int)=ZA2 lo hi 1:=by rw[rangeSize_one]; split<;>omega
  show IsRangeIter _ _ (lo+((0:Nat):Int)*1) ((((hi-lo).toNat:Nat):Int)-((0:Nat):Int)) 1;rw[e1,e2];exact ZyO _ rfl
 ·have e:b=(s.heap.push { cls:=.type "range",data:=.fields #[.int lo t,.int hi u,.int 1 v] }).objs.size:=by simpa using hb
  subst e;exact I1.fpOk (ZyB _) (I1.hok.fresh (ZyB _))
def ZbU(ta:TA):TI:=λσ H R=>ta σ H λvs H1=>∃j:Int,vs=[.int j]/\-(2 ^ 62)<=j/\j<2 ^ 62/\R (Itr 0 j.toNat) H1
def Zjy(ta:TA):TI:=λσ H R=>ta σ H λvs H1=>∃i j:Int,vs=[.int i,.int j]/\(-(2 ^ 62)<=i/\i<2 ^ 62/\-(2 ^ 62)<=j/\j<2 ^ 62)/\R (Itr i (j-i).toNat) H1
theorem Zsy{a:Expr}{ta:TA}{p pos:Pos}(hg:Gl X "range")(hm:X.mg "range" = none)(ha:PA X [a] ta)(hs:ZyF [a] X.env=[(false,eval a X.env)]:=by rfl):PI X tg (.Call (.Name "range" p) [a] [] pos) (ZbU ta):=by
 intro pins s σ H R I h;refine Call_ (Zht I hg hm boot_range (ZBh (thn (ha pos pins s σ H _ I h) λus s1 ⟨vs,H1,I1,r1,q1⟩=>?_) hs rfl));obtain⟨j,e,q1,q2,q⟩:=q1;subst e;cases r1 with
 | cons r rr=>cases rr;obtain⟨t,rfl⟩:=r;exact call_range_1 (ZoX I1 (by omega) (by omega) q1 q2 (by simpa using q))
theorem Zsb{a b:Expr}{ta:TA}{p pos:Pos}(hg:Gl X "range")(hm:X.mg "range" = none)(ha:PA X [a,b] ta)(hs:ZyF [a,b] X.env=[(false,eval a X.env),(false,eval b X.env)]:=by rfl)(hs2:ZyF [b] X.env=[(false,eval b X.env)]:=by rfl) :
  PI X tg (.Call (.Name "range" p) [a,b] [] pos) (Zjy ta):=by
 intro pins s σ H R I h;refine Call_ (Zht I hg hm boot_range (ZBh (thn (ha pos pins s σ H _ I h) λus s1 ⟨vs,H1,I1,r1,q1⟩=>?_) (by rw[hs,hs2]) (by rw[hs2]; rfl)));obtain⟨i,j,e,⟨q1,q2,q3,q4⟩,q⟩:=q1;subst e;cases r1 with
 | cons r rr =>
  cases rr with
  | cons r' rr=>cases rr;obtain⟨t,rfl⟩:=r;obtain⟨t',rfl⟩:=r';exact call_range_2 (ZoX I1 q1 q2 q3 q4 q)
def ZxQ(wi:TI)(g:TG)(tb:TS):TS:=λD σ H=>wi σ H λJ H1=>∃W:Nat->Nat->St->Hp->Prop,(∃m,W 0 m σ H1)/\∀i m σ H,W i m σ H ->
 (J.stop i H/\D.nx σ H)\/(J.go i H/\∃N:St->Hp->Prop,(∀σ' H',N σ' H'->∃m',m'<m/\W (i+1) m' σ' H')/\∀x H',J.yld i H x H'->g x σ H' λσ2 H2=>tb { D with nx:=N,ct:=N,bk:=D.nx } σ2 H2)
def Zi9(fp:List Addr)(h:Heap):List (Addr × Obj):=fp.filterMap λb=>(h.get? b).map λo=>(b,o)
theorem ZfF{fp:List Addr}{h:Heap}{b:Addr}{o:Obj}(hb:b∈fp)(e:h.get? b=some o):(b,o)∈Zi9 fp h:=Zzy.mpr ⟨b,hb,by rw[e]; rfl⟩
theorem Zsc{fp:List Addr}{h:Heap}{p:Addr × Obj}(hp:p∈Zi9 fp h):p.1∈fp/\h.get? p.1=some p.2:=by
 obtain⟨b,hb,e⟩:=Zzy.mp hp;cases q:h.get? b with
 | none=>rw[q]at e; cases e
 | some o=>rw[q]at e;have e':(b,o)=p:=Zzp e;subst e';exact⟨hb,q⟩
theorem Inv.pinned{pins:List (Addr × Obj)}{σ:St}{H:Hp}{s:Shared}{fp:List Addr}(I:Inv X pins σ H s)(hf:∀b∈fp,ZgC X pins H b)(ho:∀b∈fp,∃o,s.heap.get? b=some o/\∀v,o.data≠.cell v):Inv X (pins++Zi9 fp s.heap) σ H s :=
 I.pins_of λp hp=>(ZyZ.mp hp).elim (λz=>I.pin p (ZyY _ z)) λz=>by obtain⟨hb,e⟩:=Zsc z;obtain⟨f0,f1,f2,_⟩:=hf p.1 hb;obtain⟨o,e',d⟩:=ho p.1 hb;rw[e]at e'; cases e';exact⟨e,f0,f1,f2,d⟩
theorem Inv.unpinned{pins pl:List (Addr × Obj)}{σ:St}{H:Hp}{s:Shared}(I:Inv X (pins++pl) σ H s):Inv X pins σ H s:=I.pins_of λp hp=>I.pin p (ZyY _ (Zy9 _ hp))
theorem Zr0{iter:Expr}{body:List Stmt}{wi:TI}{g:TG}{tb:TS}{pos:Pos}(hp:PassesOwn (model X.prog X.w) X.A X.env X.xe)(hc:X.calm=true)(hi:PI X tg iter wi)(hg:PG X tg g)(hb:PSs X body tb)
  (hs:∀x,ZzV iter X.env x=pure x:=by intro _; rfl):PS X (.For tg iter body [] pos) (ZxQ wi g tb):=by
 intro pins s σ H D I h;refine wpAny_For (thn (hi pins s σ H _ I h) λv s1 h1=>thn h1 λitv s2 h2=>?_) hs;obtain⟨it,fp,tn,J,H2,e,I2,T,st2,f2,W,⟨m0,w0⟩,turn⟩:=h2;subst e;have stat:∀{H':Hp},(∀b∈fp,H' b=none)->∀b∈fp,ZgC X pins H' b:=λhn b hb=>⟨hn b hb,(f2 b hb).2⟩;refine codeAny_forLoop_any (λn s'=>∃i σ' H',Inv X pins σ' H' s'/\tn i s'.heap/\(∀b∈fp,H' b=none)/\W i n σ' H') ?_ m0 ⟨0,σ,H2,I2,st2,λb hb=>(f2 b hb).1,w0⟩
 rintro n s3 ⟨i,σ3,H3,I3,st3,fr3,w3⟩
 rcases turn i n σ3 H3 w3 with⟨stop,qn⟩ | ⟨go,N,hN,step⟩
 ·refine ZAJ hp (thn (T.done X rfl rfl rfl hc i pins s3 σ3 H3 X.xe I3 (stat fr3) st3 stop) λr s4 ⟨hr,I4⟩=>?_)
  subst hr;exact ZB3 ⟨σ3,H3,I4,qn⟩
 ·refine ZAJ hp (thn (T.item X rfl rfl rfl hc i pins s3 σ3 H3 X.xe I3 (stat fr3) st3 go) λr s4 ⟨u,hr,h4⟩=>?_)
  subst hr;refine ZAJ hp (thn h4 λ_ s5 ⟨x,H5,I5,r5,y5,st5,fr5⟩=>?_);have I5':=I5.pinned (stat fr5) (T.obj _ _ st5);refine ZAJ hp (thn (hg _ s5 σ3 H5 x u _ I5' r5 (step x H5 y5)) λ_ s6 ⟨σ6,H6,I6,q6⟩=>?_);refine ZAJ hp (thn (hb _ s6 σ6 H6 _ I6 q6) λf s7 q7=>?_);have again:∀{σ7:St} {H7:Hp},Inv X (pins++Zi9 fp s5.heap) σ7 H7 s7->N σ7 H7->∃m,m<n/\∃i σ' H',Inv X pins σ' H' s7/\tn i s7.heap/\(∀b∈fp,H' b=none)/\W i m σ' H':=λ{σ7 H7} I7 n7=>by obtain⟨m',hm,w7⟩:=hN σ7 H7 n7;refine⟨m',hm,i+1,σ7,H7,I7.unpinned,T.keep _ _ _ st5 λb hb o e=>(I7.pin (b,o) (ZyY _ (ZyY _ (ZfF hb e)))).1,λb hb=>?_,w7⟩;obtain⟨o,e,d⟩:=T.obj _ _ st5 b hb;exact(I7.pin (b,o) (ZyY _ (ZyY _ (ZfF hb e)))).2.1
  cases f with
  | next=>obtain⟨σ7,H7,I7,n7⟩:=q7; exact again I7 n7
  | cont=>obtain⟨σ7,H7,I7,n7⟩:=q7; exact again I7 n7
  | brk=>obtain⟨σ7,H7,I7,q7⟩:=q7; exact⟨σ7,H7,I7.unpinned,q7⟩
  | ret v=>obtain⟨x7,σ7,H7,I7,r7,q7⟩:=q7; exact⟨x7,σ7,H7,I7.unpinned,r7,q7⟩
end
end L2
namespace L2
open PySem PySem.Spec PyProof.Rows
abbrev R2:=V->V->Hp->VK->Prop
def OpR(X:Cx)(f:Value->Value->Sem Value)(r:R2):Prop :=
 ∀(pins:List (Addr × Obj)) (s:Shared) (σ:St) (H:Hp) (x y:V) (v u:Value) (Q:VK),Inv X pins σ H s->RelV x v->RelV y u->r x y H Q ->
  wpAny (model X.prog X.w) X.A (f v u) (EP X pins σ Q) X.xe s
def Za4(X:Cx)(f:Value)(r:List V->Hp->VK->Prop):Prop :=
 ∀(pins:List (Addr × Obj)) (s:Shared) (σ:St) (H:Hp) (xs:List V) (us:List Value) (Q:VK),Inv X pins σ H s->Vals xs us->r xs H Q ->
  wpAny (model X.prog X.w) X.A (call f us) (EP X pins σ Q) X.xe s
def tOp(r:R2)(ta tb:TE):TE:=λσ H Q=>ta σ H λx H1=>tb σ H1 λy H2=>r x y H2 Q
def rI(C:Int->Int->Prop)(g:Int->Int->V):R2:=λx y H Q=>∃i j,x=.int i/\y=.int j/\C i j/\Q (g i j) H
def rI0(g:Int->Int->V):R2:=λx y H Q=>∃i j,x=.int i/\y=.int j/\Q (g i j) H
section
variable{X:Cx}{a b c:Expr}{ta tb tc:TE}{pos:Pos}
theorem ZtD(ha:PE X a ta)(hb:PE X b tb){pins:List (Addr × Obj)}{s:Shared}{σ:St}{H:Hp}{R:V->V->Hp->Prop}(I:Inv X pins σ H s)
  (h:ta σ H λx H1=>tb σ H1 λy H2=>R x y H2) {Q:Value->Shared->Prop} {f:Value->Value->Sem Value}
  (hf:∀v u s2 x y H2,Inv X pins σ H2 s2->RelV x v->RelV y u->R x y H2->wpAny (model X.prog X.w) X.A (f v u) Q X.xe s2) :
  wpAny (model X.prog X.w) X.A (eval a X.env) (λv s₁=>wpAny (model X.prog X.w) X.A (eval b X.env) (λu s₂=>wpAny (model X.prog X.w) X.A (f v u) Q X.xe s₂) X.xe s₁) X.xe s:=by
 refine thn (ha pins s σ H _ I h) λv s1 ⟨x,H1,I1,r1,q1⟩=>?_;refine thn (hb pins s1 σ H1 _ I1 q1) λu s2 ⟨y,H2,I2,r2,q2⟩=>?_;exact hf v u s2 x y H2 I2 r1 r2 q2
theorem Znb{op:Operator}{r:R2}(ho:OpR X (ZBi op) r)(ha:PE X a ta)(hb:PE X b tb):PE X (.BinOp a op b pos) (tOp r ta tb):=by intro pins s σ H Q I h;exact wpAny_BinOp (ZtD ha hb I h λv u s2 x y H2 I2 rx ry q=>ho pins s2 σ H2 x y v u Q I2 rx ry q)
theorem opI{f:Value->Value->Sem Value}{C:Int->Int->Prop}{g:Int->Int->Int}
  (rule:∀(i j:Int) (t u:Tok) (s:Shared) (Q:Value->Shared->Prop) (E:Value->Shared->Prop),C i j->Q (.int (g i j) s.toks) { s with toks:=s.toks+1 }->wpAny (model X.prog X.w) X.A (f (.int i t) (.int j u)) Q E s) :
  OpR X f (rI C λi j=>.int (g i j)):=by
 intro pins s σ H x y v u Q I rx ry h;obtain⟨i,j,rfl,rfl,hc,q⟩:=h;obtain⟨t,rfl⟩:=rx;obtain⟨t',rfl⟩:=ry;exact rule i j t t' s _ _ hc ⟨.int (g i j),H,I.tok _,⟨_,rfl⟩,q⟩
theorem ZwI{f:Value->Value->Sem Value}{g:Int->Int->Int}
  (rule:∀(i j:Int) (t u:Tok) (s:Shared) (Q:Value->Shared->Prop) (E:Value->Shared->Prop),Q (.int (g i j) s.toks) { s with toks:=s.toks+1 }->wpAny (model X.prog X.w) X.A (f (.int i t) (.int j u)) Q E s) :
  OpR X f (rI0 λi j=>.int (g i j)):=by
 intro pins s σ H x y v u Q I rx ry h;obtain⟨i,j,rfl,rfl,q⟩:=h;obtain⟨t,rfl⟩:=rx;obtain⟨t',rfl⟩:=ry;exact rule i j t t' s _ _ ⟨.int (g i j),H,I.tok _,⟨_,rfl⟩,q⟩
theorem Ztd{f:Value->Value->Sem Value}{g:Int->Int->Bool}
  (rule:∀(i j:Int) (t u:Tok) (s:Shared) (Q:Value->Shared->Prop) (E:Value->Shared->Prop),Q (.bool (g i j)) s->wpAny (model X.prog X.w) X.A (f (.int i t) (.int j u)) Q E s) :
  OpR X f (rI0 λi j=>.bl (g i j)):=by
 intro pins s σ H x y v u Q I rx ry h;obtain⟨i,j,rfl,rfl,q⟩:=h;obtain⟨t,rfl⟩:=rx;obtain⟨t',rfl⟩:=ry;exact rule i j t t' s _ _ ⟨.bl (g i j),H,I,rfl,q⟩
def ZqW(i j:Int):Prop:=(-(2 ^ 64)<i/\i<2 ^ 64)\/(-(2 ^ 64)<j/\j<2 ^ 64)
theorem ZqW.ok{i j:Int}(h:ZqW i j):IntMulOk i j:=by
 rcases h with⟨h1,h2⟩ | ⟨h1,h2⟩
 ·exact .of_left (intBits_le_64 h1 h2)
 ·exact .of_right (intBits_le_64 h1 h2)
theorem ZvT:OpR X (ZBi .Add) (rI0 λi j=>.int (i+j)):=ZwI λ_ _ _ _ _ _ _ q=>add_int q
theorem Zwf:OpR X (ZBi .Sub) (rI0 λi j=>.int (i-j)):=ZwI λ_ _ _ _ _ _ _ q=>sub_int q
theorem Zv3:OpR X (ZBi .Mult) (rI ZqW λi j=>.int (i*j)):=opI λ_ _ _ _ _ _ _ hc q=>mul_int q hc.ok
theorem ZvL:OpR X (ZBi .Mod) (rI (λ_ j=>0<j) λi j=>.int (i % j)):=opI λi j _ _ _ _ _ hc q=>by have h1:(0:Int)<j:=hc;exact mod_int' (by omega) (by rw[Int.fmod_eq_emod_of_nonneg i (by omega)]; exact q)
end
section
variable{X:Cx}{a b c:Expr}{ta tb tc:TE}{pos:Pos}
theorem Zr8{pins:List (Addr × Obj)}{σ:St}{H:Hp}{s:Shared}{Q:VK}{k k':Bool}(I:Inv X pins σ H s)(q:Q (.bl k) H)(e:k=k'):EP X pins σ Q (.bool k') s:=by subst e;exact⟨.bl k,H,I,rfl,q⟩
theorem Zxa:OpR X (ZzF .Lt) (rI0 λi j=>.bl (decide (i<j))):=Ztd λ_ _ _ _ _ _ _ q=>lt_int q
theorem Zxt:OpR X (ZzF .LtE) (rI0 λi j=>.bl (decide (i<=j))):=Ztd λ_ _ _ _ _ _ _ q=>le_int q
theorem Zxe:OpR X (ZzF .Gt) (rI0 λi j=>.bl (decide (j<i))):=Ztd λ_ _ _ _ _ _ _ q=>gt_int q
theorem Zwh:OpR X (ZzF .Is) (λx y H Q=>y=.non/\Q (.bl (decide (x=.non))) H):=by
 intro pins s σ H x y v u Q I rx ry h;obtain⟨rfl,q⟩:=h;cases ry;refine is_none_gen (Zr8 I q ?_);cases x<;>first
  | (cases rx; rfl)
  | (obtain⟨t,rfl⟩:=rx; rfl)
theorem Zu0:OpR X (ZzF .IsNot) (λx y H Q=>y=.non/\Q (.bl (!decide (x=.non))) H):=by
 intro pins s σ H x y v u Q I rx ry h;obtain⟨rfl,q⟩:=h;cases ry;refine isnot_none_gen (Zr8 I q ?_);cases x<;>first
  | (cases rx; rfl)
  | (obtain⟨t,rfl⟩:=rx; rfl)
theorem Zqi{op:CmpOp}{r:R2}(ho:OpR X (ZzF op) r)(ha:PE X a ta)(hb:PE X b tb)(hm:ZzE op b=false):PE X (.Compare a [op] [b] pos) (tOp r ta tb):=by intro pins s σ H Q I h;exact wpAny_Compare1 (ZtD ha hb I h λv u s2 x y H2 I2 rx ry q=>ho pins s2 σ H2 x y v u Q I2 rx ry q) hm
def Zw6(t:TE):TT:=λσ H Q=>t σ H λx H'=>∃k,x=.bl k/\Q k H'
theorem Zlx{op:CmpOp}{r:R2}(ho:OpR X (ZzF op) r)(ha:PE X a ta)(hb:PE X b tb)(hm:ZzE op b=false):PT X (.Compare a [op] [b] pos) (Zw6 (tOp r ta tb)):=by intro pins s σ H Q I h;refine wpAny_isTrue_Compare1 (thn (ha pins s σ H _ I h) λv s1 ⟨x,H1,I1,r1,q1⟩=>thn (hb pins s1 σ H1 _ I1 q1) λu s2 ⟨y,H2,I2,r2,q2⟩=>thn (ho pins s2 σ H2 x y v u _ I2 r1 r2 q2) λc s3 ⟨z,H3,I3,r3,k,e,q3⟩=>?_) hm;subst e;cases r3;exact ZAv ⟨H3,I3,q3⟩
def Zwj(r r':R2)(ta tb tc:TE):TE:=λσ H Q=>ta σ H λx H1=>tb σ H1 λy H2=>r x y H2 λz H3=>∃k,z=.bl k /\
 (if k=true then tc σ H3 λw' H4=>r' y w' H4 Q else Q (.bl false) H3)
theorem Zo5{op op':CmpOp}{r r':R2}(ho:OpR X (ZzF op) r)(ho':OpR X (ZzF op') r')(ha:PE X a ta)(hb:PE X b tb)(hc:PE X c tc)
  (hm:lastMarks [op,op'] [b,c]=false:=by with_unfolding_all rfl):PE X (.Compare a [op,op'] [b,c] pos) (Zwj r r' ta tb tc):=by
 intro pins s σ H Q I h;refine Compare_chain (thn (ha pins s σ H _ I h) λv s1 ⟨x,H1,I1,r1,q1⟩=>chain_link (thn (hb pins s1 σ H1 _ I1 q1) λu s2 ⟨y,H2,I2,r2,q2⟩=>thn (ho pins s2 σ H2 x y v u _ I2 r1 r2 q2) λd s3 ⟨z,H3,I3,r3,k,e,q3⟩=>?_)) hm;subst e;cases r3;refine ZAv ?_;cases k with
 | false=>exact ite_ff ⟨.bl false,H3,I3,rfl,q3⟩
 | true=>exact ite_tt (chain_last (thn (hc pins s3 σ H3 _ I3 q3) λw' s4 ⟨z',H4,I4,r4,q4⟩=>ho' pins s4 σ H4 y z' u w' Q I4 r2 r4 q4))
theorem Zjk:(sizeLine:Nat)<2 ^ 63:=by rw[ZzP]; decide
theorem vals1{x:V}{us:List Value}(r:Vals [x] us):∃u,us=[u]/\RelV x u:=by
 cases r with
 | cons r1 r2=>cases r2; exact⟨_,rfl,r1⟩
theorem vals2{x y:V}{us:List Value}(r:Vals [x,y] us):∃u w',us=[u,w']/\RelV x u/\RelV y w':=by
 cases r with
 | cons r1 r2 =>
  cases r2 with
  | cons r3 r4=>cases r4; exact⟨_,_,rfl,r1,r3⟩
theorem ZsB(hc:X.calm=true):Za4 X (.builtin "max") (λxs H Q=>∃i j,xs=[.int i,.int j]/\Q (.int (if j > i then j else i)) H):=by
 intro pins s σ H xs us Q I r h;obtain⟨i,j,rfl,q⟩:=h;obtain⟨u,w',rfl,⟨t,rfl⟩,⟨t',rfl⟩⟩:=vals2 r;refine max_two_ints (I.ok.hd hc) λh' tk k=>⟨_,H,I.kept k,?_,q⟩
 by_cases hj:j > i
 ·rw[if_pos hj,if_pos hj]; exact⟨_,rfl⟩
 ·rw[if_neg hj,if_neg hj]; exact⟨_,rfl⟩
theorem ZrP(hc:X.calm=true):Za4 X (.builtin "min") (λxs H Q=>∃i j,xs=[.int i,.int j]/\Q (.int (if j<i then j else i)) H):=by
 intro pins s σ H xs us Q I r h;obtain⟨i,j,rfl,q⟩:=h;obtain⟨u,w',rfl,⟨t,rfl⟩,⟨t',rfl⟩⟩:=vals2 r;refine min_two_ints (I.ok.hd hc) λh' tk k=>⟨_,H,I.kept k,?_,q⟩
 by_cases hj:j<i
 ·rw[if_pos hj,if_pos hj]; exact⟨_,rfl⟩
 ·rw[if_neg hj,if_neg hj]; exact⟨_,rfl⟩
theorem Zml:Za4 X (.type "int") (λxs H Q=>(∃i,xs=[.int i]/\Q (.int i) H)\/∃k,xs=[.bl k]/\Q (.int (if k then 1 else 0)) H):=by
 intro pins s σ H xs us Q I r h;rcases h with⟨i,rfl,q⟩ | ⟨k,rfl,q⟩
 ·obtain⟨u,rfl,t,rfl⟩:=vals1 r
  exact call_int_int ⟨.int i,H,I,⟨_,rfl⟩,q⟩
 ·obtain⟨u,rfl,r1⟩:=vals1 r
  cases r1;exact call_int_bool ⟨.int (if k then 1 else 0),H,I.tok _,⟨_,rfl⟩,q⟩
end
end L2
namespace L2
open PySem PySem.Spec PyProof.Rows
theorem Zfv.some_of{v:V}{o:Option Value}(r:Zfv (some v) o):∃u,o=some u/\RelV v u:=by
 cases o with
 | none=>exact(show False from r).elim
 | some u=>exact⟨u,rfl,r⟩
end L2
namespace L2
open PySem PySem.Spec PyProof.Rows
structure Zas(k:Nat)(A:Around):Prop where
 hd:A.handled=none
 dp:A.depth+3*k+5<recursionLimit
 un:A.units+16*k+200<cLine
theorem Zas.mono{j k:Nat}{A:Around}(r:Zas k A)(h:j<=k):Zas j A:=⟨r.hd,by have:=r.dp; omega,by have:=r.un; omega⟩
theorem Zas.deeper{k:Nat}{A:Around}(r:Zas (k+1) A)(env:Env):Zas k (A.deeper env) :=
 ⟨r.hd,by have:=r.dp; show A.depth+1+3*k+5<_; omega,by have:=r.un; show A.units+3+16*k+200<_; omega⟩
theorem Zas.depth{k:Nat}{A:Around}(r:Zas k A):A.depth<recursionLimit:=by have:=r.dp; omega
theorem Zas.units{k:Nat}{A:Around}(r:Zas k A):A.units+64<cLine:=by have:=r.un; omega
def Zx5:TA:=λ_ H Q=>Q [] H
def Zxo(ta:TE)(tr:TA):TA:=λσ H Q=>ta σ H λx H1=>tr σ H1 λxs H2=>Q (x::xs) H2
section
variable{X:Cx}{e:Expr}{es:List Expr}{te:TE}{t:TA}{pos:Pos}
theorem ZbH:PA X [] Zx5:=λ_ _ _ _ H Q I h=>ZBK ⟨[],H,I,.nil,h⟩
theorem Zai(ha:PE X e te)(hr:PA X es t)(hs:ZyF (e::es) X.env=(false,eval e X.env)::ZyF es X.env:=by rfl):PA X (e::es) (Zxo te t):=by intro pos pins s σ H Q I h;rw[hs];show wpAny _ _ (spliced ((false,eval e X.env)::backTo pos (ZyF es X.env))) _ _ s;refine ZAF (thn (ha pins s σ H _ I h) λu s1 ⟨x,H1,I1,r1,q1⟩=>?_);exact thn (hr pos pins s1 σ H1 _ I1 q1) λus s2 ⟨xs,H2,I2,r2,q2⟩=>⟨x::xs,H2,I2,.cons r1 r2,q2⟩
def Zx6(t:TA):TE:=λσ H Q=>t σ H λxs H1=>xs.length<=sizeLine/\∀p,H1 p=none->Q (.ref p) (upd H1 p (.tup xs))
def Zyb(t:TA):TE:=λσ H Q=>t σ H λxs H1=>xs.length<=sizeLine/\∀p,H1 p=none->Q (.ref p) (upd H1 p (.lst xs))
theorem ZvF{x1}(h:PA X es t):PE X (.Tuple es x1 pos) (Zx6 t):=by intro pins s σ H Q I hq;refine wpAny_Tuple_spliced (thn (h pos pins s σ H _ I hq) λus s1 ⟨xs,H1,I1,r,z,q⟩=>⟨by rw[<-r.length]; exact z,?_⟩);have hf:H1 s1.heap.objs.size=none:=I1.hok.fresh (ZyB _);refine⟨.ref s1.heap.objs.size,upd H1 s1.heap.objs.size (.tup xs),I1.laid (t':=s1.toks) (λb u e=>Zyy _ e) (ZyB _) ?_,rfl,q _ hf⟩;exact⟨z,us,r,⟨_,ZyO _ rfl,rfl,_,rfl⟩⟩
theorem ZvY(h:PA X es t):PE X (.List es pos) (Zyb t):=by intro pins s σ H Q I hq;refine wpAny_List_spliced (thn (h pos pins s σ H _ I hq) λus s1 ⟨xs,H1,I1,r,z,q⟩=>⟨by rw[<-r.length]; exact z,?_⟩);have hf:H1 s1.heap.objs.size=none:=I1.hok.fresh (ZyB _);refine⟨.ref s1.heap.objs.size,upd H1 s1.heap.objs.size (.lst xs),I1.laid (t':=s1.toks) (λb u e=>Zyy _ e) (ZyB _) ?_,rfl,q _ hf⟩;exact⟨z,us,0,r,ZyO _ rfl⟩
end
abbrev Sp:=List V->Hp->VK->XK->Prop
abbrev CXT:=List Env->Hp->Shared->XK->Value->Shared->Prop
structure ZeR(P:Program)(w:World)(K:Zys)(mg:Str->Option Value)(base:Heap)(A:Around)(outer:List Env)(s:Shared)(H:Hp):Prop where
 frames:A.frames=some outer
 mod:Mod K mg base
 bs:∀b o,base.get? b=some o->s.heap.get? b=some o/\H b=none
 bsz:base.objs.size<=s.heap.objs.size
 funs:s.heap.FunFrames base outer
 frf:∀b∈frs outer,H b=none
 hok:HOk P w H s.heap
 bare:AllBare s.gens
def CE(outer:List Env)(P:Program)(w:World)(H:Hp)(s:Shared)(Q:VK)(u:Value)(s':Shared):Prop :=
 ∃v H',s'.os=s.os/\AllBare s'.gens/\Un (frs outer) [] H H' s.heap s'.heap/\HOk P w H' s'.heap/\RelV v u/\Q v H'
def CR(CX:CXT)(outer:List Env)(P:Program)(w:World)(H:Hp)(s:Shared)(Q:VK)(E:XK)(r:Result)(s':Shared):Prop :=
 match r with
 | .ok (.ret u)=>CE outer P w H s Q u s'
 | .ok _=>False
 | .error e=>CX outer H s E e s'
structure Zdt(P:Program)(w:World)(K:Zys)(mg:Str->Option Value)(base:Heap)(CX:CXT)(k:Nat)(f:Addr)(fd:FuncData)(ps:List Str)(sp:Sp):Prop where
 len:∀vs H Q E,sp vs H Q E->vs.length=ps.length
 run:∀(A:Around) (outer:List Env) (s:Shared) (H:Hp) (args:Args) (us:List Value) (vs:List V) (Q:VK) (E:XK),Zas k A->ZeR P w K mg base A outer s H->BindsTo s fd args (ps.zip us)->Vals vs us->sp vs H Q E ->
  codeAny (model P w) A (.call (.ref f) args) (CR CX outer P w H s Q E) s
theorem Zdt.mono{P:Program}{w:World}{K:Zys}{mg:Str->Option Value}{base:Heap}{CX:CXT}{j k:Nat}{f:Addr}{fd:FuncData}{ps:List Str}{sp:Sp}(F:Zdt P w K mg base CX j f fd ps sp)(h:j<=k) :
  Zdt P w K mg base CX k f fd ps sp:=⟨F.len,λA outer s H args us vs Q E hr=>F.run A outer s H args us vs Q E (hr.mono h)⟩
section
variable{X:Cx}{pins:List (Addr × Obj)}{σ:St}{H:Hp}{s s':Shared}
theorem Inv.env0(I:Inv X pins σ H s):ZeR X.prog X.w X.K X.mg X.base X.A X.stack s H :=
 ⟨I.ok.frames,I.ok.mod,I.bs,Zzg I.ok.bsz I.sz,I.stack,I.stkFree,I.hok,I.bare⟩
theorem Inv.after{Q:VK}{u:Value}(I:Inv X pins σ H s)(h:CE X.stack X.prog X.w H s Q u s'):EP X pins σ Q u s':=by obtain⟨v,H',os,bare,un,hok,r,q⟩:=h;obtain⟨hh,g,d,t,os'⟩:=s';obtain rfl:os'=s.os:=os;exact⟨v,H',I.call (h':=hh) (g':=g) (d':=d) (t':=t) (ch:=[]) un hok bare (λb z=>absurd z (by simp)),r,q⟩
end
def Zxp(sp:Sp)(dvs:List V)(E:XK)(t:TA):TE:=λσ H Q=>t σ H λvs H1=>sp (vs++dvs) H1 Q E
def Binds(K:Zys)(fd:FuncData)(ps:List Str)(ds:List Value):Prop :=
 ∀(s:Shared) (us:List Value),K.In s.heap->(us++ds).length=ps.length->BindsTo s fd ⟨us,[]⟩ (ps.zip (us++ds))
theorem Binds.all{K:Zys}{fd:FuncData}{ps:List Str}(h:∀us:List Value,us.length=ps.length->bindArgs fd ⟨us,[]⟩=pure (ps.zip us)):Binds K fd ps []:=λs us _ hl=>by rw[Zy7]at hl ⊢;exact .of_eq (h us hl)
def Passes(CX:CXT)(X:Cx)(E:XK):Prop:=∀(pins:List (Addr × Obj)) (σ:St) (H:Hp) (s:Shared) (e:Value) (s':Shared),Inv X pins σ H s->CX X.stack H s E e s'->X.xe e s'
section
variable{X:Cx}{CX:CXT}{k:Nat}{f C:Addr}{fd:FuncData}{ps:List Str}{sp:Sp}{dvs:List V}{ds:List Value}{E:XK}{x m:Str}{p pos apos:Pos}{e o:Expr}{es:List Expr}{ta:TE}{t:TA}
theorem Zv2{pins:List (Addr × Obj)}{σ:St}{H:Hp}{s:Shared}{Q:VK}{us:List Value}{vs:List V}(F:Zdt X.prog X.w X.K X.mg X.base CX k f fd ps sp)(hr:Zas k X.A)(hb:Binds X.K fd ps ds)(hd:Vals dvs ds)(hx:Passes CX X E)
  (I:Inv X pins σ H s) (r:Vals vs us) (h:sp (vs++dvs) H Q E):wpAny (model X.prog X.w) X.A (call (.ref f) us) (EP X pins σ Q) X.xe s:=by
 have r2:Vals (vs++dvs) (us++ds):=r.append hd;have hl:(us++ds).length=ps.length:=by rw[<-r2.length]; exact F.len _ _ _ _ h
 refine wpAny_call (ZAG (F.run X.A X.stack s H ⟨us,[]⟩ (us++ds) (vs++dvs) Q E hr I.env0 (hb s us I.kIn hl) r2 h) λr s' hq=>?_);cases r with
 | error e=>exact hx pins σ H s e s' I hq
 | ok fl =>
  cases fl with
  | ret u=>exact I.after hq
  | next=>exact Zzw hq
  | brk=>exact Zzw hq
  | cont=>exact Zzw hq
theorem ZjA(F:Zdt X.prog X.w X.K X.mg X.base CX k f fd ps sp)(hr:Zas k X.A)(hg:Gl X x)(hm:X.mg x=some (.ref f))(hk:ZzQ X.K (.ref f)=true)(hb:Binds X.K fd ps ds)(hd:Vals dvs ds)(hx:Passes CX X E)
  (ha:PA X (e::es) t) (hdb:(x==("__debug__":Str))=false:=by decide) (he:ZyF (e::es) X.env=(false,eval e X.env)::ZyF es X.env:=by rfl) (hpl:(backTo pos (ZyF es X.env)).any (·.1)=false:=by rfl) :
  PE X (.Call (.Name x p) (e::es) [] pos) (Zxp sp dvs E t):=by
 intro pins s σ H Q I h;refine ZAH (ZlT I hg hm ?_ hdb);refine ZDu (h₀:=X.base) I.ok.mod.kin hk (thn (ha pos pins s σ H _ I h) λus s1 ⟨vs,H1,I1,r,q⟩=>⟨I1.kIn,?_⟩) he hpl;exact Zv2 F hr hb hd hx I1 r q
end
structure Zw(N P:List Str)(sc:Scope):Prop where
 kind:sc.kind=.function
 co:sc.isCoroutine=false
 gen:sc.isGenerator=false
 nd:N.Nodup
 pre:N.take P.length=P
 par:∀x∈P,sc.names.lookup x=some .local\/sc.names.lookup x=some .cell
 nofree:∀y∈sc.names,y.2≠.free
theorem Zms{kindOf:Str->Option NameKind}{x:Str}:∀{binds:List (Str × Value)} {m:Str->Option Value},(∀v,(x,v) ∉ binds)->bindL kindOf binds m x=m x
 | [],_,_=>rfl
 | (n,v)::r,m,h=>by
  unfold bindL;rw[Zms λw hw=>h w (Zyx _ hw)];split
  ·have:x≠n:=by rintro rfl; exact h v Zyw
   simp[this]
  ·rfl
theorem Zmq{kindOf:Str->Option NameKind}{x:Str}:∀{binds:List (Str × Value)} {m:Str->Option Value},(∀v,(x,v) ∉ binds)->bindC kindOf binds m x=m x
 | [],_,_=>rfl
 | (n,v)::r,m,h=>by
  unfold bindC;rw[Zmq λw hw=>h w (Zyx _ hw)];split
  ·rfl
  ·have:x≠n:=by rintro rfl; exact h v Zyw
   simp[this]
theorem Zl7{kindOf:Str->Option NameKind}{x:Str}{v:Value}:∀{P:List Str} {vs:List Value} {i:Nat} {m:Str->Option Value},P.Nodup->P[i]?=some x->vs[i]?=some v->kindOf x=some .local ->
  bindL kindOf (P.zip vs) m x=some v
 | [],_,_,_,_,h,_,_=>by simp at h
 | _::_,[],_,_,_,_,h,_=>by simp at h
 | p::P,w::vs,0,m,nd,h1,h2,hk=>by simp at h1 h2; subst h1; subst h2;show bindL kindOf ((p,w)::P.zip vs) m p=_;unfold bindL;rw[Zms λv hv=>(Zzq.mp nd).1 (ZCZ hv).1,if_pos hk];simp
 | p::P,w::vs,i+1,m,nd,h1,h2,hk=>by show bindL kindOf ((p,w)::P.zip vs) m x=_;unfold bindL;exact Zl7 (i:=i) (Zzq.mp nd).2 (by simpa using h1) (by simpa using h2) hk
theorem Zmo{kindOf:Str->Option NameKind}{x:Str}{v:Value}:∀{P:List Str} {vs:List Value} {i:Nat} {m:Str->Option Value},P.Nodup->P[i]?=some x->vs[i]?=some v->kindOf x≠some .local ->
  bindC kindOf (P.zip vs) m x=some v
 | [],_,_,_,_,h,_,_=>by simp at h
 | _::_,[],_,_,_,_,h,_=>by simp at h
 | p::P,w::vs,0,m,nd,h1,h2,hk=>by simp at h1 h2; subst h1; subst h2;show bindC kindOf ((p,w)::P.zip vs) m p=_;unfold bindC;rw[Zmq λv hv=>(Zzq.mp nd).1 (ZCZ hv).1,if_neg hk];simp
 | p::P,w::vs,i+1,m,nd,h1,h2,hk=>by show bindC kindOf ((p,w)::P.zip vs) m x=_;unfold bindC;exact Zmo (i:=i) (Zzq.mp nd).2 (by simpa using h1) (by simpa using h2) hk
def start(N:List Str)(vs:List V):St:=vs.map some++Zy1 (N.length-vs.length) none
def ZgA(CX:CXT)(P:Program)(w:World)(K:Zys)(mg:Str->Option Value)(base:Heap)(N:List Str)(qual:Str)(scope:Scope)(f:Addr)(cd:Value)(A:Around)(outer:List Env)(s:Shared)(H:Hp)(E:XK):Cx where
 prog:=P
 w:=w
 K:=K
 mg:=mg
 base:=base
 A:=A.deeper (envOfC qual scope s.heap.objs.size f cd)
 N:=N
 s₀:=s
 H₀:=H
 env:=envOfC qual scope s.heap.objs.size f cd
 outer:=outer
 stack:=envOfC qual scope s.heap.objs.size f cd::outer
 ex:=[]
 calm:=true
 fn:=λ_=>true
 pn:=[]
 xe:=λe s'=>wpAny (model P w) (A.deeper (envOfC qual scope s.heap.objs.size f cd)) (leaving (envOfC qual scope s.heap.objs.size f cd) e) (λ_ s''=>CX outer H s E e s'') (λe' s''=>CX outer H s E e' s'') s'
theorem Zoc{sc:Scope}{n:Nat}{x:Str}(h:sc.names.lookup x=some .cell):∃c,(cellsFrom n sc.names []).lookup x=some c:=by have q:=ZC6 sc.names n [] (.inl h);exact Zy4.mp q
theorem ZsX{CX:CXT}{P:Program}{w:World}{K:Zys}{mg:Str->Option Value}{base:Heap}{N ps:List Str}{qual:Str}{scope:Scope}{f:Addr}{cd:Value}{A:Around}{outer:List Env}{s s1:Shared}{H:Hp}{E:XK}{us:List Value}{vs:List V}
  (S:Zw N ps scope) (hd:A.handled=none) (e0:ZeR P w K mg base A outer s H) (hl:vs.length=ps.length) (r:Vals vs us)
  (x:InCallC s s.heap.objs.size (bindL (envOfC qual scope s.heap.objs.size f cd).kindOf (ps.zip us) λ_=>none) (cellsFrom (s.heap.objs.size+1) scope.names []) (bindC (envOfC qual scope s.heap.objs.size f cd).kindOf (ps.zip us) λ_=>none) s1) :
  Inv (ZgA CX P w K mg base N qual scope f cd A outer s H E) [] (start N vs) H s1:=by
 have hpl:ps.length<=N.length:=by have:=congrArg Zzf S.pre; rw[ZzO]at this; omega
 obtain⟨h1,tk,rfl,hk⟩:=x.done;have noA:∀b:Addr,b ∉ (ZgA CX P w K mg base N qual scope f cd A outer s H E).ex:=λb z=>absurd (show b∈([]:List Addr) from z) (by simp);refine⟨⟨e0.mod,S.kind,rfl,rfl,ZyB _,λy z c h1 h2=>?_,λy hy=>?_,λy c _ h=>?_,λ_=>hd,ZDl e0.frames,.inr ⟨rfl,rfl⟩,λb z=>absurd z (noA b),e0.bs,e0.bsz,λb _ _=>noA b,λb z=>absurd z (noA b),e0.funs,e0.frf⟩,
  rfl,e0.bare,Un.kept hk,⟨_,x.toInCall.ns,λi y v h1 h2 h3=>?_⟩,λy c h=>⟨_,x.cell y c h⟩,e0.hok.fresh (ZyB _),λy c h=>?_,λp hp=>absurd (show p∈([]:List (Addr × Obj)) from hp) (by simp),e0.hok.kept hk,?_⟩
 ·exact name_of_addr x.apart (ZzY h1) (ZzY h2)
 ·have hy:scope.names.lookup y=some .cell\/scope.names.lookup y=some .free:=hy
  rcases hy with hy | hy
  ·exact Zoc hy
  ·exact absurd rfl (S.nofree _ (ZzY hy))
 ·exact ZAp (x.above y c (ZzY h))
 ·have hi:i<vs.length:=by
   unfold start at h2
   by_cases hi:i<vs.length
   ·exact hi
   ·rw[Zze (by simpa using hi)]at h2
    rw[ZA3]at h2;split at h2<;>cases h2
  have ha:vs[i]?=some v:=by
   unfold start at h2;rw[Zy3 (by simpa using hi),ZyU]at h2;cases e:vs[i]? with
   | none=>rw[e]at h2; cases h2
   | some a=>rw[e]at h2; cases h2; rfl
  obtain⟨u,hu,rv⟩:=r.get ha;have hp:ps[i]?=some y:=by rw[<-S.pre,ZCO (by omega)]; exact h1
  have ndP:ps.Nodup:=by rw[<-S.pre]; exact S.nd.sublist (List.take_sublist _ _)
  refine⟨u,rv,?_⟩;rcases S.par y (ZyW hp)with k | k
  ·exact .inl ⟨k,Zl7 ndP hp hu k⟩
  ·obtain⟨c,e⟩:=Zoc (n:=s.heap.objs.size+1) k
   refine .inr ⟨.inl k,c,e,?_⟩;have q:=x.cell y c e;rw[Zmo ndP hp hu (by show scope.names.lookup y≠_; rw[k]; decide)]at q;exact q
 ·exact e0.hok.fresh (ZAp (x.above y c (ZzY h)))
 ·unfold start
  show _=N.length;rw[ZyM,Zyt,Zzh];omega
theorem Zus{CX:CXT}{P:Program}{w:World}{K:Zys}{mg:Str->Option Value}{base:Heap}{k:Nat}{f:Addr}{name qual:Str}{params:Arguments}{body:List Stmt}{scope:Scope}{dV kV doc pm cdv ct oc:Value}{an od:Option Addr}
  {osl:Array (Option Value)} {N ps:List Str} {sp:Sp} (lk:K.lookup f=some ⟨oc,od,.func (ZzM name qual params body scope dV kV doc pm an cdv ct),osl⟩) (hcd:ZAA K cdv qual=true) (S:Zw N ps scope)
  (len:∀vs H Q E,sp vs H Q E->vs.length=ps.length)
  (hbody:∀(A:Around) (outer:List Env) (s:Shared) (H:Hp) (vs:List V) (Q:VK) (E:XK),Zas k (A.deeper (envOfC qual scope s.heap.objs.size f cdv))->sp vs H Q E ->
   ∃t,PSs (ZgA CX P w K mg base N qual scope f cdv A outer s H E) body t/\t { nx:=λ_ H'=>Q .non H',rt:=Q } (start N vs) H) :
  Zdt P w K mg base CX (k+1) f (ZzM name qual params body scope dV kV doc pm an cdv ct) ps sp:=by
 refine⟨len,λA outer s H args us vs Q E hr e0 hb r hsp=>?_⟩;have hl:=len _ _ _ _ hsp;have KX:K.In s.heap:=e0.mod.kin.keeps λb o e=>(e0.bs b o e).1;have lim:s.heap.NoLimit:=e0.mod.nolimit.keeps λb o e=>(e0.bs b o e).1;have hkind:∀y∈ps.zip us,scope.names.lookup y.1=some .local\/(scope.names.lookup y.1=some .cell/\((cellsFrom (s.heap.objs.size+1) scope.names []).lookup y.1).isSome=true):=λ⟨n,v⟩ hy=>by
  rcases S.par n (ZCZ hy).1 with q | q
  ·exact .inl q
  ·exact .inr ⟨q,ZC6 _ _ _ (.inl q)⟩
 refine codeAny_call_function hr.depth (KX _ _ lk) rfl S.co S.gen rfl (PySem.W.codeRec_of KX hcd) (hb _ _ _ _ ?_);refine wpAny_newFunctionEnv_cells S.kind hkind λenv he s1 x=>?_;subst he;refine⟨lim.keeps x.toInCall.keep,codeAny_func ?_⟩;obtain⟨t,ht,hq⟩:=hbody A outer s H vs Q E (hr.deeper _) hsp;have I:Inv (ZgA CX P w K mg base N qual scope f cdv A outer s H E) [] (start N vs) H s1:=ZsX S hr.hd e0 hl r x;refine ZzJ (ht [] s1 (start N vs) H _ I hq) (λfl s' hs=>?_) λe s' hs=>hs;have fin:∀{σ':St} {H':Hp} {v:V} {u:Value},Inv (ZgA CX P w K mg base N qual scope f cdv A outer s H E) [] σ' H' s'->RelV v u->Q v H'->CE outer P w H s Q u s' :=
  λ{σ' H' v u} J rv q=>⟨v,H',J.os,J.bare,J.base,J.hok,rv,q⟩
 cases fl with
 | ret u=>obtain⟨v,σ',H',J,rv,q⟩:=hs;exact fin J rv q
 | next=>obtain⟨σ',H',J,q⟩:=hs;exact fin (v:=V.non) (u:=Zzv) J rfl q
 | brk=>obtain⟨_,_,_,q⟩:=hs;exact Zzw q
 | cont=>obtain⟨_,_,_,q⟩:=hs;exact Zzw q
end L2
namespace L2
open PySem PySem.Spec PyProof.Rows
section
variable{X:Cx}{x:Str}{p pos:Pos}{e:Expr}{es:List Expr}{t:TA}{id T:String}{r:List V->Hp->VK->Prop}
def tCB(r:List V->Hp->VK->Prop)(t:TA):TE:=λσ H Q=>t σ H λvs H1=>r vs H1 Q
theorem Zdp(hc:Za4 X (.builtin id) r)(hg:Gl X x)(hm:X.mg x=none)(hv:Zzt x=some (.builtin id))(ha:PA X (e::es) t)(hn:x ≠ "__name__":=by decide)(hdb:(x==("__debug__":Str))=false:=by decide)
  (he:ZyF (e::es) X.env=(false,eval e X.env)::ZyF es X.env:=by rfl) (hpl:(backTo pos (ZyF es X.env)).any (·.1)=false:=by rfl):PE X (.Call (.Name x p) (e::es) [] pos) (tCB r t):=by
 intro pins s σ H Q I h;refine ZAH (Zht I hg hm hv ?_ hn hdb);exact PyProof.Rows.callWith_builtin1 (thn (ha pos pins s σ H _ I h) λus s1 ⟨vs,H1,I1,r1,q1⟩=>hc pins s1 σ H1 vs us Q I1 r1 q1) he hpl
theorem Zdv(hc:Za4 X (.type T) r)(hg:Gl X x)(hm:X.mg x=none)(hv:Zzt x=some (.type T))(ha:PA X (e::es) t)(hn:x ≠ "__name__":=by decide)(hdb:(x==("__debug__":Str))=false:=by decide)
  (he:ZyF (e::es) X.env=(false,eval e X.env)::ZyF es X.env:=by rfl) (hpl:(backTo pos (ZyF es X.env)).any (·.1)=false:=by rfl):PE X (.Call (.Name x p) (e::es) [] pos) (tCB r t):=by
 intro pins s σ H Q I h;refine ZAH (Zht I hg hm hv ?_ hn hdb);exact ZBh (thn (ha pos pins s σ H _ I h) λus s1 ⟨vs,H1,I1,r1,q1⟩=>hc pins s1 σ H1 vs us Q I1 r1 q1) he hpl
end
end L2
namespace HT
set_option maxHeartbeats 8000000
open PySem PyProof.Rows
section
open PySem.SeqAt
open PySem.AutoSeq1 (wpAny_loadPart')
open PySem.MeetsSeq PySem.MeetsSeq2 PySem.MeetsSeq3
end
section
variable{prog:Program}{w:World}{A:Around}{E:Value->Shared->Prop}{s:Shared}
theorem ZuG{t b:Addr}{vs ws:List Value}{Q:Value->Shared->Prop}(ht:IsTup s.heap t vs.toArray)(hb:IsTup s.heap b ws.toArray)(hv:vs≠[])
  (h1:ws=[]->Q (.ref t) s) (h2:ws≠[]->Q (.ref s.heap.objs.size) { s with heap:=s.heap.push { cls:=.type "tuple",data:=.seq (vs++ws).toArray } })
  (hsz:vs.length+ws.length<=sizeLine):wpAny (model prog w) A (ZBi .Add (.ref t) (.ref b)) Q E s:=by
 obtain⟨⟨cls,dd,data,sl⟩,ho,hc,n,hd⟩:=id ht;obtain⟨⟨cls2,dd2,data2,sl2⟩,ho2,hc2,n2,hd2⟩:=id hb;simp only at hc hd hc2 hd2;subst hc hd hc2 hd2;have e:vs.toArray++ws.toArray=(vs++ws).toArray:=by simp
 by_cases hw:ws=[]
 ·exact concat_meets ⟨_,ho,rfl⟩ ⟨_,ho2,rfl⟩ noFill_tuple_add seq_tuple_add ZC7 ZCV (ZCP _ _)
   (tuple_addW1 t b vs.toArray ws.toArray n n2 dd dd2 sl sl2 (by simpa using hv) (by simp[hw])) ⟨ho,ho2,h1 hw⟩
 ·refine concat_meets ⟨_,ho,rfl⟩ ⟨_,ho2,rfl⟩ noFill_tuple_add seq_tuple_add ZC7 ZCV (ZCP _ _)
   (tuple_addW2 t b vs.toArray ws.toArray n n2 dd dd2 sl sl2 (by simpa using hv) (by simpa using hw) (by rw[ZyJ,ZyJ]; exact hsz)) ⟨ho,ho2,?_⟩
  rw[e];exact h2 hw
def sIx(n d:Nat):Option Int->Nat
 | none=>d
 | some v=>if v<0 then(v+(n:Int)).toNat else min v.toNat n
theorem ZwN(n d:Nat)(hd:d<=n)(o:Option Int):sIx n d o<=n:=by
 cases o with
 | none=>exact hd
 | some v =>
  show(if v<0 then(v+(n:Int)).toNat else min v.toNat n)<=n
  by_cases hv:v<0
  ·rw[if_pos hv]; omega
  ·rw[if_neg hv]; exact Nat.min_le_right _ _
theorem Zp9(v:Int)(n d:Nat):(if v<0 then max (v+(n:Int)) 0 else min v (n:Int))=((sIx n d (some v):Nat):Int):=by
 show(if v<0 then max (v+(n:Int)) 0 else min v (n:Int))=(((if v<0 then(v+(n:Int)).toNat else min v.toNat n):Nat):Int)
 by_cases hv:v<0
 ·simp only[if_pos hv]; omega
 ·simp only[if_neg hv]; omega
theorem ZqT(lo hi:Option Int)(n:Nat):ZBr lo hi 1 (n:Int)=(((sIx n 0 lo:Nat):Int),((sIx n n hi:Nat):Int)):=by
 have h1:¬((1:Int)<0):=by omega
 unfold ZBr;simp only[h1,if_false];refine Prod.ext ?_ ?_
 ·cases lo with
  | none=>rfl
  | some v=>exact Zp9 v n 0
 ·cases hi with
  | none=>rfl
  | some v=>exact Zp9 v n n
theorem Zq0(i j:Nat):ZAR (i:Int) (j:Int) 1=j-i:=by
 unfold ZAR;have h1:(1:Int) > 0:=by omega
 simp only[h1,if_true,Int.ediv_one];split<;>omega
theorem Zk9{v:Value}{o:Option Int}{Q:Option Int->Shared->Prop}(p:IsPart v o)(h:Q o s):wpAny (model prog w) A (Builtin.Slice.slicePartIndex v) Q E s:=by
 cases p with
 | none=>exact slicePart_none h
 | int i t=>exact slicePart_int h
theorem Zks{sl:Addr}{vl vu:Value}{lo hi:Option Int}{n:Nat}{Q:Int × Int × Nat->Shared->Prop}(hs:s.heap.IsSliceOf sl vl vu .none)(pl:IsPart vl lo)(pu:IsPart vu hi)
  (h:Q (((sIx n 0 lo:Nat):Int),1,sIx n n hi-sIx n 0 lo) s):wpAny (model prog w) A (ZCt (.ref sl) (pure (n:Int))) Q E s:=by
 obtain⟨os,hos,hcs,hds⟩:=id hs;unfold ZCt Builtin.Slice.sliceFields;refine Zyr (Zyr (wpAny_field hos hds (x:=vl) rfl (Zyr (wpAny_field hos hds (x:=vu) rfl (Zyr (wpAny_field hos hds (x:=.none) rfl (Zyv ?_)))))));refine Zyr (slicePart_none ?_);show wpAny _ _ (if((1:Int)==0)=true then _ else _) _ _ s;rw[if_neg (by decide)];refine Zyr (Zk9 pl (Zyr (Zk9 pu (Zyr (Zyv ?_)))));show wpAny _ _ (match ZBr lo hi 1 (n:Int)with | (lo,hi)=>pure (lo,(1:Int),ZAR lo hi 1)) _ _ s;rw[ZqT lo hi n];show wpAny _ _ (pure (((sIx n 0 lo:Nat):Int),(1:Int),ZAR ((sIx n 0 lo:Nat):Int) ((sIx n n hi:Nat):Int) 1)) _ _ s;rw[Zq0];exact Zyv h
theorem Zto(xs:Array Value)(i k:Nat):((ZyA k).filterMap λ(m:Nat)=>xs[((i:Int)+(m:Int)*1).toNat]?).toArray=((xs.toList.drop i).take k).toArray:=by
 have e:(λ(m:Nat)=>xs[((i:Int)+(m:Int)*1).toNat]?)=λm=>xs[i+m]?:=by
  funext m
  have:((i:Int)+(m:Int)*1).toNat=i+m:=by omega
  rw[this]
 rw[e];have:=pick_run xs i k;rw[List.filterMap_map]at this;have e2:((λx=>xs[x]?)∘λx=>i+x)=λm=>xs[i+m]?:=rfl;rw[e2]at this;rw[this]
theorem ZjP{t sl:Addr}{items:Array Value}{vl vu:Value}{lo hi:Option Int}{Q:Value->Shared->Prop}(ht:IsTup s.heap t items)(hs:s.heap.IsSliceOf sl vl vu .none)(pl:IsPart vl lo)(pu:IsPart vu hi)
  (hw:¬(sIx items.size 0 lo=0/\sIx items.size items.size hi=items.size))
  (h:Q (.ref s.heap.objs.size) { s with heap:=s.heap.push { cls:=.type "tuple",data:=.seq ((items.toList.drop (sIx items.size 0 lo)).take (sIx items.size items.size hi-sIx items.size 0 lo)).toArray } })
  (hsz:items.size<=sizeLine):wpAny (model prog w) A (getItem (.ref t) (.ref sl)) Q E s:=by
 have htake:sizeOk (.seq ((items.toList.drop (sIx items.size 0 lo)).take (sIx items.size items.size hi-sIx items.size 0 lo)).toArray):=by show((items.toList.drop (sIx items.size 0 lo)).take (sIx items.size items.size hi-sIx items.size 0 lo)).toArray.size<=sizeLine;rw[ZyJ,ZzO,ZAT,ZyT];omega
 have hj:sIx items.size items.size hi<=items.size:=ZwN _ _ (ZyB _) hi;obtain⟨os,hos,hcs,hds⟩:=id hs;have hTs:s.TypeIs (.ref sl) "slice":=⟨os,hos,hcs⟩;unfold getItem
 try with_reducible refine Zzz ?_
 first | refine Zyr (Zyv ?_) | skip
 refine Zyr (wpAny_sequenceKey ht.typeIs (by decide) ?_);refine Zyr (wpAny_callSpecial?_slot (name:=ZAI "__getitem__") ht.typeIs ZA1
  (ZzH ZA1 ht.typeIs entry_tuple_getitem ?_ (args_tuple_getitem _ _)))
 show wpAny _ _ (Builtin.Tuple.tupleItemsOf (.ref t) >>= _) _ _ s;refine Zyr (tupleItemsOf_ ht ?_);refine Zyr (wpAny_typeOf hTs ?_);rw[if_pos (by decide)];refine Zyr (Zks hs pl pu ?_);have hno:¬((((sIx items.size 0 lo:Nat):Int)==0&&(1:Int)==1&&(sIx items.size items.size hi-sIx items.size 0 lo)==items.size)=true):=by intro q;rw[ZyN,ZyN]at q;have q1:((sIx items.size 0 lo:Nat):Int)=0:=eq_of_beq q.1.1;have q2:sIx items.size items.size hi-sIx items.size 0 lo=items.size:=eq_of_beq q.2;exact hw ⟨by omega,by omega⟩
 show wpAny _ _ (if(((sIx items.size 0 lo:Nat):Int)==0&&(1:Int)==1&&(sIx items.size items.size hi-sIx items.size 0 lo)==items.size)=true then _ else _) _ _ s;rw[if_neg hno,Zto]
 first
  | exact Zyr (m:=Zz4 _) (Zzb (Zyv ⟨_,rfl,Zyv h⟩) htake)
  | exact Zyr (m:=Zz4 _) (Zzb (Zyr (Zyv (Zyv ⟨_,rfl,Zyv h⟩))) htake)
  | exact Zyr (Zyr (m:=Zz4 _) (Zzb (Zyv (Zyv ⟨_,rfl,Zyv h⟩)) htake))
  | exact Zyr (Zyr (m:=Zz4 _) (Zzb (Zyv ⟨_,rfl,Zyv h⟩) htake))
end
end HT
namespace L2
open PySem PySem.Spec PyProof.Rows
abbrev TO:=St->Hp->(Option Int->Hp->Prop)->Prop
def PO(X:Cx)(e:Option Expr)(t:TO):Prop :=
 ∀(pins:List (Addr × Obj)) (s:Shared) (σ:St) (H:Hp) (Q:Option Int->Hp->Prop),Inv X pins σ H s->t σ H Q ->
  wpAny (model X.prog X.w) X.A (evalPart e X.env) (λu s'=>∃o H',Inv X pins σ H' s'/\IsPart u o/\Q o H') X.xe s
def Zve:TO:=λ_ H Q=>Q none H
def Zw7(t:TE):TO:=λσ H Q=>t σ H λx H1=>∃i,x=.int i/\Q (some i) H1
section
variable{X:Cx}{e:Expr}{te:TE}{lo hi:Option Expr}{tl th:TO}{pos p2:Pos}
theorem Zvo:PO X none Zve:=by intro pins s σ H Q I h;rw[evalPart_none];exact Zyv ⟨none,H,I,.none,h⟩
theorem Zu2(h:PE X e te):PO X (some e) (Zw7 te):=by intro pins s σ H Q I hw;rw[evalPart_some];refine thn (h pins s σ H _ I hw) λu s1 ⟨x,H1,I1,r1,q1⟩=>?_;obtain⟨i,rfl,q⟩:=q1;obtain⟨t,rfl⟩:=r1;exact⟨some i,H1,I1,.int i t,q⟩
def SlR(X:Cx)(r:V->Option Int->Option Int->Hp->VK->Prop):Prop :=
 ∀(pins:List (Addr × Obj)) (s:Shared) (σ:St) (H:Hp) (x:V) (v vl vu:Value) (lo hi:Option Int) (sl:Addr) (Q:VK),Inv X pins σ H s->RelV x v->s.heap.IsSliceOf sl vl vu .none->IsPart vl lo->IsPart vu hi->r x lo hi H Q ->
  ∃T id,typeLookup (.type T) "__getitem__" = pure (some (.builtin id))/\s.TypeIs v T/\wpAny (model X.prog X.w) X.A (getItem v (.ref sl)) (EP X pins σ Q) X.xe s
def tSl(r:V->Option Int->Option Int->Hp->VK->Prop)(te:TE)(tl th:TO):TE:=λσ H Q=>te σ H λx H1=>tl σ H1 λl H2=>th σ H2 λu H3=>r x l u H3 Q
theorem Zo8{r:V->Option Int->Option Int->Hp->VK->Prop}(hr:SlR X r)(he:PE X e te)(hl:PO X lo tl)(hu:PO X hi th):PE X (.Subscript e (.Slice lo hi none p2) pos) (tSl r te tl th):=by intro pins s σ H Q I h;refine Subscript_ (thn (he pins s σ H _ I h) λv s1 ⟨x,H1,I1,r1,q1⟩=>?_);refine wpAny_Slice (thn (hl pins s1 σ H1 _ I1 q1) λvl s2 ⟨l,H2,I2,pl,q2⟩=>thn (hu pins s2 σ H2 _ I2 q2) λvu s3 ⟨u,H3,I3,pu,q3⟩=>?_);rw[evalPart_none];refine Zyv ?_;have I4:Inv X pins σ H3 { s3 with heap:=s3.heap.push { cls:=.type "slice",data:=.fields #[vl,vu,.none] } }:=I3.kept (t':=s3.toks) λb ob q=>Zyy _ q;obtain⟨T,id,hT,ht,hg⟩:=hr pins { s3 with heap:=s3.heap.push { cls:=.type "slice",data:=.fields #[vl,vu,.none] } } σ H3 x v vl vu l u s3.heap.objs.size Q I4 r1 (Heap.IsSliceOf.new ..) pl pu q3;show wpAny (model X.prog X.w) X.A (subscriptTail e (.Slice lo hi none p2) v (.ref s3.heap.objs.size)) (EP X pins σ Q) X.xe { s3 with heap:=s3.heap.push { cls:=.type "slice",data:=.fields #[vl,vu,.none] } };exact tail_any (ops:=[.ref s3.heap.objs.size,v]) ht hT hg (by with_unfolding_all rfl)
def Zhd(xs:List V)(lo hi:Option Int):List V:=(xs.drop (HT.sIx xs.length 0 lo)).take (HT.sIx xs.length xs.length hi-HT.sIx xs.length 0 lo)
theorem Zj9(xs:List V)(lo hi:Option Int):(Zhd xs lo hi).length<=xs.length:=by unfold Zhd;rw[ZzO,ZAT];omega
def ZxP(K:Zys):V->Option Int->Option Int->Hp->VK->Prop:=λx lo hi H Q=>∃a xs,x=.ref a/\SqT K H a xs /\
 ¬(HT.sIx xs.length 0 lo=0/\HT.sIx xs.length xs.length hi=xs.length)/\∀p,H p=none->Q (.ref p) (upd H p (.tup (Zhd xs lo hi)))
theorem ZwX:SlR X (ZxP X.K):=by
 intro pins s σ H x v vl vu lo hi sl Q I rx hs pl pu h;obtain⟨a,xs,rfl,hx,hw,q⟩:=h;cases rx;obtain⟨its,r,ht,hz⟩:=I.tuple hx;have hlen:its.toArray.size=xs.length:=by rw[ZyJ]; exact r.length.symm
 refine⟨"tuple",_,ZA1.lookup,ht.typeIs,?_⟩;refine HT.ZjP ht hs pl pu (by rw[hlen]; exact hw) ?_ (by rw[hlen]; exact hz);rw[hlen];refine⟨.ref s.heap.objs.size,_,I.laid (t':=s.toks) (o:=.tup (Zhd xs lo hi)) (λb ob q=>Zyy _ q) (ZyB _) ?_,rfl,q _ (I.hok.fresh (ZyB _))⟩;exact⟨Zzg (Zj9 xs lo hi) hz,_,(r.drop (HT.sIx xs.length 0 lo)).take (HT.sIx xs.length xs.length hi-HT.sIx xs.length 0 lo),ZDv _ _⟩
def Zw9(K:Zys):R2:=λx y H Q=>∃a b xs ys,x=.ref a/\y=.ref b/\SqT K H a xs/\SqT K H b ys/\xs≠[]/\xs.length+ys.length<=sizeLine /\
 (ys=[]->Q (.ref a) H)/\(ys≠[]->∀p,H p=none->Q (.ref p) (upd H p (.tup (xs++ys))))
theorem Vals.nil_iff{xs:List V}{us:List Value}(r:Vals xs us):us=[]↔xs=[]:=by
 cases r with
 | nil=>simp
 | cons _ _=>simp
theorem ZuZ:OpR X (ZBi .Add) (Zw9 X.K):=by intro pins s σ H x y v u Q I rx ry h;obtain⟨a,b,xs,ys,rfl,rfl,ha,hb,hx,hz,q1,q2⟩:=h;cases rx;cases ry;obtain⟨its,r1,p1,_⟩:=I.tuple ha;obtain⟨its2,r2,p2,_⟩:=I.tuple hb;refine HT.ZuG p1 p2 (λz=>hx (r1.nil_iff.mp z)) (λz=>⟨.ref a,H,I,rfl,q1 (r2.nil_iff.mp z)⟩) (λz=>?_) (by rw[<-r1.length,<-r2.length]; exact hz);refine⟨.ref s.heap.objs.size,_,I.laid (t':=s.toks) (o:=.tup (xs++ys)) (λb ob q=>Zyy _ q) (ZyB _) ?_,rfl,q2 (λw=>z (r2.nil_iff.mpr w)) _ (I.hok.fresh (ZyB _))⟩;exact⟨by rw[ZyM]; exact hz,_,r1.append r2,ZDv _ _⟩
end
end L2
namespace L2
open PySem PySem.Spec PyProof.Rows
def ixN(n:Nat)(i:Int):Option Nat:=if 0<=i then(if i<n then some i.toNat else none)else if -(n:Int)<=i then some (i+n).toNat else none
def atI{α:Type}(xs:List α)(i:Int):Option α:=(ixN xs.length i).bind λj=>xs[j]?
theorem Zqk{n:Nat}{i:Int}{j:Nat}(h:ixN n i=some j):seqIndex? i n=some j/\j<n/\-(n:Int)<=i/\i<n:=by
 unfold ixN at h
 by_cases h0:0<=i
 ·rw[if_pos h0]at h
  by_cases h1:i<n
  ·rw[if_pos h1]at h
   have e:i.toNat=j:=Zzp h;exact⟨by rw[seqIndex_of h0 h1,e],by omega,by omega,h1⟩
  ·rw[if_neg h1]at h; cases h
 ·rw[if_neg h0]at h
  by_cases h1:-(n:Int)<=i
  ·rw[if_pos h1]at h
   have e:(i+n).toNat=j:=Zzp h;exact⟨by rw[seqIndex_neg (by omega) h1,e],by omega,h1,by omega⟩
  ·rw[if_neg h1]at h; cases h
theorem Zl0{α:Type}{xs:List α}{i:Int}{v:α}(h:atI xs i=some v):∃j,seqIndex? i xs.length=some j/\xs[j]?=some v/\j<xs.length/\-(xs.length:Int)<=i/\i<xs.length:=by
 unfold atI at h;cases e:ixN xs.length i with
 | none=>rw[e]at h; cases h
 | some j=>rw[e]at h;obtain⟨h1,h2,h3,h4⟩:=Zqk e;exact⟨j,h1,h,h2,h3,h4⟩
def Zqn(b:Expr):Prop:=∀o i,ZC8 b false o i=operate [o,i] (getItem o i)
def IxR(X:Cx)(r:R2):Prop :=
 ∀(value slice:Expr) (pins:List (Addr × Obj)) (s:Shared) (σ:St) (H:Hp) (x y:V) (v u:Value) (Q:VK),Inv X pins σ H s->RelV x v->RelV y u->r x y H Q ->
  ZC8 slice false v u=operate [v,u] (getItem v u)->wpAny (model X.prog X.w) X.A (subscriptTail value slice v u) (EP X pins σ Q) X.xe s
def MtR(X:Cx)(id:String)(r:V->List V->Hp->VK->Prop):Prop :=
 ∀(pins:List (Addr × Obj)) (s:Shared) (σ:St) (H:Hp) (x:V) (xs:List V) (v:Value) (us:List Value) (Q:VK),Inv X pins σ H s->RelV x v->Vals xs us->r x xs H Q ->
  wpAny (model X.prog X.w) X.A (call (.builtin id) (v::us)) (EP X pins σ Q) X.xe s
section
variable{X:Cx}{a b:Expr}{ta tb:TE}{pos:Pos}
theorem IxR.or{r r':R2}(h:IxR X r)(h':IxR X r'):IxR X (λx y H Q=>r x y H Q\/r' x y H Q):=by
 intro value slice pins s σ H x y v u Q I rx ry q hs;rcases q with q | q
 ·exact h value slice pins s σ H x y v u Q I rx ry q hs
 ·exact h' value slice pins s σ H x y v u Q I rx ry q hs
theorem Zw5{r:R2}(hr:IxR X r)(ha:PE X a ta)(hb:PE X b tb)(hs:Zqn b):PE X (.Subscript a b pos) (tOp r ta tb):=by intro pins s σ H Q I h;exact Subscript_ (ZtD ha hb I h λv u s2 x y H2 I2 rx ry q=>hr a b pins s2 σ H2 x y v u Q I2 rx ry q (hs _ _))
def ZvX(K:Zys):R2:=λx y H Q=>∃p xs i v,x=.ref p/\y=.int i/\SqL K H p xs/\atI xs i=some v/\Q v H
def Zws(K:Zys):R2:=λx y H Q=>∃p xs i v,x=.ref p/\y=.int i/\SqT K H p xs/\atI xs i=some v/\Q v H
def Zww:R2:=λx y H Q=>∃z i c,x=.str z/\y=.int i/\z.length<=sizeLine/\atI z.cps.toList i=some c/\Q (.str ⟨#[c]⟩) H
theorem Zvb:IxR X (ZvX X.K):=by
 intro value slice pins s σ H x y v u Q I rx ry h hs;obtain⟨p,xs,i,z,rfl,rfl,hq,he,q⟩:=h;cases rx;obtain⟨t,rfl⟩:=ry;obtain⟨its,r,pl,hz⟩:=I.list hq;obtain⟨j,h1,h2,h3,h4,h5⟩:=Zl0 he;obtain⟨w,ew,rw'⟩:=r.get h2;have hl:=r.length;have hn:=Zjk;have fin:EP X pins σ Q w s:=⟨z,H,I,rw',q⟩
 by_cases h0:0<=i
 ·have hj:i.toNat=j:=by
   rw[seqIndex_of h0 h5]at h1;exact Zzp h1
  exact item_listR pl.isList h0 (by omega) (by rw[hj]; simpa using ew) fin hs
 ·have hj:(i+(its.toArray.size:Int)).toNat=j:=by
   rw[seqIndex_neg (by omega) h4]at h1;rw[ZyJ,<-hl];exact Zzp h1
  exact subscriptTail_builtinR (x:=w) pl.isList.typeIs slot_list_getitem.lookup
   (wpAny_getItem_list_neg (Q:=λr s'=>r=w/\EP X pins σ Q r s') pl.isList (by omega) (by rw[ZyJ]<;>omega) (by omega) (by rw[hj]; simpa using ew) ⟨rfl,fin⟩) hs
theorem Zwk:IxR X (Zws X.K):=by
 intro value slice pins s σ H x y v u Q I rx ry h hs;obtain⟨p,xs,i,z,rfl,rfl,hq,he,q⟩:=h;cases rx;obtain⟨t,rfl⟩:=ry;obtain⟨its,r,pl,hz⟩:=I.tuple hq;obtain⟨j,h1,h2,h3,h4,h5⟩:=Zl0 he;obtain⟨w,ew,rw'⟩:=r.get h2;have hl:=r.length;have hn:=Zjk;have fin:EP X pins σ Q w s:=⟨z,H,I,rw',q⟩;exact subscriptTail_builtinR (x:=w) pl.typeIs slot_tuple_getitem.lookup
  (getItem_tuple (j:=j) (Q:=λr s'=>r=w/\EP X pins σ Q r s') pl (by omega) (by omega) (by rw[ZyJ,<-hl]; exact h1) (by simpa using ew) ⟨rfl,fin⟩) hs
theorem Zv8:IxR X Zww:=by
 intro value slice pins s σ H x y v u Q I rx ry h hs;obtain⟨z,i,c,rfl,rfl,hz,he,q⟩:=h;obtain⟨t,rfl⟩:=rx;obtain⟨t',rfl⟩:=ry;obtain⟨j,h1,h2,h3,h4,h5⟩:=Zl0 he;have hl:z.cps.toList.length=z.length:=by simp[Str.length]
 rw[hl]at h1 h4 h5;have hn:=Zjk;exact tail_any (typeIs_str s z t) slot_str_getitem.lookup (getItem_str (c:=c) (by have e1:decide (i < -(2 ^ 63:Int))=false:=decide_eq_false (by omega);have e2:decide (i ≥ 2 ^ 63)=false:=decide_eq_false (by omega);rw[e1,e2,Bool.or_false]) (by rw[h1]; simpa using h2) ⟨.str ⟨#[c]⟩,H,I.tok _,⟨_,rfl⟩,q⟩) hs
def rIx(K:Zys):R2:=λx y H Q=>ZvX K x y H Q\/Zws K x y H Q\/Zww x y H Q
theorem Zwz:IxR X (rIx X.K):=Zvb.or (Zwk.or Zv8)
theorem Zro(its:List Value)(n j:Nat)(u:Value):ZBB (·.setIfInBounds j u) { cls:=.type "list",data:=.seq its.toArray n }={ cls:=.type "list",data:=.seq (its.set j u).toArray n }:=by simp[ZBB]
theorem Inv.lst{pins:List (Addr × Obj)}{σ:St}{H:Hp}{s:Shared}{p:Addr}{xs:List V}(I:Inv X pins σ H s)(h:H p=some (.lst xs)) :
  ∃(its:List Value) (n:Nat),Vals xs its/\s.heap.get? p=some { cls:=.type "list",data:=.seq its.toArray n }/\xs.length<=sizeLine:=by
 obtain⟨z,its,n,r,e⟩:=I.hok p _ h;exact⟨its,n,r,e,z⟩
theorem Inv.lstUpd{pins:List (Addr × Obj)}{σ:St}{H:Hp}{s:Shared}{p:Addr}{xs ys:List V}{its its':List Value}{n n':Nat}{f:Obj->Obj}(I:Inv X pins σ H s)(h:H p=some (.lst xs))
  (ho:s.heap.get? p=some { cls:=.type "list",data:=.seq its.toArray n }) (hf:f { cls:=.type "list",data:=.seq its.toArray n }={ cls:=.type "list",data:=.seq its'.toArray n' }) (r:Vals ys its') (hz:ys.length<=sizeLine) (t:Nat) :
  Inv X pins σ (upd H p (.lst ys)) { s with heap:=s.heap.update p f,toks:=t }:=by
 have e:(s.heap.update p f).get? p=some { cls:=.type "list",data:=.seq its'.toArray n' }:=by rw[ZzD f ho (by rw[hf]<;>rfl),hf]
 refine I.write (x:=p) (e:=p) (by rw[h]; trivial) (.inl rfl) (λb u hb q=>(ZzR _ _ (Zzu hb)).trans q) ⟨_,e⟩ ?_;exact⟨hz,its',n',r,e⟩
def Zxi:V->V->V->Hp->(Hp->Prop)->Prop:=λo i v H Q=>∃p xs k j,o=.ref p/\i=.int k/\H p=some (.lst xs)/\ixN xs.length k=some j/\Q (upd H p (.lst (xs.set j v)))
theorem set_list:ZwJ X Zxi:=by
 intro pins s σ H o i v ov iv u Q I ro ri rv h;obtain⟨p,xs,k,j,rfl,rfl,hp,hj,q⟩:=h;cases ro;obtain⟨t,rfl⟩:=ri;obtain⟨its,n,r,ho,hz⟩:=I.lst hp;obtain⟨h1,h2,h3,h4⟩:=Zqk hj;have hl:=r.length;have hn:=Zjk;have I':Inv X pins σ (upd H p (.lst (xs.set j v))) { s with heap:=s.heap.update p (ZBB (·.setIfInBounds j u)) } :=
  I.lstUpd hp ho (Zro its n j u) (r.set rv j) (by rw[ZzG]; exact hz) s.toks
 by_cases h0:0<=k
 ·have hk:k.toNat=j:=by
   rw[seqIndex_of h0 h4]at h1;exact Zzp h1
  exact PySem.W.ki_setAt ho h0 (by omega) (by rw[ZyJ,<-hl]; exact h4) (by rw[hk]; exact⟨_,I',q⟩)
 ·have hk:(k+(its.toArray.size:Int)).toNat=j:=by
   rw[seqIndex_neg (by omega) h3]at h1;rw[ZyJ,<-hl];exact Zzp h1
  exact PySem.W.ki_setBack ho (by omega) (by rw[ZyJ,<-hl]; exact h3) (by omega) (by rw[hk]; exact⟨_,I',q⟩)
theorem Zpg(lo hi:Option Int)(n:Nat):(ZBo lo hi none n).1=((HT.sIx n 0 lo:Nat):Int)/\(ZBo lo hi none n).2.1=((HT.sIx n n hi:Nat):Int)/\(ZBo lo hi none n).2.2=1:=by
 refine⟨?_,?_,rfl⟩
 ·cases lo with
  | none=>simp[ZBo,HT.sIx]
  | some i =>
   simp only[ZBo,HT.sIx,Option.getD_none,show(1:Int) > 0 by decide,if_true]
   by_cases h:i<0
   ·simp only[h,if_true]<;>omega
   ·simp only[h,if_false]<;>omega
 ·cases hi with
  | none=>simp[ZBo,HT.sIx]
  | some i =>
   simp only[ZBo,HT.sIx,Option.getD_none,show(1:Int) > 0 by decide,if_true]
   by_cases h:i<0
   ·simp only[h,if_true]<;>omega
   ·simp only[h,if_false]<;>omega
theorem ZmY(its:List Value)(lo hi:Option Int):slicePick its.toArray lo hi none=((its.drop (HT.sIx its.length 0 lo)).take (HT.sIx its.length its.length hi-HT.sIx its.length 0 lo)).toArray:=by obtain⟨h1,h2,h3⟩:=Zpg lo hi its.toArray.size;unfold slicePick;rw[h1,h2,h3];simp only[sliceRange_one,pick_run,ZyJ]<;>rfl
def ZxL(K:Zys):V->Option Int->Option Int->Hp->VK->Prop:=λx lo hi H Q=>∃a xs,x=.ref a/\SqL K H a xs/\∀p,H p=none->Q (.ref p) (upd H p (.lst (Zhd xs lo hi)))
theorem Zu4:SlR X (ZxL X.K):=by intro pins s σ H x v vl vu lo hi sl Q I rx hs pl pu h;obtain⟨a,xs,rfl,hx,q⟩:=h;cases rx;obtain⟨its,r,ht,hz⟩:=I.list hx;have hlen:=r.length;refine⟨"list",_,slot_list_getitem.lookup,ht.isList.typeIs,?_⟩;refine wpAny_getItem_list_slice ht.isList hs pl pu .none (by simp) ?_ (by rw[ZyJ]<;>omega);rw[ZmY,<-hlen];refine⟨.ref s.heap.objs.size,_,I.laid (t':=s.toks) (o:=.lst (Zhd xs lo hi)) (λb ob q=>Zyy _ q) (ZyB _) ?_,rfl,q _ (I.hok.fresh (ZyB _))⟩;exact⟨Zzg (Zj9 xs lo hi) hz,_,0,(r.drop (HT.sIx xs.length 0 lo)).take (HT.sIx xs.length xs.length hi-HT.sIx xs.length 0 lo),ZyO _ rfl⟩
def Za5:V->Bool
 | .non=>true
 | .bl _=>true
 | .int _=>true
 | .str _=>true
 | _=>false
def eqV:V->V->Bool
 | .non,.non=>true
 | .bl a,.bl b=>a==b
 | .bl a,.int b=>(if a then 1 else 0)==b
 | .int a,.bl b=>a==(if b then 1 else 0)
 | .int a,.int b=>a==b
 | .str a,.str b=>a==b
 | _,_=>false
theorem Zv4{A:Around}{s:Shared}{y x:V}{u v:Value}(ry:RelV y u)(rx:RelV x v)(fy:Za5 y=true)(fx:Za5 x=true):SeqAt.EqAt A s u v (eqV y x):=by
 cases y with
 | non =>
  cases ry;cases x with
  | non=>cases rx; exact SeqAt.EqAt.same _
  | bl b=>cases rx; exact SeqAt.EqAt.none_bool b
  | int b=>obtain⟨t,rfl⟩:=rx; exact SeqAt.EqAt.none_int b t
  | str b=>obtain⟨t,rfl⟩:=rx; exact SeqAt.EqAt.none_str b t
  | _=>exact absurd (show false=true from fx) Zzc
 | bl a =>
  cases ry;cases x with
  | non=>cases rx; exact SeqAt.EqAt.bool_none a
  | bl b=>cases rx; exact SeqAt.EqAt.bool_bool a b
  | int b=>obtain⟨t,rfl⟩:=rx; exact SeqAt.EqAt.bool_int a b t
  | str b=>obtain⟨t,rfl⟩:=rx; exact SeqAt.EqAt.bool_str a b t
  | _=>exact absurd (show false=true from fx) Zzc
 | int a =>
  obtain⟨t',rfl⟩:=ry;cases x with
  | non=>cases rx; exact SeqAt.EqAt.int_none a t'
  | bl b=>cases rx; exact SeqAt.EqAt.int_bool a t' b
  | int b=>obtain⟨t,rfl⟩:=rx; exact SeqAt.EqAt.int_int a t' b t
  | str b=>obtain⟨t,rfl⟩:=rx; exact ZDs a t' b t
  | _=>exact absurd (show false=true from fx) Zzc
 | str a =>
  obtain⟨t',rfl⟩:=ry;cases x with
  | non=>cases rx; exact SeqAt.EqAt.str_none a t'
  | bl b=>cases rx; exact SeqAt.EqAt.str_bool a t' b
  | int b=>obtain⟨t,rfl⟩:=rx; exact ZDt a t' b t
  | str b=>obtain⟨t,rfl⟩:=rx; exact SeqAt.EqAt.str_str a t' b t
  | _=>exact absurd (show false=true from fx) Zzc
 | _=>exact absurd (show false=true from fy) Zzc
def eqU(x:V)(u:Value):Bool:=match u with
 | .none=>eqV .non x
 | .bool b=>eqV (.bl b) x
 | .int i _=>eqV (.int i) x
 | .str z _=>eqV (.str z) x
 | _=>false
theorem ZrY{x y:V}{u:Value}(r:RelV y u)(f:Za5 y=true):eqU x u=eqV y x:=by
 cases y with
 | non=>cases r; rfl
 | bl b=>cases r; rfl
 | int i=>obtain⟨t,rfl⟩:=r; rfl
 | str z=>obtain⟨t,rfl⟩:=r; rfl
 | _=>exact absurd (show false=true from f) Zzc
theorem Zhu{x:V}:∀{xs:List V} {us:List Value},Vals xs us->xs.all Za5=true->us.any (eqU x)=xs.any λy=>eqV y x
 | _,_,.nil,_=>rfl
 | y::xs,u::us,.cons r t,f=>by rw[ZzL,ZyN]at f;rw[ZAa,ZAa,ZrY r f.1,Zhu t f.2]
theorem Zgk{A:Around}{s:Shared}{x:V}{v:Value}(rx:RelV x v)(fx:Za5 x=true):∀{xs:List V} {us:List Value},Vals xs us->xs.all Za5=true->∀u∈us,SeqAt.EqAt A s u v (eqU x u)
 | _,_,.nil,_=>λu hu=>by cases hu
 | y::xs,u::us,.cons r t,f=>λu' hu=>by
  rw[ZzL,ZyN]at f;rcases ZyR.mp hu with rfl | hu
  ·rw[ZrY r f.1]; exact Zv4 r rx f.1 fx
  ·exact Zgk rx fx t f.2 u' hu
def inV(x:V)(xs:List V):Bool:=xs.any λy=>eqV y x
def rIn(K:Zys)(neg:Bool):R2:=λx y H Q=>∃p xs,y=.ref p/\(SqL K H p xs\/SqT K H p xs)/\Za5 x=true/\xs.all Za5=true/\Q (.bl (if neg then !inV x xs else inV x xs)) H
theorem Zso:OpR X (ZzF .In) (rIn X.K false):=by
 intro pins s σ H x y v u Q I rx ry h;obtain⟨p,xs,rfl,hq,fx,fs,q⟩:=h;cases ry;rcases hq with hq | hq
 ·obtain⟨its,r,pl,hz⟩:=I.list hq
  refine SeqAt.in_listAt (eqU x) pl.isList (λw hw=>Zgk rx fx r fs w (by simpa using hw)) ⟨.bl _,H,I,rfl,?_⟩;rw[show its.toArray.any (eqU x)=its.any (eqU x) by simp,Zhu r fs];exact q
 ·obtain⟨its,r,pl,hz⟩:=I.tuple hq
  refine SeqAt.in_tupleAt (eqU x) pl (λw hw=>Zgk rx fx r fs w (by simpa using hw)) ⟨.bl _,H,I,rfl,?_⟩;rw[show its.toArray.any (eqU x)=its.any (eqU x) by simp,Zhu r fs];exact q
theorem Zov:OpR X (ZzF .NotIn) (rIn X.K true):=by
 intro pins s σ H x y v u Q I rx ry h;obtain⟨p,xs,rfl,hq,fx,fs,q⟩:=h;cases ry;rcases hq with hq | hq
 ·obtain⟨its,r,pl,hz⟩:=I.list hq
  refine SeqAt.notIn_listAt (eqU x) pl.isList (λw hw=>Zgk rx fx r fs w (by simpa using hw)) ⟨.bl _,H,I,rfl,?_⟩;rw[show its.toArray.any (eqU x)=its.any (eqU x) by simp,Zhu r fs];exact q
 ·obtain⟨its,r,pl,hz⟩:=I.tuple hq
  refine SeqAt.notIn_tupleAt (eqU x) pl (λw hw=>Zgk rx fx r fs w (by simpa using hw)) ⟨.bl _,H,I,rfl,?_⟩;rw[show its.toArray.any (eqU x)=its.any (eqU x) by simp,Zhu r fs];exact q
theorem Zn5:Za4 X (.builtin "len") (λxs H Q=>∃p ys,xs=[.ref p]/\(SqL X.K H p ys\/SqT X.K H p ys)/\Q (.int ys.length) H):=by
 intro pins s σ H xs us Q I r h;obtain⟨p,ys,rfl,hq,q⟩:=h;obtain⟨u,rfl,rx⟩:=vals1 r;cases rx;have hn:=Zjk;rcases hq with hq | hq
 ·obtain⟨its,r',pl,hz⟩:=I.list hq
  have hlen:=r'.length;exact Calls.call_len_list pl.isList (by simp only[ZyJ]<;>omega) ⟨.int ys.length,H,I.tok _,⟨s.toks+1,by rw[ZyJ,hlen]⟩,q⟩
 ·obtain⟨its,r',pl,hz⟩:=I.tuple hq
  have hlen:=r'.length;exact len_tuple pl (by simp only[ZyJ]<;>omega) ⟨.int ys.length,H,I.tok _,⟨s.toks+1,by rw[ZyJ,hlen]⟩,q⟩
theorem Za4.or{f:Value}{r r':List V->Hp->VK->Prop}(h:Za4 X f r)(h':Za4 X f r'):Za4 X f (λxs H Q=>r xs H Q\/r' xs H Q):=by
 intro pins s σ H xs us Q I rs q;rcases q with q | q
 ·exact h pins s σ H xs us Q I rs q
 ·exact h' pins s σ H xs us Q I rs q
theorem Zob:Za4 X (.type "list") (λxs H Q=>∃p ys,xs=[.ref p]/\(SqL X.K H p ys\/SqT X.K H p ys)/\∀l,H l=none->Q (.ref l) (upd H l (.lst ys))):=by
 intro pins s σ H xs us Q I r h;obtain⟨p,ys,rfl,hq,q⟩:=h;obtain⟨u,rfl,rx⟩:=vals1 r;cases rx;have fin:∀(its:List Value),Vals ys its->ys.length<=sizeLine->∀(h':Heap) (c':Nat),(∀b o',s.heap.get? b=some o'->h'.get? b=some o') ->
   h'.get? s.heap.objs.size=some { cls:=.type "list",dict:=none,data:=.seq its.toArray c',slots:=#[] }->EP X pins σ Q (.ref s.heap.objs.size) { s with heap:=h' }:=λits r' hz h' c' kp e =>
  ⟨.ref s.heap.objs.size,_,I.laid (t':=s.toks) kp (ZyB _) (show Zab X.prog X.w _ h' _ (.lst ys) from⟨hz,its,c',r',e⟩),rfl,q _ (I.hok.fresh (ZyB _))⟩
 rcases hq with hq | hq
 ·obtain⟨its,r',pl,hz⟩:=I.list hq
  have hlen:=r'.length;obtain⟨o,ho,hc,n,hd⟩:=pl.isList;exact call_list_seq p (.inl rfl) ho hc hd (λh' c' kp e=>fin its r' hz h' c' kp e) (by simp only[ZyJ]<;>omega)
 ·obtain⟨its,r',pl,hz⟩:=I.tuple hq
  have hlen:=r'.length;obtain⟨o,ho,hc,n,hd⟩:=pl;exact call_list_seq p (.inr rfl) ho hc hd (λh' c' kp e=>fin its r' hz h' c' kp e) (by simp only[ZyJ]<;>omega)
theorem Zm2:Za4 X (.type "tuple") (λxs H Q=>∃p ys,xs=[.ref p]/\((SqL X.K H p ys/\∀l,H l=none->Q (.ref l) (upd H l (.tup ys)))\/(SqT X.K H p ys/\Q (.ref p) H))):=by
 intro pins s σ H xs us Q I r h;obtain⟨p,ys,rfl,h⟩:=h;obtain⟨u,rfl,rx⟩:=vals1 r;cases rx;rcases h with⟨hq,q⟩ | ⟨hq,q⟩
 ·obtain⟨its,r',pl,hz⟩:=I.list hq
  have hlen:=r'.length;refine call_tuple_list pl.isList (λh' kp=>?_) (by simp only[ZyJ]<;>omega);have I1:Inv X pins σ H { s with heap:=h' }:=I.kept (t':=s.toks) kp;have I2:Inv X pins σ (upd H h'.objs.size (.tup ys)) { s with heap:=h'.push { cls:=.type "tuple",data:=.seq its.toArray } } :=
   I1.laid (t':=s.toks) (λb o e=>Zyy _ e) (ZyB _) (show Zab X.prog X.w _ _ _ (.tup ys) from⟨hz,its,r',ZDv _ _⟩)
  exact⟨.ref h'.objs.size,_,I2,rfl,q _ (I1.hok.fresh (ZyB _))⟩
 ·obtain⟨its,r',pl,hz⟩:=I.tuple hq
  exact call_tuple_same pl ⟨.ref p,H,I,rfl,q⟩
def tyV(K:Zys)(T:String)(x:V)(H:Hp):Prop:=match x with
 | .str _=>T = "str"
 | .int _=>T = "int"
 | .ref p=>(T = "list"/\∃xs,SqL K H p xs)\/(T = "tuple"/\∃o,K.lookup p=some o/\o.cls=.type "tuple"/\o.dict=none) \/
   (T = "dict"/\((∃kvs,H p=some (.dK kvs))\/∃kvs,H p=some (.dT kvs)))\/(T = "set"/\∃S n,H p=some (.set S n))
 | _=>False
theorem ZsQ{pins:List (Addr × Obj)}{σ:St}{H:Hp}{s:Shared}{T:String}{x:V}{v:Value}(I:Inv X pins σ H s)(r:RelV x v)(ty:tyV X.K T x H) :
  s.TypeIs v T/\∀a,v=.ref a->∃ob,s.heap.get? a=some ob/\ob.dict=none:=by
 cases x with
 | str z=>obtain⟨t,rfl⟩:=r;cases(show T = "str" from ty);exact⟨typeIs_str s z t,λ_ e=>nomatch e⟩
 | int i=>obtain⟨t,rfl⟩:=r;cases(show T = "int" from ty);exact⟨typeIs_int s i t,λ_ e=>nomatch e⟩
 | ref p =>
  cases r;rcases ty with⟨rfl,xs,hq⟩ | ⟨rfl,o,hk,hc,hd⟩ | ⟨rfl,hk⟩ | ⟨rfl,S,n,hk⟩
  ·obtain⟨its,_,pl,_⟩:=I.list hq
   refine⟨pl.isList.typeIs,λa e=>?_⟩;cases e;obtain⟨o,n,e,c,hd,_⟩:=pl;exact⟨o,e,hd⟩
  ·refine⟨⟨o,I.kIn p o hk,hc⟩,λa e=>?_⟩
   cases e;exact⟨o,I.kIn _ o hk,hd⟩
  ·have z:∃o,s.heap.get? p=some o/\o.ExactDict:=by
    rcases hk with⟨kvs,hk⟩ | ⟨kvs,hk⟩
    ·obtain⟨_,_,_,_,o,_,_,e,ex,_⟩:=I.hok p _ hk
     exact⟨o,e,ex⟩
    ·obtain⟨_,_,_,_,o,_,_,e,ex,_⟩:=I.hok p _ hk
     exact⟨o,e,ex⟩
   obtain⟨o,e,ex⟩:=z;refine⟨⟨o,e,ex.1⟩,λa e2=>?_⟩;cases e2;exact⟨o,e,ex.2.1⟩
  ·obtain⟨o,_,_,_,e,ex,_⟩:=I.hok p _ hk
   refine⟨⟨o,e,ex.1⟩,λa e2=>?_⟩;cases e2;exact⟨o,e,ex.2.1⟩
 | _=>exact Zzw ty
def ZxR(K:Zys)(T:String)(r:V->List V->Hp->VK->Prop)(to:TE):TE:=λσ H Q=>to σ H λx H1=>tyV K T x H1/\r x [] H1 Q
def tBM(K:Zys)(T:String)(r:V->List V->Hp->VK->Prop)(to:TE)(t:TA):TE:=λσ H Q=>to σ H λx H1=>tyV K T x H1/\t σ H1 λxs H2=>r x xs H2 Q
variable{o e:Expr}{es:List Expr}{to:TE}{t:TA}{name:Str}{apos cpos:Pos}{T id:String}{r:V->List V->Hp->VK->Prop}
theorem Zw0(pa:PlainAttrs T)(slot:Slot T name id)(hty:typeOf (.builtin id)=pure (.type "method_descriptor"))(hm:MtR X id r)(ho:PE X o to)
  (hbase:ZAx o name X.env (eval o X.env)=eval o X.env:=by rfl) (hline:(apos.endLine==cpos.line)=true:=by rfl):PE X (.Call (.Attribute o name apos) [] [] cpos) (ZxR X.K T r to):=by
 intro pins s σ H Q I h;refine wpAny_Call_method0_late hbase hline (thn (ho pins s σ H _ I h) λv s1 ⟨x,H1,I1,r1,ty,q1⟩=>?_);obtain⟨h1,h2⟩:=ZsQ I1 r1 ty;exact⟨T,id,pa,slot,hty,h1,h2,ZAC rfl (PySem.evalArgs_none (hm pins s1 σ H1 x [] v [] Q I1 r1 .nil q1))⟩
theorem Zm8(pa:PlainAttrs T)(slot:Slot T name id)(hty:typeOf (.builtin id)=pure (.type "method_descriptor"))(hm:MtR X id r)(ho:PE X o to)(ha:PA X (e::es) t)
  (hbase:ZAx o name X.env (eval o X.env)=eval o X.env:=by rfl)
  (hfew:((backTo cpos (ZyF (e::es) X.env)).all (λx=>!x.1)&&(ZCf cpos (ZBp [] X.env)).all (λx=>x.1.isSome)
   && decide ((e::es).length+([]:List Keyword).length+(if([]:List Keyword).isEmpty then 0 else 1)<30))=true:=by rfl)
  (hline:(apos.endLine==cpos.line)=true:=by rfl) (hs:ZyF (e::es) X.env=(false,eval e X.env)::ZyF es X.env:=by rfl) (hplain:(backTo cpos (ZyF es X.env)).any (·.1)=false:=by rfl) :
  PE X (.Call (.Attribute o name apos) (e::es) [] cpos) (tBM X.K T r to t):=by
 intro pins s σ H Q I h;refine wpAny_Call_method_late hbase hfew hline rfl (thn (ho pins s σ H _ I h) λv s1 ⟨x,H1,I1,r1,ty,q1⟩=>?_);obtain⟨h1,h2⟩:=ZsQ I1 r1 ty;refine⟨T,id,pa,slot,hty,h1,h2,?_⟩;have hA:=ha cpos pins s1 σ H1 _ I1 q1;rw[hs]at hA ⊢;refine ZAC (by show(false||(backTo cpos (ZyF es X.env)).any (·.1))=false; rw[hplain]<;>rfl) (ZBj ?_);exact thn hA λus s2 ⟨vs,H2,I2,r2,q2⟩=>hm pins s2 σ H2 x vs v us Q I2 r1 r2 q2
end
end L2
namespace L2
open PySem PySem.Spec PyProof.Rows
def MtM(X:Cx)(id:String)(r:V->List V->Hp->VK->Prop):Prop :=
 ∀(pins:List (Addr × Obj)) (s:Shared) (σ:St) (H:Hp) (x:V) (xs:List V) (v:Value) (us:List Value) (Q:VK),Inv X pins σ H s->RelV x v->Vals xs us->r x xs H Q ->
  wpAny (model X.prog X.w) X.A (call (.builtin id) (v::us)) (EP X pins σ Q) X.xe s
theorem Vals.one:∀{x:V} {us:List Value},Vals [x] us->∃u,us=[u]/\RelV x u
 | _,_,.cons r .nil=>⟨_,rfl,r⟩
theorem Vals.zero:∀{us:List Value},Vals [] us->us=[]
 | _,.nil=>rfl
theorem Vals.dropLast{xs:List V}{us:List Value}(h:Vals xs us):Vals xs.dropLast us.dropLast:=by
 induction h with
 | nil=>exact .nil
 | cons r t ih =>
  cases t with
  | nil=>exact .nil
  | cons q t'=>exact .cons r ih
theorem Vals.rep{xs:List V}{us:List Value}(h:Vals xs us):∀k:Nat,Vals (Zy1 k xs).flatten (Zy1 k us).flatten
 | 0=>.nil
 | k+1=>by rw[ZAe,ZAe,ZAO,ZAO];exact Vals.append h (Vals.rep h k)
theorem ZqV{α:Type}(l:List α):l.eraseIdx (l.length-1)=l.dropLast:=by
 induction l with
 | nil=>rfl
 | cons a r ih =>
  cases r with
  | nil=>rfl
  | cons b r =>
   have e:(a::b::r).length-1=((b::r).length-1)+1:=by have h1:(a::b::r).length=r.length+2:=rfl;have h2:(b::r).length=r.length+1:=rfl;omega
   rw[e,List.eraseIdx_cons_succ,ih]
   all_goals rfl
theorem foldl_rep(its:List Value):∀(k:Nat) (acc:List Value),
  List.foldl (λx1 x2=>x1++x2) acc.toArray (Zy1 k its.toArray)=(acc++(Zy1 k its).flatten).toArray
 | 0,acc=>by simp
 | k+1,acc=>by
  have e:acc.toArray++its.toArray=(acc++its).toArray:=by simp
  have e2:(acc++its)++(Zy1 k its).flatten=acc++(Zy1 (k+1) its).flatten:=by rw[ZAe,ZAO,ZzK]
  rw[<-e2,<-foldl_rep its k (acc++its),<-e,ZAe,Zzr]
section
variable{X:Cx}{pins:List (Addr × Obj)}{σ:St}{H:Hp}{s:Shared}{l b:Addr}{xs ys zs:List V}
theorem Inv.lset{its its':List Value}{n:Nat}{f:Array Value->Array Value}{t':Nat}(I:Inv X pins σ H s)(hH:H l=some (.lst xs))
  (e:s.heap.get? l=some { cls:=.type "list",data:=.seq its.toArray n }) (hf:f its.toArray=its'.toArray) (hv:Vals ys its') (hz:ys.length<=sizeLine) :
  Inv X pins σ (upd H l (.lst ys)) { s with heap:=s.heap.update l (ZBB f),toks:=t' }:=by
 have q:=PySem.IsL.update e f;rw[hf]at q;refine I.write (x:=l) (e:=l) (by rw[hH]; exact trivial) (.inl rfl) (λb' u hb hu=>(ZzR s.heap (ZBB f) (Zzu hb)).trans hu) ⟨_,q⟩ ?_;exact⟨hz,its',_,hv,q⟩
theorem Inv.lnew{its:List Value}{t':Nat}(I:Inv X pins σ H s)(hv:Vals ys its)(hz:ys.length<=sizeLine) :
  Inv X pins σ (upd H s.heap.objs.size (.lst ys)) { s with heap:=s.heap.push { cls:=.type "list",data:=.seq its.toArray },toks:=t' } :=
 I.laid (λ_ _ q=>Zyy _ q) (ZyB _) ⟨hz,its,0,hv,ZyO _ rfl⟩
theorem Inv.fresh(I:Inv X pins σ H s):H s.heap.objs.size=none:=I.hok.fresh (ZyB _)
theorem Inv.lstM(I:Inv X pins σ H s)(hH:H l=some (.lst xs)):xs.length<=sizeLine/\∃(its:List Value) (n:Nat),Vals xs its/\xs.length=its.length/\s.heap.get? l=some { cls:=.type "list",data:=.seq its.toArray n }:=by obtain⟨z,its,n,r,e⟩:=I.hok l _ hH;exact⟨z,its,n,r,r.length,e⟩
theorem Zok{n:Nat}(h:n<=sizeLine):ZAU n=false:=by unfold ZAU;exact decide_eq_false (by omega)
end
section
variable{X:Cx}
def Zqd:V->List V->Hp->VK->Prop:=λx vs H Q=>∃l xs y,x=.ref l/\vs=[y]/\H l=some (.lst xs)/\xs.length<sizeLine/\Q .non (upd H l (.lst (xs++[y])))
theorem ZgP:MtM X "list.append" Zqd:=by intro pins s σ H x vs v us Q I rx rv h;obtain⟨l,xs,y,rfl,rfl,hH,hz,q⟩:=h;cases rx;obtain⟨u,rfl,ru⟩:=rv.one;obtain⟨z,its,n,r,hl,e⟩:=I.lstM hH;refine ZCJ F.slot_list_append ⟨_,e,rfl⟩ F.entry_list_append (F.args_list_append_2 _ _) (PySem.list_append l its.toArray n u (by rw[ZyJ]; omega)) ⟨e,?_⟩;refine⟨.non,_,I.lset (its':=its++[u]) hH e (by simp) (r.append (.cons ru .nil)) ?_,rfl,q⟩;rw[ZyM,Zz2];omega
def Zvq:V->List V->Hp->VK->Prop:=λx vs H Q=>∃l b xs zs,x=.ref l/\vs=[.ref b]/\H l=some (.lst xs)/\H b=some (.lst zs)/\xs.length+zs.length<=sizeLine/\Q .non (upd H l (.lst (xs++zs)))
theorem Zsr:MtM X "list.extend" Zvq:=by
 intro pins s σ H x vs v us Q I rx rv h;obtain⟨l,b,xs,zs,rfl,rfl,hH,hB,hz,q⟩:=h;cases rx;obtain⟨u,rfl,ru⟩:=rv.one;cases ru;obtain⟨z,its,n,r,hl,e⟩:=I.lstM hH;obtain⟨z2,its2,n2,r2,hl2,e2⟩:=I.lstM hB;have hsz:its.toArray.size+its2.toArray.size<=sizeLine:=by rw[ZyJ,ZyJ]; omega
 have hlong:¬(!its.toArray.isEmpty&&ZAU (its.toArray.size+its2.toArray.size))=true:=by rw[Zok hsz,Bool.and_false];exact Zzc
 refine ZCJ F.slot_list_extend ⟨_,e,rfl⟩ F.entry_list_extend (F.args_list_extend_2 _ _)
  (AutoSeq1.list_extend_list_list_0 l its.toArray n b its2.toArray n2 hlong (by rw[ZyJ]; omega) (by omega)) ⟨e,e2,?_⟩
 refine⟨.non,_,I.lset (its':=its++its2) hH e (by simp) (r.append r2) ?_,rfl,q⟩;rw[ZyM];omega
def ZxV:V->List V->Hp->VK->Prop:=λx vs H Q=>∃l xs y,x=.ref l/\vs=[]/\H l=some (.lst xs)/\xs[xs.length-1]?=some y/\Q y (upd H l (.lst xs.dropLast))
theorem ZwY:MtM X "list.pop" ZxV:=by
 intro pins s σ H x vs v us Q I rx rv h;obtain⟨l,xs,y,rfl,rfl,hH,hy,q⟩:=h;cases rx;have hus:=rv.zero;subst hus;obtain⟨z,its,n,r,hl,e⟩:=I.lstM hH;obtain⟨u,hu,ru⟩:=r.get hy;have hy':its.toArray[its.toArray.size-1]?=some u:=by show its.toArray[its.length-1]?=some u;rw[<-Zzl,<-hl];exact hu
 refine ZCJ F.slot_list_pop ⟨_,e,rfl⟩ F.entry_list_pop (F.args_list_pop_1 _) (MeetsSeq.list_pop_last l its.toArray n u hy' (by rw[ZyJ]; omega)) ⟨e,?_⟩;refine⟨y,_,I.lset (its':=its.dropLast) hH e ?_ r.dropLast ?_,ru,q⟩
 ·show its.toArray.eraseIdxIfInBounds (its.toArray.size-1)=its.dropLast.toArray
  rw[ZyJ,List.eraseIdxIfInBounds_toArray,ZqV]
 ·rw[List.length_dropLast]
  omega
def ZxO:R2:=λx y H Q=>∃l b xs zs,x=.ref l/\y=.ref b/\H l=some (.lst xs)/\H b=some (.lst zs)/\xs.length+zs.length<=sizeLine/\∀p,H p=none->Q (.ref p) (upd H p (.lst (xs++zs)))
theorem Zv7:OpR X (ZBi .Add) ZxO:=by
 intro pins s σ H x y v u Q I rx ry h;obtain⟨l,b,xs,zs,rfl,rfl,hH,hB,hz,q⟩:=h;cases rx;cases ry;obtain⟨z,its,n,r,hl,e⟩:=I.lstM hH;obtain⟨z2,its2,n2,r2,hl2,e2⟩:=I.lstM hB;refine PySem.P.add_list e e2 ?_ (by rw[ZyJ,ZyJ]; omega);have ea:its.toArray++its2.toArray=(its++its2).toArray:=by simp
 rw[ea];exact⟨.ref _,_,I.lnew (t':=s.toks) (r.append r2) (by rw[ZyM]; omega),rfl,q _ I.fresh⟩
def Zx4:R2:=λx y H Q=>∃l k xs,x=.ref l/\y=.int k/\H l=some (.lst xs)/\-(2 ^ 63)<=k/\k<2 ^ 63/\xs.length*k.toNat<=sizeLine /\
 ∀p,H p=none->Q (.ref p) (upd H p (.lst (Zy1 k.toNat xs).flatten))
theorem len_rep{α:Type}(xs:List α)(k:Nat):(Zy1 k xs).flatten.length=k*xs.length:=by
 induction k with
 | zero=>simp
 | succ k ih=>rw[ZAe,ZAO,ZyM,ih,Nat.succ_mul,Nat.add_comm]
theorem Zwq:OpR X (ZBi .Mult) Zx4:=by
 intro pins s σ H x y v u Q I rx ry h;obtain⟨l,k,xs,rfl,rfl,hH,h1,h2,hz,q⟩:=h;cases rx;obtain⟨t,rfl⟩:=ry;obtain⟨z,its,n,r,hl,e⟩:=I.lstM hH;have hlen:its.toArray.size*k.toNat<=sizeLine:=by rw[ZyJ,<-hl]; exact hz
 have hcap:¬its.toArray.size*k.toNat > (2 ^ 63-1) / 8:=by
  have:(sizeLine:Nat)<=(2 ^ 63-1) / 8:=by decide
  omega
 have hfit:¬(!Builtin.List.listFitsIndex k)=true:=by rw[fitsIndex_both h1 h2];exact Zzc
 have hlong:¬ZAU (its.toArray.size*k.toNat)=true:=by rw[Zok hlen];exact Zzc
 have hnew:List.foldl (λx1 x2=>x1++x2) #[] (Zy1 (if its.toArray.isEmpty=true then 0 else k.toNat) its.toArray)=(Zy1 k.toNat its).flatten.toArray:=by
  have f0:∀m:Nat,List.foldl (λx1 x2=>x1++x2) #[] (Zy1 m its.toArray)=(Zy1 m its).flatten.toArray:=λm=>by have:=foldl_rep its m [];rw[ZAr]at this;exact this
  rw[f0];cases its with
  | nil=>simp
  | cons a r'=>rw[if_neg (by simp)]
 refine wpAny_binaryOp_repeat_ref (T:="list") (U:="int") (by decide) ⟨_,e,rfl⟩ (λs'=>typeIs_int s' k t) noFill_list_mul F.fills_int_mul F.slot_int_rmul repeat_list F.slot_int_index.lookup
  (ZCJ F.slot_int_rmul (typeIs_int s k t) F.entry_int_rmul (F.args_int_rmul_2 _ _) (int___rmul___int_list k t l its.toArray n)
   ⟨e,rfl,⟨_,e,rfl⟩,ZCJ F.slot_list_mul ⟨_,e,rfl⟩ F.entry_list_mul (F.args_list_mul_2 _ _) (AutoListH.list___mul___list_int_3 l its.toArray n k t hfit hcap hlong) ⟨e,?_⟩⟩)
 rw[hnew];exact⟨.ref _,_,I.lnew (t':=s.toks) (r.rep k.toNat) (by rw[len_rep,Nat.mul_comm]; exact hz),rfl,q _ I.fresh⟩
end
end L2
namespace L2
open PySem PySem.Spec PyProof.Rows
section
variable{κ:Type}[DecidableEq κ]
def ZaO(kvs:List (κ × V))(k:κ):Option V:=(kvs.find? λkv=>decide (kv.1=k)).map (·.2)
def putK(kvs:List (κ × V))(k:κ)(v:V):List (κ × V) :=
 if(kvs.any λkv=>decide (kv.1=k))=true then kvs.map (λkv=>if kv.1=k then(kv.1,v)else kv)else kvs++[(k,v)]
theorem Zd3{p:κ × V}{r:List (κ × V)}{k:κ}(e:p.1=k):ZaO (p::r) k=some p.2:=by simp[ZaO,Zzs,e]
theorem Zd4{p:κ × V}{r:List (κ × V)}{k:κ}(e:¬p.1=k):ZaO (p::r) k=ZaO r k:=by simp[ZaO,Zzs,e]
theorem Zh7(k:κ):∀kvs:List (κ × V),(kvs.any λkv=>decide (kv.1=k))=(ZaO kvs k).isSome
 | []=>rfl
 | p::r=>by
  rw[ZAa]
  by_cases e:p.1=k
  ·simp only[Zd3 e,decide_eq_true e,Bool.true_or,Option.isSome_some]
  ·rw[Zd4 e,decide_eq_false e,ZCu]; exact Zh7 k r
theorem Zhh(kvs:List (κ × V))(k:κ)(v:V):(putK kvs k v).length<=kvs.length+1:=by
 unfold putK;split
 ·rw[Zyt]; omega
 ·rw[ZyM,ZyI,ZC0]; omega
theorem Zfv.isSome_eq{o:Option V}{u:Option Value}(r:Zfv o u):o.isSome=u.isSome:=by
 cases o with
 | none=>cases u with
  | none=>rfl
  | some _=>exact(show False from r).elim
 | some _=>cases u with
  | none=>exact(show False from r).elim
  | some _=>rfl
theorem Zfv.getD{o:Option V}{u:Option Value}{d:V}{d':Value}(r:Zfv o u)(rd:RelV d d'):RelV (o.getD d) (u.getD d'):=by
 cases o with
 | none=>cases u with
  | none=>exact rd
  | some _=>exact(show False from r).elim
 | some _=>cases u with
  | none=>exact(show False from r).elim
  | some _=>exact r
theorem KV.val{kvs:List (κ × V)}{vs:List (κ × Value)}(r:KV kvs vs)(k:κ):Zfv (ZaO kvs k) (valueAt vs k):=by
 unfold KV at r
 induction r with
 | nil=>exact ZBC
 | @cons p q ps qs h t ih =>
  obtain⟨h1,h2⟩:=h
  by_cases e:p.1=k
  ·have e':q.1=k:=h1.symm.trans e
   have b:valueAt (q::qs) k=some q.2:=by simp[valueAt,Zzs,e']
   rw[Zd3 e,b]; exact h2
  ·have e':¬q.1=k:=λz=>e (h1.trans z)
   have b:valueAt (q::qs) k=valueAt qs k:=by simp[valueAt,Zzs,e']
   rw[Zd4 e,b]; exact ih
theorem KV.any{kvs:List (κ × V)}{vs:List (κ × Value)}(r:KV kvs vs)(k:κ):(kvs.any λkv=>decide (kv.1=k))=vs.any λkv=>decide (kv.1=k):=by
 unfold KV at r
 induction r with
 | nil=>rfl
 | cons h t ih=>rw[ZAa,ZAa,ih,h.1]
theorem KV.repl{kvs:List (κ × V)}{vs:List (κ × Value)}(r:KV kvs vs)(k:κ){y:V}{u:Value}(ry:RelV y u) :
  KV (kvs.map λkv=>if kv.1=k then(kv.1,y)else kv) (vs.map λkv=>if kv.1=k then(kv.1,u)else kv):=by
 unfold KV at r ⊢
 induction r with
 | nil=>exact .nil
 | @cons p q ps qs h t ih =>
  rw[Zyz,Zyz];refine .cons ?_ ih;obtain⟨h1,h2⟩:=h
  by_cases e:p.1=k
  ·rw[if_pos e,if_pos (h1.symm.trans e)]; exact⟨h1,ry⟩
  ·rw[if_neg e,if_neg (λz=>e (h1.trans z))]; exact⟨h1,h2⟩
theorem KV.put{kvs:List (κ × V)}{vs:List (κ × Value)}(r:KV kvs vs)(k:κ){y:V}{u:Value}(ry:RelV y u):KV (putK kvs k y) (stored vs k u):=by
 unfold putK stored;rw[r.any k]
 by_cases e:(vs.any λkv=>decide (kv.1=k))=true
 ·rw[if_pos e,if_pos e]; exact r.repl k ry
 ·rw[if_neg e,if_neg e]; exact Paired.snoc r ⟨rfl,ry⟩
theorem KV.length{kvs:List (κ × V)}{vs:List (κ × Value)}(r:KV kvs vs):kvs.length=vs.length:=ZA7 r
end
theorem ZgW{P:Program}{w:World}{k:Key}{u:Value}(r:RelV (kV k) u):(Zah P w).is k u=true:=by
 cases k with
 | inl i=>obtain⟨t,e⟩:=(show ∃t,u=ZAl i t from r); subst e; exact ZpX P w i t
 | inr x=>obtain⟨t,e⟩:=(show ∃t,u=Value.str x t from r); subst e; exact ZpM P w x t
theorem Zme{P:Program}{w:World}:∀{ks:List Key} {us:List Value},Vals (ks.map kV) us->ItemsAre (Zah P w) ks us
 | [],_,r=>by rw[ZAs]at r; cases r; exact .nil
 | k::ks,_,r=>by
  rw[Zyz]at r;cases r with
  | cons h t=>exact .cons (ZgW h) (Zme t)
abbrev KT(H:Hp):List (List Key × V)->List (List Key × Addr × Value)->Prop:=Paired λp q=>p.1=q.1/\H q.2.1=some (.tup (p.1.map kV))/\RelV p.2 q.2.2
theorem KT.val{H:Hp}{kvs:List (List Key × V)}{xs:List (List Key × Addr × Value)}(r:KT H kvs xs)(k:List Key):Zfv (ZaO kvs k) ((atKey xs k).map (·.2)):=by
 induction r with
 | nil=>exact ZBC
 | @cons p q ps qs h t ih =>
  obtain⟨h1,_,h2⟩:=h
  by_cases e:p.1=k
  ·have e':q.1=k:=h1.symm.trans e
   have b:atKey (q::qs) k=some q.2:=by simp[atKey,Zzs,e']
   rw[Zd3 e,b]; exact h2
  ·have e':¬q.1=k:=λz=>e (h1.trans z)
   have b:atKey (q::qs) k=atKey qs k:=by simp[atKey,Zzs,e']
   rw[Zd4 e,b]; exact ih
theorem KT.repl{H:Hp}{kvs:List (List Key × V)}{xs:List (List Key × Addr × Value)}(r:KT H kvs xs)(k:List Key){y:V}{u:Value}(ry:RelV y u) :
  KT H (kvs.map λkv=>if kv.1=k then(kv.1,y)else kv) (xs.map (putAt k u)):=by
 induction r with
 | nil=>exact .nil
 | @cons p q ps qs h t ih =>
  rw[Zyz,Zyz];refine .cons ?_ ih;obtain⟨h1,h2,h3⟩:=h;unfold putAt
  by_cases e:p.1=k
  ·rw[if_pos e,if_pos (h1.symm.trans e)]; exact⟨h1,h2,ry⟩
  ·rw[if_neg e,if_neg (λz=>e (h1.trans z))]; exact⟨h1,h2,h3⟩
theorem KT.put{H:Hp}{kvs:List (List Key × V)}{xs:List (List Key × Addr × Value)}(r:KT H kvs xs)(k:List Key){b:Addr}{y:V}{u:Value}(hb:H b=some (.tup (k.map kV)))(ry:RelV y u) :
  KT H (putK kvs k y) (storedH xs k b u):=by
 have e:(kvs.any λkv=>decide (kv.1=k))=(atKey xs k).isSome:=by rw[Zh7,(r.val k).isSome_eq,ZzW]
 unfold putK storedH;rw[e]
 by_cases q:(atKey xs k).isSome=true
 ·rw[if_pos q,if_pos q]; exact r.repl k ry
 ·rw[if_neg q,if_neg q]; exact Paired.snoc r ⟨rfl,hb,ry⟩
theorem KT.keeps{H H':Hp}{kvs:List (List Key × V)}{xs:List (List Key × Addr × Value)}(r:KT H kvs xs)(ht:∀b ys,H b=some (.tup ys)->H' b=some (.tup ys)):KT H' kvs xs :=
 Paired.mapP r λ_ _ z=>⟨z.1,ht _ _ z.2.1,z.2.2⟩
section
variable{P:Program}{w:World}{H:Hp}{h:Heap}{a:Addr}
theorem Zlc{u:HO}(ok:HOk P w H h)(e:Rd H a u):Zab P w H h a u:=e.ok ok
theorem ZfD{kvs:List (Key × V)}(ok:HOk P w H h)(e:Rd H a (.dK kvs)):kvs.length<=sizeLine/\(a==Zz0)=false/\∃vs,KV kvs vs/\h.DictOf (Zah P w) a vs :=
 show Zab P w H h a (.dK kvs) from Zlc ok e
theorem Zrn{kvs:List (Key × V)}(ok:HOk P w H h)(e:H a=some (.dK kvs)):kvs.length<=sizeLine/\(a==Zz0)=false/\∃vs,KV kvs vs/\h.DictOf (Zah P w) a vs:=ZfD ok (.inl e)
theorem Ze8{ks:List Key}(ok:HOk P w H h)(e:H a=some (.tup (ks.map kV))):(ZBg (Zah P w)).is h ks a:=by obtain⟨_,its,r,o,h1,h2,n,h3⟩:=(show Zab P w H h a (.tup (ks.map kV)) from ok a _ e);exact⟨o,its.toArray,n,h1,h2,h3,by simpa using Zme r⟩
theorem ZgX{kvs:List (List Key × V)}(ok:HOk P w H h)(e:Rd H a (.dT kvs)):kvs.length<=sizeLine/\(a==Zz0)=false /\
  ∃xs,KT H kvs xs/\h.DictOfH (ZBg (Zah P w)) a xs:=by
 obtain⟨z,y,xs,r,o,es,ep,h1,h2,h3,h4,h5⟩:=(show Zab P w H h a (.dT kvs) from Zlc ok e);refine⟨z,y,xs,r,o,es,ep,h1,h2,h3,h4,λx hx=>?_,h5⟩;have all:∀{l:List (List Key × V)} {m:List (List Key × Addr × Value)},KT H l m->∀x∈m,(ZBg (Zah P w)).is h x.1 x.2.1:=by
  intro l m q
  induction q with
  | nil=>intro x hx; exact nomatch hx
  | @cons p q ps qs hq t ih =>
   intro x hx;rcases ZyR.mp hx with e | hx
   ·subst e
    exact Ze8 ok (by rw[<-hq.1]; exact hq.2.1)
   ·exact ih x hx
 exact all r x hx
theorem Zup{kvs:List (List Key × V)}(ok:HOk P w H h)(e:H a=some (.dT kvs)):kvs.length<=sizeLine/\(a==Zz0)=false /\
  ∃xs,KT H kvs xs/\h.DictOfH (ZBg (Zah P w)) a xs:=ZgX ok (.inl e)
end
def ZbV(H:Hp)(a:Addr)(y:V)(r:Option V):Prop :=
 (∃kvs k,Rd H a (.dK kvs)/\y=kV k/\r=ZaO kvs k)\/∃kvs k b,Rd H a (.dT kvs)/\y=.ref b/\H b=some (.tup (k.map kV))/\r=ZaO kvs k
def Zih(H:Hp)(a:Addr)(y v:V)(H':Hp):Prop :=
 (∃kvs k,H a=some (.dK kvs)/\y=kV k/\kvs.length<sizeLine/\H'=upd H a (.dK (putK kvs k v))) \/
 ∃kvs k b,H a=some (.dT kvs)/\y=.ref b/\H b=some (.tup (k.map kV))/\kvs.length<sizeLine/\H'=upd H a (.dT (putK kvs k v))
theorem ZbV.k{H:Hp}{a:Addr}{kvs:List (Key × V)}{k:Key}(e:H a=some (.dK kvs)):ZbV H a (kV k) (ZaO kvs k):=.inl ⟨kvs,k,.inl e,rfl,rfl⟩
theorem ZbV.t{H:Hp}{a b:Addr}{kvs:List (List Key × V)}{k:List Key}(e:H a=some (.dT kvs))(eb:H b=some (.tup (k.map kV))):ZbV H a (.ref b) (ZaO kvs k):=.inr ⟨kvs,k,b,.inl e,rfl,eb,rfl⟩
theorem Zih.k{H:Hp}{a:Addr}{kvs:List (Key × V)}{k:Key}{v:V}(e:H a=some (.dK kvs))(hl:kvs.length<sizeLine):Zih H a (kV k) v (upd H a (.dK (putK kvs k v))):=.inl ⟨kvs,k,e,rfl,hl,rfl⟩
theorem Zih.t{H:Hp}{a b:Addr}{kvs:List (List Key × V)}{k:List Key}{v:V}(e:H a=some (.dT kvs))(eb:H b=some (.tup (k.map kV)))(hl:kvs.length<sizeLine) :
  Zih H a (.ref b) v (upd H a (.dT (putK kvs k v))):=.inr ⟨kvs,k,b,e,rfl,eb,hl,rfl⟩
section
variable{X:Cx}{pins:List (Addr × Obj)}{σ:St}{H:Hp}{s:Shared}{a:Addr}{y v:V}{u r:Value}{o:Option V}{A:Around}{E:Value->Shared->Prop}
theorem Inv.big(I:Inv X pins σ H s):Zz0<s.heap.objs.size:=by have h:Zzd<s.heap.objs.size:=(I.mod.glob.keeps I.bk).lt;exact ZAt (by decide) h
theorem Zr2{Q:Value->Shared->Prop}(hu:A.units+1<cLine)(I:Inv X pins σ H s)(g:ZbV H a y (some v))(ry:RelV y u)(h:∀w' s',Inv X pins σ H s'->RelV v w'->Q w' s') :
  wpAny (model X.prog X.w) A (getItem (.ref a) u) Q E s:=by
 rcases g with⟨kvs,k,e,ey,l⟩ | ⟨kvs,k,b,e,ey,eb,l⟩
 ·subst ey
  obtain⟨z,hd,vs,rel,dd⟩:=ZfD I.hok e;obtain⟨w',hw,rw'⟩:=Zfv.some_of (v:=v) (o:=valueAt vs k) (by rw[l]; exact rel.val k);exact wpAny_getItem_of (ZgW ry) dd.mapOf hw (h w' _ (I.tok _) rw')
 ·subst ey
  cases(show u=Zzj b from ry);obtain⟨z,hd,xs,rel,dd⟩:=ZgX I.hok e;obtain⟨w',hw,rw'⟩:=Zfv.some_of (v:=v) (o:=(atKey xs k).map (·.2)) (by rw[l]; exact rel.val k);obtain⟨p,hp,hp2⟩:=Zyu.mp hw;refine wpAny_getItem_heap (ZAm hu) (Ze8 I.hok eb) dd hp ?_;rw[hp2];exact h w' _ (I.tok _) rw'
theorem Zyg{Q:Value->Shared->Prop}(hu:A.units+1<cLine)(I:Inv X pins σ H s)(g:ZbV H a y o)(ry:RelV y u)(h:∀s',Inv X pins σ H s'->Q (.bool o.isSome) s') :
  wpAny (model X.prog X.w) A (ZzF .In u (.ref a)) Q E s:=by
 rcases g with⟨kvs,k,e,ey,l⟩ | ⟨kvs,k,b,e,ey,eb,l⟩
 ·subst ey
  obtain⟨z,hd,vs,rel,dd⟩:=ZfD I.hok e;refine wpAny_in_of (ZgW ry) hd dd.mapOf ?_;rw[<-(rel.val k).isSome_eq,<-l];exact h _ (I.tok _)
 ·subst ey
  cases(show u=Zzj b from ry);obtain⟨z,hd,xs,rel,dd⟩:=ZgX I.hok e;refine wpAny_in_heap (ZAm hu) (Ze8 I.hok eb) hd dd ?_;have q:=(rel.val k).isSome_eq;rw[ZzW]at q;rw[<-q,<-l];exact h _ (I.tok _)
theorem ZuX{Q:Value->Shared->Prop}(hu:A.units+1<cLine)(I:Inv X pins σ H s)(g:ZbV H a y o)(ry:RelV y u)(h:∀s',Inv X pins σ H s'->Q (.bool (!o.isSome)) s') :
  wpAny (model X.prog X.w) A (ZzF .NotIn u (.ref a)) Q E s:=by
 rcases g with⟨kvs,k,e,ey,l⟩ | ⟨kvs,k,b,e,ey,eb,l⟩
 ·subst ey
  obtain⟨z,hd,vs,rel,dd⟩:=ZfD I.hok e;refine wpAny_notIn_of (ZgW ry) hd dd.mapOf ?_;rw[<-(rel.val k).isSome_eq,<-l];exact h _ (I.tok _)
 ·subst ey
  cases(show u=Zzj b from ry);obtain⟨z,hd,xs,rel,dd⟩:=ZgX I.hok e;refine wpAny_notIn_heap (ZAm hu) (Ze8 I.hok eb) hd dd ?_;have q:=(rel.val k).isSome_eq;rw[ZzW]at q;rw[<-q,<-l];exact h _ (I.tok _)
theorem Zjw{h':Heap}{t':Nat}{ob:HO}(I:Inv X pins σ H s)(mu:Mut (H a))(hs:ZAq a s.heap h')(he:∃q,h'.get? a=some q)(new:Zab X.prog X.w (upd H a ob) h' a ob) :
  Inv X pins σ (upd H a ob) { s with heap:=h',toks:=t' } :=
 I.write (x:=a) (e:=a) mu (.inl rfl) (λb q hb z=>(hs.2 b hb).trans z) he new
theorem Zsq{P:Program}{w:World}{H':Hp}{h':Heap}{kvs:List (Key × V)}{vs:List (Key × Value)}(z:kvs.length<=sizeLine)(hd:(a==Zz0)=false)(rel:KV kvs vs)(dd:h'.DictOf (Zah P w) a vs) :
  Zab P w H' h' a (.dK kvs):=⟨z,hd,vs,rel,dd⟩
theorem Zsf{H':Hp}{Q:Unit->Shared->Prop}(hu:A.units+1<cLine)(I:Inv X pins σ H s)(g:Zih H a y v H')(ry:RelV y u)(rv:RelV v r)(h:∀s',Inv X pins σ H' s'->Q () s') :
  wpAny (model X.prog X.w) A (setItem (.ref a) u r) Q E s:=by
 rcases g with⟨kvs,k,e,ey,l,eH⟩ | ⟨kvs,k,b,e,ey,eb,l,eH⟩
 ·subst ey eH
  obtain⟨z,hd,vs,rel,dd⟩:=Zrn I.hok e;have hz:vs.length<=sizeLine:=by rw[<-rel.length]; exact z
  have hl:(putK kvs k v).length<=sizeLine:=by have:=Zhh kvs k v; omega
  refine wpAny_setItem_pairs (hsz:=hz) (ZgW ry) dd λh' dd' hs=>h _ ?_;have he:∃q,h'.get? a=some q:=let ⟨q,_,_,hq,_⟩:=dd'; ⟨q,hq⟩
  exact Zjw I (by rw[e]; exact ZBC) hs he (Zsq hl hd (rel.put k rv) dd')
 ·subst ey eH
  cases(show u=Zzj b from ry);obtain⟨z,hd,xs,rel,dd⟩:=Zup I.hok e;have hz:xs.length<=sizeLine:=by rw[<-ZA7 rel]; exact z
  have hl:(putK kvs k v).length<=sizeLine:=by have:=Zhh kvs k v; omega
  refine wpAny_setItem_heap (hsz:=hz) (ZAm hu) (Ze8 I.hok eb) dd λh' dd' hs=>h _ ?_;obtain⟨q,es,ep,hq,h2,h3,h4,_,h5⟩:=dd';refine Zjw I (by rw[e]; exact ZBC) hs ⟨q,hq⟩ ⟨hl,hd,_,(rel.put k eb rv).keeps λc ys ec=>?_,q,es,ep,hq,h2,h3,h4,h5⟩;rw[ZA (Zuv ec e (λz=>nomatch z))];exact ec
end
section
variable{X:Cx}{pins:List (Addr × Obj)}{σ:St}{H:Hp}{s:Shared}{a:Addr}{kvs:List (Key × V)}{k:Key}{u:Value}{A:Around}{E:Value->Shared->Prop}
theorem Zxl{Q:Value->Shared->Prop}(I:Inv X pins σ H s)(e:Rd H a (.dK kvs))(h:∀t s',Inv X pins σ H s'->Q (.int kvs.length t) s'):wpAny (model X.prog X.w) A (call (.builtin "len") [.ref a]) Q E s:=by obtain⟨z,hd,vs,rel,dd⟩:=ZfD I.hok e;refine call_len_dict hd dd (by rw[<-rel.length]; rw[ZzP]at z; omega) ?_;rw[<-rel.length];exact h _ _ (I.tok _)
end
def Zo9(i:Expr):Prop:=∀ov iv,ZC8 i false ov iv=operate [ov,iv] (getItem ov iv)
theorem ZuI{prog:Program}{w:World}{A:Around}{E:Value->Shared->Prop}{s:Shared}{env:Env}{value slice:Expr}{pos:Pos}{T id:String}{Q:Value->Shared->Prop}
  (hl:typeLookup (.type T) "__getitem__" = pure (some (.builtin id))) (hs:Zo9 slice)
  (h:wpAny (model prog w) A (eval value env) (λo s₁=>wpAny (model prog w) A (eval slice env) (λi s₂=>s₂.TypeIs o T/\wpAny (model prog w) A (getItem o i) Q E s₂) E s₁) E s) :
  wpAny (model prog w) A (eval (.Subscript value slice pos) env) Q E s:=by
 refine Subscript_ (ZzJ h (λo s₁ h₁=>ZzJ h₁ (λi s₂ h₂=>?_) λ_ _ x=>x) λ_ _ x=>x);obtain⟨hT,h₂⟩:=h₂;unfold subscriptTail;refine Zyr ?_;rw[getitemInPython_of_ne hT.not_modules];refine Zyr (wpAny_specialOf hT hl ?_);have fin:wpAny (model prog w) A (ZC8 slice false o i) (λr s₃=>wpAny (model prog w) A (letTemporaryGo value o r >>= λ_=>pure r) Q E s₃) E s₂:=by rw[hs o i];exact wpAny_operating (ZzJ h₂ (λr s₃ h₃=>Zyr (wpAny_letTemporaryGo (Zyv h₃))) λ_ _ x=>x)
 first
  | exact Zyv (Zyr fin)
  | exact Zyr (Zyv (Zyr fin))
  | exact Zyr fin
theorem ZpJ{X:Cx}{pins:List (Addr × Obj)}{σ:St}{H:Hp}{s:Shared}{a:Addr}{y:V}{o:Option V}(I:Inv X pins σ H s)(g:ZbV H a y o):s.TypeIs (.ref a) "dict":=by
 rcases g with⟨kvs,k,e,_,_⟩ | ⟨kvs,k,b,e,_,_,_⟩
 ·obtain⟨_,_,vs,_,dd⟩:=ZfD I.hok e
  exact dd.typeIs
 ·obtain⟨_,_,xs,_,dd⟩:=ZgX I.hok e
  exact dd.typeIs
def Zxf(td ty:TE):TE:=λσ H Q=>td σ H λx H1=>ty σ H1 λy H2=>∃a v,x=.ref a/\ZbV H2 a y (some v)/\Q v H2
def Zya(ty td:TE):TE:=λσ H Q=>ty σ H λy H1=>td σ H1 λx H2=>∃a o,x=.ref a/\ZbV H2 a y o/\Q (.bl o.isSome) H2
def Zvr(ty td:TE):TE:=λσ H Q=>ty σ H λy H1=>td σ H1 λx H2=>∃a o,x=.ref a/\ZbV H2 a y o/\Q (.bl (!o.isSome)) H2
def Zw4(td ty tv:TE):TS:=λD σ H=>tv σ H λv H1=>td σ H1 λx H2=>ty σ H2 λy H3=>∃a H4,x=.ref a/\Zih H3 a y v H4/\D.nx σ H4
section
variable{X:Cx}{o i e value:Expr}{pos pos' tpos:Pos}{td ty tv:TE}
theorem ZlH(hu:X.A.units+1<cLine)(ho:PE X o td)(hi:PE X i ty)(hs:Zo9 i):PE X (.Subscript o i pos) (Zxf td ty):=by intro pins s σ H Q I h;refine ZuI PySem.F.slot_dict_getitem.lookup hs (thn (ho pins s σ H _ I h) λu s1 ⟨x,H1,I1,rx,q1⟩=>thn (hi pins s1 σ H1 _ I1 q1) λiv s2 ⟨y,H2,I2,ry,a,v,ex,g,q2⟩=>?_);subst ex;obtain rfl:u=Zzj a:=rx;exact⟨ZpJ I2 g,Zr2 hu I2 g ry λw' s3 I3 rw'=>⟨v,H2,I3,rw',q2⟩⟩
theorem ZwT(hu:X.A.units+1<cLine)(hi:PE X i ty)(ho:PE X o td):PC X .In i o (Zya ty td):=by intro pins s σ H Q I h;refine thn (hi pins s σ H _ I h) λiv s1 ⟨y,H1,I1,ry,q1⟩=>thn (ho pins s1 σ H1 _ I1 q1) λu s2 ⟨x,H2,I2,rx,a,ov,ex,g,q2⟩=>?_;subst ex;obtain rfl:u=Zzj a:=rx;exact Zyg hu I2 g ry λs3 I3=>⟨.bl ov.isSome,H2,I3,rfl,q2⟩
theorem Zl6(hu:X.A.units+1<cLine)(hi:PE X i ty)(ho:PE X o td):PC X .NotIn i o (Zvr ty td):=by intro pins s σ H Q I h;refine thn (hi pins s σ H _ I h) λiv s1 ⟨y,H1,I1,ry,q1⟩=>thn (ho pins s1 σ H1 _ I1 q1) λu s2 ⟨x,H2,I2,rx,a,ov,ex,g,q2⟩=>?_;subst ex;obtain rfl:u=Zzj a:=rx;exact ZuX hu I2 g ry λs3 I3=>⟨.bl (!ov.isSome),H2,I3,rfl,q2⟩
theorem ZlN(hu:X.A.units+1<cLine)(ho:PE X o td)(hi:PE X i ty)(hv:PE X value tv)(hs:ZAE value (some (.Subscript o i pos')) pos.line X.env=pure false) :
  PS X (.Assign [.Subscript o i pos'] value pos) (Zw4 td ty tv):=by
 intro pins s σ H D I h;refine wpAny_Assign_Subscript (thn (hv pins s σ H _ I h) λr s1 ⟨v,H1,I1,rv,q1⟩=>thn (ho pins s1 σ H1 _ I1 q1) λu s2 ⟨x,H2,I2,rx,q2⟩=>thn (hi pins s2 σ H2 _ I2 q2) λiv s3 ⟨y,H3,I3,ry,a,H4,ex,g,q3⟩=>?_) hs;subst ex;obtain rfl:u=Zzj a:=rx;exact Zsf hu I3 g ry rv λs4 I4=>⟨σ,H4,I4,q3⟩
end
theorem ZnZ{P:Program}{w:World}{H:Hp}(h:Heap)(hb:Zz0<h.objs.size):Zab P w H (h.push { cls:=.type "dict",data:=.dict #[] }) h.objs.size (.dK []) :=
 ⟨ZzS _,beq_eq_false_iff_ne.mpr (Zzu (ZyQ hb)),[],.nil,Heap.DictOf.new h⟩
theorem ZtU{P:Program}{w:World}{H:Hp}(h:Heap)(hb:Zz0<h.objs.size):Zab P w H (h.push { cls:=.type "dict",data:=.dict #[] }) h.objs.size (.dT []) :=
 ⟨ZzS _,beq_eq_false_iff_ne.mpr (Zzu (ZyQ hb)),[],.nil,_,#[],0,ZyO _ rfl,⟨rfl,rfl,rfl⟩,rfl,rfl,ZAb⟩
def ZwW:TE:=λ_ H Q=>∀p,H p=none->Q (.ref p) (upd H p (.dK []))
def ZvG:TE:=λ_ H Q=>∀p,H p=none->Q (.ref p) (upd H p (.dT []))
section
variable{X:Cx}{pos:Pos}
theorem ZtC:PE X (.Dict [] [] pos) ZwW:=λpins s σ H Q I h=>wpAny_Dict_empty ⟨.ref s.heap.objs.size,_,I.laid (a:=s.heap.objs.size) (o:=.dK []) (t':=s.toks) (λ_ _ q=>Zyy _ q) (ZyB _) (ZnZ s.heap I.big),rfl,h _ (I.hok.fresh (ZyB _))⟩
theorem Zpj:PE X (.Dict [] [] pos) ZvG:=λpins s σ H Q I h=>wpAny_Dict_empty ⟨.ref s.heap.objs.size,_,I.laid (a:=s.heap.objs.size) (o:=.dT []) (t':=s.toks) (λ_ _ q=>Zyy _ q) (ZyB _) (ZtU s.heap I.big),rfl,h _ (I.hok.fresh (ZyB _))⟩
end
def Zo2:List (TE × TE)->St->Hp->(List (V × V)->Hp->Prop)->Prop
 | [],_,H,Q=>Q [] H
 | (tk,tv)::r,σ,H,Q=>tk σ H λx H1=>tv σ H1 λy H2=>Zo2 r σ H2 λps H3=>Q ((x,y)::ps) H3
abbrev VV:List (V × V)->List (Value × Value)->Prop:=Paired λp q=>RelV p.1 q.1/\RelV p.2 q.2
def PPs(X:Cx)(pos:Pos)(keys:List (Option Expr))(values:List Expr)(trs:List (TE × TE)):Prop :=
 ∀(pins:List (Addr × Obj)) (s:Shared) (σ:St) (H:Hp) (Q:List (V × V)->Hp->Prop),Inv X pins σ H s->Zo2 trs σ H Q ->
  wpAny (model X.prog X.w) X.A (evalPairs (pairTrees keys values X.env pos)) (λvs s'=>∃ps H',Inv X pins σ H' s'/\VV ps vs/\Q ps H') X.xe s
theorem ZuM{X:Cx}{pos:Pos}:PPs X pos [] [] []:=λpins s σ H Q I h=>pairTrees_nil_walk ⟨[],H,I,.nil,h⟩
theorem ZtF{X:Cx}{pos:Pos}{k v:Expr}{ks:List (Option Expr)}{vs:List Expr}{tk tv:TE}{trs:List (TE × TE)}(hk:PE X k tk)(hv:PE X v tv)(hr:PPs X pos ks vs trs) :
  PPs X pos (some k::ks) (v::vs) ((tk,tv)::trs):=λpins s σ H Q I h =>
 pairTrees_cons_walk (thn (hk pins s σ H _ I h) λu s1 ⟨x,H1,I1,rx,q1⟩=>thn (hv pins s1 σ H1 _ I1 q1) λw2 s2 ⟨y,H2,I2,ry,q2⟩=>thn (hr pins s2 σ H2 _ I2 q2) λws s3 ⟨ps,H3,I3,rel,q3⟩=>⟨(x,y)::ps,H3,I3,.cons ⟨rx,ry⟩ rel,q3⟩)
def ZhD(kvs more:List (Key × V)):List (Key × V):=more.foldl (λacc kv=>putK acc kv.1 kv.2) kvs
theorem KV.merge:∀{more:List (Key × V)} {rs:List (Key × Value)} {kvs:List (Key × V)} {vs:List (Key × Value)},KV more rs->KV kvs vs->KV (ZhD kvs more) (merged vs rs):=by
 intro more rs kvs vs r;unfold KV at r
 induction r generalizing kvs vs with
 | nil=>intro q; exact q
 | @cons p q ps qs h t ih =>
  intro r0;have e:KV (putK kvs p.1 p.2) (stored vs q.1 q.2):=by have:=r0.put p.1 h.2;rw[<-h.1]; exact this
  exact ih e
theorem Zit:∀(more kvs:List (Key × V)),(ZhD kvs more).length<=kvs.length+more.length
 | [],kvs=>by show kvs.length<=kvs.length+0; omega
 | p::r,kvs=>by have h1:=Zit r (putK kvs p.1 p.2);have h2:=Zhh kvs p.1 p.2;show(ZhD (putK kvs p.1 p.2) r).length<=_;rw[ZyI]; omega
theorem ZkZ{P:Program}{w:World}:∀{kvs:List (Key × V)} {ws:List (Value × Value)},VV (kvs.map λkv=>(kV kv.1,kv.2)) ws->∃rs,Carries (Zah P w) ws rs/\KV kvs rs
 | [],_,r=>by rw[ZAs]at r; cases r; exact⟨[],ZBC,.nil⟩
 | p::kvs,_,r=>by
  rw[Zyz]at r;cases r with
  | @cons a b as bs h t=>obtain⟨rs,c,q⟩:=ZkZ (P:=P) (w:=w) t;obtain⟨b1,b2⟩:=b;exact⟨(p.1,b2)::rs,⟨ZgW h.1,rfl,c⟩,.cons ⟨rfl,h.2⟩ q⟩
def Zxg(trs:List (TE × TE)):TE:=λσ H Q=>∀p,H p=none->Zo2 trs σ (upd H p (.dK [])) λps H2=>H2 p=some (.dK [])/\∃kvs:List (Key × V),ps=kvs.map (λkv=>(kV kv.1,kv.2))/\kvs.length<=15/\Q (.ref p) (upd H2 p (.dK (ZhD [] kvs)))
theorem Zu7{X:Cx}{pos:Pos}{keys:List (Option Expr)}{values:List Expr}{trs:List (TE × TE)}(h:PPs X pos keys values trs)(hall:keys.all (·.isSome)=true)(hl:keys.length=values.length)(h0:keys≠[])
  (h15:keys.length<=15):PE X (.Dict keys values pos) (Zxg trs):=by
 intro pins s σ H Q I q;have hn:=I.hok.fresh (ZyB s.heap.objs.size);have I1:=I.laid (a:=s.heap.objs.size) (o:=.dK []) (h':=s.heap.push { cls:=.type "dict",data:=.dict #[] }) (t':=s.toks) (λ_ _ q=>Zyy _ q) (ZyB _) (ZnZ s.heap I.big);refine wpAny_Dict_walk (knd:=Zah X.prog X.w) hall hl h0 h15 (thn (h pins _ σ _ _ I1 (q _ hn)) λws s2 ⟨ps,H2,I2,rel,e,kvs,ep,lk,q2⟩=>?_);subst ep;obtain⟨rs,c,rk⟩:=ZkZ (P:=X.prog) (w:=X.w) rel;obtain⟨z,hd,vs0,r0,dd⟩:=Zrn I2.hok e;cases r0;refine⟨rs,c,dd,λh' dd' hs=>⟨.ref s.heap.objs.size,_,?_,rfl,q2⟩⟩;have hz:(ZhD [] kvs).length<=sizeLine:=by have h1:=Zit kvs [];rw[ZC0]at h1;rw[ZzP]; omega
 have he:∃q,h'.get? s.heap.objs.size=some q:=let ⟨q,_,_,hq,_⟩:=dd'; ⟨q,hq⟩
 exact Zjw I2 (by rw[e]; exact ZBC) hs he (Zsq hz hd (rk.merge .nil) dd')
structure M1(X:Cx)(o:Expr)(m:Str)(apos:Pos)(e:Expr)(cpos:Pos):Prop where
 base:ZAx o m X.env (eval o X.env)=eval o X.env
 few:((backTo cpos (ZyF [e] X.env)).all (λx=>!x.1)&&(ZCf cpos (ZBp [] X.env)).all (λx=>x.1.isSome)
  && decide (([e]:List Expr).length+([]:List Keyword).length+(if([]:List Keyword).isEmpty then 0 else 1)<30))=true
 line:(apos.endLine==cpos.line)=true
 trees:backTo cpos (ZyF [e] X.env)=[(false,eval e X.env)]
structure M2(X:Cx)(o:Expr)(m:Str)(apos:Pos)(e f:Expr)(cpos:Pos):Prop where
 base:ZAx o m X.env (eval o X.env)=eval o X.env
 few:((backTo cpos (ZyF [e,f] X.env)).all (λx=>!x.1)&&(ZCf cpos (ZBp [] X.env)).all (λx=>x.1.isSome)
  && decide (([e,f]:List Expr).length+([]:List Keyword).length+(if([]:List Keyword).isEmpty then 0 else 1)<30))=true
 line:(apos.endLine==cpos.line)=true
 trees:backTo cpos (ZyF [e,f] X.env)=[(false,eval e X.env),(false,eval f X.env)]
def IsD(H:Hp)(a:Addr):Prop:=(∃kvs,Rd H a (.dK kvs))\/∃kvs,Rd H a (.dT kvs)
theorem Zn9{X:Cx}{pins:List (Addr × Obj)}{σ:St}{H:Hp}{s:Shared}{a:Addr}(I:Inv X pins σ H s)(d:IsD H a) :
  s.TypeIs (.ref a) "dict"/\(∀b,Zzj a=.ref b->∃ob,s.heap.get? b=some ob/\ob.dict=none)/\(a==Zz0)=false:=by
 rcases d with⟨kvs,e⟩ | ⟨kvs,e⟩
 ·obtain⟨_,hd,vs,_,dd⟩:=ZfD I.hok e
  refine⟨dd.typeIs,λb q=>?_,hd⟩;cases q;obtain⟨ob,_,_,h1,h2,_⟩:=dd;exact⟨ob,h1,h2.2.1⟩
 ·obtain⟨_,hd,xs,_,dd⟩:=ZgX I.hok e
  refine⟨dd.typeIs,λb q=>?_,hd⟩;cases q;obtain⟨ob,_,_,h1,h2,_⟩:=dd;exact⟨ob,h1,h2.2.1⟩
section
variable{X:Cx}{pins:List (Addr × Obj)}{σ:St}{H:Hp}{s:Shared}{a:Addr}{y d:V}{u r:Value}{o:Option V}{A:Around}{E:Value->Shared->Prop}
theorem ZvI{Q:Value->Shared->Prop}(hu:A.units+1<cLine)(I:Inv X pins σ H s)(g:ZbV H a y o)(ry:RelV y u)(h:∀w' s',Inv X pins σ H s'->RelV (o.getD .non) w'->Q w' s') :
  wpAny (model X.prog X.w) A (call (.builtin "dict.get") [.ref a,u]) Q E s:=by
 rcases g with⟨kvs,k,e,ey,l⟩ | ⟨kvs,k,b,e,ey,eb,l⟩
 ·subst ey
  obtain⟨z,hd,vs,rel,dd⟩:=ZfD I.hok e;refine ZB5 ZAn dd.typeIs ZA9 (ZCW _ _) (meets_dict_get (Zah X.prog X.w) a (ZgW ry) hd) ⟨_,dd.mapOf,h _ _ (I.tok _) ?_⟩;rw[l];exact(rel.val k).getD rfl
 ·subst ey
  cases(show u=Zzj b from ry);obtain⟨z,hd,xs,rel,dd⟩:=ZgX I.hok e;refine ZB5 ZAn dd.typeIs ZA9 (ZCW _ _) (meetsH_dict_get (ZBg (Zah X.prog X.w)) a b hd) ⟨ZAm hu,k,xs,Ze8 I.hok eb,dd,h _ _ (I.tok _) ?_⟩;rw[l];exact(rel.val k).getD rfl
theorem ZvZ{Q:Value->Shared->Prop}(hu:A.units+1<cLine)(I:Inv X pins σ H s)(g:ZbV H a y o)(ry:RelV y u)(rd:RelV d r)(h:∀w' s',Inv X pins σ H s'->RelV (o.getD d) w'->Q w' s') :
  wpAny (model X.prog X.w) A (call (.builtin "dict.get") [.ref a,u,r]) Q E s:=by
 rcases g with⟨kvs,k,e,ey,l⟩ | ⟨kvs,k,b,e,ey,eb,l⟩
 ·subst ey
  obtain⟨z,hd,vs,rel,dd⟩:=ZfD I.hok e;refine ZB5 ZAn dd.typeIs ZA9 (ZCX _ _ _) (meets_dict_get_default (Zah X.prog X.w) a (ZgW ry) hd r) ⟨_,dd.mapOf,h _ _ (I.tok _) ?_⟩;rw[l];exact(rel.val k).getD rd
 ·subst ey
  cases(show u=Zzj b from ry);obtain⟨z,hd,xs,rel,dd⟩:=ZgX I.hok e;refine ZB5 ZAn dd.typeIs ZA9 (ZCX _ _ _) (meetsH_dict_get_default (ZBg (Zah X.prog X.w)) a b hd r) ⟨ZAm hu,k,xs,Ze8 I.hok eb,dd,h _ _ (I.tok _) ?_⟩;rw[l];exact(rel.val k).getD rd
end
def Zwm(td ty:TE):TE:=λσ H Q=>td σ H λx H1=>∃a,x=.ref a/\IsD H1 a/\ty σ H1 λy H2=>∃o,ZbV H2 a y o/\Q (o.getD .non) H2
def ZvQ(td ty tx:TE):TE:=λσ H Q=>td σ H λx H1=>∃a,x=.ref a/\IsD H1 a/\ty σ H1 λy H2=>tx σ H2 λz H3=>∃o,ZbV H3 a y o/\Q (o.getD z) H3
section
variable{X:Cx}{o e f:Expr}{apos cpos:Pos}{td ty tx:TE}
theorem ZtJ(hu:X.A.units+1<cLine)(ho:PE X o td)(he:PE X e ty)(m:M1 X o "get" apos e cpos):PE X (.Call (.Attribute o "get" apos) [e] [] cpos) (Zwm td ty):=by intro pins s σ H Q I h;refine ZCB m.base m.few m.line ZBH ZAn ZDd (thn (ho pins s σ H _ I h) λu s1 ⟨x,H1,I1,rx,a,ex,d,q1⟩=>?_);subst ex;obtain rfl:u=Zzj a:=rx;obtain⟨t1,t2,_⟩:=Zn9 I1 d;refine⟨t1,t2,?_⟩;rw[m.trees];refine ZAC rfl (ZBj (ZAF (thn (he pins s1 σ H1 _ I1 q1) λiv s2 ⟨y,H2,I2,ry,ov,g,q2⟩=>ZBK ?_)));exact ZvI hu I2 g ry λw' s3 I3 rw'=>⟨_,H2,I3,rw',q2⟩
theorem Zth(hu:X.A.units+1<cLine)(ho:PE X o td)(he:PE X e ty)(hf:PE X f tx)(m:M2 X o "get" apos e f cpos):PE X (.Call (.Attribute o "get" apos) [e,f] [] cpos) (ZvQ td ty tx):=by intro pins s σ H Q I h;refine ZCB m.base m.few m.line ZBH ZAn ZDd (thn (ho pins s σ H _ I h) λu s1 ⟨x,H1,I1,rx,a,ex,d,q1⟩=>?_);subst ex;obtain rfl:u=Zzj a:=rx;obtain⟨t1,t2,_⟩:=Zn9 I1 d;refine⟨t1,t2,?_⟩;rw[m.trees];refine ZAC rfl (ZBj (ZAF (thn (he pins s1 σ H1 _ I1 q1) λiv s2 ⟨y,H2,I2,ry,q2⟩=>ZAF (thn (hf pins s2 σ H2 _ I2 q2) λfv s3 ⟨z,H3,I3,rz,ov,g,q3⟩=>ZBK ?_))));exact ZvZ hu I3 g ry rz λw' s4 I4 rw'=>⟨_,H3,I4,rw',q3⟩
end
end L2
namespace Att
open PySem PySem.W PySem.Calls PyProof.Rows
theorem ZkW{P:Params}{h:Heap}:∀(ns:List Int) (vs:List Value),WellAll P h vs (ns.map WData.int)->IntsAre vs ns:=by
 intro ns
 induction ns with
 | nil=>intro vs w;rw[ZAs]at w;cases w;exact .nil
 | cons n ns ih =>
  intro vs w;rw[Zyz]at w;cases w with
  | cons a b=>cases a;exact .cons _ _ (ih _ b)
theorem Zst{l:OpenLaw}{n:Nat}(hn:l.most=some n){P:Params}{h:Heap}{args:List WData}{vals:List Value}
  (hpre:l.row.toRowW.claim.pre args=true) (hwl:WellAll P h vals args) :
  ∃a vs ns,vals=[Zzj a]/\args=[WData.list (ns.map WData.int)]/\h.get? a=some { cls:=.type "list",data:=.seq vs.toArray }/\IntsAre vs ns/\ns.length<=n:=by
 have hsh:WShape.hasAll [] args [.list .int]=true:=(pre_splitW hpre).1;have hc:l.pre.holds [] { args:=args }=true:=(pre_splitW hpre).2;obtain⟨d,r,rfl,h1,h2⟩:=hasAllW_cons hsh;obtain rfl:=hasAllW_nil h2;obtain⟨xs,rfl,h3⟩:=hasW_list h1;obtain⟨ns,rfl⟩:=items_int h3;have hlen:ns.length<=n:=by
  unfold OpenLaw.pre at hc;have h4:(WTm.not (.lt (.lit (.int (n:Int))) (.len (.arg 0)))).holds [] { args:=[.list (ns.map .int)] }=true:=by have h4:=(holds_andW hc).1;rw[hn]at h4;exact h4
  have h5:=condW_of h4 (w_not (w_lt w_lit (w_len_list (w_arg rfl))));rw[Zyt]at h5;refine ZBk λq=>?_;have q':(n:Int)<((ns.length:Nat):Int):=by omega
  first
   | (rw[decide_eq_true q']at h5; exact absurd h5 (by decide))
   | (simp at h5; omega)
 cases hwl with
 | cons w1 w2 =>
  cases w2;cases w1 with
  | list ho hall=>exact⟨_,_,ns,rfl,rfl,ho,ZkW ns _ hall,hlen⟩
theorem Zsx(l:OpenLaw)(args:List WData):l.row.toRowW.claim.post args (.bool true) args=true :=
 postW_of (r:=l.row.toRowW) (X:=(true==true))
  (show WShape.has [] (.bool true) .bool=true by first | rfl | decide | simp[WShape.has,WShape.arms,WShape.armsAll])
  (show(WTm.eq .res (.lit (.bool true))).value [] { args:=args,res:=some (.bool true),after:=args }=some (.bool (true==true)) from w_eq_bool (w_res rfl) w_lit) rfl
theorem ZpP{l:OpenLaw}{n:Nat}{q:Program}{loose:List Str}{XP:(Str->Option Value)->Heap->Prop}{YP:World->Heap->Prop}{d:DefRec}
  (hn:l.most=some n) (hdf:d.params.defaults=[])
  (call:∀(w:World) (s₀ s₁:Shared) (mg mb:Str->Option Value) (fa:Addr) (o:Obj) (pm cd doc:Value) (a:Addr) (vs:List Value) (ns:List Int),
   Ground q loose [] XP w s₀ mg mb s₁.heap->YP w s₁.heap ->
   s₁.heap.get? fa=some o->o.data=.func (docDef d.name d.params d.body d.scope pm cd doc)->s₁.heap.CodeRec cd d.name->mg d.name=some (.ref fa) ->
   s₁.heap.get? a=some { cls:=.type "list",data:=.seq vs.toArray }->IntsAre vs ns->ns.length<=n->s₁.gens=#[] ->
   codeAny (model l.prog w) callerA (.call (.ref fa) ⟨[.ref a],[]⟩) (λr s'=>r=.ok (.ret (.bool true))/\OldK s₁.heap s'.heap/\s'.os=s₁.os/\AllBare s'.gens) s₁) :
  WalkO q loose XP YP l.row.toRowW d [] (λf vs=>PySem.call f vs):=by
 intro w s₀ s₁ mg mb G Y fa o pm cd doc dV kV ho hd hcd hD hmg hg args vals as hpre hlay hrd hwl hlo;obtain rfl:dV=.none:=Dflts.none hD hdf;obtain rfl:kV=.none:=Dflts.noKw hD;obtain⟨a,vs,ns,rfl,rfl,hobj,hints,hlen⟩:=Zst hn hpre hwl;refine enter_call (ZAG (call w s₀ s₁ mg mb fa o pm cd doc a vs ns G Y ho (fd_plain hd) hcd hmg hobj hints hlen hg) λr s' hq=>?_);obtain⟨rfl,h2,h3,h4⟩:=hq;exact⟨.inl ⟨.bool true,.bool true,[],rfl,λ_=>rfl,.bool true,Zsx l _,λ_=>⟨List.Pairwise.nil,λ_ hm=>(nomatch hm)⟩⟩,h2,h3,h4⟩
end Att
namespace L2
open PySem PySem.Spec PyProof.Rows
theorem Zmn:∀{vs:List Value} {ns:List Int},IntsAre vs ns->Vals (ns.map V.int) vs
 | _,_,.nil=>.nil
 | _,_,.cons n t h=>.cons ⟨t,rfl⟩ (Zmn h)
end L2
namespace L2
open PySem PySem.Spec PyProof.Rows
end L2
namespace L2
open PySem PySem.Spec PyProof.Rows
def Zcf(s:Stmt):Arguments:=match s with
 | .FunctionDef _ a _ _ _ _ _ _ _ _=>a
 | _=>{ posonlyargs:=[],args:=[],vararg:=none,kwonlyargs:=[],kw_defaults:=[],kwarg:=none,defaults:=[] }
def ZaT(s:Stmt):List Stmt:=match s with
 | .FunctionDef _ _ b _ _ _ _ _ _ _=>b
 | _=>[]
def Ze(s:Stmt):Scope:=match s with
 | .FunctionDef _ _ _ _ _ _ sc _ _ _=>sc
 | _=>{ kind:=.function,names:=[],isGenerator:=false,isCoroutine:=false }
abbrev CX0:CXT:=λ_ _ _ _ _ _=>False
abbrev E0:XK:=λ_ _ _=>False
theorem Znd{X:Cx}:Passes CX0 X E0:=λ_ _ _ _ _ _ _ h=>h.elim
structure Fun(K:Zys)(x qual:Str)(st:Stmt)(f:Addr)(fd:FuncData):Prop where
 ex:∃(oc:Value) (od:Option Addr) (kV doc pm:Value) (an:Option Addr) (cdv ct:Value) (osl:Array (Option Value)),
  fd=ZzM x qual (Zcf st) (ZaT st) (Ze st) .none kV doc pm an cdv ct/\K.lookup f=some ⟨oc,od,.func fd,osl⟩/\ZAA K cdv qual=true
 kp:ZzQ K (.ref f)=true
section
variable{P:Program}{w:World}{K:Zys}{mg:Str->Option Value}{base:Heap}
theorem Fun.ok{x qual:Str}{st:Stmt}{f:Addr}{fd:FuncData}{N ps:List Str}{k:Nat}{sp:Sp}(F:Fun K x qual st f fd)(S:Zw N ps (Ze st))(len:∀vs H Q E,sp vs H Q E->vs.length=ps.length)
  (hbody:∀(cdv:Value) (A:Around) (outer:List Env) (s:Shared) (H:Hp) (vs:List V) (Q:VK) (E:XK),Zas k (A.deeper (envOfC qual (Ze st) s.heap.objs.size f cdv))->sp vs H Q E ->
   ∃t,PSs (ZgA CX0 P w K mg base N qual (Ze st) f cdv A outer s H E).nox (ZaT st) t/\t { nx:=λ_ H'=>Q .non H',rt:=Q } (start N vs) H):Zdt P w K mg base CX0 (k+1) f fd ps sp:=by
 obtain⟨oc,od,kV,doc,pm,an,cdv,ct,osl,rfl,lk,hcd⟩:=F.ex;refine Zus lk hcd S len λA outer s H vs Q E hr hsp=>?_;obtain⟨t,h,q⟩:=hbody cdv A outer s H vs Q E hr hsp;exact⟨t,h.nox,q⟩
theorem Fun.binds{x qual:Str}{st:Stmt}{f:Addr}{fd:FuncData}{ps:List Str}(F:Fun K x qual st f fd)
  (h:∀(kV doc pm:Value) (an:Option Addr) (cdv ct:Value) (us:List Value),us.length=ps.length->bindArgs (ZzM x qual (Zcf st) (ZaT st) (Ze st) .none kV doc pm an cdv ct) ⟨us,[]⟩=pure (ps.zip us)):Binds K fd ps []:=by
 obtain⟨oc,od,kV,doc,pm,an,cdv,ct,osl,rfl,lk,hcd⟩:=F.ex;exact .all (h kV doc pm an cdv ct)
theorem Zn6{x qual:Str}{st:Stmt}{f:Addr}{oc:Value}{od an:Option Addr}{osl:Array (Option Value)}{kV doc pm cdv ct:Value}(l:K.lookup f=some ⟨oc,od,.func (ZzM x qual (Zcf st) (ZaT st) (Ze st) .none kV doc pm an cdv ct),osl⟩)
  (c:ZAA K cdv qual=true) (k:ZzQ K (.ref f)=true):Fun K x qual st f (ZzM x qual (Zcf st) (ZaT st) (Ze st) .none kV doc pm an cdv ct):=⟨⟨oc,od,kV,doc,pm,an,cdv,ct,osl,rfl,l,c⟩,k⟩
end
theorem ZI{A:Around}{k:Nat}(hr:Zas k A):A.units+1<cLine:=Nat.lt_of_le_of_lt (Nat.add_le_add_left (by decide:1<=64) _) hr.units
theorem ZlA{A B:Prop}(h:B):if false=true then A else B:=by rw[if_neg Zzc];exact h
theorem Zlw{A B:Prop}(h:A):if true=true then A else B:=by rw[if_pos rfl];exact h
def Zq(H H':Hp):Prop:=∀b o,H b=some o->H' b=some o
theorem Zq.refl(H:Hp):Zq H H:=λ_ _ h=>h
theorem Zq.trans{H H1 H2:Hp}(a:Zq H H1)(b:Zq H1 H2):Zq H H2:=λc o h=>b c o (a c o h)
theorem Zq.free{H H':Hp}(e:Zq H H'){l:Addr}(h:H' l=Option.none):H l=Option.none:=by
 cases q:H l with
 | none=>rfl
 | some o=>rw[e l o q]at h;cases h
theorem Zq.seq{K:Zys}{H H':Hp}{a:Addr}{xs:List V}(e:Zq H H')(h:SqL K H a xs):SqL K H' a xs:=by
 rcases h with(h | ⟨o,h⟩) | h
 ·exact .inl (.inl (e _ _ h))
 ·exact .inl (.inr ⟨o,e _ _ h⟩)
 ·exact .inr h
end L2
namespace L2
open PySem PySem.Spec PyProof.Rows
section
variable{X:Cx}
theorem ZsC:Za4 X (.builtin "len") (λxs H Q=>∃a kvs,xs=[V.ref a]/\H a=some (.dK kvs)/\Q (.int kvs.length) H):=by intro pins s σ H xs us Q I r h;obtain⟨a,kvs,rfl,ha,q⟩:=h;obtain⟨u,rfl,ru⟩:=vals1 r;cases ru;exact Zxl I (.inl ha) λt s' I'=>⟨.int kvs.length,H,I',⟨t,rfl⟩,q⟩
end
end L2
namespace HM
open PySem
abbrev D:=PyData
abbrev Ky:=Sum Int Str
inductive B where
 | pl (d:D)
 | ol (ds:List D)
 | ok (kvs:List (Ky × D))
 | ot (kvs:List (List Ky × D))
 | otl (kvs:List (List Ky × List D))
 | hd (es:List (D × D))
abbrev Env:=List (Option B)
inductive Out where
 | nx (r:Env)
 | rt (d:D)
 | bk (r:Env)
 | ct (r:Env)
abbrev EF:=Env->Option D
abbrev BF:=Env->Option B
abbrev TF:=Env->Option Bool
abbrev IF:=Env->Option (List D)
abbrev AF:=Env->Option (List D)
abbrev SF:=Env->Option Out
@[simp] def big:Nat:=1000000
@[simp] def Zb(i:Nat):EF:=λr=>match r[i]? with
 | some (some (.pl d))=>some d
 | _=>none
@[simp] def Zo(i:Nat):BF:=λr=>match r[i]? with
 | some (some b)=>some b
 | _=>none
@[simp] def bOf(f:EF):BF:=λr=>(f r).map B.pl
def ZaH:Ky->D
 | .inl i=>.int i
 | .inr x=>.str x
def Zj(kvs:List (List Ky × D)):List (D × D):=kvs.map λp=>(.tuple (p.1.map ZaH),p.2)
@[simp] def frz:B->Option D
 | .pl d=>some d
 | .ol ds=>some (.list ds)
 | .ot kvs=>some (.dict (Zj kvs))
 | .hd es=>some (.dict es)
 | _=>none
@[simp] def eOf(f:BF):EF:=λr=>(f r).bind frz
@[simp] def eC(d:D):EF:=λ_=>some d
@[simp] def op2(g:D->D->Option D)(a b:EF):EF:=λr=>match a r with
 | some x=>match b r with
  | some y=>g x y
  | none=>none
 | none=>none
@[simp] def Zfr(g:Int->Int->Option D):D->D->Option D
 | .int i,.int j=>g i j
 | _,_=>none
def Z1(i:Int):Bool:=Nat.blt i.natAbs 18446744073709551616
@[simp] def Zbi(x y:D):Option D:=Zfr (λi j=>some (.int (i+j))) x y
@[simp] def ZkC(x y:D):Option D:=Zfr (λi j=>some (.int (i-j))) x y
@[simp] def Zdb(x y:D):Option D:=Zfr (λi j=>if Z1 i||Z1 j then some (.int (i*j))else none) x y
@[simp] def ZlJ(x y:D):Option D:=Zfr (λi j=>if 0<j then some (.int (i % j))else none) x y
@[simp] def gLt(x y:D):Option D:=Zfr (λi j=>some (.bool (decide (i<j)))) x y
@[simp] def gLe(x y:D):Option D:=Zfr (λi j=>some (.bool (decide (i<=j)))) x y
@[simp] def gGt(x y:D):Option D:=Zfr (λi j=>some (.bool (decide (j<i)))) x y
def ZaA(d:D):Bool:=d.canLay0&&decide (d.depth<=60)
@[simp] def gEq(a b:D):Option D:=if ZaA a&&ZaA b then some (.bool (ZzB a b))else none
@[simp] def ZoD(a b:D):Option D:=match b with
 | .none=>match a with
  | .none=>some (.bool true)
  | _=>some (.bool false)
 | _=>none
@[simp] def ZeD(a b:D):Option D:=match b with
 | .none=>match a with
  | .none=>some (.bool false)
  | _=>some (.bool true)
 | _=>none
@[simp] def Zk0(g g':D->D->Option D)(a b c:EF):EF:=λr=>match a r with
 | some x=>match b r with
  | some y=>match g x y with
   | some (.bool true)=>match c r with
    | some z=>g' y z
    | none=>none
   | some (.bool false)=>some (.bool false)
   | _=>none
  | none=>none
 | none=>none
@[simp] def Zib(a b:EF):EF:=λr=>match a r with
 | some (.bool true)=>b r
 | some (.bool false)=>some (.bool false)
 | _=>none
@[simp] def tV(a:EF):TF:=λr=>match a r with
 | some (.bool b)=>some b
 | _=>none
@[simp] def Zd6(a:TF):TF:=λr=>(a r).map (!·)
@[simp] def ZoS(a b:TF):TF:=λr=>match a r with
 | some true=>b r
 | some false=>some false
 | none=>none
@[simp] def tOr(a b:TF):TF:=λr=>match a r with
 | some true=>some true
 | some false=>b r
 | none=>none
@[simp] def eIf(c:TF)(a b:EF):EF:=λr=>match c r with
 | some true=>a r
 | some false=>b r
 | none=>none
@[simp] def Zbc:B->Option (List D)
 | .pl (.tuple ds)=>some ds
 | .pl (.list ds)=>some ds
 | .ol ds=>some ds
 | _=>none
def ixN(n:Nat)(i:Int):Option Nat :=
 if 0<=i then(if i<n then some i.toNat else none)else(if -(n:Int)<=i then some (i+n).toNat else none)
def atD(ds:List D)(i:Int):Option D:=match ixN ds.length i with
 | some j=>ds[j]?
 | none=>none
@[simp] def eIx(a:BF)(b:EF):EF:=λr=>match a r with
 | some x=>match Zbc x with
  | some ds=>match b r with
   | some (.int i)=>atD ds i
   | _=>none
  | none=>none
 | none=>none
@[simp] def Zx0:B->Option Nat
 | .pl (.tuple ds)=>some ds.length
 | .pl (.list ds)=>some ds.length
 | .ol ds=>some ds.length
 | .ok kvs=>some kvs.length
 | _=>none
@[simp] def Zaz(a:BF):EF:=λr=>match a r with
 | some x=>(Zx0 x).map λ(n:Nat)=>Zy6 (n:Int)
 | none=>none
@[simp] def ZaE(a:BF):EF:=λr=>match a r with
 | some x=>(Zbc x).map λds=>.tuple ds
 | none=>none
@[simp] def ZhE(a:BF):BF:=λr=>match a r with
 | some x=>(Zbc x).map λds=>.ol ds
 | none=>none
def Ze9:List D->Option (List Bool)
 | []=>some []
 | .bool b::r=>(Ze9 r).map (b::·)
 | _::_=>none
@[simp] def ZlE:B->Option (List D)
 | .pl (.list ds)=>some ds
 | .ol ds=>some ds
 | _=>none
@[simp] def ZiT(a:BF):EF:=λr=>match a r with
 | some x=>match ZlE x with
  | some ds=>(Ze9 ds).map λbs=>.bool (bs.all id)
  | none=>none
 | none=>none
@[simp] def Zm:AF:=λ_=>some []
@[simp] def Zd(a:EF)(b:AF):AF:=λr=>match a r with
 | some x=>(b r).map (x::·)
 | none=>none
@[simp] def ZeA(a:AF):EF:=λr=>(a r).map λds=>.tuple ds
@[simp] def Zdu(a:AF):BF:=λr=>(a r).map λds=>.ol ds
inductive Ty where
 | bool | int | str | tuple | list | dict
@[simp] def Zi5:Ty->D->Bool
 | .bool,.bool _=>true
 | .int,.int _=>true
 | .int,.bool _=>true
 | .str,.str _=>true
 | .tuple,.tuple _=>true
 | .list,.list _=>true
 | .dict,.dict _=>true
 | _,_=>false
@[simp] def ZhW(a:EF)(t:Ty):EF:=λr=>match a r with
 | some (.dict _)=>none
 | some d=>some (.bool (Zi5 t d))
 | none=>none
@[simp] def ZwB(x y:D):Option D:=Zfr (λi j=>some (.int (if j > i then j else i))) x y
@[simp] def Zwo(x y:D):Option D:=Zfr (λi j=>some (.int (if j<i then j else i))) x y
@[simp] def ZoM(a:EF):EF:=λr=>match a r with
 | some (.int i)=>some (.int i)
 | some (.bool b)=>some (.int (if b then 1 else 0))
 | _=>none
@[simp] def Zls(a b:BF):BF:=λr=>match a r with
 | some (.ol xs)=>match b r with
  | some (.ol ys)=>if xs.length+ys.length<big then some (.ol (xs++ys))else none
  | _=>none
 | _=>none
@[simp] def Ztz(a:BF)(b:EF):BF:=λr=>match a r with
 | some (.ol xs)=>match b r with
  | some (.int k)=>if decide (k.natAbs<1000)&&decide (xs.length<1000)then some (.ol (Zy1 k.toNat xs).flatten)else none
  | _=>none
 | _=>none
def sIx(n d:Nat):Option Int->Nat
 | none=>d
 | some v=>if v<0 then(v+(n:Int)).toNat else min v.toNat n
def cutD(xs:List D)(lo hi:Option Int):List D:=(xs.drop (sIx xs.length 0 lo)).take (sIx xs.length xs.length hi-sIx xs.length 0 lo)
@[simp] def ZlU(a:Option EF)(r:Env):Option (Option Int):=match a with
 | none=>some none
 | some f=>match f r with
  | some (.int i)=>some (some i)
  | _=>none
@[simp] def Ztm(a:BF)(lo hi:Option EF):BF:=λr=>match a r with
 | some x=>match ZlE x with
  | some xs=>match ZlU lo r with
   | some l=>match ZlU hi r with
    | some h=>some (.ol (cutD xs l h))
    | none=>none
   | none=>none
  | none=>none
 | none=>none
def ZaK:List D->Option (List Int)
 | []=>some []
 | .int i::r=>(ZaK r).map (i::·)
 | _::_=>none
def Zjv:List D->Option (List (List Int))
 | []=>some []
 | .tuple ds::r=>match ZaK ds with
  | some ns=>(Zjv r).map (ns::·)
  | none=>none
 | _::_=>none
def lexLt:List Int->List Int->Bool
 | [],[]=>false
 | [],_::_=>true
 | _::_,[]=>false
 | a::r,b::q=>if a=b then lexLt r q else decide (a<b)
def sortI(ns:List Int):List Int:=ns.mergeSort λa b=>decide (a<=b)
def ZdW(ts:List (List Int)):List (List Int):=ts.mergeSort λa b=>!lexLt b a
def ofInts(ns:List Int):List D:=ns.map λi=>Zy6 i
def Zfc(ts:List (List Int)):List D:=ts.map λt=>Zzn (ofInts t)
def Ze3(ds:List D):Option (List D) :=
 if ds.length<64 then match ZaK ds with
  | some ns=>some (ofInts (sortI ns))
  | none=>match Zjv ds with
   | some ts=>if ds.length<2||ts.all (λt=>!t.isEmpty)then some (Zfc (ZdW ts))else none
   | none=>none
 else none
@[simp] def Zuw:B->Option (List D)
 | .pl (.tuple ds)=>some ds
 | .pl (.list ds)=>some ds
 | .ol ds=>some ds
 | .ok kvs=>some (kvs.map λp=>ZaH p.1)
 | .ot kvs=>some (kvs.map λp=>.tuple (p.1.map ZaH))
 | .otl kvs=>some (kvs.map λp=>.tuple (p.1.map ZaH))
 | _=>none
@[simp] def ZfQ(a:BF):BF:=λr=>match a r with
 | some x=>match Zuw x with
  | some ds=>(Ze3 ds).map λds=>.ol ds
  | none=>none
 | none=>none
def dedup:List Int->List Int->List Int
 | acc,[]=>acc
 | acc,i::r=>if acc.contains i then dedup acc r else dedup (acc++[i]) r
def Zru(ns:List Int):Bool:=ns.all λn=>decide (0<=n)&&decide (n<8)
@[simp] def ZfI(a:BF):BF:=λr=>match a r with
 | some x=>match ZlE x with
  | some ds=>match ZaK ds with
   | some ns=>if Zru ns then some (.ol (ofInts (sortI (dedup [] ns))))else none
   | none=>none
  | none=>none
 | none=>none
@[simp] def Zn(m:List D->Option D)(a:AF):EF:=λr=>match a r with
 | some ds=>m ds
 | none=>none
@[simp] def Zaf(a:BF):IF:=λr=>match a r with
 | some x=>Zbc x
 | none=>none
def ZbT(lo:Int)(n:Nat):List D:=(ZyA n).map λ(k:Nat)=>Zy6 (lo+(k:Int))
def okR(j:Int):Bool:=Nat.blt j.natAbs 1000000
@[simp] def ZbU(a:EF):IF:=λr=>match a r with
 | some (.int j)=>if okR j then some (ZbT 0 j.toNat)else none
 | _=>none
@[simp] def Zjy(a b:EF):IF:=λr=>match a r with
 | some (.int i)=>match b r with
  | some (.int j)=>if okR i&&okR j then some (ZbT i (j-i).toNat)else none
  | _=>none
 | _=>none
@[simp] def Zkj(i:IF):EF:=λr=>match i r with
 | some ds=>if ds.length<big then some (.tuple ds)else none
 | none=>none
def ZaG(c:TF)(e:EF)(r:Env):List D->Option (List D)
 | []=>some []
 | x::xs=>match c (some (.pl x)::r)with
  | some true=>match e (some (.pl x)::r)with
   | some y=>(ZaG c e r xs).map (y::·)
   | none=>none
  | some false=>ZaG c e r xs
  | none=>none
@[simp] def Zaa:TF:=λ_=>some true
@[simp] def ZQ(i:IF)(c:TF)(e:EF):BF:=λr=>match i r with
 | some xs=>if xs.length<big then(ZaG c e r xs).map λys=>.ol ys else none
 | none=>none
@[simp] def Zs(a b:SF):SF:=λr=>match a r with
 | some (.nx r')=>b r'
 | some (.rt d)=>some (.rt d)
 | some (.bk r')=>some (.bk r')
 | some (.ct r')=>some (.ct r')
 | none=>none
@[simp] def Zal:SF:=λr=>some (.nx r)
@[simp] def Zhx:SF:=λ_=>none
@[simp] def ZG(a:EF):SF:=λr=>(a r).map Out.rt
@[simp] def Z2(i:Nat)(a:EF):SF:=λr=>(a r).map λd=>.nx (r.set i (some (.pl d)))
@[simp] def ZT(i:Nat)(a:BF):SF:=λr=>(a r).map λb=>.nx (r.set i (some b))
@[simp] def Zk1(i:Nat)(r:Env):Env:=match r[i]? with
 | some (some (.ol ds))=>r.set i (some (.pl (.list ds)))
 | some (some (.ot kvs))=>r.set i (some (.pl (.dict (Zj kvs))))
 | _=>r
@[simp] def ZeG(i:Nat):SF->SF:=λa r=>a (Zk1 i r)
@[simp] def Zik(a:EF):SF:=λr=>(a r).map λ_=>.nx r
@[simp] def sIf(c:TF)(a b:SF):SF:=λr=>match c r with
 | some true=>a r
 | some false=>b r
 | none=>none
def Z4(i:Nat)(body:SF):List D->Env->Option Out
 | [],r=>some (.nx r)
 | x::xs,r=>match body (r.set i (some (.pl x)))with
  | some (.nx r')=>Z4 i body xs r'
  | some (.ct r')=>Z4 i body xs r'
  | some (.bk r')=>some (.nx r')
  | some (.rt d)=>some (.rt d)
  | none=>none
@[simp] def Zbd(i:Nat)(it:IF)(body:SF):SF:=λr=>match it r with
 | some xs=>if xs.length<big then Z4 i body xs r else none
 | none=>none
def ZaY(c:TF)(body:SF):Nat->Env->Option Out
 | 0,_=>none
 | n+1,r=>match c r with
  | some true=>match body r with
   | some (.nx r')=>ZaY c body n r'
   | some (.ct r')=>ZaY c body n r'
   | some (.bk r')=>some (.nx r')
   | some (.rt d)=>some (.rt d)
   | none=>none
  | some false=>some (.nx r)
  | none=>none
@[simp] def Zec(i:Nat)(a:EF):SF:=λr=>match r[i]? with
 | some (some (.ol ds))=>match a r with
  | some d=>if ds.length<big then some (.nx (r.set i (some (.ol (ds++[d])))))else none
  | none=>none
 | _=>none
@[simp] def Zri(i:Nat)(k v:EF):SF:=λr=>match v r with
 | some d=>match r[i]? with
  | some (some (.ol ds))=>match k r with
   | some (.int n)=>match ixN ds.length n with
    | some j=>some (.nx (r.set i (some (.ol (ds.set j d)))))
    | none=>none
   | _=>none
  | _=>none
 | none=>none
def putD{k v:Type}[DecidableEq k](kvs:List (k × v))(x:k)(y:v):List (k × v) :=
 if(kvs.any λp=>decide (p.1=x))=true then kvs.map (λp=>if p.1=x then(p.1,y)else p)else kvs++[(x,y)]
def Zh{k v:Type}[DecidableEq k](kvs:List (k × v))(x:k):Option v:=(kvs.find? λp=>decide (p.1=x)).map (·.2)
@[simp] def Zii:D->Option Ky
 | .int i=>some (.inl i)
 | .str x=>some (.inr x)
 | _=>none
def ZgR:List D->Option (List Ky)
 | []=>some []
 | d::r=>match Zii d with
  | some k=>(ZgR r).map (k::·)
  | none=>none
def tkL:D->Option (List Ky)
 | .tuple ds=>ZgR ds
 | _=>none
def ZlO:List D->Option (List Ky)
 | []=>some []
 | .int i::r=>(ZlO r).map (ZAk i::·)
 | _::_=>none
def ZaN:D->Option (List Ky)
 | .tuple ds=>ZlO ds
 | _=>none
@[simp] def Zhl(i:Nat)(k v:EF):SF:=λr=>match v r with
 | some d=>match k r with
  | some x=>match r[i]? with
   | some (some (.ok kvs))=>match Zii x with
    | some y=>if kvs.length<big then some (.nx (r.set i (some (.ok (putD kvs y d)))))else none
    | none=>none
   | some (some (.ot kvs))=>match ZaN x with
    | some y=>if kvs.length<big then some (.nx (r.set i (some (.ot (putD kvs y d)))))else none
    | none=>none
   | _=>none
  | none=>none
 | none=>none
@[simp] def fDk:BF:=λ_=>some (.ok [])
@[simp] def fDt:BF:=λ_=>some (.ot [])
@[simp] def Zt7:BF:=λ_=>some (.otl [])
@[simp] def Zpd(k v:EF):BF:=λr=>match k r with
 | some x=>match v r with
  | some d=>match Zii x with
   | some y=>some (.ok [(y,d)])
   | none=>none
  | none=>none
 | none=>none
def ZbI{k v:Type}[DecidableEq k](kvs:List (k × List v))(x:k):List (k × List v):=match Zh kvs x with
 | some _=>kvs
 | none=>kvs++[(x,[])]
def Zdr{k v:Type}[DecidableEq k]:List (k × List v)->k->v->List (k × List v)
 | [],_,_=>[]
 | (x,ds)::r,y,d=>if x=y then(x,ds++[d])::r else(x,ds)::Zdr r y d
@[simp] def ZoR(i:Nat)(k v:EF):SF:=λr=>match k r with
 | some x=>match r[i]? with
  | some (some (.otl kvs))=>match ZaN x with
   | some y=>if kvs.length<big then
     match v (r.set i (some (.otl (ZbI kvs y))))with
     | some d=>match Zh (ZbI kvs y) y with
      | some ds=>if ds.length<big then some (.nx (r.set i (some (.otl (Zdr (ZbI kvs y) y d)))))else none
      | none=>none
     | none=>none
    else none
   | none=>none
  | _=>none
 | none=>none
@[simp] def ZlG(i:Nat)(k:EF):SF:=λr=>match k r with
 | some x=>match r[i]? with
  | some (some (.otl kvs))=>match ZaN x with
   | some y=>if kvs.length<big then
     match Zh kvs y with
     | none=>some (.nx (r.set i (some (.otl (kvs++[(y,[])])))))
     | some _=>none
    else none
   | none=>none
  | _=>none
 | none=>none
@[simp] def ZoE(i:Nat)(k v:EF):SF:=λr=>match k r with
 | some x=>match r[i]? with
  | some (some (.otl kvs))=>match ZaN x with
   | some y=>match v r with
    | some d=>match Zh kvs y with
     | some ds=>if ds.length<big then some (.nx (r.set i (some (.otl (Zdr kvs y d)))))else none
     | none=>none
    | none=>none
   | none=>none
  | _=>none
 | none=>none
@[simp] def hasB(b:B)(x:D):Option Bool:=match b with
 | .ok kvs=>(Zii x).map λy=>(Zh kvs y).isSome
 | .ot kvs=>(ZaN x).map λy=>(Zh kvs y).isSome
 | .otl kvs=>(ZaN x).map λy=>(Zh kvs y).isSome
 | _=>none
@[simp] def Zk4(k:EF)(a:BF):EF:=λr=>match k r with
 | some x=>match a r with
  | some b=>(hasB b x).map λc=>.bool (!c)
  | none=>none
 | none=>none
@[simp] def ZoK(i:Nat)(k:EF):BF:=λr=>match k r with
 | some x=>match r[i]? with
  | some (some (.ok kvs))=>match Zii x with
   | some y=>(Zh kvs y).map B.pl
   | none=>none
  | some (some (.ot kvs))=>match ZaN x with
   | some y=>(Zh kvs y).map B.pl
   | none=>none
  | some (some (.otl kvs))=>match ZaN x with
   | some y=>(Zh kvs y).map B.ol
   | none=>none
  | _=>none
 | none=>none
abbrev fnD(t:Nat)(cs:List D):D:=.dict [(.none,.int (Int.ofNat t)),(.none,.list cs)]
@[simp] def ZeI(n:Nat)(ds:List D):Env:=ds.map (λd=>some (B.pl d))++Zy1 (n-ds.length) none
@[simp] def fnOf(k n:Nat)(m:SF):List D->Option D:=λds =>
 if ds.length=k then match m (ZeI n ds)with
  | some (.nx _)=>some .none
  | some (.rt d)=>some d
  | _=>none
 else none
end HM
namespace HM
open PySem
def Zch(c:TF)(e:EF)(r:Env):List D->Option (List D)
 | []=>some []
 | .tuple [x,y]::xs=>match c (some (.pl x)::some (.pl y)::r)with
  | some true=>match e (some (.pl x)::some (.pl y)::r)with
   | some z=>(Zch c e r xs).map (z::·)
   | none=>none
  | some false=>Zch c e r xs
  | none=>none
 | _=>none
@[simp] def ZdO(i:IF)(c:TF)(e:EF):BF:=λr=>match i r with
 | some xs=>if xs.length<big then(Zch c e r xs).map λys=>.ol ys else none
 | none=>none
def Zof(ds:List D)(i:Int):Option Bool:=(ZaK ds).map λns=>ns.contains i
@[simp] def ZoQ(k:EF)(a:BF):EF:=λr=>match k r with
 | some (.int i)=>match a r with
  | some b=>match Zbc b with
   | some ds=>(Zof ds i).map λc=>.bool c
   | none=>none
  | none=>none
 | _=>none
@[simp] def Zhz(k:EF)(a:BF):EF:=λr=>match k r with
 | some (.int i)=>match a r with
  | some b=>match Zbc b with
   | some ds=>(Zof ds i).map λc=>.bool (!c)
   | none=>none
  | none=>none
 | _=>none
end HM
namespace HM
open PySem
@[simp] def Zlg(n:Nat)(c:TF)(body:SF):SF:=λr=>ZaY c body n r
def Zfa(i j:Nat)(body:SF):List D->Env->Option Out
 | [],r=>some (.nx r)
 | .tuple [x,y]::xs,r=>match body ((r.set i (some (.pl x))).set j (some (.pl y)))with
  | some (.nx r')=>Zfa i j body xs r'
  | some (.ct r')=>Zfa i j body xs r'
  | some (.bk r')=>some (.nx r')
  | some (.rt d)=>some (.rt d)
  | none=>none
 | _,_=>none
@[simp] def Znh(i j:Nat)(it:IF)(body:SF):SF:=λr=>match it r with
 | some xs=>if xs.length<big then Zfa i j body xs r else none
 | none=>none
end HM
namespace HM
open PySem
def Zpa(ds:List D)(x:D):Option Bool:=if ZaA x&&ds.all ZaA then some (ds.any λd=>ZzB d x)else none
@[simp] def ZhA(k:EF)(a:BF):EF:=λr=>match k r with
 | some x=>match a r with
  | some b=>match Zbc b with
   | some ds=>(Zpa ds x).map λc=>.bool (!c)
   | none=>none
  | none=>none
 | none=>none
end HM
namespace HM
open PySem
def Zfw:List (D × D)->Option (List (List Ky × D))
 | []=>some []
 | (k,v)::r=>match tkL k with
  | some ks=>(Zfw r).map ((ks,v)::·)
  | none=>none
@[simp] def Zjd:B->Option (List (List Ky × D))
 | .ot kvs=>some kvs
 | .pl (.dict es)=>Zfw es
 | .hd es=>Zfw es
 | _=>none
@[simp] def ZoZ(k:EF)(a:BF):EF:=λr=>match k r with
 | some x=>match a r with
  | some b=>match Zjd b with
   | some kvs=>(ZaN x).map λy=>.bool (Zh kvs y).isSome
   | none=>none
  | none=>none
 | none=>none
@[simp] def Zcg(k:EF)(a:BF):EF:=λr=>match k r with
 | some x=>match a r with
  | some b=>match Zjd b with
   | some kvs=>(ZaN x).map λy=>.bool (!(Zh kvs y).isSome)
   | none=>none
  | none=>none
 | none=>none
@[simp] def Zbt(a:BF)(k:EF):EF:=λr=>match a r with
 | some b=>match Zjd b with
  | some kvs=>match k r with
   | some x=>match ZaN x with
    | some y=>Zh kvs y
    | none=>none
   | none=>none
  | none=>none
 | none=>none
@[simp] def Zjj(a:BF)(k e:EF):EF:=λr=>match a r with
 | some b=>match Zjd b with
  | some kvs=>match k r with
   | some x=>match e r with
    | some z=>match ZaN x with
     | some y=>some ((Zh kvs y).getD z)
     | none=>none
    | none=>none
   | none=>none
  | none=>none
 | none=>none
@[simp] def Zju:D->Bool
 | .none=>true
 | .bool _=>true
 | .int _=>true
 | .str _=>true
 | _=>false
@[simp] def Znc(f:BF):EF:=λr=>(f r).bind frz
@[simp] def Zoj(m:List D->Option D)(a:AF):EF:=λr=>match a r with
 | some ds=>match m ds with
  | some d=>if Zju d then some d else none
  | none=>none
 | none=>none
theorem ZuH(ks:List Ky):tkL (.tuple (ks.map ZaH))=some ks:=by
 show ZgR (ks.map ZaH)=some ks
 induction ks with
 | nil=>rfl
 | cons k ks ih=>show(match Zii (ZaH k)with | some q=>(ZgR (ks.map ZaH)).map (q::·) | none=>none)=_;rw[ih];cases k<;>rfl
theorem dec_enc(kvs:List (List Ky × D)):Zfw (Zj kvs)=some kvs:=by
 induction kvs with
 | nil=>rfl
 | cons p kvs ih=>obtain⟨k,d⟩:=p;show(match tkL (.tuple (k.map ZaH))with | some ks=>(Zfw (Zj kvs)).map ((ks,d)::·) | none=>none)=_;rw[ZuH,ih];rfl
end HM
namespace HM
open PySem
@[simp] def Zij(a:BF):EF:=λr=>match a r with
 | some x=>match ZlE x with
  | some ds=>match ZaK ds with
   | some ns=>ns.max?.map λi=>Zy6 i
   | none=>none
  | none=>none
 | none=>none
end HM
namespace HM
open PySem
end HM
namespace HM
open PySem
@[simp] def Zjs(i:Nat)(f:BF):SF:=λr=>match r[i]? with
 | some (some (.ol ds))=>match f r with
  | some (.ol es)=>if ds.length+es.length<big then some (.nx (r.set i (some (.ol (ds++es)))))else none
  | _=>none
 | _=>none
@[simp] def Zul(i j:Nat):SF:=λr=>match r[j]? with
 | some (some (.ol ds))=>match ds[ds.length-1]? with
  | some d=>some (.nx ((r.set j (some (.ol ds.dropLast))).set i (some (.pl d))))
  | none=>none
 | _=>none
@[simp] def Zjo(m:List D->Option D)(a:AF):BF:=λr=>match a r with
 | some ds=>match m ds with
  | some (.list ys)=>some (.ol ys)
  | _=>none
 | none=>none
def Zbr:Option B->Bool
 | some (.hd _)=>true
 | _=>false
@[simp] def Ze4(i:Nat)(g:SF):SF:=λr=>match r[i]? with
 | some (some (.pl (.dict es)))=>if r.all (λq=>!Zbr q)then match g (r.set i (some (.hd es)))with
   | some (.nx r')=>match r'[i]? with
    | some (some (.hd es'))=>if(r'.set i none).all (λq=>!Zbr q)then some (.nx (r'.set i (some (.pl (.dict es')))))else none
    | _=>none
   | some (.rt d)=>some (.rt d)
   | _=>none
  else none
 | _=>g r
@[simp] def Zbb(i:Nat):IF:=λr=>match r[i]? with
 | some (some (.pl (.tuple ds)))=>some ds
 | some (some (.pl (.list ds)))=>some ds
 | some (some (.hd es))=>(Zfw es).map λkvs=>kvs.map λp=>.tuple (p.1.map ZaH)
 | _=>none
end HM
namespace HM
open PySem
@[simp] def ZgS(a:EF)(lo hi:Option EF):EF:=λr=>match a r with
 | some (.tuple xs)=>match ZlU lo r with
  | some l=>match ZlU hi r with
   | some h=>if sIx xs.length 0 l=0/\sIx xs.length xs.length h=xs.length then none else some (.tuple (cutD xs l h))
   | none=>none
  | none=>none
 | _=>none
@[simp] def ZgL(a b:EF):EF:=λr=>match a r with
 | some (.tuple xs)=>match b r with
  | some (.tuple ys)=>if xs.isEmpty||ys.isEmpty||decide (big<=xs.length+ys.length)then none else some (.tuple (xs++ys))
  | _=>none
 | _=>none
@[simp] def Zhw(a:BF)(k:EF):EF:=λr=>match a r with
 | some b=>match Zjd b with
  | some kvs=>match k r with
   | some x=>match ZaN x with
    | some y=>some ((Zh kvs y).getD .none)
    | none=>none
   | none=>none
  | none=>none
 | none=>none
end HM
namespace HM
open PySem
end HM
namespace HM
open PySem
abbrev AP:=Nat->List D->List D->Option D
def ZlY:D->Option (Nat × List D)
 | .dict [(.none,.int (Int.ofNat t)),(.none,.list cs)]=>some (t,cs)
 | _=>none
@[simp] def Zgv(ap:AP)(i:Nat)(a:AF):EF:=λr=>match r[i]? with
 | some (some (.pl d))=>match ZlY d with
  | some (t,cs)=>match a r with
   | some ds=>ap t cs ds
   | none=>none
  | none=>none
 | _=>none
def noF:Nat->D->Bool
 | _,.none=>true
 | _,.bool _=>true
 | _,.int _=>true
 | _,.str _=>true
 | n+1,.tuple ds=>ds.all (noF n)
 | n+1,.list ds=>ds.all (noF n)
 | n+1,.dict es=>es.all λp=>(match p.1 with | .none=>false | _=>true)&&noF n p.2
 | _,_=>false
def ZkS:List Nat->Env->Option (List D)
 | [],_=>some []
 | i::is,r=>match r[i]? with
  | some (some (.pl d))=>(ZkS is r).map (d::·)
  | _=>none
@[simp] def ZhZ(m:List D->Option D)(t:Nat)(is:List Nat)(a:EF):EF:=λr=>match a r with
 | some d1=>match ZkS is r with
  | some cs=>if cs.all (noF 20)then match m [d1,fnD t cs]with
    | some d=>if noF 20 d then some d else none
    | none=>none
   else none
  | none=>none
 | none=>none
def ZkP(n m:Nat)(e:EF):List D->List D->Option D:=λcs ds=>if ds.length=n/\cs.length=m/\ds.all (noF 20)=true then e ((ds++cs).map λd=>some (B.pl d))else none
@[simp] def ZfO(a:BF):EF:=λr=>match a r with
 | some x=>match ZlE x with
  | some ds=>match ZaK ds with
   | some ns=>some (match ns.min? with | some i=>.int i | none=>.none)
   | none=>none
  | none=>none
 | none=>none
abbrev NF:=Env->Option (List (List Ky × D))
@[simp] def ZkA(a:SF)(m:NF):NF:=λr=>match a r with
 | some (.nx r')=>m r'
 | _=>none
@[simp] def ZoH(j:Nat):NF:=λr=>match r[j]? with
 | some (some (.ot kvs))=>some kvs
 | _=>none
def newOf(k n:Nat)(m:NF):List D->Option (List (List Ky × D)):=λds=>if ds.length=k then m (ZeI n ds)else none
@[simp] def ZiS(m:List D->Option (List (List Ky × D)))(a:AF):BF:=λr=>match a r with
 | some ds=>match m ds with
  | some kvs=>if kvs.all (λp=>Zju p.2)then some (.ot kvs)else none
  | none=>none
 | none=>none
end HM
namespace HP
open PySem PySem.Spec PyProof.Rows L2
@[reducible] def Zdd(H':Hp)(b:Addr):HO->Prop
 | .tbl _=>∃ps',H' b=some (.tbl ps')
 | o=>H' b=some o
def ZaB(H H':Hp):Prop:=∀b o,H b=some o->Zdd H' b o
theorem Zdd.of{H':Hp}{b:Addr}{o:HO}(h:H' b=some o):Zdd H' b o:=by cases o<;>first | exact h | exact⟨_,h⟩
theorem Zdd.ex{H':Hp}{b:Addr}{o:HO}(h:Zdd H' b o):∃u,H' b=some u:=by cases o<;>first | exact⟨_,h⟩ | (obtain⟨ps,e⟩:=h; exact⟨_,e⟩)
theorem Zdd.no{H':Hp}{b:Addr}{o:HO}(h:Zdd H' b o)(n:∀ps,o≠.tbl ps):H' b=some o:=by cases o<;>first | exact h | exact absurd rfl (n _)
theorem ZaB.of{H H':Hp}(s:Zq H H'):ZaB H H':=λb o h=>.of (s b o h)
theorem ZaB.refl(H:Hp):ZaB H H:=.of (.refl H)
theorem ZaB.trans{H H1 H2:Hp}(a:ZaB H H1)(b:ZaB H1 H2):ZaB H H2:=λc o h=>by have h1:=a c o h;cases o<;>first | exact b c _ h1 | (obtain⟨ps,e⟩:=h1; exact(show ∃ps',H2 c=some (.tbl ps') from b c _ e))
theorem ZaB.free{H H':Hp}(e:ZaB H H'){l:Addr}(h:H' l=none):H l=none:=by
 cases q:H l with
 | none=>rfl
 | some o=>obtain⟨u,z⟩:=(e l o q).ex;rw[h]at z; cases z
theorem ZaB.back{H H':Hp}(e:ZaB H H'){l:Addr}{o u:HO}(h:H l=some o)(h':H' l=some u)(n:∀ps,u≠.tbl ps):o=u:=by have z:=e l o h;cases o<;>first | (obtain⟨ps,q⟩:=z; rw[h']at q; cases q; exact absurd rfl (n _)) | (have z:H' l=some _:=z; rw[h']at z; cases z; rfl)
def Zcw(H:Hp):Hp:=λb=>match H b with
 | some (.tbl _)=>none
 | x=>x
def nt:HO->Bool
 | .tbl _=>false
 | _=>true
def NoT(F:Hp):Prop:=∀b o,F b=some o->nt o=true
theorem Zct{H:Hp}{b:Addr}{o:HO}(h:H b=some o)(n:nt o=true):Zcw H b=some o:=by unfold Zcw; rw[h];cases o<;>first | rfl | cases n
theorem ZgT{H:Hp}{b:Addr}{o:HO}(h:Zcw H b=some o):H b=some o/\nt o=true:=by
 unfold Zcw at h;split at h
 ·cases h
 ·rename_i n
  refine⟨h,?_⟩;cases o<;>first | rfl | exact absurd h (n _)
theorem Zjh{H:Hp}:Zq (Zcw H) H:=λb o h=>(ZgT h).1
theorem NoT.drop{H:Hp}:NoT (Zcw H):=λb o h=>(ZgT h).2
theorem NoT.sub{F H:Hp}(n:NoT F)(s:Zq F H):Zq F (Zcw H):=λb o h=>Zct (s b o h) (n b o h)
theorem NoT.upd{F:Hp}{p:Addr}{o:HO}(n:NoT F)(h:nt o=true):NoT (upd F p o):=λb u z=>by
 by_cases hb:b=p
 ·subst hb; rw[ZC]at z; cases z; exact h
 ·rw[ZA hb]at z; exact n b u z
theorem ZaB.ntb{H H':Hp}(s:ZaB H H'){b:Addr}{o:HO}(h:H b=some o)(n:nt o=true):H' b=some o:=(s b o h).no λps z=>by subst z; cases n
def Dk(vvs:List (List Key × V))(u:HO):Prop:=u=.dT vvs\/∃o,u=.frz o (.dT vvs)
def sw(a:Addr)(ob:HO)(G:Hp):Hp:=λb=>if b=a then(G a).map (λ_=>ob)else G b
class FX where
 tl:List (Addr × Str)
 fv:Nat->List PyData->Hp->Addr->Prop
 sw:∀{t:Nat} {cs:List PyData} {F:Hp} {a b:Addr} {ob:HO} {vvs:List (List Key × V)},(∀u,F a=some u->Dk vvs u)->Dk vvs ob->fv t cs F b->fv t cs (sw a ob F) b
 drop:∀{t:Nat} {cs:List PyData} {F:Hp} {a:Addr},fv t cs F a->fv t cs (Zcw F) a
 mono:∀{t:Nat} {cs:List PyData} {F F':Hp} {a:Addr},fv t cs F a->Zq F F'->fv t cs F' a
variable[FX]
def Zbj(a:Addr)(o:Obj):HO:=.ext λh=>h.get? a=some o
def ZlK(o:Obj)(q:Str):Prop:=∃vs t,o.data=.fields vs/\vs[1]?=some (.str q t)
def Tb(H:Hp):Prop:=∀P q,(P,q)∈FX.tl->∃ps,H P=some (.tbl ps)/\TriplesOk ps.toList/\∀pos c,ZCm pos ps.toList=some c->∃a o,c=.ref a/\H a=some (Zbj a o)/\ZlK o q
def ZlL:HO->Bool
 | .lst _=>true
 | .dK _=>true
 | .dT _=>true
 | _=>false
def te:HO->Bool
 | .tbl _=>true
 | .ext _=>true
 | _=>false
theorem ZsN{o:HO}(h:ZlL o=true)(h':te o=true):False:=by cases o<;>simp_all [ZlL,te]
theorem Tb.keep{H H':Hp}(t:Tb H)(k:∀a o,H a=some o->te o=true->H' a=some o):Tb H':=λP q hP=>by obtain⟨ps,h1,h2,h3⟩:=t P q hP;refine⟨ps,k _ _ h1 rfl,h2,λpos c hc=>?_⟩;obtain⟨a,o,e1,e2,e3⟩:=h3 pos c hc;exact⟨a,o,e1,k _ _ e2 rfl,e3⟩
theorem Dk.te{vvs:List (List Key × V)}{u:HO}(h:Dk vvs u):te u=false:=by rcases h with h | ⟨o,h⟩<;>subst h<;>rfl
theorem Dk.ntt{vvs:List (List Key × V)}{u:HO}(h:Dk vvs u):nt u=true:=by rcases h with h | ⟨o,h⟩<;>subst h<;>rfl
theorem Tb.sw{G:Hp}{a:Addr}{ob:HO}{vvs:List (List Key × V)}(hG:∀u,G a=some u->Dk vvs u)(t:Tb G):Tb (HP.sw a ob G):=t.keep λb o z ht=>by
 have hb:b≠a:=λe=>by subst e; rw[(hG o z).te]at ht; cases ht
 unfold HP.sw; rw[if_neg hb]; exact z
theorem Tb.unsw{G:Hp}{a:Addr}{ob:HO}{vvs:List (List Key × V)}(hob:Dk vvs ob)(t:Tb (HP.sw a ob G)):Tb G:=t.keep λb o z ht=>by
 unfold HP.sw at z;split at z
 ·obtain⟨u,_,e⟩:=Zyu.mp z
  subst e; rw[hob.te]at ht; cases ht
 ·exact z
theorem Zdd.cong{H H':Hp}{b:Addr}{o:HO}(e:H' b=H b)(h:Zdd H b o):Zdd H' b o:=by unfold Zdd at h ⊢; rw[e]; exact h
theorem ZaB.sw{H0 H:Hp}{a:Addr}{ob:HO}(s:ZaB H0 H):ZaB (HP.sw a ob H0) (HP.sw a ob H):=λb o z=>by
 by_cases hb:b=a
 ·subst hb
  unfold HP.sw at z;rw[if_pos rfl]at z;obtain⟨u,h1,h2⟩:=Zyu.mp z;obtain⟨w,hw⟩:=(s _ _ h1).ex;refine .of ?_;unfold HP.sw;rw[if_pos rfl,hw,h2.symm]; rfl
 ·unfold HP.sw at z
  rw[if_neg hb]at z;refine(s b o z).cong ?_;unfold HP.sw; rw[if_neg hb]
theorem Tb.same{H H':Hp}(t:Tb H)(s:Zq H H'):Tb H':=t.keep λa o h _=>s a o h
theorem ZjC{F F':Hp}{a:Addr}{u:HO}(r:Rd F a u)(s:Zq F F'):Rd F' a u:=r.imp (λh=>s _ _ h) λ⟨o,h⟩=>⟨o,s _ _ h⟩
def ZxY(K:Zys)(a:Addr)(vs:List V):Prop:=∃(o:Obj) (its:Array Value) (n:Nat),K.lookup a=some o/\o.cls=.type "tuple"/\o.data=.seq its n/\its.size<=sizeLine/\Vals vs its.toList
theorem Zio{K:Zys}{F F':Hp}{a:Addr}{vs:List V}(h:SqT K F a vs)(s:Zq F F'):SqT K F' a vs:=h.imp (λh=>ZjC h s) id
inductive Rep(K:Zys)(F:Hp):PyData->V->Prop where
 | non:Rep K F .none .non
 | bl (b:Bool):Rep K F (.bool b) (.bl b)
 | int (i:Int):Rep K F (.int i) (.int i)
 | str (x:Str):Rep K F (.str x) (.str x)
 | tupk {a:Addr} {x:Str} (h:ZxY K a [.str x]):Rep K F (.tuple [.str x]) (.ref a)
 | tup {a:Addr} {ds:List PyData} {vs:List V} (h:F a=some (.tup vs)) (hl:ds.length=vs.length) (hr:∀(i:Nat) (d:PyData) (v:V),ds[i]?=some d->vs[i]?=some v->Rep K F d v):Rep K F (.tuple ds) (.ref a)
 | lst {a:Addr} {ds:List PyData} {vs:List V} (h:SqL K F a vs) (hl:ds.length=vs.length) (hr:∀(i:Nat) (d:PyData) (v:V),ds[i]?=some d->vs[i]?=some v->Rep K F d v):Rep K F (.list ds) (.ref a)
 | dct {a:Addr} {es:List (PyData × PyData)} {kvs:List (List Key × PyData)} {vvs:List (List Key × V)} (h:Rd F a (.dT vvs)) (he:es=HM.Zj kvs) (hk:kvs.map (·.1)=vvs.map (·.1)) (hr:∀(i:Nat) (d:PyData) (v:V),(kvs.map (·.2))[i]?=some d->(vvs.map (·.2))[i]?=some v->Rep K F d v):Rep K F (.dict es) (.ref a)
 | fn {a:Addr} {t:Nat} {cs:List PyData} (h:FX.fv t cs F a):Rep K F (.dict [(.none,.int (Int.ofNat t)),(.none,.list cs)]) (.ref a)
def Zt(K:Zys)(F:Hp)(ds:List PyData)(vs:List V):Prop:=ds.length=vs.length/\∀(i:Nat) (d:PyData) (v:V),ds[i]?=some d->vs[i]?=some v->Rep K F d v
section
variable{K:Zys}{F F':Hp}{d:PyData}{v:V}{ds es:List PyData}{vs us:List V}
theorem Rep.mono(r:Rep K F d v)(s:Zq F F'):Rep K F' d v:=by
 induction r with
 | non=>exact .non
 | bl b=>exact .bl b
 | int i=>exact .int i
 | str x=>exact .str x
 | tup h hl _ ih=>exact .tup (s _ _ h) hl ih
 | tupk h=>exact .tupk h
 | lst h hl _ ih=>exact .lst (s.seq h) hl ih
 | dct h he hk _ ih=>exact .dct (ZjC h s) he hk ih
 | fn h=>exact .fn (FX.mono h s)
theorem Rep.drop(r:Rep K F d v):Rep K (Zcw F) d v:=by
 induction r with
 | non=>exact .non
 | bl b=>exact .bl b
 | int i=>exact .int i
 | str x=>exact .str x
 | tup h hl _ ih=>exact .tup (Zct h rfl) hl ih
 | tupk h=>exact .tupk h
 | lst h hl _ ih =>
  refine .lst ?_ hl ih;rcases h with(h | ⟨o,h⟩) | h
  ·exact .inl (.inl (Zct h rfl))
  ·exact .inl (.inr ⟨o,Zct h rfl⟩)
  ·exact .inr h
 | dct h he hk _ ih =>
  refine .dct ?_ he hk ih;rcases h with h | ⟨o,h⟩
  ·exact .inl (Zct h rfl)
  ·exact .inr ⟨o,Zct h rfl⟩
 | fn h=>exact .fn (FX.drop h)
theorem Zt.drop'(r:Zt K F ds vs):Zt K (Zcw F) ds vs:=⟨r.1,λi d v h1 h2=>(r.2 i d v h1 h2).drop⟩
theorem ZaB.dr{H H':Hp}(s:ZaB H H'):Zq (Zcw H) H':=λb o h=>s.ntb (ZgT h).1 (ZgT h).2
theorem Rep.monoT{H H':Hp}(r:Rep K H d v)(s:ZaB H H'):Rep K H' d v:=r.drop.mono s.dr
theorem Zt.mono(r:Zt K F ds vs)(s:Zq F F'):Zt K F' ds vs:=⟨r.1,λi d v h1 h2=>(r.2 i d v h1 h2).mono s⟩
theorem Zt.nil:Zt K F [] []:=⟨rfl,λi d v h=>by simp at h⟩
theorem Zt.cons(r:Rep K F d v)(q:Zt K F ds vs):Zt K F (d::ds) (v::vs) :=
 ⟨by rw[ZyI,ZyI,q.1],λi e u h1 h2=>by
  cases i with
  | zero=>rw[ZA4]at h1 h2;cases h1; cases h2; exact r
  | succ i=>rw[Zza]at h1 h2;exact q.2 i e u h1 h2⟩
theorem Zt.nil_inv(r:Zt K F [] vs):vs=[]:=Zz3 r.1.symm
theorem Zt.cons_inv(r:Zt K F (d::ds) vs):∃v us,vs=v::us/\Rep K F d v/\Zt K F ds us:=by
 cases vs with
 | nil=>exact absurd r.1 (by simp)
 | cons v us =>
  refine⟨v,us,rfl,r.2 0 d v rfl rfl,?_,λi e u h1 h2=>r.2 (i+1) e u ?_ ?_⟩
  ·have:=r.1
   rw[ZyI,ZyI]at this;omega
  ·rw[Zza]; exact h1
  ·rw[Zza]; exact h2
theorem Zt.append(r:Zt K F ds vs)(q:Zt K F es us):Zt K F (ds++es) (vs++us):=by
 refine⟨by rw[ZyM,ZyM,r.1,q.1],λi e u h1 h2=>?_⟩
 by_cases hi:i<ds.length
 ·rw[Zy3 hi]at h1
  rw[Zy3 (by rw[<-r.1]; exact hi)]at h2;exact r.2 i e u h1 h2
 ·rw[Zze (by omega)]at h1
  rw[Zze (by have:=r.1; omega),<-r.1]at h2;exact q.2 _ e u h1 h2
theorem Zt.get(r:Zt K F ds vs){i:Nat}(h:ds[i]?=some d):∃v,vs[i]?=some v/\Rep K F d v:=by
 have hi:i<vs.length:=by rw[<-r.1]; exact(ZyG.mp h).1
 exact⟨vs[i],ZyH hi,r.2 i d _ h (ZyH hi)⟩
theorem Zt.drop(r:Zt K F ds vs)(n:Nat):Zt K F (ds.drop n) (vs.drop n) :=
 ⟨by rw[ZAT,ZAT,r.1],λi e u h1 h2=>by rw[List.getElem?_drop]at h1 h2;exact r.2 _ e u h1 h2⟩
theorem Zt.take(r:Zt K F ds vs)(n:Nat):Zt K F (ds.take n) (vs.take n) :=
 ⟨by rw[ZzO,ZzO,r.1],λi e u h1 h2=>by
  by_cases hi:i<n
  ·rw[ZCO hi]at h1 h2
   exact r.2 _ e u h1 h2
  ·rw[List.getElem?_take_eq_none (by omega)]at h1
   cases h1⟩
theorem Zt.set(r:Zt K F ds vs)(q:Rep K F d v)(j:Nat):Zt K F (ds.set j d) (vs.set j v):=by
 refine⟨by rw[ZzG,ZzG,r.1],λi e u h1 h2=>?_⟩;have hi:i<ds.length:=by have:=(ZyG.mp h1).1; rwa [ZzG]at this
 by_cases e1:j=i
 ·subst e1
  rw[Zzk hi]at h1;rw[Zzk (by rw[<-r.1]; exact hi)]at h2;cases h1; cases h2; exact q
 ·rw[Zy0 e1]at h1 h2
  exact r.2 i e u h1 h2
theorem Zt.rep(r:Zt K F ds vs)(k:Nat):Zt K F (Zy1 k ds).flatten (Zy1 k vs).flatten:=by
 induction k with
 | zero=>exact Zt.nil
 | succ k ih=>rw[ZAe,ZAe,ZAO,ZAO]; exact r.append ih
theorem Zt.one(r:Rep K F d v):Zt K F [d] [v]:=.cons r .nil
end
def Fre(H:Hp)(a:Addr)(o:HO):Prop:=H a=none\/∃xs,o=.tup xs/\H a=some (.tup xs)
theorem Fre.back{H H':Hp}{a:Addr}{o:HO}(s:ZaB H H')(f:Fre H' a o):Fre H a o:=by
 rcases f with f | ⟨xs,e,f⟩
 ·exact .inl (s.free f)
 ·cases q:H a with
  | none=>exact .inl q
  | some u =>
   have:=s.back q f λ_ z=>by cases z
   subst this;exact .inr ⟨xs,e,q⟩
theorem Fre.no{H:Hp}{a:Addr}{o u:HO}(f:Fre H a o)(h:H a=some u)(n:∀xs,u≠.tup xs):False:=by
 rcases f with f | ⟨xs,_,f⟩
 ·rw[h]at f; cases f
 ·rw[h]at f; cases f; exact n xs rfl
structure Ext(F H F' H':Hp):Prop where
 ff:Zq F F'
 hh:ZaB H H'
 sub:Zq F' H'
 new:∀a o,F' a=some o->F a=some o\/Fre H a o
 tab:Tb H->Tb H'
 nts:NoT F->NoT F'
theorem Ext.refl{F H:Hp}(s:Zq F H):Ext F H F H:=⟨Zq.refl F,ZaB.refl H,s,λ_ _ h=>.inl h,id,id⟩
theorem Ext.trans{F H F1 H1 F2 H2:Hp}(a:Ext F H F1 H1)(b:Ext F1 H1 F2 H2):Ext F H F2 H2 :=
 ⟨a.ff.trans b.ff,a.hh.trans b.hh,b.sub,λx o h=>by
  rcases b.new x o h with q | q
  ·exact a.new x o q
  ·exact .inr (q.back a.hh),λt=>b.tab (a.tab t),λt=>b.nts (a.nts t)⟩
theorem Zkm{F:Hp}{p:Addr}{o:HO}(h:F p=none):Zq F (upd F p o):=λb q z=>by rw[ZA (Zat z h)]; exact z
theorem Ext.lay{F H F' H':Hp}(e:Ext F H F' H'){p:Addr}{o:HO}(h:H' p=none)(no:nt o=true:=by rfl):Ext F H (upd F' p o) (upd H' p o):=by
 have hF:F' p=none:=e.sub.free h;refine⟨λb q z=>?_,e.hh.trans (.of (Zkm h)),λb q z=>?_,λb q z=>?_,λt=>(e.tab t).same (Zkm h),λt=>(e.nts t).upd no⟩
 ·rw[ZA (Zat (e.ff b q z) hF)]; exact e.ff b q z
 ·by_cases hb:b=p
  ·subst hb; rw[ZC]at z ⊢; exact z
  ·rw[ZA hb]at z ⊢; exact e.sub b q z
 ·by_cases hb:b=p
  ·subst hb; exact .inr (.inl (e.hh.free h))
  ·rw[ZA hb]at z; exact e.new b q z
theorem Ext.lay'{F H F' H':Hp}(e:Ext F H F' H'){p:Addr}{o:HO}(h:H' p=none):Ext F H F' (upd H' p o):=by refine⟨e.ff,e.hh.trans (.of (Zkm h)),λb q z=>?_,e.new,λt=>(e.tab t).same (Zkm h),e.nts⟩;rw[ZA (Zat (e.sub b q z) h)]; exact e.sub b q z
theorem Zq.upd'{F:Hp}{p:Addr}{o:HO}(h:F p=none):Zq F (upd F p o):=λb q z=>by rw[ZA (Zat z h)]; exact z
def ZcR(F H:Hp):Hp:=λa=>match H a with
 | some (.tup xs)=>some (.tup xs)
 | _=>F a
theorem Zpb{F H:Hp}{a:Addr}{xs:List V}(h:H a=some (.tup xs)):ZcR F H a=some (.tup xs):=by unfold ZcR; rw[h]
theorem Zc7{F H:Hp}(s:Zq F H):Zq F (ZcR F H):=λa o h=>by
 have:=s a o h;unfold ZcR;split
 ·rename_i xs q
  rw[q]at this;exact this
 ·exact h
theorem Ext.tups{F H F' H':Hp}(e:Ext F H F' H'):Ext F H (ZcR F' H') H':=by
 have key:Ext F' H' (ZcR F' H') H':=by
  refine⟨Zc7 e.sub,ZaB.refl H',λa o h=>?_,λa o h=>?_,id,λn a o h=>?_⟩
  ·unfold ZcR at h
   split at h
   ·rename_i xs q; rw[q]; exact h
   ·exact e.sub a o h
  ·unfold ZcR at h
   split at h
   ·rename_i xs q
    cases h;exact .inr (.inr ⟨xs,rfl,q⟩)
   ·exact .inl h
  ·unfold ZcR at h
   split at h
   ·cases h; rfl
   ·exact n a o h
 exact e.trans key
inductive Zad(K:Zys)(F H:Hp):HM.B->V->List Addr->Prop where
 | pl {d:PyData} {v:V} (r:Rep K F d v):Zad K F H (.pl d) v []
 | ol {a:Addr} {ds:List PyData} {vs:List V} (h:H a=some (.lst vs)) (r:Zt K F ds vs):Zad K F H (.ol ds) (.ref a) [a]
 | ok {a:Addr} {kvs:List (Key × PyData)} {vvs:List (Key × V)} (h:H a=some (.dK vvs)) (hk:kvs.map (·.1)=vvs.map (·.1)) (r:Zt K F (kvs.map (·.2)) (vvs.map (·.2))):Zad K F H (.ok kvs) (.ref a) [a]
 | ot {a:Addr} {kvs:List (List Key × PyData)} {vvs:List (List Key × V)} (h:H a=some (.dT vvs)) (hk:kvs.map (·.1)=vvs.map (·.1)) (r:Zt K F (kvs.map (·.2)) (vvs.map (·.2))):Zad K F H (.ot kvs) (.ref a) [a]
 | otl {a:Addr} {kvs:List (List Key × List PyData)} {vvs:List (List Key × V)} {ls:List Addr} (h:H a=some (.dT vvs)) (hk:kvs.map (·.1)=vvs.map (·.1)) (hv:vvs.map (·.2)=ls.map V.ref)
   (r:∀(i:Nat) (ds:List PyData) (l:Addr),(kvs.map (·.2))[i]?=some ds->ls[i]?=some l->∃vs,H l=some (.lst vs)/\Zt K F ds vs):Zad K F H (.otl kvs) (.ref a) (a::ls)
 | hd {a:Addr} {o:Obj} {es:List (PyData × PyData)} {kvs:List (List Key × PyData)} {vvs:List (List Key × V)} (h:F a=some (.frz o (.dT vvs))) (he:es=HM.Zj kvs) (hk:kvs.map (·.1)=vvs.map (·.1)) (r:Zt K F (kvs.map (·.2)) (vvs.map (·.2))):Zad K F H (.hd es) (.ref a) []
 | hf {a:Addr} {t:Nat} {cs:List PyData} (h:FX.fv t cs F a):Zad K F H (.hd [(.none,.int (Int.ofNat t)),(.none,.list cs)]) (.ref a) []
section
variable{K:Zys}{F F' H H':Hp}{b:HM.B}{v:V}{fp:List Addr}
theorem Zad.mono(r:Zad K F H b v fp)(s:Zq F F')(k:∀a∈fp,∀o,H a=some o->Zdd H' a o):Zad K F' H' b v fp:=by
 cases r with
 | pl r=>exact .pl (r.mono s)
 | ol h r=>exact .ol (k _ (by simp) _ h) (r.mono s)
 | ok h hk r=>exact .ok (k _ (by simp) _ h) hk (r.mono s)
 | ot h hk r=>exact .ot (k _ (by simp) _ h) hk (r.mono s)
 | hd h he hk r=>exact .hd (s _ _ h) he hk (r.mono s)
 | hf h=>exact .hf (FX.mono h s)
 | otl h hk hv r=>refine .otl (k _ (by simp) _ h) hk hv λi ds l h1 h2=>?_;obtain⟨vs,q1,q2⟩:=r i ds l h1 h2;exact⟨vs,k l (Zyx _ (ZyW h2)) _ q1,q2.mono s⟩
theorem Zad.there2(r:Zad K F H b v fp){a:Addr}(h:a∈fp):∃o,H a=some o/\ZlL o=true:=by
 cases r with
 | pl r=>simp at h
 | hd _ _ _ _=>simp at h
 | hf _=>simp at h
 | ol q r=>simp at h; subst h; exact⟨_,q,rfl⟩
 | ok q hk r=>simp at h; subst h; exact⟨_,q,rfl⟩
 | ot q hk r=>simp at h; subst h; exact⟨_,q,rfl⟩
 | @otl a' kvs vvs ls q hk hv r =>
  rcases ZyR.mp h with e | e
  ·subst e; exact⟨_,q,rfl⟩
  ·obtain⟨i,hi⟩:=List.getElem?_of_mem e
   have hl:kvs.length=ls.length:=by have e1:=congrArg Zzf hk;have e2:=congrArg Zzf hv;rw[Zyt,Zyt]at e1 e2;omega
   have hi':i<kvs.length:=by rw[hl]; exact(ZyG.mp hi).1
   obtain⟨vs,q1,_⟩:=r i (kvs[i].2) a (by simp[hi']) hi;exact⟨_,q1,rfl⟩
theorem Zad.there'(r:Zad K F H b v fp){a:Addr}(h:a∈fp):∃o,H a=some o/\∀xs,o≠.tup xs:=by
 cases r with
 | pl r=>simp at h
 | hd _ _ _ _=>simp at h
 | hf _=>simp at h
 | ol q r=>simp at h; subst h; exact⟨_,q,λ_ z=>by cases z⟩
 | ok q hk r=>simp at h; subst h; exact⟨_,q,λ_ z=>by cases z⟩
 | ot q hk r=>simp at h; subst h; exact⟨_,q,λ_ z=>by cases z⟩
 | @otl a' kvs vvs ls q hk hv r =>
  rcases ZyR.mp h with e | e
  ·subst e; exact⟨_,q,λ_ z=>by cases z⟩
  ·obtain⟨i,hi⟩:=List.getElem?_of_mem e
   have hl:kvs.length=ls.length:=by have e1:=congrArg Zzf hk;have e2:=congrArg Zzf hv;rw[Zyt,Zyt]at e1 e2;omega
   have hi':i<kvs.length:=by rw[hl]; exact(ZyG.mp hi).1
   obtain⟨vs,q1,_⟩:=r i (kvs[i].2) a (by simp[hi']) hi;exact⟨_,q1,λ_ z=>by cases z⟩
theorem Zad.there(r:Zad K F H b v fp){a:Addr}(h:a∈fp):∃o,H a=some o:=let ⟨o,q,_⟩:=r.there' h; ⟨o,q⟩
end
structure Zbh(K:Zys)(F0 H0 F H:Hp)(r:HM.Env)(σ:L2.St)(fp:Nat->List Addr):Prop where
 ext:Ext F0 H0 F H
 len:r.length=σ.length
 at_:∀(i:Nat) (b:HM.B),r[i]?=some (some b)->∃v,σ[i]?=some (some v)/\Zad K F H b v (fp i)
 emp:∀(i:Nat),(∀b,r[i]?≠some (some b))->fp i=[]
 own:∀(i:Nat) (a:Addr),a∈fp i->F a=none/\H0 a=none
 nd:∀i,(fp i).Nodup
 dis:∀(i j:Nat) (a:Addr),i≠j->a∈fp i->¬a∈fp j
 tb:Tb H0
 nt:NoT F0
def At(K:Zys)(F0 H0 F H:Hp)(r:HM.Env)(σ:L2.St):Prop:=∃fp,Zbh K F0 H0 F H r σ fp
section
variable{K:Zys}{F0 H0 F H F' H':Hp}{r:HM.Env}{σ:L2.St}{fp:Nat->List Addr}{i:Nat}{b:HM.B}{v:V}{d:PyData}
theorem Zbh.bound(e:Zbh K F0 H0 F H r σ fp){a:Addr}(h:a∈fp i):∃b,r[i]?=some (some b):=by
 cases q:r[i]? with
 | none=>rw[e.emp i (λb z=>by rw[q]at z; cases z)]at h; simp at h
 | some x =>
  cases x with
  | none=>rw[e.emp i (λb z=>by rw[q]at z; cases z)]at h; simp at h
  | some b=>exact⟨b,rfl⟩
theorem Zbh.there'(e:Zbh K F0 H0 F H r σ fp){a:Addr}(h:a∈fp i):∃o,H a=some o/\∀xs,o≠.tup xs:=by obtain⟨b,hb⟩:=e.bound h;obtain⟨v,_,q⟩:=e.at_ i b hb;exact q.there' h
theorem Zbh.there2(e:Zbh K F0 H0 F H r σ fp){a:Addr}(h:a∈fp i):∃o,H a=some o/\ZlL o=true:=by obtain⟨b,hb⟩:=e.bound h;obtain⟨v,_,q⟩:=e.at_ i b hb;exact q.there2 h
theorem Zbh.there(e:Zbh K F0 H0 F H r σ fp){a:Addr}(h:a∈fp i):∃o,H a=some o:=let ⟨o,q,_⟩:=e.there' h; ⟨o,q⟩
theorem Zbh.sub(e:Zbh K F0 H0 F H r σ fp):Zq F H:=e.ext.sub
theorem Zbh.grow(e:Zbh K F0 H0 F H r σ fp)(x:Ext F H F' H'):Zbh K F0 H0 F' H' r σ fp:=by
 refine⟨e.ext.trans x,e.len,λi b h=>?_,e.emp,λi a h=>⟨?_,(e.own i a h).2⟩,e.nd,e.dis,e.tb,e.nt⟩
 ·obtain⟨v,h1,h2⟩:=e.at_ i b h
  exact⟨v,h1,h2.mono x.ff λa _ o q=>x.hh a o q⟩
 ·cases q:F' a with
  | none=>rfl
  | some o =>
   rcases x.new a o q with z | z
   ·rw[(e.own i a h).1]at z; cases z
   ·obtain⟨o',h',hn⟩:=e.there' h
    exact(z.no h' hn).elim
theorem At.grow(e:At K F0 H0 F H r σ)(x:Ext F H F' H'):At K F0 H0 F' H' r σ:=let ⟨fp,e⟩:=e; ⟨fp,e.grow x⟩
theorem At.tb(e:At K F0 H0 F H r σ):Tb H:=let ⟨_,e⟩:=e; e.ext.tab e.tb
theorem At.tbx(e:At K F0 H0 F H r σ)(x:Ext F H F' H'):Tb H':=x.tab e.tb
theorem At.nt(e:At K F0 H0 F H r σ):NoT F:=let ⟨_,e⟩:=e; e.ext.nts e.nt
theorem At.ntx(e:At K F0 H0 F H r σ)(x:Ext F H F' H'):NoT F':=x.nts e.nt
theorem At.nt0(e:At K F0 H0 F H r σ):NoT F0:=let ⟨_,e⟩:=e; e.nt
theorem At.sub(e:At K F0 H0 F H r σ):Zq F H:=let ⟨_,e⟩:=e; e.ext.sub
theorem At.ext(e:At K F0 H0 F H r σ):Ext F0 H0 F H:=let ⟨_,e⟩:=e; e.ext
theorem At.refl(e:At K F0 H0 F H r σ):Ext F H F H:=.refl e.sub
theorem At.plain(e:At K F0 H0 F H r σ)(h:r[i]?=some (some (.pl d))):∃v,σ[i]?=some (some v)/\Rep K F d v:=by
 obtain⟨fp,e⟩:=e;obtain⟨v,h1,h2⟩:=e.at_ i _ h;generalize fp i=f at h2;cases h2 with
 | pl q=>exact⟨v,h1,q⟩
theorem At.any(e:At K F0 H0 F H r σ)(h:r[i]?=some (some b)):∃v fp,σ[i]?=some (some v)/\Zad K F H b v fp:=by obtain⟨fp,e⟩:=e;obtain⟨v,h1,h2⟩:=e.at_ i _ h;exact⟨v,_,h1,h2⟩
theorem At.store(e:At K F0 H0 F H r σ){fp':List Addr}(q:Zad K F H b v fp')(nd:fp'.Nodup)(h1:∀a∈fp',F a=none/\H0 a=none)(h2:∀fp,Zbh K F0 H0 F H r σ fp->∀j a,j≠i->a∈fp j->¬a∈fp') :
  At K F0 H0 F H (r.set i (some b)) (σ.set i (some v)):=by
 obtain⟨fp,e⟩:=e;have h2:=h2 fp e
 by_cases hi:i<r.length
 ·refine⟨λj=>if j=i then fp' else fp j,e.ext,by rw[ZzG,ZzG,e.len],λj c h=>?_,λj h=>?_,λj a h=>?_,λj=>?_,λj k a hjk h=>?_,e.tb,e.nt⟩
  ·by_cases hj:j=i
   ·subst hj
    rw[Zzk hi]at h;cases h;refine⟨v,Zzk (by rw[<-e.len]; exact hi),?_⟩;rw[if_pos rfl]; exact q
   ·rw[Zy0 (Zzu hj)]at h
    obtain⟨u,q1,q2⟩:=e.at_ j c h;refine⟨u,by rw[Zy0 (Zzu hj)]; exact q1,?_⟩;rw[if_neg hj]; exact q2
  ·by_cases hj:j=i
   ·subst hj
    exact absurd (Zzk hi) (h b)
   ·show(if j=i then fp' else fp j)=[]
    rw[if_neg hj];exact e.emp j λc z=>h c (by rw[Zy0 (Zzu hj)]; exact z)
  ·by_cases hj:j=i
   ·rw[if_pos hj]at h; exact h1 a h
   ·rw[if_neg hj]at h; exact e.own j a h
  ·show(if j=i then fp' else fp j).Nodup
   by_cases hj:j=i
   ·rw[if_pos hj]; exact nd
   ·rw[if_neg hj]; exact e.nd j
  ·show ¬a∈(if k=i then fp' else fp k)
   by_cases hj:j=i
   ·rw[if_pos hj]at h
    by_cases hk:k=i
    ·exact absurd (hj.trans hk.symm) hjk
    ·rw[if_neg hk]; exact λz=>h2 k a hk z h
   ·rw[if_neg hj]at h
    by_cases hk:k=i
    ·rw[if_pos hk]; exact h2 j a hj h
    ·rw[if_neg hk]; exact e.dis j k a hjk h
 ·have e1:r.set i (some b)=r:=ZCQ (by omega)
  have e2:σ.set i (some v)=σ:=ZCQ (by have:=e.len; omega);rw[e1,e2];exact⟨fp,e⟩
theorem At.set(e:At K F0 H0 F H r σ)(q:Rep K F d v):At K F0 H0 F H (r.set i (some (.pl d))) (σ.set i (some v)) :=
 e.store (.pl q) ZAb (λa h=>by simp at h) λ_ _ _ _ _ _ h=>by simp at h
theorem Zbh.changeW(e:Zbh K F0 H0 F H r σ fp)(hv:σ[i]?=some (some v)){fp':List Addr}(q:Zad K F H' b v fp')(nd:fp'.Nodup)(h1:∀a∈fp',a∈fp i\/(F a=none/\H0 a=none/\∀j,a ∉ fp j))
  (h2:∀a o,H a=some o->¬a∈fp i->H' a=some o):At K F0 H0 F H' (r.set i (some b)) σ:=by
 have sF:Zq F H':=λa o z=>h2 a o (e.sub a o z) λm=>by rw[(e.own i a m).1]at z; cases z
 have sH:ZaB H0 H':=λa o z=>by
  have nm:¬a∈fp i:=λm=>by rw[(e.own i a m).2]at z; cases z
  have y:=e.ext.hh a o z;cases o<;>first | exact h2 a _ y nm | (obtain⟨ps,q⟩:=y; exact⟨ps,h2 a _ q nm⟩)
 have sT:Tb H0->Tb H':=λt=>(e.ext.tab t).keep λa o z ho=>h2 a o z λm=>by obtain⟨o',q1,q2⟩:=e.there2 m;rw[z]at q1; cases q1; exact ZsN q2 ho
 have e':Zbh K F0 H0 F H' (r.set i none) (σ.set i none) (λj=>if j=i then[]else fp j):=by
  refine⟨⟨e.ext.ff,sH,sF,e.ext.new,sT,e.ext.nts⟩,by rw[ZzG,ZzG,e.len],λj c h=>?_,λj h=>?_,λj a h=>?_,λj=>?_,λj k a hjk h=>?_,e.tb,e.nt⟩
  ·by_cases hj:j=i
   ·subst hj
    by_cases hi:j<r.length
    ·rw[Zzk hi]at h; cases h
    ·rw[ZDe (by rw[ZzG]; omega)]at h; cases h
   ·rw[Zy0 (Zzu hj)]at h
    obtain⟨u,q1,q2⟩:=e.at_ j c h;refine⟨u,by rw[Zy0 (Zzu hj)]; exact q1,?_⟩;rw[if_neg hj];exact q2.mono (Zq.refl F) λa ha o z=>.of (h2 a o z (e.dis j i a hj ha))
  ·show(if j=i then[]else fp j)=[]
   by_cases hj:j=i
   ·rw[if_pos hj]
   ·rw[if_neg hj]
    exact e.emp j λc z=>h c (by rw[Zy0 (Zzu hj)]; exact z)
  ·by_cases hj:j=i
   ·rw[if_pos hj]at h; simp at h
   ·rw[if_neg hj]at h; exact e.own j a h
  ·show(if j=i then[]else fp j).Nodup
   by_cases hj:j=i
   ·rw[if_pos hj]; exact ZAb
   ·rw[if_neg hj]; exact e.nd j
  ·show ¬a∈(if k=i then[]else fp k)
   by_cases hj:j=i
   ·rw[if_pos hj]at h; simp at h
   ·rw[if_neg hj]at h
    by_cases hk:k=i
    ·rw[if_pos hk]; simp
    ·rw[if_neg hk]; exact e.dis j k a hjk h
 have hF:∀a∈fp',F a=none/\H0 a=none:=λa ha=>by
  rcases h1 a ha with z | z
  ·exact e.own i a z
  ·exact⟨z.1,z.2.1⟩
 have e2:=At.store (i:=i) ⟨_,e'⟩ q nd hF λfq eq j a hj ha z=>by
  obtain⟨c,hc⟩:=eq.bound ha;rw[Zy0 (Zzu hj)]at hc;obtain⟨u1,s1,r1⟩:=eq.at_ j c (by rw[Zy0 (Zzu hj)]; exact hc);obtain⟨u2,s2,r2⟩:=e.at_ j c hc;rw[Zy0 (Zzu hj),s2]at s1;cases s1;have hm:a∈fp j:=by
   have r2':=r2.mono (H':=H') (Zq.refl F) λa ha o z=>.of (h2 a o z (e.dis j i a hj ha))
   clear r2
   generalize fq j=f1 at r1 ha;generalize fp j=f2 at r2' ⊢;cases r1 with
   | pl _=>simp at ha
   | hd _ _ _ _=>simp at ha
   | hf _=>simp at ha
   | ol _ _=>cases r2' with | ol _ _=>exact ha
   | ok _ _ _=>cases r2' with | ok _ _ _=>exact ha
   | ot _ _ _=>cases r2' with | ot _ _ _=>exact ha
   | otl a1 _ v1 _ =>
    cases r2' with
    | otl a2 _ v2 _ =>
     rw[a1]at a2;cases a2;rw[v1]at v2;have:∀{l l':List Addr},l.map V.ref=l'.map V.ref->l=l':=by
      intro l
      induction l with
      | nil=>intro l' h; cases l' with | nil=>rfl | cons _ _=>simp at h
      | cons x xs ih =>
       intro l' h;cases l' with
       | nil=>simp at h
       | cons y ys =>
        rw[Zyz,Zyz]at h;injection h with h1 h2
        injection h1 with h1
        rw[h1,ih h2]
     rw[<-this v2]; exact ha
  rcases h1 a z with w | w
  ·exact e.dis j i a hj hm w
  ·exact w.2.2 j hm
 rw[ZB6,ZB6]at e2;have es:σ.set i (some v)=σ:=by have hi:i<σ.length:=(ZyG.mp hv).1;have hq:σ[i]=some v:=(ZyG.mp hv).2;rw[<-hq];exact ZBc hi
 rwa [es]at e2
theorem Zbh.change(e:Zbh K F0 H0 F H r σ fp)(hv:σ[i]?=some (some v)){fp':List Addr}(q:Zad K F H' b v fp')(nd:fp'.Nodup)(h1:∀a∈fp',a∈fp i\/H a=none)
  (h2:∀a o,H a=some o->¬a∈fp i->H' a=some o):At K F0 H0 F H' (r.set i (some b)) σ :=
 e.changeW hv q nd (λa ha=>(h1 a ha).imp id λz=>⟨e.sub.free z,e.ext.hh.free z,λj hj=>by obtain⟨o,ho⟩:=e.there hj;rw[z]at ho; cases ho⟩) h2
theorem At.storeNew{Hb:Hp}(e:At K F0 H0 F H r σ)(hb:At K F0 H0 F' Hb r σ)(sb:ZaB Hb H){fp':List Addr}(q:Zad K F H b v fp')(nd:fp'.Nodup)(h1:∀a∈fp',F a=none/\Hb a=none) :
  At K F0 H0 F H (r.set i (some b)) (σ.set i (some v)):=by
 refine e.store q nd (λa h=>⟨(h1 a h).1,hb.ext.hh.free (h1 a h).2⟩) λfp e1 j a hj ha z=>?_;obtain⟨fq,eb⟩:=hb;obtain⟨c,hc⟩:=e1.bound ha;obtain⟨u1,s1,r1⟩:=e1.at_ j c hc;obtain⟨u2,s2,r2⟩:=eb.at_ j c hc;rw[s2]at s1;cases s1;have hn:=(h1 a z).2;have old:∀{x:Addr} {o o':HO},Hb x=some o->H x=some o'->(∀ps,o'≠.tbl ps)->o=o':=λ{x o o'} h1 h2 n=>sb.back h1 h2 n;generalize fp j=f1 at r1 ha;generalize fq j=f2 at r2;cases r1 with
 | pl _=>simp at ha
 | hd _ _ _ _=>simp at ha
 | hf _=>simp at ha
 | ol k _=>cases r2 with | ol k' _=>simp at ha; subst ha; rw[hn]at k'; cases k'
 | ok k _ _=>cases r2 with | ok k' _ _=>simp at ha; subst ha; rw[hn]at k'; cases k'
 | ot k _ _=>cases r2 with | ot k' _ _=>simp at ha; subst ha; rw[hn]at k'; cases k'
 | otl k _ v1 _ =>
  cases r2 with
  | otl k' hk' v2 r2' =>
   have eo:=old k' k λ_ z=>by cases z
   injection eo with eo
   subst eo;have v2':=v2;rw[v1]at v2;rcases ZyR.mp ha with z2 | z2
   ·subst z2; rw[hn]at k'; cases k'
   ·have:V.ref a∈ZCg V.ref _:=ZyC.mpr ⟨a,z2,rfl⟩
    rw[v2]at this;obtain⟨a',m1,m2⟩:=ZyC.mp this;injection m2 with m2
    subst m2;obtain⟨o,ho⟩:=Zad.there (Zad.otl k' hk' v2' r2') (Zyx _ m1);rw[hn]at ho; cases ho
theorem At.rebase(e:At K F0 H0 F H r σ):At K F H0 F H r σ:=by obtain⟨fp,e⟩:=e;exact⟨fp,⟨Zq.refl F,e.ext.hh,e.ext.sub,λ_ _ z=>.inl z,e.ext.tab,id⟩,e.len,e.at_,e.emp,e.own,e.nd,e.dis,e.tb,e.ext.nts e.nt⟩
theorem Ext.unbase{F1 H1:Hp}(x:Ext F0 H0 F1 H1)(y:Ext F1 H0 F H):Ext F0 H0 F H :=
 ⟨x.ff.trans y.ff,y.hh,y.sub,λa o z=>(y.new a o z).elim (λq=>x.new a o q) .inr,y.tab,λt=>y.nts (x.nts t)⟩
theorem At.unbase{F1 H1:Hp}(x:Ext F0 H0 F1 H1)(n:NoT F0)(e:At K F1 H0 F H r σ):At K F0 H0 F H r σ:=by obtain⟨fp,e⟩:=e;exact⟨fp,x.unbase e.ext,e.len,e.at_,e.emp,e.own,e.nd,e.dis,e.tb,n⟩
theorem Zbh.freeze{fp:Nat->List Addr}(e:Zbh K F0 H0 F H r σ fp)(i:Nat){b:HM.B}{a:Addr}{ob:HO}{d:PyData}(hb:r[i]?=some (some b))(h1:σ[i]?=some (some (.ref a)))(hfp:fp i=[a])(ha:H a=some ob)(hr:Zq F (upd F a ob)->Rep K (upd F a ob) d (.ref a))(no:HP.nt ob=true:=by rfl) :
  ∃F',Ext F0 H0 F' H/\Zq F F'/\At K F0 H0 F' H (r.set i (some (.pl d))) σ:=by
 have hF:F a=none:=(e.own i a (by rw[hfp]; simp)).1;have s:Zq F (upd F a ob):=Zq.upd' hF;have x:Ext F0 H0 (upd F a ob) H:=by
  refine⟨e.ext.ff.trans s,e.ext.hh,λc o z=>?_,λc o z=>?_,e.ext.tab,λt=>(e.ext.nts t).upd no⟩
  ·by_cases hc:c=a
   ·subst hc; rw[ZC]at z; cases z; exact ha
   ·rw[ZA hc]at z; exact e.sub c o z
  ·by_cases hc:c=a
   ·subst hc; exact .inr (.inl (e.own i c (by rw[hfp]; simp)).2)
   ·rw[ZA hc]at z; exact e.ext.new c o z
 refine⟨_,x,s,?_⟩;have e1:Zbh K F0 H0 (upd F a ob) H (r.set i none) (σ.set i none) (λj=>if j=i then[]else fp j):=by
  refine⟨x,by rw[ZzG,ZzG,e.len],λj c h=>?_,λj h=>?_,λj c h=>?_,λj=>?_,λj k c hjk h=>?_,e.tb,e.nt⟩
  ·by_cases hj:j=i
   ·subst hj
    rw[Zzk (ZyG.mp hb).1]at h; cases h
   ·rw[Zy0 (Zzu hj)]at h
    obtain⟨u,q1,q2⟩:=e.at_ j c h;refine⟨u,by rw[Zy0 (Zzu hj)]; exact q1,?_⟩;rw[if_neg hj]; exact q2.mono s λ_ _ _ z=>.of z
  ·show(if j=i then[]else fp j)=[]
   by_cases hj:j=i
   ·rw[if_pos hj]
   ·rw[if_neg hj]
    exact e.emp j λc z=>h c (by rw[Zy0 (Zzu hj)]; exact z)
  ·by_cases hj:j=i
   ·rw[if_pos hj]at h; simp at h
   ·rw[if_neg hj]at h
    have hca:c≠a:=λz=>e.dis j i c hj h (by rw[hfp,z]; simp);exact⟨by rw[ZA hca]; exact(e.own j c h).1,(e.own j c h).2⟩
  ·show(if j=i then[]else fp j).Nodup
   by_cases hj:j=i
   ·rw[if_pos hj]; exact ZAb
   ·rw[if_neg hj]; exact e.nd j
  ·show ¬c∈(if k=i then[]else fp k)
   by_cases hj:j=i
   ·rw[if_pos hj]at h; simp at h
   ·rw[if_neg hj]at h
    by_cases hk:k=i
    ·rw[if_pos hk]; simp
    ·rw[if_neg hk]; exact e.dis j k c hjk h
 have rp:=hr s;have e2:=At.set (i:=i) ⟨_,e1⟩ rp;rw[ZB6,ZB6]at e2;have es:σ.set i (some (.ref a))=σ:=by have hi:i<σ.length:=(ZyG.mp h1).1;have hq:σ[i]=some (.ref a):=(ZyG.mp h1).2;rw[<-hq];exact ZBc hi
 rwa [es]at e2
theorem At.freeze(e:At K F0 H0 F H r σ)(i:Nat):∃F',Ext F0 H0 F' H/\Zq F F'/\At K F0 H0 F' H (HM.Zk1 i r) σ:=by
 unfold HM.Zk1;split
 ·rename_i ds hb
  obtain⟨fp,e⟩:=e;obtain⟨v,h1,h2⟩:=e.at_ i _ hb;generalize hfp:fp i=f at h2;cases h2 with
  | @ol a _ vs ha q=>exact e.freeze i hb h1 hfp ha λs=>.lst (.of ZC) q.1 (q.mono s).2
 ·rename_i kvs hb
  obtain⟨fp,e⟩:=e;obtain⟨v,h1,h2⟩:=e.at_ i _ hb;generalize hfp:fp i=f at h2;cases h2 with
  | @ot a _ vvs ha hk q=>exact e.freeze i hb h1 hfp ha λs=>.dct (.inl ZC) rfl hk (q.mono s).2
 ·exact⟨F,e.ext,Zq.refl F,e⟩
end
inductive Now(K:Zys)(r:HM.Env)(σ:L2.St)(H:Hp)(C:Hp->Hp->Hp->Prop):Prop
 | mk (F0 H0 F:Hp) (at_:At K F0 H0 F H r σ) (k:C F0 H0 F):Now K r σ H C
end HP
namespace HP
open PySem PySem.Spec PyProof.Rows L2
variable[FX]
def tAt(K:Zys)(r:HM.Env)(P:Hp->Hp->Hp->V->Prop):TE:=λσ H Q=>Now K r σ H λF0 H0 F=>∀v F' H',Ext F H F' H'->P H F' H' v->Q v H'
def XE(X:Cx)(e:Expr)(f:HM.EF):Prop:=∀r d,f r=some d->PE X e (tAt X.K r λ_ F' _ v=>Rep X.K F' d v)
def XB(X:Cx)(e:Expr)(f:HM.BF):Prop:=∀r b,f r=some b->PE X e (tAt X.K r λ_ F' H' v=>∃fp,Zad X.K F' H' b v fp)
def XF(X:Cx)(e:Expr)(f:HM.BF):Prop:=∀r b,f r=some b->PE X e (tAt X.K r λH F' H' v=>∃fp,Zad X.K F' H' b v fp/\fp.Nodup/\∀a∈fp,F' a=none/\H a=none)
def XT(X:Cx)(e:Expr)(f:HM.TF):Prop:=∀r c,f r=some c->PT X e λσ H Q=>Now X.K r σ H λF0 H0 F=>∀F' H',Ext F H F' H'->Q c H'
def XW(X:Cx)(e:Expr)(f:HM.TF):Prop:=∀r c,f r=some c->PW X e λσ H Q=>Now X.K r σ H λF0 H0 F=>∀F' H',Ext F H F' H'->Q c H'
structure XA(X:Cx)(es:List Expr)(f:HM.AF):Prop where
 len:∀r ds,f r=some ds->ds.length=es.length
 pa:∀r ds,f r=some ds->PA X es λσ H Q=>Now X.K r σ H λF0 H0 F=>∀vs F' H',Ext F H F' H'->Zt X.K F' ds vs->Q vs H'
def ItD(K:Zys)(J:It)(ds:List PyData)(F:Hp):Prop:=∀F' H,Zq F F'->Zq F' H ->
 (∀(i:Nat) (d:PyData),ds[i]?=some d->J.go i H/\∀x H',J.yld i H x H'->H'=H/\Rep K (ZcR F' H) d x)/\J.stop ds.length H
def XI(X:Cx)(tg e:Expr)(f:HM.IF):Prop:=∀r ds,f r=some ds->PI X tg e λσ H R=>Now X.K r σ H λF0 H0 F=>∀J F' H',Ext F H F' H'->ItD X.K J ds F'->R J H'
def ZxN(K:Zys)(F0 H0:Hp)(o:HM.Out)(E:Ends):Prop:=match o with
 | .nx r=>∀σ F H,At K F0 H0 F H r σ->E.nx σ H
 | .rt d=>∀v F H,Ext F0 H0 F H->Rep K F d v->E.rt v H
 | .bk r=>∀σ F H,At K F0 H0 F H r σ->E.bk σ H
 | .ct r=>∀σ F H,At K F0 H0 F H r σ->E.ct σ H
def tSt(K:Zys)(r:HM.Env)(o:HM.Out):TS:=λE σ H=>Now K r σ H λF0 H0 F=>ZxN K F0 H0 o E
def XS(X:Cx)(st:Stmt)(g:HM.SF):Prop:=∀r o,g r=some o->PS X st (tSt X.K r o)
def XSs(X:Cx)(sts:List Stmt)(g:HM.SF):Prop:=∀r o,g r=some o->PSs X sts (tSt X.K r o)
theorem PE.imp{X:Cx}{e:Expr}{t u:TE}(h:PE X e t)(hi:∀σ H Q,u σ H Q->t σ H Q):PE X e u:=λpins s σ H Q I q=>h pins s σ H Q I (hi σ H Q q)
theorem PT.imp{X:Cx}{e:Expr}{t u:TT}(h:PT X e t)(hi:∀σ H Q,u σ H Q->t σ H Q):PT X e u:=λpins s σ H Q I q=>h pins s σ H Q I (hi σ H Q q)
theorem PW.imp{X:Cx}{e:Expr}{t u:TT}(h:PW X e t)(hi:∀σ H Q,u σ H Q->t σ H Q):PW X e u:=λwh pins s σ H Q I q=>h wh pins s σ H Q I (hi σ H Q q)
theorem PA.imp{X:Cx}{es:List Expr}{t u:TA}(h:PA X es t)(hi:∀σ H Q,u σ H Q->t σ H Q):PA X es u:=λp pins s σ H Q I q=>h p pins s σ H Q I (hi σ H Q q)
theorem PS.imp{X:Cx}{st:Stmt}{t u:TS}(h:PS X st t)(hi:∀E σ H,u E σ H->t E σ H):PS X st u:=λpins s σ H E I q=>h pins s σ H E I (hi E σ H q)
theorem PSs.imp{X:Cx}{sts:List Stmt}{t u:TS}(h:PSs X sts t)(hi:∀E σ H,u E σ H->t E σ H):PSs X sts u:=λpins s σ H E I q=>h pins s σ H E I (hi E σ H q)
section
variable{X:Cx}{a b c e:Expr}{fa fb fc:HM.EF}{pos p:Pos}
theorem ZtQ{i:Nat}{r:HM.Env}{d:PyData}(h:HM.Zb i r=some d):r[i]?=some (some (.pl d)):=by
 unfold HM.Zb at h;split at h
 ·rename_i q; cases h; exact q
 ·cases h
theorem ZtL{i:Nat}{r:HM.Env}{d:HM.B}(h:HM.Zo i r=some d):r[i]?=some (some d):=by
 unfold HM.Zo at h;split at h
 ·rename_i q; cases h; exact q
 ·cases h
theorem Za(i:Nat){x:Str}{pos:Pos}(hN:X.N[i]?=some x:=by rfl)(hv:Vis X.env.scope x:=by first | exact Zzo rfl | exact Zy5 (Zzo rfl) | exact Zy5 (Zy5 rfl))(hd:(x==("__debug__":Str))=false:=by decide)
  (hcd:(x==("__classdict__":Str))=false:=by decide):XE X (.Name x pos) (HM.Zb i):=by
 intro r d h;refine PE.imp (Zb8 hN hv hd hcd) λσ H Q ⟨F0,H0,F,at_,k⟩=>?_;obtain⟨v,h1,h2⟩:=at_.plain (ZtQ h);exact⟨v,h1,k v F H at_.refl h2⟩
theorem Zr(i:Nat){x:Str}{pos:Pos}(hN:X.N[i]?=some x:=by rfl)(hv:Vis X.env.scope x:=by first | exact Zzo rfl | exact Zy5 (Zzo rfl) | exact Zy5 (Zy5 rfl))(hd:(x==("__debug__":Str))=false:=by decide)
  (hcd:(x==("__classdict__":Str))=false:=by decide):XB X (.Name x pos) (HM.Zo i):=by
 intro r d h;refine PE.imp (Zb8 hN hv hd hcd) λσ H Q ⟨F0,H0,F,at_,k⟩=>?_;obtain⟨v,fp,h1,h2⟩:=at_.any (ZtL h);exact⟨v,h1,k v F H at_.refl ⟨fp,h2⟩⟩
theorem ZfS{v:V}{d:PyData}(h:PE X e (tC v))(r:∀F,Rep X.K F d v):XE X e (HM.eC d):=by intro r' d' h';cases h';exact PE.imp h λσ H Q ⟨F0,H0,F,at_,k⟩=>k v F H at_.refl (r F)
theorem Zi{i:Int}{j:Nat}:XE X (.Constant (.int i) j pos) (HM.eC (.int i)):=ZfS Zr9 λ_=>.int i
theorem Zcz{q:Bool}{j:Nat}:XE X (.Constant (.bool q) j pos) (HM.eC (.bool q)):=ZfS Zxj λ_=>.bl q
theorem Zb1{j:Nat}:XE X (.Constant .none j pos) (HM.eC .none):=ZfS Zsa λ_=>.non
theorem Zjp{x:Str}{i:Int}(hm:∃t,X.mg x=some (.int i t))(hg:Gl X x:=by rfl)(hd:(x==("__debug__":Str))=false:=by decide):XE X (.Name x pos) (HM.eC (.int i)):=by obtain⟨t,hm⟩:=hm;exact ZfS (Zqb hg hm (v:=.int i) ⟨t,rfl⟩ hd) λ_=>.int i
theorem Zvu{i:Int}{j:Nat}{p':Pos}:XE X (.UnaryOp .USub (.Constant (.int i) j p') pos) (HM.eC (.int (-i))):=by intro r d h;cases h;intro pins s σ H Q I q;obtain⟨F0,H0,F,at_,k⟩:=q;refine UnaryOp_ (thn (Zr9 pins s σ H (λv H'=>v=.int i/\H'=H) I ⟨rfl,rfl⟩) λu s1 ⟨x,H1,I1,r1,e1,e2⟩=>?_);subst e1 e2;obtain⟨t,rfl⟩:=r1;exact neg_int ⟨.int (-i),H1,I1.tok _,⟨_,rfl⟩,k _ F H1 at_.refl (.int _)⟩
theorem ZaU(h:XE X e fa):XB X e (HM.bOf fa):=by intro r b hb;obtain⟨d,h1,h2⟩:=Zyu.mp hb;subst h2;exact PE.imp (h r d h1) λσ H Q ⟨F0,H0,F,at_,k⟩=>⟨F0,H0,F,at_,λv F' H' x q=>k v F' H' x ⟨[],.pl q⟩⟩
theorem ZaV{f:HM.BF}(h:XF X e f):XB X e f:=λr b hb=>PE.imp (h r b hb) λσ H Q ⟨F0,H0,F,at_,k⟩=>⟨F0,H0,F,at_,λv F' H' x ⟨fp,q,_⟩=>k v F' H' x ⟨fp,q⟩⟩
theorem Zdw{f:HM.BF}(h:XF X e f):XE X e (HM.eOf f):=by
 intro r d hd;unfold HM.eOf at hd;obtain⟨b,h1,h2⟩:=ZBI.mp hd;refine PE.imp (h r b h1) λσ H Q ⟨F0,H0,F,at_,k⟩=>⟨F0,H0,F,at_,λv F' H' x ⟨fp,q,_,hn⟩=>?_⟩;cases q with
 | pl q=>cases h2;exact k v F' H' x q
 | @ol l ds vs hl q =>
  cases h2;have hF:F' l=none:=(hn l (by simp)).1;have s:Zq F' (upd F' l (.lst vs)):=Zq.upd' hF;refine k _ (upd F' l (.lst vs)) H' ⟨x.ff.trans s,x.hh,λc o z=>?_,λc o z=>?_,x.tab,λt=>(x.nts t).upd rfl⟩ (.lst (.of ZC) q.1 (q.mono s).2)
  ·by_cases hc:c=l
   ·subst hc; rw[ZC]at z; cases z; exact hl
   ·rw[ZA hc]at z; exact x.sub c o z
  ·by_cases hc:c=l
   ·subst hc; exact .inr (.inl (hn c (by simp)).2)
   ·rw[ZA hc]at z; exact x.new c o z
 | @ot l kvs vvs hl hk q =>
  cases h2;have hF:F' l=none:=(hn l (by simp)).1;have s:Zq F' (upd F' l (.dT vvs)):=Zq.upd' hF;refine k _ (upd F' l (.dT vvs)) H' ⟨x.ff.trans s,x.hh,λc o z=>?_,λc o z=>?_,x.tab,λt=>(x.nts t).upd rfl⟩ (.dct (.inl ZC) rfl hk (q.mono s).2)
  ·by_cases hc:c=l
   ·subst hc; rw[ZC]at z; cases z; exact hl
   ·rw[ZA hc]at z; exact x.sub c o z
  ·by_cases hc:c=l
   ·subst hc; exact .inr (.inl (hn c (by simp)).2)
   ·rw[ZA hc]at z; exact x.new c o z
 | ok _ _ _=>cases h2
 | hd h3 h4 h5 h6=>cases h2; exact k _ F' H' x (.dct (.inr ⟨_,h3⟩) h4 h5 h6.2)
 | hf h3=>cases h2; exact k _ F' H' x (.fn h3)
 | otl _ _ _ _=>cases h2
def Bin(K:Zys)(r:R2)(g:PyData->PyData->Option PyData):Prop:=∀(F H:Hp) (x y z:PyData) (v w:V) (Q:VK),Zq F H->g x y=some z->Rep K F x v->Rep K F y w->(∀u,Rep K F z u->Q u H)->r v w H Q
structure ZoU(X:Cx)(op:Operator)(g:PyData->PyData->Option PyData):Prop where
 ex:∃r,OpR X (ZBi op) r/\Bin X.K r g
structure Zhg(X:Cx)(op:CmpOp)(g:PyData->PyData->Option PyData):Prop where
 ex:∃r,OpR X (ZzF op) r/\Bin X.K r g
 n1:op≠.In
 n2:op≠.NotIn
theorem Zhv{g:PyData->PyData->Option PyData}{r:HM.Env}{d:PyData}(h:HM.op2 g fa fb r=some d):∃x y,fa r=some x/\fb r=some y/\g x y=some d:=by
 unfold HM.op2 at h;split at h
 ·split at h
  ·exact⟨_,_,by assumption,by assumption,h⟩
  ·cases h
 ·cases h
theorem two{K:Zys}{r:HM.Env}{x y:PyData}{P:Hp->Hp->Hp->V->Prop}{σ:L2.St}{H:Hp}{Q:VK}{R:V->V->Hp->VK->Prop}(h:tAt K r P σ H Q)
  (hk:∀H F2 H2 v w,Zq F2 H2->Rep K F2 x v->Rep K F2 y w->(∀u F3 H3,Ext F2 H2 F3 H3->P H F3 H3 u->Q u H3)->ZaB H H2->R v w H2 Q) :
  tOp R (tAt K r λ_ F' _ v=>Rep K F' x v) (tAt K r λ_ F' _ v=>Rep K F' y v) σ H Q:=by
 obtain⟨F0,H0,F,at_,k⟩:=h;refine⟨F0,H0,F,at_,λv F1 H1 x1 r1=>⟨F0,H0,F1,at_.grow x1,λw F2 H2 x2 r2=>?_⟩⟩;exact hk H F2 H2 v w x2.sub (r1.mono x2.ff) r2 (λu F3 H3 x3 q=>k u F3 H3 ((x1.trans x2).trans x3) q) (x1.hh.trans x2.hh)
theorem ZF{op:Operator}{g:PyData->PyData->Option PyData}(o:ZoU X op g)(ha:XE X a fa)(hb:XE X b fb):XE X (.BinOp a op b pos) (HM.op2 g fa fb):=by intro r d h;obtain⟨x,y,h1,h2,h3⟩:=Zhv h;obtain⟨R,o1,o2⟩:=o.ex;refine PE.imp (Znb o1 (ha r x h1) (hb r y h2)) λσ H Q q=>?_;exact two q λ_ F2 H2 v w s r1 r2 k _=>o2 F2 H2 x y d v w Q s h3 r1 r2 λu ru=>k u F2 H2 (.refl s) ru
theorem Zhn{op:CmpOp}{g:PyData->PyData->Option PyData}(o:Zhg X op g)(ha:XE X a fa)(hb:XE X b fb):XE X (.Compare a [op] [b] pos) (HM.op2 g fa fb):=by intro r d h;obtain⟨x,y,h1,h2,h3⟩:=Zhv h;obtain⟨R,o1,o2⟩:=o.ex;refine PE.imp (Zqi o1 (ha r x h1) (hb r y h2) (Zku _ o.n1 o.n2)) λσ H Q q=>?_;exact two q λ_ F2 H2 v w s r1 r2 k _=>o2 F2 H2 x y d v w Q s h3 r1 r2 λu ru=>k u F2 H2 (.refl s) ru
theorem Zgl{r:HM.Env}{c:Bool}(h:HM.tV fa r=some c):fa r=some (.bool c):=by
 unfold HM.tV at h;split at h
 ·rename_i q; cases h; exact q
 ·cases h
theorem Rep.bool_inv{K:Zys}{F:Hp}{c:Bool}{v:V}(h:Rep K F (.bool c) v):v=.bl c:=by cases h; rfl
theorem Rep.int_inv{K:Zys}{F:Hp}{i:Int}{v:V}(h:Rep K F (.int i) v):v=.int i:=by cases h; rfl
theorem Rep.none_inv{K:Zys}{F:Hp}{v:V}(h:Rep K F .none v):v=.non:=by cases h; rfl
theorem Zaj{op:CmpOp}{g:PyData->PyData->Option PyData}(o:Zhg X op g)(ha:XE X a fa)(hb:XE X b fb):XT X (.Compare a [op] [b] pos) (HM.tV (HM.op2 g fa fb)):=by intro r d h;obtain⟨x,y,h1,h2,h3⟩:=Zhv (Zgl h);obtain⟨R,o1,o2⟩:=o.ex;refine PT.imp (Zlx o1 (ha r x h1) (hb r y h2) (Zku _ o.n1 o.n2)) λσ H Q ⟨F0,H0,F,at_,k⟩=>?_;refine⟨F0,H0,F,at_,λv F1 H1 x1 r1=>⟨F0,H0,F1,at_.grow x1,λw F2 H2 x2 r2=>?_⟩⟩;refine o2 F2 H2 x y _ v w _ x2.sub h3 (r1.mono x2.ff) r2 λu ru=>?_;exact⟨d,ru.bool_inv,k F2 H2 (x1.trans x2)⟩
theorem ZbD(h:XE X e fa)(he:∀whole,isTrue e X.env whole=(do let v <-whole; standAt e.pos; holding [v] (truthy v)):=by intro _; rfl):XT X e (HM.tV fa):=by intro r c hc;refine PT.imp (Zwv (h r _ (Zgl hc)) he) λσ H Q ⟨F0,H0,F,at_,k⟩=>?_;exact⟨F0,H0,F,at_,λv F1 H1 x1 r1=>⟨c,r1.bool_inv,k F1 H1 x1⟩⟩
theorem ZcV{t:HM.TF}(h:XT X a t):XT X (.UnaryOp .Not a pos) (HM.Zd6 t):=by intro r c hc;obtain⟨d,h1,h2⟩:=Zyu.mp hc;subst h2;refine PT.imp (Zwr (h r d h1)) λσ H Q ⟨F0,H0,F,at_,k⟩=>?_;exact⟨F0,H0,F,at_,λF1 H1 x1=>k F1 H1 x1⟩
theorem Zni{t:HM.TF}(h:XW X e t):XT X e t:=λr c hc=>(h r c hc).pt
theorem Zux{t:HM.TF}(h:XT X a t):XW X (.BoolOp .And [a] pos) t:=λr c hc=>Zvd (h r c hc)
theorem ZkD{t:HM.TF}(h:XT X a t):XW X (.BoolOp .Or [a] pos) t:=λr c hc=>ZvN (h r c hc)
theorem ZnT{e:Expr}:PW X e λ_ _ _=>False:=λ_ _ _ _ _ _ _ h=>h.elim
theorem ZhY{e:Expr}:PE X e λ_ _ _=>False:=λ_ _ _ _ _ _ h=>h.elim
theorem Zvv{t u:HM.TF}{rest:List Expr}(ha:XT X a t)(hb:XW X (.BoolOp .And (b::rest) pos) u):XW X (.BoolOp .And (a::b::rest) pos) (HM.ZoS t u):=by
 intro r c hc;unfold HM.ZoS at hc;split at hc
 ·rename_i q
  refine PW.imp (ZrO (ha r true q) (hb r c hc)) λσ H Q ⟨F0,H0,F,at_,k⟩=>?_;exact⟨F0,H0,F,at_,λF1 H1 x1=>Zlw ⟨F0,H0,F1,at_.grow x1,λF2 H2 x2=>k F2 H2 (x1.trans x2)⟩⟩
 ·rename_i q
  cases hc;refine PW.imp (ZrO (ha r false q) ZnT) λσ H Q ⟨F0,H0,F,at_,k⟩=>?_;exact⟨F0,H0,F,at_,λF1 H1 x1=>ZlA (k F1 H1 x1)⟩
 ·cases hc
theorem Zm5{t u:HM.TF}{rest:List Expr}(ha:XT X a t)(hb:XW X (.BoolOp .Or (b::rest) pos) u):XW X (.BoolOp .Or (a::b::rest) pos) (HM.tOr t u):=by
 intro r c hc;unfold HM.tOr at hc;split at hc
 ·rename_i q
  cases hc;refine PW.imp (Zur (ha r true q) ZnT) λσ H Q ⟨F0,H0,F,at_,k⟩=>?_;exact⟨F0,H0,F,at_,λF1 H1 x1=>Zlw (k F1 H1 x1)⟩
 ·rename_i q
  refine PW.imp (Zur (ha r false q) (hb r c hc)) λσ H Q ⟨F0,H0,F,at_,k⟩=>?_;exact⟨F0,H0,F,at_,λF1 H1 x1=>ZlA ⟨F0,H0,F1,at_.grow x1,λF2 H2 x2=>k F2 H2 (x1.trans x2)⟩⟩
 ·cases hc
theorem ZfT{op:BoolOp}(h:XE X a fa):XE X (.BoolOp op [a] pos) fa:=λr d hd=>ZvE (h r d hd)
theorem ZfU{rest:List Expr}(ha:XE X a fa)(hb:XE X (.BoolOp .And (b::rest) pos) fb):XE X (.BoolOp .And (a::b::rest) pos) (HM.Zib fa fb):=by
 intro r d hd;unfold HM.Zib at hd;split at hd
 ·rename_i q
  refine PE.imp (ZsV (ha r _ q) (hb r d hd)) λσ H Q ⟨F0,H0,F,at_,k⟩=>?_;exact⟨F0,H0,F,at_,λv F1 H1 x1 r1=>⟨true,r1.bool_inv,Zlw ⟨F0,H0,F1,at_.grow x1,λw F2 H2 x2 r2=>k w F2 H2 (x1.trans x2) r2⟩⟩⟩
 ·rename_i q
  cases hd;refine PE.imp (ZsV (ha r _ q) ZhY) λσ H Q ⟨F0,H0,F,at_,k⟩=>?_;exact⟨F0,H0,F,at_,λv F1 H1 x1 r1=>⟨false,r1.bool_inv,ZlA (k _ F1 H1 x1 (.bl false))⟩⟩
 ·cases hd
theorem Zun{t:HM.TF}(hc:XT X c t)(ha:XE X a fa)(hb:XE X b fb):XE X (.IfExp c a b pos) (HM.eIf t fa fb):=by
 intro r d hd;unfold HM.eIf at hd;split at hd
 ·rename_i q
  refine PE.imp (Zol (hc r _ q) (ha r d hd) ZhY) λσ H Q ⟨F0,H0,F,at_,k⟩=>?_;exact⟨F0,H0,F,at_,λF1 H1 x1=>Zlw ⟨F0,H0,F1,at_.grow x1,λw F2 H2 x2 r2=>k w F2 H2 (x1.trans x2) r2⟩⟩
 ·rename_i q
  refine PE.imp (Zol (hc r _ q) ZhY (hb r d hd)) λσ H Q ⟨F0,H0,F,at_,k⟩=>?_;exact⟨F0,H0,F,at_,λF1 H1 x1=>ZlA ⟨F0,H0,F1,at_.grow x1,λw F2 H2 x2 r2=>k w F2 H2 (x1.trans x2) r2⟩⟩
 ·cases hd
theorem Znj{op op':CmpOp}{g g':PyData->PyData->Option PyData}(o:Zhg X op g)(o':Zhg X op' g')(ha:XE X a fa)(hb:XE X b fb)(hc:XE X c fc)
  (hm:lastMarks [op,op'] [b,c]=false:=by with_unfolding_all rfl):XE X (.Compare a [op,op'] [b,c] pos) (HM.Zk0 g g' fa fb fc):=by
 intro r d hd;unfold HM.Zk0 at hd;obtain⟨R,o1,o2⟩:=o.ex;obtain⟨R',o1',o2'⟩:=o'.ex;split at hd
 ·rename_i x hx
  split at hd
  ·rename_i y hy
   split at hd
   ·rename_i hg
    split at hd
    ·rename_i z hz
     refine PE.imp (Zo5 o1 o1' (ha r x hx) (hb r y hy) (hc r z hz) hm) λσ H Q ⟨F0,H0,F,at_,k⟩=>?_;refine⟨F0,H0,F,at_,λv F1 H1 x1 r1=>⟨F0,H0,F1,at_.grow x1,λw F2 H2 x2 r2=>?_⟩⟩;refine o2 F2 H2 x y _ v w _ x2.sub hg (r1.mono x2.ff) r2 λu ru=>?_;refine⟨true,ru.bool_inv,Zlw ⟨F0,H0,F2,(at_.grow x1).grow x2,λw' F3 H3 x3 r3=>?_⟩⟩;exact o2' F3 H3 y z d w w' Q x3.sub hd (r2.mono x3.ff) r3 λu' ru'=>k u' F3 H3 ((x1.trans x2).trans x3) ru'
    ·cases hd
   ·rename_i hg
    cases hd;refine PE.imp (Zo5 o1 o1' (ha r x hx) (hb r y hy) ZhY hm) λσ H Q ⟨F0,H0,F,at_,k⟩=>?_;refine⟨F0,H0,F,at_,λv F1 H1 x1 r1=>⟨F0,H0,F1,at_.grow x1,λw F2 H2 x2 r2=>?_⟩⟩;refine o2 F2 H2 x y _ v w _ x2.sub hg (r1.mono x2.ff) r2 λu ru=>?_;exact⟨false,ru.bool_inv,ZlA (k _ F2 H2 (x1.trans x2) (.bl false))⟩
   ·cases hd
  ·cases hd
 ·cases hd
theorem Zg:XA X [] HM.Zm:=by refine⟨λr ds h=>by cases h; rfl,λr ds h=>?_⟩;cases h;exact PA.imp ZbH λσ H Q ⟨F0,H0,F,at_,k⟩=>k [] F H at_.refl .nil
theorem Zc{es:List Expr}{f:HM.AF}(ha:XE X e fa)(hr:XA X es f)(hs:ZyF (e::es) X.env=(false,eval e X.env)::ZyF es X.env:=by rfl):XA X (e::es) (HM.Zd fa f):=by
 refine⟨λr ds h=>?_,λr ds h=>?_⟩
 ·unfold HM.Zd at h
  split at h
  ·obtain⟨xs,h1,h2⟩:=Zyu.mp h
   subst h2;rw[ZyI,ZyI,hr.len r xs h1]
  ·cases h
 unfold HM.Zd at h;split at h
 ·rename_i x hx
  obtain⟨xs,h1,h2⟩:=Zyu.mp h;subst h2;refine PA.imp (Zai (ha r x hx) (hr.pa r xs h1) hs) λσ H Q ⟨F0,H0,F,at_,k⟩=>?_;exact⟨F0,H0,F,at_,λv F1 H1 x1 r1=>⟨F0,H0,F1,at_.grow x1,λvs F2 H2 x2 r2=>k (v::vs) F2 H2 (x1.trans x2) (.cons (r1.mono x2.ff) r2)⟩⟩
 ·cases h
theorem ZdM{es:List Expr}{f:HM.AF}{x1:Nat}(h:XA X es f)(hl:es.length<=100:=by exact Nat.le_of_ble_eq_true rfl):XE X (.Tuple es x1 pos) (HM.ZeA f):=by
 intro r d hd;obtain⟨ds,h1,h2⟩:=Zyu.mp hd;subst h2;refine PE.imp (ZvF (h.pa r ds h1)) λσ H Q ⟨F0,H0,F,at_,k⟩=>⟨F0,H0,F,at_,λvs F1 H1 x1 r1=>⟨?_,λp hp=>?_⟩⟩
 ·have e1:=h.len r ds h1
  have e2:=r1.1;have e3:(100:Nat)<=sizeLine:=by decide
  omega
 ·have hF:F1 p=none:=x1.sub.free hp
  exact k _ (upd F1 p (.tup vs)) _ (x1.lay hp) (.tup ZC r1.1 (r1.mono (Zq.upd' hF)).2)
theorem ZbQ{es:List Expr}{f:HM.AF}(h:XA X es f)(hl:es.length<=100:=by exact Nat.le_of_ble_eq_true rfl):XF X (.List es pos) (HM.Zdu f):=by
 intro r d hd;obtain⟨ds,h1,h2⟩:=Zyu.mp hd;subst h2;refine PE.imp (ZvY (h.pa r ds h1)) λσ H Q ⟨F0,H0,F,at_,k⟩=>⟨F0,H0,F,at_,λvs F1 H1 x1 r1=>⟨?_,λp hp=>?_⟩⟩
 ·have e1:=h.len r ds h1
  have e2:=r1.1;have e3:(100:Nat)<=sizeLine:=by decide
  omega
 ·have hF:F1 p=none:=x1.sub.free hp
  refine k _ F1 _ (x1.lay' hp) ⟨[p],.ol ZC r1,by simp,λa ha=>?_⟩;have:a=p:=by simpa using ha
  subst this;exact⟨hF,x1.hh.free hp⟩
end
end HP
namespace HP
open PySem PySem.Spec PyProof.Rows L2
variable[FX]
section
variable{X:Cx}{a b c e:Expr}{fa fb fc:HM.EF}{pos p:Pos}{st:Stmt}{rest:List Stmt}{g u:HM.SF}
theorem Zjf(h:X.xe=λ_ _=>False):PassesOwn (model X.prog X.w) X.A X.env X.xe:=by rw[h]; exact PassesOwn.never
theorem ZW:XSs X [] HM.Zal:=by intro r o h;cases h;exact PSs.imp ZuO λE σ H ⟨F0,H0,F,at_,k⟩=>k σ F H at_
theorem Zk(h:XS X st g):XSs X [st] g:=λr o ho=>Zqj (h r o ho)
theorem Zf(h1:XS X st g)(h2:XSs X rest u):XSs X (st::rest) (HM.Zs g u):=by
  intro r o h
  unfold HM.Zs at h
  split at h
  · rename_i r' q
    refine PSs.imp (Zig (h1 r _ q) (h2 r' o h)) λE σ H ⟨F0,H0,F,at_,k⟩=>?_
    exact⟨F0,H0,F,at_,λσ' F' H' at'=>⟨F0,H0,F',at',k⟩⟩
  all_goals first
    | cases h
      rename_i q
      refine PSs.imp (Zig (h1 r _ q) ZgY) λE σ H ⟨F0,H0,F,at_,k⟩=>?_
      exact⟨F0,H0,F,at_,k⟩
    | cases h
theorem ZfV:XS X st HM.Zhx:=λr o h=>nomatch h
theorem Zz(h:XE X e fa):XS X (.Return (some e) pos) (HM.ZG fa):=by intro r o ho;obtain⟨d,h1,h2⟩:=Zyu.mp ho;subst h2;refine PS.imp (Zoq (h r d h1)) λE σ H ⟨F0,H0,F,at_,k⟩=>?_;exact⟨F0,H0,F,at_,λv F' H' x q=>k v F' H' (at_.ext.trans x) q⟩
theorem ZfP(h:XE X e fa)(hs:ZAE e none pos.line X.env=pure false:=by rfl):XS X (.Expr e pos) (HM.Zik fa):=by intro r o ho;obtain⟨d,h1,h2⟩:=Zyu.mp ho;subst h2;refine PS.imp (ZhC (h r d h1) hs) λE σ H ⟨F0,H0,F,at_,k⟩=>?_;exact⟨F0,H0,F,at_,λv F' H' x q=>k σ F' H' (at_.grow x)⟩
theorem Zap{t:HM.TF}{sa sb:List Stmt}(hc:XT X c t)(ha:XSs X sa g)(hb:XSs X sb u):XS X (.If c sa sb pos) (HM.sIf t g u):=by
 intro r o ho;unfold HM.sIf at ho;split at ho
 ·rename_i q
  refine PS.imp (Zuo (hc r _ q) (ha r o ho) ZgY) λE σ H ⟨F0,H0,F,at_,k⟩=>?_;exact⟨F0,H0,F,at_,λF' H' x=>Zlw ⟨F0,H0,F',at_.grow x,k⟩⟩
 ·rename_i q
  refine PS.imp (Zuo (hc r _ q) ZgY (hb r o ho)) λE σ H ⟨F0,H0,F,at_,k⟩=>?_;exact⟨F0,H0,F,at_,λF' H' x=>ZlA ⟨F0,H0,F',at_.grow x,k⟩⟩
 ·cases ho
theorem Zde(i:Nat)(h:XS X st g):XS X st (HM.ZeG i g):=by intro r o ho;refine PS.imp (h (HM.Zk1 i r) o ho) λE σ H ⟨F0,H0,F,at_,k⟩=>?_;obtain⟨F',_,_,a'⟩:=at_.freeze i;exact⟨F0,H0,F',a',k⟩
theorem ZM(i:Nat){x:Str}{p':Pos}(hN:X.N.Nodup)(h:XE X e fa)(hi:X.N[i]?=some x:=by rfl)(hx:Loc X.env.scope x:=by first | exact Zzo rfl | exact Zy5 rfl)
  (hs:ZAE e (some (.Name x p')) pos.line X.env=pure false:=by rfl) (hf:X.fn x=true\/X.env.scope.names.lookup x=some .local:=by first | exact .inl rfl | exact .inr rfl) :
  XS X (.Assign [.Name x p'] e pos) (HM.Z2 i fa):=by
 intro r o ho;obtain⟨d,h1,h2⟩:=Zyu.mp ho;subst h2;refine PS.imp (Zoo hN hi hx (h r d h1) hs hf) λE σ H ⟨F0,H0,F,at_,k⟩=>?_;exact⟨F0,H0,F,at_,λv F' H' x q=>k _ F' H' ((at_.grow x).set q)⟩
theorem Zao(i:Nat){x:Str}{p':Pos}{f:HM.BF}(hN:X.N.Nodup)(h:XF X e f)(hi:X.N[i]?=some x:=by rfl)(hx:Loc X.env.scope x:=by first | exact Zzo rfl | exact Zy5 rfl)
  (hs:ZAE e (some (.Name x p')) pos.line X.env=pure false:=by rfl) (hf:X.fn x=true\/X.env.scope.names.lookup x=some .local:=by first | exact .inl rfl | exact .inr rfl) :
  XS X (.Assign [.Name x p'] e pos) (HM.ZT i f):=by
 intro r o ho;obtain⟨d,h1,h2⟩:=Zyu.mp ho;subst h2;refine PS.imp (Zoo hN hi hx (h r d h1) hs hf) λE σ H ⟨F0,H0,F,at_,k⟩=>?_;exact⟨F0,H0,F,at_,λv F' H' x ⟨fp,q,nd,hn⟩=>k _ F' H' ((at_.grow x).storeNew at_ x.hh q nd hn)⟩
theorem Zbf(i:Nat){x:Str}{p':Pos}{iter:Expr}{body:List Stmt}{fi:HM.IF}(hN:X.N.Nodup)(hxe:X.xe=λ_ _=>False)(hc:X.calm=true)(hi:XI X (.Name x p') iter fi)(hb:XSs X body g)(hix:X.N[i]?=some x:=by rfl)
  (hx:Loc X.env.scope x:=by first | exact Zzo rfl | exact Zy5 rfl) (hf:X.fn x=true\/X.env.scope.names.lookup x=some .local:=by first | exact .inl rfl | exact .inr rfl)
  (hs:∀x,ZzV iter X.env x=pure x:=by intro _; rfl):XS X (.For (.Name x p') iter body [] pos) (HM.Zbd i fi g):=by
 intro r o ho;unfold HM.Zbd at ho;split at ho
 ·rename_i ds hds
  split at ho
  ·rename_i hbig
   have pb:PSs X body (λE σ H=>∃r o,g r=some o/\tSt X.K r o E σ H):=λpins s σ H E I ⟨r,o,h1,h2⟩=>hb r o h1 pins s σ H E I h2;refine PS.imp (Zr0 (Zjf hxe) hc (hi r ds hds) (ZfR hN hix hx hf) pb hs) λE σ H ⟨F0,H0,F,at_,k⟩=>?_;refine⟨F0,H0,F,at_,λJ F1 H1 x1 it=>?_⟩;refine⟨λn m σ H=>∃F r,At X.K F0 H0 F H r σ/\Zq F1 F/\n+m=ds.length/\HM.Z4 i g (ds.drop n) r=some o,⟨ds.length,F1,r,at_.grow x1,Zq.refl _,by omega,ho⟩,?_⟩
   rintro n m σ H ⟨F2,r2,at2,s2,hn,go⟩
   obtain⟨it1,it2⟩:=it F2 H s2 at2.sub;cases m with
   | zero =>
    have e:n=ds.length:=by omega
    subst e;rw[ZCR]at go;cases go;exact .inl ⟨it2,k σ F2 H at2⟩
   | succ m =>
    have hlt:n<ds.length:=by omega
    rw[ZBs hlt]at go;obtain⟨j1,j2⟩:=it1 n ds[n] (ZyH hlt);refine .inr ⟨j1,λσ' H'=>∃F r,At X.K F0 H0 F H' r σ'/\Zq F1 F/\HM.Z4 i g (ds.drop (n+1)) r=some o,λσ' H' ⟨F,r,a1,a2,a3⟩=>⟨m,by omega,F,r,a1,a2,by omega,a3⟩,λy H' hy=>?_⟩;obtain⟨e1,ry⟩:=j2 y H' hy;subst e1;obtain⟨F3,at3,s3,ry⟩:∃F3,At X.K F0 H0 F3 H' r2 σ/\Zq F1 F3/\Rep X.K F3 ds[n] y:=⟨_,at2.grow at2.refl.tups,s2.trans (Zc7 at2.sub),ry⟩;have a3:=at3.set (i:=i) ry;have a4:=a3.rebase;unfold HM.Z4 at go;split at go
    ·rename_i r' hr
     exact⟨_,_,hr,F3,H0,F3,a4,λσ' F' H' a'=>⟨F',r',a'.unbase at3.ext at3.nt0,s3.trans a'.ext.ff,go⟩⟩
    ·rename_i r' hr
     exact⟨_,_,hr,F3,H0,F3,a4,λσ' F' H' a'=>⟨F',r',a'.unbase at3.ext at3.nt0,s3.trans a'.ext.ff,go⟩⟩
    ·rename_i r' hr
     cases go;exact⟨_,_,hr,F3,H0,F3,a4,λσ' F' H' a'=>k σ' F' H' (a'.unbase at3.ext at3.nt0)⟩
    ·rename_i d hr
     cases go;exact⟨_,_,hr,F3,H0,F3,a4,λv F' H' x q=>k v F' H' (at3.ext.unbase x) q⟩
    ·cases go
  ·cases ho
 ·cases ho
end
def spD(K:Zys)(n:Nat)(M:List PyData->Option PyData):Sp:=λvs H Q _=>∃F ds d,vs.length=n/\Zq F H/\Tb H/\NoT F/\Zt K F ds vs/\M ds=some d/\∀v F' H',Ext F H F' H'->Rep K F' d v->Q v H'
structure Callee(P:Program)(w:World)(K:Zys)(mg:Str->Option Value)(base:Heap)(k:Nat)(x:Str)(M:List PyData->Option PyData):Prop where
 ex:∃f fd ps,(∀ds d,M ds=some d->ds.length=ps.length)/\Zdt P w K mg base CX0 k f fd ps (spD K ps.length M)/\mg x=some (.ref f)/\ZzQ K (.ref f)=true/\Binds K fd ps []
theorem Callee.mono{P:Program}{w:World}{K:Zys}{mg:Str->Option Value}{base:Heap}{j k:Nat}{x:Str}{M:List PyData->Option PyData}(C:Callee P w K mg base j x M)(h:j<=k):Callee P w K mg base k x M:=by obtain⟨f,fd,ps,l,F,r⟩:=C.ex;exact⟨f,fd,ps,l,F.mono h,r⟩
section
variable{X:Cx}{pos p:Pos}{e:Expr}{es:List Expr}{f:HM.AF}
theorem Zl{k:Nat}{x:Str}{M:List PyData->Option PyData}(C:Callee X.prog X.w X.K X.mg X.base k x M)(hr:Zas k X.A)(ha:XA X (e::es) f)(hg:Gl X x:=by rfl)(hdb:(x==("__debug__":Str))=false:=by decide)
  (he:ZyF (e::es) X.env=(false,eval e X.env)::ZyF es X.env:=by rfl) (hpl:(backTo pos (ZyF es X.env)).any (·.1)=false:=by rfl):XE X (.Call (.Name x p) (e::es) [] pos) (HM.Zn M f):=by
 intro r d hd;unfold HM.Zn at hd;split at hd
 ·rename_i ds hds
  obtain⟨fa,fd,ps,hl,F,hm,hk,hb⟩:=C.ex;refine PE.imp (ZjA (E:=E0) F hr hg hm hk hb .nil Znd (ha.pa r ds hds) hdb he hpl) λσ H Q ⟨F0,H0,F1,at_,k⟩=>?_;refine⟨F0,H0,F1,at_,λvs F' H' x q=>?_⟩;show spD X.K ps.length M (vs++[]) H' Q E0;rw[Zy7];exact⟨F',ds,d,by rw[<-q.1]; exact hl ds d hd,x.sub,at_.tbx x,at_.ntx x,q,hd,λv F2 H2 x2 q2=>k v F2 H2 (x.trans x2) q2⟩
 ·cases hd
end
theorem Zgq{K:Zys}{F H:Hp}{N:List Str}{ds:List PyData}{vs:List V}(s:Zq F H)(tb:Tb H)(nt:NoT F)(q:Zt K F ds vs)(hl:ds.length<=N.length):At K F H F H (HM.ZeI N.length ds) (L2.start N vs):=by
 have hv:=q.1;refine⟨λ_=>[],.refl s,?_,λi b h=>?_,λ_ _=>rfl,λi a h=>by simp at h,λ_=>ZAb,λi j a _ h=>by simp at h,tb,nt⟩
 ·unfold HM.ZeI L2.start
  rw[ZyM,ZyM,Zyt,Zyt,Zzh,Zzh,hv]
 ·unfold HM.ZeI at h
  by_cases hi:i<ds.length
  ·rw[Zy3 (by rw[Zyt]; exact hi),ZyU,ZyH hi]at h
   cases h;obtain⟨v,h1,h2⟩:=q.get (ZyH hi);refine⟨v,?_,.pl h2⟩;unfold L2.start;rw[Zy3 (by rw[Zyt,<-hv]; exact hi),ZyU,h1];rfl
  ·rw[Zze (by rw[Zyt]; omega),ZA3]at h
   split at h<;>cases h
theorem Zqu{P:Program}{w:World}{K:Zys}{mg:Str->Option Value}{base:Heap}{k:Nat}{x qual:Str}{st:Stmt}{f:Addr}{fd:FuncData}{N ps:List Str}{g:HM.SF}(Fn:Fun K x qual st f fd)(S:Zw N ps (Ze st))
  (body:∀(cdv:Value) (A:Around) (outer:List Env) (s:Shared) (H:Hp) (E:XK),Zas k (A.deeper (envOfC qual (Ze st) s.heap.objs.size f cdv))->XSs (ZgA CX0 P w K mg base N qual (Ze st) f cdv A outer s H E).nox (ZaT st) g) :
  Zdt P w K mg base CX0 (k+1) f fd ps (spD K ps.length (HM.fnOf ps.length N.length g)):=by
 have hpl:ps.length<=N.length:=by have:=congrArg Zzf S.pre; rw[ZzO]at this; omega
 refine Fn.ok S (λvs H Q E h=>?_) (λcdv A outer s H vs Q E hr h=>?_)
 ·obtain⟨_,_,_,h,_⟩:=h
  exact h
 ·obtain⟨F,ds,d,hl,sub,tb,nt,q,hM,kk⟩:=h
  unfold HM.fnOf at hM;split at hM
  ·rename_i hds
   have a0:=Zgq (N:=N) sub tb nt q (by omega);split at hM
   ·rename_i r hr'
    cases hM;exact⟨_,body cdv A outer s H E hr _ _ hr',F,H,F,a0,λσ F' H' a'=>kk .non F' H' a'.ext .non⟩
   ·rename_i d' hr'
    cases hM;exact⟨_,body cdv A outer s H E hr _ _ hr',F,H,F,a0,λv F' H' x q=>kk v F' H' x q⟩
   ·cases hM
  ·cases hM
theorem Zu{P:Program}{w:World}{K:Zys}{mg:Str->Option Value}{base:Heap}{k:Nat}{x qual:Str}{st:Stmt}{f:Addr}{fd:FuncData}{N ps:List Str}{g:HM.SF}(Fn:Fun K x qual st f fd)(S:Zw N ps (Ze st))(hm:mg x=some (.ref f))(hb:Binds K fd ps [])
  (body:∀(cdv:Value) (A:Around) (outer:List Env) (s:Shared) (H:Hp) (E:XK),Zas k (A.deeper (envOfC qual (Ze st) s.heap.objs.size f cdv))->XSs (ZgA CX0 P w K mg base N qual (Ze st) f cdv A outer s H E).nox (ZaT st) g) :
  Callee P w K mg base (k+1) x (HM.fnOf ps.length N.length g):=by
 refine⟨f,fd,ps,λds d h=>?_,Zqu Fn S body,hm,Fn.kp,hb⟩;unfold HM.fnOf at h;split at h
 ·assumption
 ·cases h
end HP
namespace HP
open PySem PySem.Spec PyProof.Rows L2
variable[FX]
section
variable{X:Cx}{a b c e:Expr}{fa fb fc:HM.EF}{pos p:Pos}
theorem Zgm{h:Int->Int->Option PyData}{x y z:PyData}(e:HM.Zfr h x y=some z):∃i j,x=.int i/\y=.int j/\h i j=some z:=by
 unfold HM.Zfr at e;split at e
 ·exact⟨_,_,rfl,rfl,e⟩
 ·cases e
theorem Zn2{K:Zys}{g:Int->Int->V}{h:Int->Int->PyData}(hr:∀F i j,Rep K F (h i j) (g i j)):Bin K (rI0 g) (HM.Zfr λi j=>some (h i j)):=by intro F H x y z v w Q s e r1 r2 k;obtain⟨i,j,rfl,rfl,e⟩:=Zgm e;cases e;exact⟨i,j,r1.int_inv,r2.int_inv,k _ (hr F i j)⟩
theorem ZbO:ZoU X .Add HM.Zbi:=⟨_,ZvT,Zn2 λ_ _ _=>.int _⟩
theorem Zrc:ZoU X .Sub HM.ZkC:=⟨_,Zwf,Zn2 λ_ _ _=>.int _⟩
theorem ZeT:ZoU X .Mult HM.Zdb:=by
 refine⟨_,Zv3,λF H x y z v w Q s e r1 r2 k=>?_⟩;obtain⟨i,j,rfl,rfl,e'⟩:=Zgm e;split at e'
 ·rename_i hs
  cases e';refine⟨i,j,r1.int_inv,r2.int_inv,?_,k _ (.int _)⟩;unfold HM.Z1 at hs;rw[ZAd,ZBD,ZBD]at hs;unfold ZqW;omega
 ·cases e'
theorem oMod:ZoU X .Mod HM.ZlJ:=by
 refine⟨_,ZvL,λF H x y z v w Q s e r1 r2 k=>?_⟩;obtain⟨i,j,rfl,rfl,e'⟩:=Zgm e;split at e'
 ·rename_i hs
  cases e';exact⟨i,j,r1.int_inv,r2.int_inv,hs,k _ (.int _)⟩
 ·cases e'
theorem cLt:Zhg X .Lt HM.gLt:=⟨⟨_,Zxa,Zn2 λ_ _ _=>.bl _⟩,by decide,by decide⟩
theorem cLe:Zhg X .LtE HM.gLe:=⟨⟨_,Zxt,Zn2 λ_ _ _=>.bl _⟩,by decide,by decide⟩
theorem cGt:Zhg X .Gt HM.gGt:=⟨⟨_,Zxe,Zn2 λ_ _ _=>.bl _⟩,by decide,by decide⟩
theorem Rep.non_iff{K:Zys}{F:Hp}{d:PyData}{v:V}(h:Rep K F d v):decide (v=.non)=match d with | .none=>true | _=>false:=by cases h<;>first | rfl | exact decide_eq_false (λz=>nomatch z)
theorem Zt4:Zhg X .Is HM.ZoD:=by
 refine⟨⟨_,Zwh,λF H x y z v w Q s e r1 r2 k=>?_⟩,by decide,by decide⟩;unfold HM.ZoD at e;split at e
 ·refine⟨r2.none_inv,k _ ?_⟩
  rw[r1.non_iff];split at e
  ·cases e; exact .bl _
  ·rename_i hx
   cases e;cases x<;>first | exact .bl _ | exact absurd rfl hx
 ·cases e
theorem ZkV:Zhg X .IsNot HM.ZeD:=by
 refine⟨⟨_,Zu0,λF H x y z v w Q s e r1 r2 k=>?_⟩,by decide,by decide⟩;unfold HM.ZeD at e;split at e
 ·refine⟨r2.none_inv,k _ ?_⟩
  rw[r1.non_iff];split at e
  ·cases e; exact .bl _
  ·rename_i hx
   cases e;cases x<;>first | exact .bl _ | exact absurd rfl hx
 ·cases e
theorem Zhk{h:Heap}:∀{ds:List PyData} {us:List Value},ds.length=us.length->(∀(i:Nat) d u,ds[i]?=some d->us[i]?=some u->∃as,Reads h u d as)->∃as,ReadsAll h us ds as
 | [],[],_,_=>⟨[],.nil⟩
 | [],_::_,hl,_=>by simp at hl
 | _::_,[],hl,_=>by simp at hl
 | d::ds,u::us,hl,k=>by obtain⟨as,h1⟩:=k 0 d u rfl rfl;obtain⟨bs,h2⟩:=Zhk (ds:=ds) (us:=us) (by simpa using hl) λi d u e1 e2=>k (i+1) d u (by simpa using e1) (by simpa using e2);exact⟨_,.cons h1 h2⟩
theorem Zql:∀{ds:List PyData},ZBa ds=true->∀{i:Nat} {d:PyData},ds[i]?=some d->d.canLay0=true
 | [],_,i,d,e=>by simp at e
 | x::ds,h,i,d,e=>by
  have h':(x.canLay0&&ZBa ds)=true:=h;rw[ZyN]at h';cases i with
  | zero=>rw[ZA4]at e; cases e; exact h'.1
  | succ i=>rw[Zza]at e; exact Zql h'.2 e
theorem Zpi{ds:List PyData}(h:ZBa ds=true){i:Nat}{d:PyData}(e:ds[i]?=some d):d.canLay0=true:=Zql h e
theorem Rep.reads{pins:List (Addr × Obj)}{s:Shared}{σ:L2.St}{H F:Hp}{d:PyData}{v:V}(I:Inv X pins σ H s)(sub:Zq F H)(r:Rep X.K F d v):d.canLay0=true->∀u,RelV v u->∃as,Reads s.heap u d as:=by
 induction r with
 | non=>intro _ u ru; cases ru; exact⟨[],.none⟩
 | bl b=>intro _ u ru; cases ru; exact⟨[],.bool b⟩
 | int i=>intro _ u ru; obtain⟨t,rfl⟩:=ru; exact⟨[],.int i t⟩
 | str x=>intro _ u ru; obtain⟨t,rfl⟩:=ru; exact⟨[],.str x t⟩
 | dct _ _ _ _ _=>intro z; cases z
 | fn _=>intro z; cases z
 | @tupk a x h=>intro z u ru;cases ru;obtain⟨its,rv,⟨o,ho,hc,n,hd⟩,_⟩:=I.tuple (.inr h);obtain⟨u,rfl,t,rfl⟩:=rv.one;exact⟨_,.tuple ho hc hd (by simpa using ReadsAll.cons (.str x t) .nil)⟩
 | @tup a ds vs h hl _ ih =>
  intro z u ru;cases ru;obtain⟨its,rv,⟨o,ho,hc,n,hd⟩,_⟩:=I.tuple (.of (sub _ _ h));obtain⟨as,hr⟩:=Zhk (h:=s.heap) (ds:=ds) (us:=its) (hl.trans rv.length) λi d u e1 e2=>by
   have hi:i<vs.length:=by rw[<-hl]; exact(ZyG.mp e1).1
   obtain⟨u',q1,q2⟩:=rv.get (ZyH hi);rw[e2]at q1;cases q1;exact ih i d _ e1 (ZyH hi) (Zpi z e1) u q2
  exact⟨_,.tuple ho hc hd (by simpa using hr)⟩
 | @lst a ds vs h hl _ ih =>
  intro z u ru;cases ru;obtain⟨its,rv,⟨o,n,ho,hc,_,hd⟩,_⟩:=I.list (sub.seq h);obtain⟨as,hr⟩:=Zhk (h:=s.heap) (ds:=ds) (us:=its) (hl.trans rv.length) λi d u e1 e2=>by
   have hi:i<vs.length:=by rw[<-hl]; exact(ZyG.mp e1).1
   obtain⟨u',q1,q2⟩:=rv.get (ZyH hi);rw[e2]at q1;cases q1;exact ih i d _ e1 (ZyH hi) (Zpi z e1) u q2
  exact⟨_,.list ho hc hd (by simpa using hr)⟩
def Zx1(K:Zys)(neg:Bool):R2:=λv w H Q=>∃F x y,Zq F H/\Rep K F x v/\Rep K F y w/\HM.ZaA x=true/\HM.ZaA y=true/\Q (.bl (if neg then !PyData.eqv x y else ZzB x y)) H
theorem ZfH{d:PyData}(h:HM.ZaA d=true):d.canLay0=true/\d.depth<=60:=by unfold HM.ZaA at h;simpa using h
theorem Zxq{k:Nat}(hr:Zas k X.A):OpR X (ZzF .Eq) (Zx1 X.K false):=by intro pins s σ H v w u u' Q I r1 r2 ⟨F,x,y,sub,q1,q2,p1,p2,q⟩;obtain⟨a1,a2⟩:=ZfH p1;obtain⟨b1,b2⟩:=ZfH p2;obtain⟨as,h1⟩:=q1.reads I sub a1 u r1;obtain⟨bs,h2⟩:=q2.reads I sub b1 u' r2;refine PySem.SeqAt.eqOverData X.prog X.w X.A X.xe s u u' x y as bs _ h1 h2 a1 b1 ?_ ⟨.bl _,H,I,rfl,q⟩;have:=hr.un;have:min x.depth y.depth<=60:=Zzg (Nat.min_le_left _ _) a2;omega
theorem cEq{k:Nat}(hr:Zas k X.A):Zhg X .Eq HM.gEq:=by
 refine⟨⟨_,Zxq hr,λF H x y z v w Q s e r1 r2 k=>?_⟩,by decide,by decide⟩;unfold HM.gEq at e;split at e
 ·rename_i hp
  cases e;rw[ZyN]at hp;exact⟨F,x,y,s,r1,r2,hp.1,hp.2,k _ (.bl _)⟩
 ·cases e
theorem Zgu{K:Zys}{F H:Hp}{q:HM.B}{v:V}{fp:List Addr}{ds:List PyData}(sub:Zq F H)(r:Zad K F H q v fp)(h:HM.Zbc q=some ds):∃a vs,v=.ref a/\(SqL K H a vs\/SqT K H a vs)/\Zt K F ds vs:=by
 cases r with
 | pl r =>
  cases r with
  | tup h1 h2 h3=>cases h; exact⟨_,_,rfl,.inr (.of (sub _ _ h1)),h2,h3⟩
  | @tupk a x h1=>cases h; exact⟨_,_,rfl,.inr (.inr h1),.one (.str x)⟩
  | lst h1 h2 h3=>cases h; exact⟨_,_,rfl,.inl (sub.seq h1),h2,h3⟩
  | dct _ _ _ _=>cases h
  | fn _=>cases h
  | non=>cases h
  | bl _=>cases h
  | int _=>cases h
  | str _=>cases h
 | ol h1 r=>cases h; exact⟨_,_,rfl,.inl (.of h1),r⟩
 | ok _ _ _=>cases h
 | hd _ _ _ _=>cases h
 | hf _=>cases h
 | ot _ _ _=>cases h
 | otl _ _ _ _=>cases h
theorem ZuU{K:Zys}{F:Hp}{ds:List PyData}{vs:List V}{i:Int}{d:PyData}(r:Zt K F ds vs)(h:HM.atD ds i=some d):∃v,atI vs i=some v/\Rep K F d v:=by
 unfold HM.atD at h;split at h
 ·rename_i j hj
  obtain⟨v,h1,h2⟩:=r.get h;refine⟨v,?_,h2⟩;unfold atI;rw[<-r.1,show ixN ds.length i=some j from hj];exact h1
 ·cases h
theorem ZY{fb':HM.BF}(ha:XB X a fb')(hb:XE X b fb)(hs:Zqn b:=by intro _ _; rfl):XE X (.Subscript a b pos) (HM.eIx fb' fb):=by
 intro r d h;unfold HM.eIx at h;split at h
 ·rename_i x hx
  split at h
  ·rename_i ds hds
   split at h
   ·rename_i i hi
    refine PE.imp (Zw5 Zwz (ha r x hx) (hb r _ hi) hs) λσ H Q ⟨F0,H0,F,at_,k⟩=>?_;refine⟨F0,H0,F,at_,λv F1 H1 x1 ⟨fp,r1⟩=>⟨F0,H0,F1,at_.grow x1,λw F2 H2 x2 r2=>?_⟩⟩;obtain⟨l,vs,e1,hq,rs⟩:=Zgu x2.sub (r1.mono x2.ff λ_ _ _ z=>x2.hh _ _ z) hds;obtain⟨u,hu,ru⟩:=ZuU rs h;have fin:=k u F2 H2 (x1.trans x2) ru;rcases hq with hq | hq
    ·exact .inl ⟨l,vs,i,u,e1,r2.int_inv,hq,hu,fin⟩
    ·exact .inr (.inl ⟨l,vs,i,u,e1,r2.int_inv,hq,hu,fin⟩)
   ·cases h
  ·cases h
 ·cases h
def PAB(X:Cx)(e:Expr)(r:HM.Env)(q:HM.B):Prop:=PA X [e] λσ H Q=>Now X.K r σ H λF0 H0 F=>∀v fp F' H',Ext F H F' H'->Zad X.K F' H' q v fp->Q [v] H'
theorem Zfb{f:HM.BF}{r:HM.Env}{q:HM.B}(ha:XB X e f)(h:f r=some q)(hs:ZyF [e] X.env=[(false,eval e X.env)]:=by rfl):PAB X e r q:=by refine PA.imp (Zai (ha r q h) ZbH hs) λσ H Q ⟨F0,H0,F,at_,k⟩=>?_;exact⟨F0,H0,F,at_,λv F1 H1 x1 ⟨fp,r1⟩=>k v fp F1 H1 x1 r1⟩
end
end HP
namespace HP
open PySem PySem.Spec PyProof.Rows L2
variable[FX]
theorem ZwD:Zzt "all" = some (.builtin "all"):=by decide +kernel
theorem Zwi:Zzt "len" = some (.builtin "len"):=by decide +kernel
theorem ZsM:Zzt "max" = some (.builtin "max"):=by decide +kernel
theorem Zs0:Zzt "min" = some (.builtin "min"):=by decide +kernel
theorem Zmb:Zzt "sorted" = some (.builtin "sorted"):=by decide +kernel
theorem ZmV:Zzt "isinstance" = some (.builtin "isinstance"):=by decide +kernel
theorem Zn7:Zzt "int" = some (.type "int"):=by decide +kernel
theorem Zu9:Zzt "bool" = some (.type "bool"):=by decide +kernel
theorem Zu6:Zzt "list" = some (.type "list"):=by decide +kernel
theorem Zkz:Zzt "tuple" = some (.type "tuple"):=by decide +kernel
theorem Zwg:Zzt "set" = some (.type "set"):=by decide +kernel
section
variable{X:Cx}{a b c e:Expr}{fa fb fc:HM.EF}{pos p:Pos}{f:HM.BF}
theorem Za7(hm:X.mg "len" = none)(ha:XB X a f)(hg:Gl X "len":=by rfl)(hs:ZyF [a] X.env=[(false,eval a X.env)]:=by rfl):XE X (.Call (.Name "len" p) [a] [] pos) (HM.Zaz f):=by
 intro r d h;unfold HM.Zaz at h;split at h
 ·rename_i x hx
  obtain⟨n,h1,h2⟩:=Zyu.mp h;subst h2;refine PE.imp (Zdp (Zn5.or ZsC) hg hm Zwi (Zfb ha hx hs) (he:=hs)) λσ H Q ⟨F0,H0,F,at_,k⟩=>?_;refine⟨F0,H0,F,at_,λv fp F1 H1 x1 r1=>?_⟩;have fin:=λ(m:Nat) (e:m=n)=>k (.int m) F1 H1 x1 (by rw[e]; exact .int _);cases r1 with
  | pl q =>
   cases q with
   | tup q1 q2 q3=>cases h1; exact .inl ⟨_,_,rfl,.inr (.of (x1.sub _ _ q1)),fin _ q2.symm⟩
   | tupk q1=>cases h1; exact .inl ⟨_,_,rfl,.inr (.inr q1),fin _ rfl⟩
   | lst q1 q2 q3=>cases h1; exact .inl ⟨_,_,rfl,.inl (x1.sub.seq q1),fin _ q2.symm⟩
   | dct _ _ _ _=>cases h1
   | fn _=>cases h1
   | non=>cases h1
   | bl _=>cases h1
   | int _=>cases h1
   | str _=>cases h1
  | ol q1 q2=>cases h1; exact .inl ⟨_,_,rfl,.inl (.of q1),fin _ q2.1.symm⟩
  | ok q1 q2 q3=>cases h1;refine .inr ⟨_,_,rfl,q1,fin _ ?_⟩;have:=congrArg Zzf q2;rw[Zyt,Zyt]at this;exact this.symm
  | ot _ _ _=>cases h1
  | otl _ _ _ _=>cases h1
  | hd _ _ _ _=>cases h1
  | hf _=>cases h1
 ·cases h
theorem Zak(hm:X.mg "tuple" = none)(ha:XB X a f)(hg:Gl X "tuple":=by rfl)(hs:ZyF [a] X.env=[(false,eval a X.env)]:=by rfl):XE X (.Call (.Name "tuple" p) [a] [] pos) (HM.ZaE f):=by
 intro r d h;unfold HM.ZaE at h;split at h
 ·rename_i x hx
  obtain⟨ds,h1,h2⟩:=Zyu.mp h;subst h2;refine PE.imp (Zdv Zm2 hg hm Zkz (Zfb ha hx hs) (he:=hs)) λσ H Q ⟨F0,H0,F,at_,k⟩=>?_;refine⟨F0,H0,F,at_,λv fp F1 H1 x1 r1=>?_⟩;have new:∀(vs:List V),Zt X.K F1 ds vs->∀l,H1 l=none->Q (.ref l) (upd H1 l (.tup vs)):=λvs q l hl=>k _ (upd F1 l (.tup vs)) _ (x1.lay hl) (.tup ZC q.1 (q.mono (Zq.upd' (x1.sub.free hl))).2);cases r1 with
  | pl q =>
   cases q with
   | tup q1 q2 q3=>cases h1; exact⟨_,_,rfl,.inr ⟨.of (x1.sub _ _ q1),k _ F1 H1 x1 (.tup q1 q2 q3)⟩⟩
   | tupk q1=>cases h1; exact⟨_,_,rfl,.inr ⟨.inr q1,k _ F1 H1 x1 (.tupk q1)⟩⟩
   | lst q1 q2 q3=>cases h1; exact⟨_,_,rfl,.inl ⟨x1.sub.seq q1,new _ ⟨q2,q3⟩⟩⟩
   | dct _ _ _ _=>cases h1
   | fn _=>cases h1
   | non=>cases h1
   | bl _=>cases h1
   | int _=>cases h1
   | str _=>cases h1
  | ol q1 q2=>cases h1; exact⟨_,_,rfl,.inl ⟨.of q1,new _ q2⟩⟩
  | ok _ _ _=>cases h1
  | ot _ _ _=>cases h1
  | otl _ _ _ _=>cases h1
  | hd _ _ _ _=>cases h1
  | hf _=>cases h1
 ·cases h
theorem ZeQ{K:Zys}{F H F1 H1:Hp}{ds:List PyData}{vs:List V}{l:Addr}{P:V->Hp->Hp->Prop}(x1:Ext F H F1 H1)(q:Zt K F1 ds vs)(hl:H1 l=none)
  (k:∀v F' H',Ext F H F' H'->(∃fp,Zad K F' H' (.ol ds) v fp/\fp.Nodup/\∀a∈fp,F' a=none/\H a=none)->P v F' H'):P (.ref l) F1 (upd H1 l (.lst vs)):=by
 refine k _ F1 _ (x1.lay' hl) ⟨[l],.ol ZC q,by simp,λa ha=>?_⟩;have:a=l:=by simpa using ha
 subst this;exact⟨x1.sub.free hl,x1.hh.free hl⟩
theorem Zix(hm:X.mg "list" = none)(ha:XB X a f)(hg:Gl X "list":=by rfl)(hs:ZyF [a] X.env=[(false,eval a X.env)]:=by rfl):XF X (.Call (.Name "list" p) [a] [] pos) (HM.ZhE f):=by
 intro r d h;unfold HM.ZhE at h;split at h
 ·rename_i x hx
  obtain⟨ds,h1,h2⟩:=Zyu.mp h;subst h2;refine PE.imp (Zdv Zob hg hm Zu6 (Zfb ha hx hs) (he:=hs)) λσ H Q ⟨F0,H0,F,at_,k⟩=>?_;refine⟨F0,H0,F,at_,λv fp F1 H1 x1 r1=>?_⟩;obtain⟨l,vs,e1,hq,rs⟩:=Zgu x1.sub r1 h1;subst e1;exact⟨l,vs,rfl,hq,λl' hl'=>ZeQ (P:=λv _ H'=>Q v H') x1 rs hl' k⟩
 ·cases h
theorem ZkT{K:Zys}{F:Hp}:∀{ds:List PyData} {vs:List V} {bs:List Bool},HM.Ze9 ds=some bs->Zt K F ds vs->vs=bs.map V.bl
 | [],vs,bs,h,r=>by cases h;exact r.nil_inv
 | d::ds,vs,bs,h,r=>by
  obtain⟨v,us,rfl,r1,r2⟩:=r.cons_inv;cases d with
  | bool b=>obtain⟨bs',h1,h2⟩:=Zyu.mp h;subst h2;rw[r1.bool_inv,ZkT h1 r2];rfl
  | none=>cases h
  | int _=>cases h
  | str _=>cases h
  | list _=>cases h
  | tuple _=>cases h
  | dict _=>cases h
end
end HP
namespace HP
open PySem PySem.Spec PyProof.Rows L2
variable[FX]
section
variable{X:Cx}{a b c e:Expr}{fa fb fc:HM.EF}{pos p:Pos}{f:HM.BF}
theorem ZpO:∀{bs:List Bool} {us:List Value},Vals (bs.map V.bl) us->LSm.BoolsAre us bs:=by
 intro bs
 induction bs with
 | nil=>intro us r; rw[ZAs]at r; cases r; exact .nil
 | cons b bs ih =>
  intro us r;rw[Zyz]at r;cases r with
  | cons r1 r2=>cases r1;exact .cons b (ih r2)
theorem ZvW{A:Around}{s:Shared}{l:Addr}{vs:List Value}{bs:List Bool}{dflt:Bool}(hh:A.handled=none)(hl:s.heap.IsList l vs.toArray)(hb:LSm.BoolsAre vs bs){E:Value->Shared->Prop}{Q:Value->Shared->Prop}{prog:Program}{w:World}
  (h:∀it fp wr (P:Nat->Value->Prop) St,Walks prog w A it fp wr vs.length P St->St 0 (s.heap.push { cls:=.type "list_iterator",data:=.fields #[.ref l,rawInt 0] })->TruthOf prog w A P (λi=>(bs[i]?).getD dflt)->wr=[s.heap.objs.size]->it=s.heap.objs.size->Q (.ref it) { s with heap:=s.heap.push { cls:=.type "list_iterator",data:=.fields #[.ref l,rawInt 0] } }) :
  wpAny (model prog w) A (pyIter (.ref l)) Q E s:=by
 have hlt:l<s.heap.objs.size:=let ⟨_,e,_⟩:=hl; ZyK e
 refine ZCC hl ?_;have W:=Walks.list (prog:=prog) (w:=w) hh s.heap.objs.size l (ZyQ hlt) vs.toArray;rw[ZyJ]at W;refine h _ _ _ _ _ W ⟨⟨_,ZyO _ rfl,rfl,rfl⟩,hl.push _⟩ (λi v s' Q' E' hP hQ=>?_) rfl rfl;obtain⟨b,e,rfl⟩:=hb.get i v (by simpa using hP);simp only[e,Option.getD_some]at hQ;exact ZAv hQ
theorem ZsY(hc:X.calm=true):Za4 X (.builtin "all") (λxs H Q=>∃(p:Addr) (bs:List Bool),xs=[.ref p]/\SqL X.K H p (bs.map V.bl)/\Q (.bl (bs.all id)) H):=by intro pins s σ H xs us Q I r h;obtain⟨p,bs,rfl,hq,q⟩:=h;obtain⟨u,rfl,rx⟩:=vals1 r;cases rx;obtain⟨its,rv,pl,hz⟩:=I.list hq;have hb:=ZpO rv;refine call_all_walk (ZvW (dflt:=true) (A:=X.A.in1) (I.ok.hd hc) pl.isList hb λit fp wr P St W st tr e1 e2=>?_);subst e1 e2;refine⟨_,_,_,_,P,St,_,rfl,W,st,tr,λh' tk hk=>?_⟩;rw[hb.length,LSm.range_all bs];exact⟨.bl _,H,I.kept (LSm.kept_iter hk),rfl,q⟩
theorem Zgw{K:Zys}{F H:Hp}{q:HM.B}{v:V}{fp:List Addr}{ds:List PyData}(sub:Zq F H)(r:Zad K F H q v fp)(h:HM.ZlE q=some ds):∃a vs,v=.ref a/\SqL K H a vs/\Zt K F ds vs:=by
 cases r with
 | pl r =>
  cases r with
  | lst h1 h2 h3=>cases h; exact⟨_,_,rfl,sub.seq h1,h2,h3⟩
  | dct _ _ _ _=>cases h
  | fn _=>cases h
  | tupk _=>cases h
  | tup _ _ _=>cases h
  | non=>cases h
  | bl _=>cases h
  | int _=>cases h
  | str _=>cases h
 | ol h1 r=>cases h; exact⟨_,_,rfl,.of h1,r⟩
 | ok _ _ _=>cases h
 | hd _ _ _ _=>cases h
 | hf _=>cases h
 | ot _ _ _=>cases h
 | otl _ _ _ _=>cases h
theorem Zho(hm:X.mg "all" = none)(hc:X.calm=true)(ha:XB X a f)(hg:Gl X "all":=by rfl)(hs:ZyF [a] X.env=[(false,eval a X.env)]:=by rfl):XE X (.Call (.Name "all" p) [a] [] pos) (HM.ZiT f):=by
 intro r d h;unfold HM.ZiT at h;split at h
 ·rename_i x hx
  split at h
  ·rename_i ds hds
   obtain⟨bs,h1,h2⟩:=Zyu.mp h;subst h2;refine PE.imp (Zdp (ZsY hc) hg hm ZwD (Zfb ha hx hs) (he:=hs)) λσ H Q ⟨F0,H0,F,at_,k⟩=>?_;refine⟨F0,H0,F,at_,λv fp F1 H1 x1 r1=>?_⟩;obtain⟨l,vs,e1,hq,rs⟩:=Zgw x1.sub r1 hds;rw[ZkT h1 rs]at hq;exact⟨l,bs,by rw[e1],hq,k _ F1 H1 x1 (.bl _)⟩
  ·cases h
 ·cases h
theorem ZoO{tyn:String}{t:HM.Ty}(hr:∀(s:Shared) (d:PyData) (v:V) (u:Value) (Q:Value->Shared->Prop),RelV v u->(∃(K:Zys) (F:Hp),Rep K F d v)->(∀es,d≠.dict es)->(∀x,v=.ref x->∃o,s.heap.get? x=some o/\((∃ds,d=.tuple ds/\o.cls=.type "tuple")\/(∃ds,d=.list ds/\o.cls=.type "list")\/∃ds,d=.dict ds/\o.cls=.type "dict")) ->
   (∀tk,Q (.bool (HM.Zi5 t d)) { s with toks:=tk })->wpAny (model X.prog X.w) X.A (call (.builtin "isinstance") [u,.type tyn]) Q X.xe s) :
  Za4 X (.builtin "isinstance") (λxs H Q=>∃F d v,xs=[v,.ty tyn]/\Zq F H/\Rep X.K F d v/\(∀es,d≠.dict es)/\Q (.bl (HM.Zi5 t d)) H):=by
 intro pins s σ H xs us Q I r h;obtain⟨F,d,v,rfl,sub,rp,nd,q⟩:=h;obtain⟨u,u',rfl,ru,ru'⟩:=vals2 r;cases(show u'=ZBA tyn from ru');refine hr s d v u _ ru ⟨_,_,rp⟩ nd (λx e=>?_) λtk=>⟨.bl _,H,I.tok tk,rfl,q⟩;subst e;cases rp with
 | tup h1 h2 h3=>obtain⟨its,rv,⟨o,ho,hc,n,hd⟩,_⟩:=I.tuple (.of (sub _ _ h1));exact⟨o,ho,.inl ⟨_,rfl,hc⟩⟩
 | tupk h1=>obtain⟨its,rv,⟨o,ho,hc,n,hd⟩,_⟩:=I.tuple (.inr h1);exact⟨o,ho,.inl ⟨_,rfl,hc⟩⟩
 | lst h1 h2 h3=>obtain⟨its,rv,⟨o,n,ho,hc,_,hd⟩,_⟩:=I.list (sub.seq h1);exact⟨o,ho,.inr (.inl ⟨_,rfl,hc⟩)⟩
 | @dct a es kvs vvs h1 _ _ _=>obtain⟨_,_,xs,_,o,es,ep,q1,q2,_⟩:=(show Zab X.prog X.w H s.heap x (.dT vvs) from Zlc I.hok (ZjC h1 sub));exact⟨o,q1,.inr (.inr ⟨_,rfl,q2.1⟩)⟩
 | fn _=>exact absurd rfl (nd _)
theorem Ztb:Za4 X (.builtin "isinstance") (λxs H Q=>∃F d v,xs=[v,.ty "bool"]/\Zq F H/\Rep X.K F d v/\(∀es,d≠.dict es)/\Q (.bl (HM.Zi5 .bool d)) H):=by
 refine ZoO λs d v u Q ru ⟨K,F,rp⟩ nd ho k=>?_;cases rp with
 | non=>cases ru; exact IsiPair.NoneType_bool (k _)
 | bl _=>cases ru; exact IsiPair.bool_bool (k _)
 | int _=>obtain⟨t,rfl⟩:=ru; exact IsiPair.int_bool (k _)
 | str _=>obtain⟨t,rfl⟩:=ru; exact IsiPair.str_bool (k _)
 | tup _ _ _ | tupk _ =>
  cases ru;obtain⟨o,h1,⟨_,_,h2⟩ | ⟨_,e,_⟩ | ⟨_,e,_⟩⟩:=ho _ rfl
  ·exact IsiPair.tuple_bool h1 h2 (k _)
  ·cases e
  ·cases e
 | lst _ _ _ =>
  cases ru;obtain⟨o,h1,⟨_,e,_⟩ | ⟨_,_,h2⟩ | ⟨_,e,_⟩⟩:=ho _ rfl
  ·cases e
  ·exact IsiPair.list_bool h1 h2 (k _)
  ·cases e
 | dct _ _ _ _ =>
  cases ru;obtain⟨o,h1,⟨_,e,_⟩ | ⟨_,e,_⟩ | ⟨_,_,h2⟩⟩:=ho _ rfl
  ·cases e
  ·cases e
  ·exact IsiPair.dict_bool h1 h2 (k _)
 | fn _=>exact absurd rfl (nd _)
theorem ZuF:Za4 X (.builtin "isinstance") (λxs H Q=>∃F d v,xs=[v,.ty "int"]/\Zq F H/\Rep X.K F d v/\(∀es,d≠.dict es)/\Q (.bl (HM.Zi5 .int d)) H):=by
 refine ZoO λs d v u Q ru ⟨K,F,rp⟩ nd ho k=>?_;cases rp with
 | non=>cases ru; exact IsiPair.NoneType_int (k _)
 | bl _=>cases ru; exact IsiPair.bool_int (k _)
 | int _=>obtain⟨t,rfl⟩:=ru; exact IsiPair.int_int (k _)
 | str _=>obtain⟨t,rfl⟩:=ru; exact IsiPair.str_int (k _)
 | tup _ _ _ | tupk _ =>
  cases ru;obtain⟨o,h1,⟨_,_,h2⟩ | ⟨_,e,_⟩ | ⟨_,e,_⟩⟩:=ho _ rfl
  ·exact IsiPair.tuple_int h1 h2 (k _)
  ·cases e
  ·cases e
 | lst _ _ _ =>
  cases ru;obtain⟨o,h1,⟨_,e,_⟩ | ⟨_,_,h2⟩ | ⟨_,e,_⟩⟩:=ho _ rfl
  ·cases e
  ·exact IsiPair.list_int h1 h2 (k _)
  ·cases e
 | dct _ _ _ _ =>
  cases ru;obtain⟨o,h1,⟨_,e,_⟩ | ⟨_,e,_⟩ | ⟨_,_,h2⟩⟩:=ho _ rfl
  ·cases e
  ·cases e
  ·exact IsiPair.dict_int h1 h2 (k _)
 | fn _=>exact absurd rfl (nd _)
theorem ZsW:Za4 X (.builtin "isinstance") (λxs H Q=>∃F d v,xs=[v,.ty "tuple"]/\Zq F H/\Rep X.K F d v/\(∀es,d≠.dict es)/\Q (.bl (HM.Zi5 .tuple d)) H):=by
 refine ZoO λs d v u Q ru ⟨K,F,rp⟩ nd ho k=>?_;cases rp with
 | non=>cases ru; exact IsiPair.NoneType_tuple (k _)
 | bl _=>cases ru; exact IsiPair.bool_tuple (k _)
 | int _=>obtain⟨t,rfl⟩:=ru; exact IsiPair.int_tuple (k _)
 | str _=>obtain⟨t,rfl⟩:=ru; exact IsiPair.str_tuple (k _)
 | tup _ _ _ | tupk _ =>
  cases ru;obtain⟨o,h1,⟨_,_,h2⟩ | ⟨_,e,_⟩ | ⟨_,e,_⟩⟩:=ho _ rfl
  ·exact IsiPair.tuple_tuple h1 h2 (k _)
  ·cases e
  ·cases e
 | lst _ _ _ =>
  cases ru;obtain⟨o,h1,⟨_,e,_⟩ | ⟨_,_,h2⟩ | ⟨_,e,_⟩⟩:=ho _ rfl
  ·cases e
  ·exact IsiPair.list_tuple h1 h2 (k _)
  ·cases e
 | dct _ _ _ _ =>
  cases ru;obtain⟨o,h1,⟨_,e,_⟩ | ⟨_,e,_⟩ | ⟨_,_,h2⟩⟩:=ho _ rfl
  ·cases e
  ·cases e
  ·exact IsiPair.dict_tuple h1 h2 (k _)
 | fn _=>exact absurd rfl (nd _)
theorem Znk{tyn:Str}{tys:String}{t:HM.Ty}{p2:Pos}(hR:Za4 X (.builtin "isinstance") (λxs H Q=>∃F d v,xs=[v,.ty tys]/\Zq F H/\Rep X.K F d v/\(∀es,d≠.dict es)/\Q (.bl (HM.Zi5 t d)) H))(bt:Zzt tyn=some (.type tys))
  (hm:X.mg "isinstance" = none) (hm2:X.mg tyn=none) (ha:XE X a fa) (hg:Gl X "isinstance") (hg2:Gl X tyn) (hn:tyn ≠ "__name__") (hd:(tyn==("__debug__":Str))=false)
  (hs1:ZyF [a,.Name tyn p2] X.env=(false,eval a X.env)::ZyF [.Name tyn p2] X.env) (hs2:ZyF [.Name tyn p2] X.env=[(false,eval (.Name tyn p2) X.env)]):XE X (.Call (.Name "isinstance" p) [a,.Name tyn p2] [] pos) (HM.ZhW fa t):=by
 intro r d h;have key:∃x,fa r=some x/\(∀es,x≠.dict es)/\d=.bool (HM.Zi5 t x):=by
  unfold HM.ZhW at h;split at h
  ·cases h
  ·rename_i x hn hx
   cases h;exact⟨x,hx,λes z=>hn es (by rw[z]),rfl⟩
  ·cases h
 obtain⟨x,h1,nd,h2⟩:=key;subst h2;refine PE.imp (Zdp hR hg hm ZmV (Zai (ha r x h1) (Zai (ZuQ (v:=.ty tys) hg2 hm2 bt rfl hn hd) ZbH (by rw[hs2]; rfl)) hs1) (he:=hs1) (hpl:=by rw[hs2]; rfl)) λσ H Q ⟨F0,H0,F,at_,k⟩=>?_;exact⟨F0,H0,F,at_,λv F1 H1 x1 r1=>⟨F1,x,v,rfl,x1.sub,r1,nd,k _ F1 H1 x1 (.bl _)⟩⟩
theorem Zpl{p2:Pos}(hm:X.mg "isinstance" = none)(hm2:X.mg "bool" = none)(ha:XE X a fa)(hg:Gl X "isinstance":=by rfl)(hg2:Gl X "bool":=by rfl)(hs1:ZyF [a,.Name "bool" p2] X.env=(false,eval a X.env)::ZyF [.Name "bool" p2] X.env:=by rfl) :
  XE X (.Call (.Name "isinstance" p) [a,.Name "bool" p2] [] pos) (HM.ZhW fa .bool):=Znk Ztb Zu9 hm hm2 ha hg hg2 (by decide) (by decide) hs1 rfl
theorem Zqz{p2:Pos}(hm:X.mg "isinstance" = none)(hm2:X.mg "int" = none)(ha:XE X a fa)(hg:Gl X "isinstance":=by rfl)(hg2:Gl X "int":=by rfl)(hs1:ZyF [a,.Name "int" p2] X.env=(false,eval a X.env)::ZyF [.Name "int" p2] X.env:=by rfl) :
  XE X (.Call (.Name "isinstance" p) [a,.Name "int" p2] [] pos) (HM.ZhW fa .int):=Znk ZuF Zn7 hm hm2 ha hg hg2 (by decide) (by decide) hs1 rfl
theorem Ziy{p2:Pos}(hm:X.mg "isinstance" = none)(hm2:X.mg "tuple" = none)(ha:XE X a fa)(hg:Gl X "isinstance":=by rfl)(hg2:Gl X "tuple":=by rfl)(hs1:ZyF [a,.Name "tuple" p2] X.env=(false,eval a X.env)::ZyF [.Name "tuple" p2] X.env:=by rfl) :
  XE X (.Call (.Name "isinstance" p) [a,.Name "tuple" p2] [] pos) (HM.ZhW fa .tuple):=Znk ZsW Zkz hm hm2 ha hg hg2 (by decide) (by decide) hs1 rfl
theorem Zvw(hm:X.mg "max" = none)(hc:X.calm=true)(ha:XE X a fa)(hb:XE X b fb)(hg:Gl X "max":=by rfl)(hs1:ZyF [a,b] X.env=(false,eval a X.env)::ZyF [b] X.env:=by rfl)(hs2:ZyF [b] X.env=[(false,eval b X.env)]:=by rfl) :
  XE X (.Call (.Name "max" p) [a,b] [] pos) (HM.op2 HM.ZwB fa fb):=by
 intro r d h;obtain⟨x,y,h1,h2,h3⟩:=Zhv h;obtain⟨i,j,rfl,rfl,e⟩:=Zgm h3;cases e;refine PE.imp (Zdp (ZsB hc) hg hm ZsM (Zai (ha r _ h1) (Zai (hb r _ h2) ZbH hs2) hs1) (he:=hs1) (hpl:=by rw[hs2]; rfl)) λσ H Q ⟨F0,H0,F,at_,k⟩=>?_;exact⟨F0,H0,F,at_,λv F1 H1 x1 r1=>⟨F0,H0,F1,at_.grow x1,λw F2 H2 x2 r2=>⟨i,j,by rw[r1.int_inv,r2.int_inv],k _ F2 H2 (x1.trans x2) (.int _)⟩⟩⟩
theorem Zvx(hm:X.mg "min" = none)(hc:X.calm=true)(ha:XE X a fa)(hb:XE X b fb)(hg:Gl X "min":=by rfl)(hs1:ZyF [a,b] X.env=(false,eval a X.env)::ZyF [b] X.env:=by rfl)(hs2:ZyF [b] X.env=[(false,eval b X.env)]:=by rfl) :
  XE X (.Call (.Name "min" p) [a,b] [] pos) (HM.op2 HM.Zwo fa fb):=by
 intro r d h;obtain⟨x,y,h1,h2,h3⟩:=Zhv h;obtain⟨i,j,rfl,rfl,e⟩:=Zgm h3;cases e;refine PE.imp (Zdp (ZrP hc) hg hm Zs0 (Zai (ha r _ h1) (Zai (hb r _ h2) ZbH hs2) hs1) (he:=hs1) (hpl:=by rw[hs2]; rfl)) λσ H Q ⟨F0,H0,F,at_,k⟩=>?_;exact⟨F0,H0,F,at_,λv F1 H1 x1 r1=>⟨F0,H0,F1,at_.grow x1,λw F2 H2 x2 r2=>⟨i,j,by rw[r1.int_inv,r2.int_inv],k _ F2 H2 (x1.trans x2) (.int _)⟩⟩⟩
theorem Zs1(hm:X.mg "int" = none)(ha:XE X a fa)(hg:Gl X "int":=by rfl)(hs:ZyF [a] X.env=[(false,eval a X.env)]:=by rfl):XE X (.Call (.Name "int" p) [a] [] pos) (HM.ZoM fa):=by
 intro r d h;unfold HM.ZoM at h;split at h
 ·rename_i i hi
  cases h;refine PE.imp (Zdv Zml hg hm Zn7 (Zai (ha r _ hi) ZbH hs) (he:=hs)) λσ H Q ⟨F0,H0,F,at_,k⟩=>?_;exact⟨F0,H0,F,at_,λv F1 H1 x1 r1=>.inl ⟨i,by rw[r1.int_inv],k _ F1 H1 x1 (.int _)⟩⟩
 ·rename_i q hq
  cases h;refine PE.imp (Zdv Zml hg hm Zn7 (Zai (ha r _ hq) ZbH hs) (he:=hs)) λσ H Q ⟨F0,H0,F,at_,k⟩=>?_;exact⟨F0,H0,F,at_,λv F1 H1 x1 r1=>.inr ⟨q,by rw[r1.bool_inv],k _ F1 H1 x1 (.int _)⟩⟩
 ·cases h
end
end HP
namespace HP
open PySem PySem.Spec PyProof.Rows L2
variable[FX]
section
variable{X:Cx}{a b c e:Expr}{fa fb fc:HM.EF}{pos p:Pos}{f:HM.BF}{tg:Expr}
theorem PI.imp{X:Cx}{tg e:Expr}{t u:TI}(h:PI X tg e t)(hi:∀σ H R,u σ H R->t σ H R):PI X tg e u:=λpins s σ H R I q=>h pins s σ H R I (hi σ H R q)
theorem ZwC{l:Expr}{tl:TE}(hl:PE X l tl):PI X tg l (λσ H R=>tl σ H λx H1=>∃a,x=.ref a/\((∃xs,SqL X.K H1 a xs)/\R (Itl X.K a) H1\/(∃xs,SqT X.K H1 a xs)/\R (Itt X.K a) H1)):=by
 intro pins s σ H R I h;refine thn (hl pins s σ H _ I h) λv s1 ⟨x,H1,I1,r1,q1⟩=>?_;obtain⟨a,e,q1⟩:=q1;subst e;cases r1;rcases q1 with⟨⟨xs,hq⟩,q⟩ | ⟨⟨xs,hq⟩,q⟩
 ·obtain⟨its,rv,p,hz⟩:=I1.list hq
  refine ZCC p.isList ⟨s1.heap.objs.size,[s1.heap.objs.size],_,_,H1,rfl,I1.kept (t':=s1.toks) λb o e=>Zyy _ e,Zsm a _,⟨_,ZyO _ rfl,rfl,rfl⟩,λb hb=>?_,q⟩;obtain rfl:b=s1.heap.objs.size:=by simpa using hb
  exact I1.fpOk (ZyB _) (I1.hok.fresh (ZyB _))
 ·obtain⟨its,rv,p,hz⟩:=I1.tuple hq
  refine wpAny_pyIter_tuple (show s1.heap.IsTuple a its.toArray from p) ⟨s1.heap.objs.size,[s1.heap.objs.size],_,_,H1,rfl,I1.kept (t':=s1.toks) λb o e=>Zyy _ e,Zra a _,⟨_,ZyO _ rfl,rfl,rfl⟩,λb hb=>?_,q⟩;obtain rfl:b=s1.heap.objs.size:=by simpa using hb
  exact I1.fpOk (ZyB _) (I1.hok.fresh (ZyB _))
theorem Zum{K:Zys}{F:Hp}{a:Addr}{ds:List PyData}{vs:List V}(h:SqL K F a vs)(r:Zt K F ds vs):ItD K (Itl K a) ds F:=by intro F' H s1 s2;have hq:SqL K H a vs:=(s1.trans s2).seq h;refine⟨λi d hd=>?_,⟨vs,hq,by rw[r.1]; exact ZyB _⟩⟩;obtain⟨v,h1,h2⟩:=r.get hd;refine⟨⟨vs,v,hq,h1⟩,λx H' hy=>?_⟩;obtain⟨e,y⟩:=hy;refine⟨e,?_⟩;have:=y vs hq;rw[h1]at this;cases this;exact h2.mono (s1.trans (Zc7 s2))
theorem Zuf{K:Zys}{F:Hp}{a:Addr}{ds:List PyData}{vs:List V}(h:SqT K F a vs)(r:Zt K F ds vs):ItD K (Itt K a) ds F:=by intro F' H s1 s2;have hq:SqT K H a vs:=Zio h (s1.trans s2);refine⟨λi d hd=>?_,⟨vs,hq,by rw[r.1]; exact ZyB _⟩⟩;obtain⟨v,h1,h2⟩:=r.get hd;refine⟨⟨vs,v,hq,h1⟩,λx H' hy=>?_⟩;obtain⟨e,y⟩:=hy;refine⟨e,?_⟩;have:=y vs hq;rw[h1]at this;cases this;exact h2.mono (s1.trans (Zc7 s2))
theorem Zvk{K:Zys}{F:Hp}{a:Addr}{ds:List PyData}{vs:List V}(h:F a=some (.tup vs))(r:Zt K F ds vs):ItD K (Itt K a) ds F:=by intro F' H s1 s2;have hq:SqT K H a vs:=.of (s2 _ _ (s1 _ _ h));refine⟨λi d hd=>?_,⟨vs,hq,by rw[r.1]; exact ZyB _⟩⟩;obtain⟨v,h1,h2⟩:=r.get hd;refine⟨⟨vs,v,hq,h1⟩,λx H' hy=>?_⟩;obtain⟨e,y⟩:=hy;refine⟨e,?_⟩;have:=y vs hq;rw[h1]at this;cases this;exact h2.mono (s1.trans (Zc7 s2))
theorem ZU(h:XE X e fa):XI X tg e (HM.Zaf (HM.bOf fa)):=by
 intro r ds hd;unfold HM.Zaf HM.bOf at hd;cases hx:fa r with
 | none=>rw[hx]at hd; cases hd
 | some d =>
  rw[hx]at hd;have hd:HM.Zbc (.pl d)=some ds:=hd;refine PI.imp (ZwC (h r d hx)) λσ H R ⟨F0,H0,F,at_,k⟩=>?_;refine⟨F0,H0,F,at_,λv F1 H1 x1 r1=>?_⟩;cases r1 with
  | @tupk a x h1=>cases hd;exact⟨a,rfl,.inr ⟨⟨_,.inr h1⟩,k _ F1 H1 x1 (Zuf (.inr h1) (.one (.str x)))⟩⟩
  | @tup a ds' vs h1 h2 h3=>cases hd;exact⟨a,rfl,.inr ⟨⟨vs,.of (x1.sub _ _ h1)⟩,k _ F1 H1 x1 (Zvk h1 ⟨h2,h3⟩)⟩⟩
  | @lst a ds' vs h1 h2 h3=>cases hd;exact⟨a,rfl,.inl ⟨⟨vs,x1.sub.seq h1⟩,k _ F1 H1 x1 (Zum h1 ⟨h2,h3⟩)⟩⟩
  | dct _ _ _ _=>cases hd
  | fn _=>cases hd
  | non=>cases hd
  | bl _=>cases hd
  | int _=>cases hd
  | str _=>cases hd
theorem Zqg{K:Zys}{F:Hp}(lo:Int)(n:Nat):ItD K (Itr lo n) (HM.ZbT lo n) F:=by
 intro F' H s1 s2;have hl:(HM.ZbT lo n).length=n:=by unfold HM.ZbT; rw[Zyt,ZAw]
 refine⟨λi d hd=>?_,?_⟩
 ·have hi:i<n:=by rw[<-hl]; exact(ZyG.mp hd).1
  unfold HM.ZbT at hd;rw[ZyU,List.getElem?_range hi]at hd;cases hd;exact⟨hi,λx H' ⟨e1,e2⟩=>⟨e1,by rw[e2]; exact .int _⟩⟩
 ·rw[hl]; exact ZyB _
theorem ZjD{j:Int}(h:HM.okR j=true):-1000000<j/\j<1000000:=by unfold HM.okR at h;rw[ZBD]at h;omega
theorem ZbE(hm:X.mg "range" = none)(ha:XE X a fa)(hg:Gl X "range":=by rfl)(hs:ZyF [a] X.env=[(false,eval a X.env)]:=by rfl):XI X tg (.Call (.Name "range" p) [a] [] pos) (HM.ZbU fa):=by
 intro r ds hd;unfold HM.ZbU at hd;split at hd
 ·rename_i j hj
  split at hd
  ·rename_i hok
   cases hd;obtain⟨k1,k2⟩:=ZjD hok;refine PI.imp (Zsy hg hm (Zai (ha r _ hj) ZbH hs) hs) λσ H R ⟨F0,H0,F,at_,k⟩=>?_;exact⟨F0,H0,F,at_,λv F1 H1 x1 r1=>⟨j,by rw[r1.int_inv],by omega,by omega,k _ F1 H1 x1 (Zqg 0 j.toNat)⟩⟩
  ·cases hd
 ·cases hd
theorem ZrA(hm:X.mg "range" = none)(ha:XE X a fa)(hb:XE X b fb)(hg:Gl X "range":=by rfl)(hs:ZyF [a,b] X.env=[(false,eval a X.env),(false,eval b X.env)]:=by rfl)(hs2:ZyF [b] X.env=[(false,eval b X.env)]:=by rfl) :
  XI X tg (.Call (.Name "range" p) [a,b] [] pos) (HM.Zjy fa fb):=by
 intro r ds hd;unfold HM.Zjy at hd;split at hd
 ·rename_i i hi
  split at hd
  ·rename_i j hj
   split at hd
   ·rename_i hok
    cases hd;rw[ZyN]at hok;obtain⟨k1,k2⟩:=ZjD hok.1;obtain⟨k3,k4⟩:=ZjD hok.2;refine PI.imp (Zsb hg hm (Zai (ha r _ hi) (Zai (hb r _ hj) ZbH hs2) (by rw[hs,hs2])) hs hs2) λσ H R ⟨F0,H0,F,at_,k⟩=>?_;exact⟨F0,H0,F,at_,λv F1 H1 x1 r1=>⟨F0,H0,F1,at_.grow x1,λw F2 H2 x2 r2=>⟨i,j,by rw[r1.int_inv,r2.int_inv],⟨by omega,by omega,by omega,by omega⟩,k _ F2 H2 (x1.trans x2) (Zqg i (j-i).toNat)⟩⟩⟩
   ·cases hd
  ·cases hd
 ·cases hd
theorem ZkE{ga gb:HM.BF}(ha:XB X a ga)(hb:XB X b gb):XF X (.BinOp a .Add b pos) (HM.Zls ga gb):=by
 intro r d h;unfold HM.Zls at h;split at h
 ·rename_i xs hx
  split at h
  ·rename_i ys hy
   split at h
   ·rename_i hz
    cases h;refine PE.imp (Znb Zv7 (ha r _ hx) (hb r _ hy)) λσ H Q ⟨F0,H0,F,at_,k⟩=>?_;refine⟨F0,H0,F,at_,λv F1 H1 x1 ⟨fp,r1⟩=>⟨F0,H0,F1,at_.grow x1,λw F2 H2 x2 ⟨fq,r2⟩=>?_⟩⟩;cases r1 with
    | ol h1 q1 =>
     cases r2 with
     | ol h2 q2 =>
      have q1':=q1.mono x2.ff;refine⟨_,_,_,_,rfl,rfl,x2.hh _ _ h1,h2,?_,λl hl=>ZeQ (P:=λv _ H'=>Q v H') (x1.trans x2) (q1'.append q2) hl k⟩;have e1:=q1.1;have e2:=q2.1;have e3:(1000000:Nat)<=sizeLine:=by decide
      unfold HM.big at hz;omega
   ·cases h
  ·cases h
 ·cases h
theorem Zvy{ga:HM.BF}(ha:XB X a ga)(hb:XE X b fb):XF X (.BinOp a .Mult b pos) (HM.Ztz ga fb):=by
 intro r d h;unfold HM.Ztz at h;split at h
 ·rename_i xs hx
  split at h
  ·rename_i i hy
   split at h
   ·rename_i hz
    cases h;rw[ZyN,decide_eq_true_eq,decide_eq_true_eq]at hz;refine PE.imp (Znb Zwq (ha r _ hx) (hb r _ hy)) λσ H Q ⟨F0,H0,F,at_,k⟩=>?_;refine⟨F0,H0,F,at_,λv F1 H1 x1 ⟨fp,r1⟩=>⟨F0,H0,F1,at_.grow x1,λw F2 H2 x2 r2=>?_⟩⟩;cases r1 with
    | ol h1 q1 =>
     have q1':=q1.mono x2.ff;refine⟨_,i,_,rfl,r2.int_inv,x2.hh _ _ h1,by omega,by omega,?_,λl hl=>ZeQ (P:=λv _ H'=>Q v H') (x1.trans x2) (q1'.rep i.toNat) hl k⟩;have e1:=q1.1;have e3:(1000*1000:Nat)<=sizeLine:=by decide
     refine Zzg (Nat.mul_le_mul (?_:_<=1000) (?_:_<=1000)) e3<;>omega
   ·cases h
  ·cases h
 ·cases h
def XO(X:Cx)(e:Option Expr)(f:Option HM.EF):Prop:=∀r o,HM.ZlU f r=some o->PO X e λσ H Q=>Now X.K r σ H λF0 H0 F=>∀F' H',Ext F H F' H'->Q o H'
theorem ZlI:XO X none none:=by intro r o h;cases h;intro pins s σ H Q I q;obtain⟨F0,H0,F,at_,k⟩:=q;exact Zvo pins s σ H Q I (k F H at_.refl)
theorem ZlP(h:XE X e fa):XO X (some e) (some fa):=by
 intro r o ho;unfold HM.ZlU at ho;split at ho
 ·rename_i z; cases z
 ·rename_i g z
  cases z;split at ho
  ·rename_i i hi
   cases ho;intro pins s σ H Q I q;obtain⟨F0,H0,F,at_,k⟩:=q;exact Zu2 (h r _ hi) pins s σ H Q I ⟨F0,H0,F,at_,λv F1 H1 x1 r1=>⟨i,r1.int_inv,k F1 H1 x1⟩⟩
  ·cases ho
theorem Zvz{ga:HM.BF}{lo hi:Option Expr}{fl fh:Option HM.EF}{p2:Pos}(ha:XB X a ga)(hl:XO X lo fl)(hh:XO X hi fh):XF X (.Subscript a (.Slice lo hi none p2) pos) (HM.Ztm ga fl fh):=by
 intro r d h;unfold HM.Ztm at h;split at h
 ·rename_i x hx
  split at h
  ·rename_i xs hxs
   split at h
   ·rename_i l hl'
    split at h
    ·rename_i u hu'
     cases h;refine PE.imp (Zo8 Zu4 (ha r _ hx) (hl r _ hl') (hh r _ hu')) λσ H Q ⟨F0,H0,F,at_,k⟩=>?_;refine⟨F0,H0,F,at_,λv F1 H1 x1 ⟨fp,r1⟩=>⟨F0,H0,F1,at_.grow x1,λF2 H2 x2=>⟨F0,H0,F2,(at_.grow x1).grow x2,λF3 H3 x3=>?_⟩⟩⟩;have x23:=x2.trans x3;obtain⟨l',vs,e1,hq,rs⟩:=Zgw x3.sub (r1.mono x23.ff λ_ _ _ z=>x23.hh _ _ z) hxs;refine⟨l',vs,e1,hq,λl2 hl2=>ZeQ (P:=λv _ H'=>Q v H') (x1.trans x23) ?_ hl2 k⟩;unfold HM.cutD Zhd;rw[<-rs.1];exact(rs.drop _).take _
    ·cases h
   ·cases h
  ·cases h
 ·cases h
theorem Zbh.val{K:Zys}{F0 H0 F H:Hp}{r:HM.Env}{σ:L2.St}{fp:Nat->List Addr}{i:Nat}{ds:List PyData}(e:Zbh K F0 H0 F H r σ fp)(h:r[i]?=some (some (.ol ds))) :
  ∃l vs,σ[i]?=some (some (.ref l))/\H l=some (.lst vs)/\Zt K F ds vs/\fp i=[l]:=by
 obtain⟨v,h1,h2⟩:=e.at_ i _ h;generalize hf:fp i=q at h2;cases h2 with
 | ol k1 k2=>exact⟨_,_,h1,k1,k2,rfl⟩
theorem At.chgList{K:Zys}{F0 H0 F H:Hp}{r:HM.Env}{σ:L2.St}{i:Nat}{ds es:List PyData}(e:At K F0 H0 F H r σ)(h:r[i]?=some (some (.ol ds))) :
  ∃l vs,σ[i]?=some (some (.ref l))/\H l=some (.lst vs)/\Zt K F ds vs/\∀us,Zt K F es us->At K F0 H0 F (upd H l (.lst us)) (r.set i (some (.ol es))) σ:=by
 obtain⟨fp,e⟩:=e;obtain⟨l,vs,h1,h2,h3,h4⟩:=e.val h;refine⟨l,vs,h1,h2,h3,λus q=>e.change (fp':=[l]) h1 (.ol ZC q) (by simp) (λa ha=>.inl (by rw[h4]; exact ha)) λa o z hn=>?_⟩;rw[ZA (λz=>hn (by rw[h4,z]; simp))];exact z
theorem Zd7(i:Nat){x:Str}{p1 p2 p3:Pos}(ha:XE X a fa)(hN:X.N[i]?=some x:=by rfl)(hv:Vis X.env.scope x:=by first | exact Zzo rfl | exact Zy5 (Zzo rfl) | exact Zy5 (Zy5 rfl))(hd:(x==("__debug__":Str))=false:=by decide)(hcd:(x==("__classdict__":Str))=false:=by decide)
  (hbase:ZAx (.Name x p1) "append" X.env (eval (.Name x p1) X.env)=eval (.Name x p1) X.env:=by rfl)
  (hfew:((backTo p3 (ZyF [a] X.env)).all (λx=>!x.1)&&(ZCf p3 (ZBp [] X.env)).all (λx=>x.1.isSome)&&decide (([a]:List Expr).length+([]:List Keyword).length+(if([]:List Keyword).isEmpty then 0 else 1)<30))=true:=by rfl)
  (hline:(p2.endLine==p3.line)=true:=by rfl) (hs:ZyF [a] X.env=[(false,eval a X.env)]:=by rfl):XS X (.Expr (.Call (.Attribute (.Name x p1) "append" p2) [a] [] p3) pos) (HM.Zec i fa):=by
 intro r o h;unfold HM.Zec at h;split at h
 ·rename_i ds hds
  split at h
  ·rename_i d hd'
   split at h
   ·rename_i hz
    cases h;refine PS.imp (ZhC (Zm8 ZAz ZBw ZBx ZgP (Zb8 hN hv hd hcd) (Zai (ha r d hd') ZbH hs) hbase hfew hline hs rfl)) λE σ H ⟨F0,H0,F,at_,k⟩=>?_;obtain⟨l,vs,e1,e2,e3,_⟩:=at_.chgList (es:=ds) hds;refine⟨.ref l,e1,.inl ⟨rfl,_,SqL.of e2⟩,F0,H0,F,at_,λv F1 H1 x1 r1=>?_⟩;have at1:=at_.grow x1;obtain⟨l',vs',f1,f2,f3,f4⟩:=at1.chgList (es:=ds++[d]) hds;rw[e1]at f1;cases f1;refine⟨_,vs',v,rfl,rfl,f2,?_,k _ F1 _ (f4 _ (f3.append (.one r1)))⟩;have e4:=f3.1;have e5:(1000000:Nat)<=sizeLine:=by decide
    unfold HM.big at hz;omega
   ·cases h
  ·cases h
 ·cases h
theorem Zuy(i:Nat){x:Str}{p1 p2:Pos}(hk:XE X b fb)(ha:XE X a fa)(hN:X.N[i]?=some x:=by rfl)(hv:Vis X.env.scope x:=by first | exact Zzo rfl | exact Zy5 (Zzo rfl) | exact Zy5 (Zy5 rfl))(hd:(x==("__debug__":Str))=false:=by decide)(hcd:(x==("__classdict__":Str))=false:=by decide)
  (hsub:∀v,assign (.Subscript (.Name x p1) b p2) X.env v=(do
   let ov <-holding [v] (eval (.Name x p1) X.env)
   let iv <-holding [v,ov] (eval b X.env)
   standAt p2
   holding [v,ov,iv] (setItem ov iv v)
   release [v,ov,iv] []):=by intro _; rfl)
  (hs:swapsWithSole [.Subscript (.Name x p1) b p2] a pos.line X.env=pure false:=by rfl) (hw:swappedStores [.Subscript (.Name x p1) b p2] a X.env=pure none:=by rfl)
  (h1:(ZAB [.Subscript (.Name x p1) b p2] X.env).map (·.2)=[assign (.Subscript (.Name x p1) b p2) X.env]:=by rfl):XS X (.Assign [.Subscript (.Name x p1) b p2] a pos) (HM.Zri i fb fa):=by
 intro r o h;unfold HM.Zri at h;split at h
 ·rename_i d hd'
  split at h
  ·rename_i ds hds
   split at h
   ·rename_i n hn
    split at h
    ·rename_i j hj
     cases h;refine PS.imp (Zwu (ha r d hd') (ZvH (Zb8 hN hv hd hcd) (hk r _ hn) set_list hsub) hs hw h1) λE σ H ⟨F0,H0,F,at_,k⟩=>?_;refine⟨F0,H0,F,at_,λv F1 H1 x1 r1=>?_⟩;have at1:=at_.grow x1;obtain⟨l,vs,e1,e2,e3,_⟩:=at1.chgList (es:=ds) hds;refine⟨.ref l,e1,F0,H0,F1,at1,λw F2 H2 x2 r2=>?_⟩;obtain⟨l',vs',f1,f2,f3,f4⟩:=(at1.grow x2).chgList (es:=ds.set j d) hds;rw[e1]at f1;cases f1;refine⟨_,vs',n,j,rfl,r2.int_inv,f2,?_,k _ F2 _ (f4 _ (f3.set (r1.mono x2.ff) j))⟩;rw[<-f3.1];exact hj
    ·cases h
   ·cases h
  ·cases h
 ·cases h
end
end HP
namespace HP
open PySem PySem.Spec PyProof.Rows L2
variable[FX]
section
variable{K:Zys}{F:Hp}{κ:Type}[DecidableEq κ]
def ZaF(K:Zys)(F:Hp)(kvs:List (κ × PyData))(vvs:List (κ × V)):Prop:=kvs.map (·.1)=vvs.map (·.1)/\Zt K F (kvs.map (·.2)) (vvs.map (·.2))
theorem ZaF.nil:ZaF K F ([]:List (κ × PyData)) []:=⟨rfl,.nil⟩
theorem ZaF.cons{k:κ}{d:PyData}{v:V}{kvs:List (κ × PyData)}{vvs:List (κ × V)}(r:Rep K F d v)(q:ZaF K F kvs vvs):ZaF K F ((k,d)::kvs) ((k,v)::vvs) :=
 ⟨by rw[Zyz,Zyz,q.1],by rw[Zyz,Zyz]; exact .cons r q.2⟩
theorem ZaF.inv{kvs:List (κ × PyData)}{vvs:List (κ × V)}(q:ZaF K F kvs vvs):(kvs=[]/\vvs=[])\/∃k d v kvs' vvs',kvs=(k,d)::kvs'/\vvs=(k,v)::vvs'/\Rep K F d v/\ZaF K F kvs' vvs':=by
 cases kvs with
 | nil =>
  cases vvs with
  | nil=>exact .inl ⟨rfl,rfl⟩
  | cons p r=>exact absurd q.1 (by simp)
 | cons p kvs' =>
  cases vvs with
  | nil=>exact absurd q.1 (by simp)
  | cons p' vvs' =>
   obtain⟨k,d⟩:=p;obtain⟨k',v⟩:=p';obtain⟨q1,q2⟩:=q;rw[Zyz,Zyz]at q1 q2;injection q1 with e1 e2
   have e1:k=k':=e1;subst e1;obtain⟨v',us,e3,r1,r2⟩:=q2.cons_inv;injection e3 with e3 e4
   refine .inr ⟨k,d,v,kvs',vvs',rfl,rfl,?_,e2,?_⟩
   ·rw[show v=v' from e3]; exact r1
   ·rw[e4]; exact r2
theorem ZaF.len{kvs:List (κ × PyData)}{vvs:List (κ × V)}(q:ZaF K F kvs vvs):kvs.length=vvs.length:=by
 have:=congrArg Zzf q.1
 rwa [Zyt,Zyt]at this
theorem ZaF.any{kvs:List (κ × PyData)}{vvs:List (κ × V)}(k:κ)(q:ZaF K F kvs vvs):(kvs.any λp=>decide (p.1=k))=vvs.any λp=>decide (p.1=k):=by
 have e:∀{β:Type} (l:List (κ × β)),(l.any λp=>decide (p.1=k))=(l.map (·.1)).any λx=>decide (x=k):=λl=>by rw[List.any_map]; rfl
 rw[e,e,q.1]
theorem ZaF.repl{d:PyData}{v:V}(k:κ)(r:Rep K F d v):∀{kvs:List (κ × PyData)} {vvs:List (κ × V)},ZaF K F kvs vvs->ZaF K F (kvs.map λp=>if p.1=k then(p.1,d)else p) (vvs.map λp=>if p.1=k then(p.1,v)else p)
 | [],vvs,q=>by
  rcases q.inv with⟨_,e⟩ | ⟨_,_,_,_,_,e,_⟩
  ·subst e; exact .nil
  ·cases e
 | p::kvs,vvs,q=>by
  rcases q.inv with⟨e,_⟩ | ⟨k',d',v',kvs',vvs',e1,e2,r1,r2⟩
  ·cases e
  ·cases e1
   subst e2;have ih:=ZaF.repl k r r2;rw[Zyz,Zyz]
   by_cases h:k'=k
   ·rw[if_pos h,if_pos h]; exact .cons r ih
   ·rw[if_neg h,if_neg h]; exact .cons r1 ih
theorem ZaF.snoc{kvs:List (κ × PyData)}{vvs:List (κ × V)}{k:κ}{d:PyData}{v:V}(q:ZaF K F kvs vvs)(r:Rep K F d v):ZaF K F (kvs++[(k,d)]) (vvs++[(k,v)]) :=
 ⟨by rw[Zy8,Zy8,q.1]; rfl,by rw[Zy8,Zy8]; exact q.2.append (.one r)⟩
theorem ZaF.put{kvs:List (κ × PyData)}{vvs:List (κ × V)}{d:PyData}{v:V}(q:ZaF K F kvs vvs)(k:κ)(r:Rep K F d v):ZaF K F (HM.putD kvs k d) (putK vvs k v):=by
 unfold HM.putD putK;rw[q.any k]
 by_cases h:(vvs.any λp=>decide (p.1=k))=true
 ·rw[if_pos h,if_pos h]; exact q.repl k r
 ·rw[if_neg h,if_neg h]; exact q.snoc r
theorem ZaF.look{k:κ}:∀{kvs:List (κ × PyData)} {vvs:List (κ × V)},ZaF K F kvs vvs->(∀d,HM.Zh kvs k=some d->∃v,ZaO vvs k=some v/\Rep K F d v)/\(HM.Zh kvs k=none->ZaO vvs k=none)
 | [],vvs,q=>by
  rcases q.inv with⟨_,e⟩ | ⟨_,_,_,_,_,e,_⟩
  ·subst e; exact⟨λd h=>(by cases h),λ_=>rfl⟩
  ·cases e
 | p::kvs,vvs,q=>by
  rcases q.inv with⟨e,_⟩ | ⟨k',d',v',kvs',vvs',e1,e2,r1,r2⟩
  ·cases e
  ·cases e1
   subst e2;obtain⟨i1,i2⟩:=ZaF.look (k:=k) r2
   by_cases h:k'=k
   ·have e3:HM.Zh ((k',d')::kvs) k=some d':=by simp[HM.Zh,Zzs,h]
    rw[e3,Zd3 (p:=(k',v')) h];exact⟨λd hd=>(by cases hd; exact⟨v',rfl,r1⟩),λhd=>by cases hd⟩
   ·have e3:HM.Zh ((k',d')::kvs) k=HM.Zh kvs k:=by simp[HM.Zh,Zzs,h]
    rw[e3,Zd4 (p:=(k',v')) h];exact⟨i1,i2⟩
theorem ZaF.some_iff{k:κ}{kvs:List (κ × PyData)}{vvs:List (κ × V)}(q:ZaF K F kvs vvs):(ZaO vvs k).isSome=(HM.Zh kvs k).isSome:=by
 obtain⟨i1,i2⟩:=q.look (k:=k);cases h:HM.Zh kvs k with
 | none=>rw[i2 h]; rfl
 | some d=>obtain⟨v,h1,_⟩:=i1 d h; rw[h1]; rfl
end
section
variable{K:Zys}{F:Hp}
theorem Zgo{d:PyData}{k:Key}{v:V}(h:HM.Zii d=some k)(r:Rep K F d v):v=kV k:=by cases r<;>first | (cases h; rfl) | cases h
theorem Zmg:∀{ds:List PyData} {ks:List Key} {vs:List V},HM.ZgR ds=some ks->Zt K F ds vs->vs=ks.map kV
 | [],ks,vs,h,r=>by cases h; exact r.nil_inv
 | d::ds,ks,vs,h,r=>by
  obtain⟨v,us,rfl,r1,r2⟩:=r.cons_inv;unfold HM.ZgR at h;split at h
  ·rename_i k hk
   obtain⟨ks',h1,h2⟩:=Zyu.mp h;subst h2;rw[Zgo hk r1,Zmg h1 r2];rfl
  ·cases h
theorem Zqt:∀{ds:List PyData} {ks:List Key},HM.ZlO ds=some ks->HM.ZgR ds=some ks
 | [],ks,h=>h
 | d::ds,ks,h=>by
  unfold HM.ZlO at h;split at h
  ·cases ‹_=[]›
  ·rename_i i r e
   injection e with e1 e2
   subst e1 e2;obtain⟨ks',h1,h2⟩:=Zyu.mp h;subst h2;show(match HM.Zii (.int i)with | some k=>(HM.ZgR ds).map (k::·) | none=>none)=_;rw[Zqt h1];rfl
  ·cases h
theorem ZbA{d:PyData}{ks:List Key}{v:V}(h:HM.ZaN d=some ks)(r:Rep K F d v):∃b,v=.ref b/\F b=some (.tup (ks.map kV)):=by
 cases r with
 | tup h1 h2 h3=>refine⟨_,rfl,?_⟩;rw[<-Zmg (Zqt h) ⟨h2,h3⟩];exact h1
 | tupk _=>cases h
 | lst _ _ _=>cases h
 | dct _ _ _ _=>cases h
 | fn _=>cases h
 | non=>cases h
 | bl _=>cases h
 | int _=>cases h
 | str _=>cases h
end
section
variable{X:Cx}{a b c e:Expr}{fa fb fc:HM.EF}{pos p:Pos}{f:HM.BF}
theorem fresh_one{K:Zys}{F H F1 H1:Hp}{o:HO}{q:HM.B}{l:Addr}{P:V->Hp->Hp->Prop}(x1:Ext F H F1 H1)(hl:H1 l=none)(hq:Zad K F1 (upd H1 l o) q (.ref l) [l])
  (k:∀v F' H',Ext F H F' H'->(∃fp,Zad K F' H' q v fp/\fp.Nodup/\∀a∈fp,F' a=none/\H a=none)->P v F' H'):P (.ref l) F1 (upd H1 l o):=by
 refine k _ F1 _ (x1.lay' hl) ⟨[l],hq,by simp,λa ha=>?_⟩;obtain rfl:a=l:=by simpa using ha
 exact⟨x1.sub.free hl,x1.hh.free hl⟩
theorem Zw3:XF X (.Dict [] [] pos) HM.fDk:=by intro r d h;cases h;exact PE.imp ZtC λσ H Q ⟨F0,H0,F,at_,k⟩ l hl=>fresh_one (P:=λv _ H'=>Q v H') at_.refl hl (.ok ZC rfl .nil) k
theorem Zm6:XF X (.Dict [] [] pos) HM.fDt:=by intro r d h;cases h;exact PE.imp Zpj λσ H Q ⟨F0,H0,F,at_,k⟩ l hl=>fresh_one (P:=λv _ H'=>Q v H') at_.refl hl (.ot ZC rfl .nil) k
theorem ZrB:XF X (.Dict [] [] pos) HM.Zt7:=by intro r d h;cases h;exact PE.imp Zpj λσ H Q ⟨F0,H0,F,at_,k⟩ l hl=>fresh_one (P:=λv _ H'=>Q v H') at_.refl hl (.otl ZC rfl rfl λi ds l' h=>by simp at h) k
theorem Zs2(ha:XE X a fa)(hb:XE X b fb):XF X (.Dict [some a] [b] pos) (HM.Zpd fa fb):=by
 intro r d h;unfold HM.Zpd at h;split at h
 ·rename_i x hx
  split at h
  ·rename_i y hy
   split at h
   ·rename_i k hk
    cases h;refine PE.imp (Zu7 (ZtF (ha r x hx) (hb r y hy) ZuM) rfl rfl (by simp) (by simp)) λσ H Q ⟨F0,H0,F,at_,kk⟩ l hl=>?_;have hFl:F l=none:=at_.sub.free hl;have x0:Ext F H F (upd H l (.dK [])):=at_.refl.lay' hl;refine⟨F0,H0,F,at_.grow x0,λv F1 H1 x1 r1=>⟨F0,H0,F1,(at_.grow x0).grow x1,λw F2 H2 x2 r2=>?_⟩⟩;have x12:=x1.trans x2;have hl2:H2 l=some (.dK []):=x12.hh l _ ZC;have hF2:F2 l=none:=by
     cases q:F2 l with
     | none=>rfl
     | some o =>
      rcases x12.new l o q with z | z
      ·rw[hFl]at z; cases z
      ·exact(z.no ZC λ_ q=>by cases q).elim
    refine⟨hl2,[(k,w)],?_,by simp,?_⟩
    ·rw[Zgo hk r1]
     rfl
    have xe:Ext F H F2 (upd H2 l (.dK (ZhD [] [(k,w)]))):=by
     refine⟨x12.ff,λc o z=>?_,λc o z=>?_,λc o z=>?_,λt=>(x12.tab (t.same (Zkm hl))).keep λa u z hu=>?_,x12.nts⟩
     ·have hc:c≠l:=Zat z hl
      exact(x12.hh c o (by rw[ZA hc]; exact z)).cong (ZA hc)
     ·rw[ZA (λe=>by rw[e,hF2]at z; cases z)]
      exact x12.sub c o z
     ·rcases x12.new c o z with q | q
      ·exact .inl q
      ·exact .inr (q.back (.of (Zq.upd' hl)))
     ·rw[ZA (λe=>by subst e; rw[hl2]at z; cases z; cases hu)]; exact z
    refine kk _ F2 _ xe ⟨[l],.ok ZC rfl (.one r2),by simp,λc hc=>?_⟩;obtain rfl:c=l:=by simpa using hc
    exact⟨hF2,hl⟩
   ·cases h
  ·cases h
 ·cases h
end
end HP
namespace HP
open PySem PySem.Spec PyProof.Rows L2
variable[FX]
theorem At.chgOne{K:Zys}{F0 H0 F H:Hp}{r:HM.Env}{σ:L2.St}{i:Nat}{q:HM.B}{l:Addr}(e:At K F0 H0 F H r σ)(h:r[i]?=some (some q))(hv:σ[i]?=some (some (.ref l)))(hone:∀v fp,Zad K F H q v fp->∃a,v=.ref a/\fp=[a]) :
  ∀o q',Zad K F (upd H l o) q' (.ref l) [l]->At K F0 H0 F (upd H l o) (r.set i (some q')) σ:=by
 intro o q' hq;obtain⟨fp,e⟩:=e;obtain⟨v,h1,h2⟩:=e.at_ i _ h;obtain⟨a,e1,e2⟩:=hone v _ h2;subst e1;rw[hv]at h1;cases h1;refine e.change (fp':=[l]) hv hq (by simp) (λc hc=>.inl (by rw[e2]; exact hc)) λc o' z hn=>?_;rw[ZA (λz=>hn (by rw[e2,z]; simp))];exact z
section
variable{X:Cx}{a b c e:Expr}{fa fb fc:HM.EF}{pos p:Pos}{f:HM.BF}
theorem ZeN{n:Nat}(h:n<HM.big):n<sizeLine:=by
 have e5:(1000000:Nat)<=sizeLine:=by decide
 unfold HM.big at h;omega
theorem ZfW(hu:X.A.units+1<cLine)(i:Nat){x:Str}{p1 p2:Pos}(hk:XE X b fb)(ha:XE X a fa)(hN:X.N[i]?=some x:=by rfl)(hv:Vis X.env.scope x:=by first | exact Zzo rfl | exact Zy5 (Zzo rfl) | exact Zy5 (Zy5 rfl))(hd:(x==("__debug__":Str))=false:=by decide)(hcd:(x==("__classdict__":Str))=false:=by decide)
  (hs:ZAE a (some (.Subscript (.Name x p1) b p2)) pos.line X.env=pure false:=by rfl):XS X (.Assign [.Subscript (.Name x p1) b p2] a pos) (HM.Zhl i fb fa):=by
 intro r o h;unfold HM.Zhl at h;split at h
 ·rename_i d hd'
  split at h
  ·rename_i y hy
   split at h
   ·rename_i kvs hb
    split at h
    ·rename_i k hk'
     split at h
     ·rename_i hz
      cases h;refine PS.imp (ZlN hu (Zb8 hN hv hd hcd) (hk r y hy) (ha r d hd') hs) λE σ H ⟨F0,H0,F,at_,kk⟩=>?_;refine⟨F0,H0,F,at_,λv F1 H1 x1 r1=>?_⟩;have at1:=at_.grow x1;obtain⟨u,fp,e1,e2⟩:=at1.any hb;refine⟨u,e1,F0,H0,F1,at1,λw F2 H2 x2 r2=>?_⟩;have at2:=at1.grow x2;cases e2 with
      | @ok l _ vvs e2 e3 e4=>have T:ZaF X.K F2 kvs vvs:=⟨e3,e4.mono x2.ff⟩;have T':=T.put k (r1.mono x2.ff);rw[Zgo hk' r2];have hH:H2 l=some (.dK vvs):=x2.hh _ _ e2;refine⟨l,_,rfl,Zih.k hH (by rw[<-T.len]; exact ZeN hz),kk _ F2 _ (at2.chgOne hb e1 (λv fp q=>by cases q; exact⟨_,rfl,rfl⟩) _ _ (.ok ZC T'.1 T'.2))⟩
     ·cases h
    ·cases h
   ·rename_i kvs hb
    split at h
    ·rename_i k hk'
     split at h
     ·rename_i hz
      cases h;refine PS.imp (ZlN hu (Zb8 hN hv hd hcd) (hk r y hy) (ha r d hd') hs) λE σ H ⟨F0,H0,F,at_,kk⟩=>?_;refine⟨F0,H0,F,at_,λv F1 H1 x1 r1=>?_⟩;have at1:=at_.grow x1;obtain⟨u,fp,e1,e2⟩:=at1.any hb;refine⟨u,e1,F0,H0,F1,at1,λw F2 H2 x2 r2=>?_⟩;have at2:=at1.grow x2;cases e2 with
      | @ot l _ vvs e2 e3 e4=>have T:ZaF X.K F2 kvs vvs:=⟨e3,e4.mono x2.ff⟩;have T':=T.put k (r1.mono x2.ff);obtain⟨bb,rfl,hbb⟩:=ZbA hk' r2;have hH:H2 l=some (.dT vvs):=x2.hh _ _ e2;refine⟨l,_,rfl,Zih.t hH (x2.sub _ _ hbb) (by rw[<-T.len]; exact ZeN hz),kk _ F2 _ (at2.chgOne hb e1 (λv fp q=>by cases q; exact⟨_,rfl,rfl⟩) _ _ (.ot ZC T'.1 T'.2))⟩
     ·cases h
    ·cases h
   ·cases h
  ·cases h
 ·cases h
theorem Zkl{K:Zys}{F H:Hp}(k:List Key):∀(kvs:List (List Key × List PyData)) (vvs:List (List Key × V)) (ls:List Addr),kvs.map (·.1)=vvs.map (·.1)->vvs.map (·.2)=ls.map V.ref ->
  (∀(i:Nat) (ds:List PyData) (l:Addr),(kvs.map (·.2))[i]?=some ds->ls[i]?=some l->∃vs,H l=some (.lst vs)/\Zt K F ds vs) ->
  (∀ds,HM.Zh kvs k=some ds->∃l' vs,ZaO vvs k=some (.ref l')/\l'∈ls/\H l'=some (.lst vs)/\Zt K F ds vs)/\(HM.Zh kvs k=none->ZaO vvs k=none)
 | [],[],_,_,_,_=>⟨(λds h=>by cases h),λ_=>rfl⟩
 | [],_::_,_,hk,_,_=>by simp at hk
 | _::_,[],_,hk,_,_=>by simp at hk
 | _::_,_::_,[],_,hv,_=>by simp at hv
 | (k1,ds1)::kvs,(k2,v2)::vvs,l1::ls,hk,hv,r=>by
  rw[Zyz,Zyz]at hk hv;injection hk with e1 e2
  injection hv with e3 e4
  have e1:k1=k2:=e1;have e3:v2=.ref l1:=e3;subst e1 e3;obtain⟨i1,i2⟩:=Zkl k kvs vvs ls e2 e4 λi ds l h1 h2=>r (i+1) ds l (by simpa using h1) (by simpa using h2)
  by_cases hkk:k1=k
  ·have e5:HM.Zh ((k1,ds1)::kvs) k=some ds1:=by simp[HM.Zh,Zzs,hkk]
   rw[e5,Zd3 (p:=(k1,V.ref l1)) hkk];obtain⟨vs,q1,q2⟩:=r 0 ds1 l1 rfl rfl;exact⟨(λds h=>by cases h; exact⟨l1,vs,rfl,by simp,q1,q2⟩),(λh=>by cases h)⟩
  ·have e5:HM.Zh ((k1,ds1)::kvs) k=HM.Zh kvs k:=by simp[HM.Zh,Zzs,hkk]
   rw[e5,Zd4 (p:=(k1,V.ref l1)) hkk];exact⟨λds h=>let ⟨l',vs,a1,a2,a3⟩:=i1 ds h; ⟨l',vs,a1,Zyx _ a2,a3⟩,i2⟩
theorem Zph{K:Zys}{F H:Hp}{kvs:List (List Key × List PyData)}{v:V}{fp:List Addr}(q:Zad K F H (.otl kvs) v fp) :
  ∃l vvs ls,v=.ref l/\fp=l::ls/\H l=some (.dT vvs)/\kvs.map (·.1)=vvs.map (·.1)/\vvs.map (·.2)=ls.map V.ref /\
   ∀k,(∀ds,HM.Zh kvs k=some ds->∃l' vs,ZaO vvs k=some (.ref l')/\l'∈ls/\H l'=some (.lst vs)/\Zt K F ds vs)/\(HM.Zh kvs k=none->ZaO vvs k=none):=by
 cases q with
 | @otl l _ vvs ls h hk hv r=>exact⟨l,vvs,ls,rfl,rfl,h,hk,hv,λk=>Zkl k kvs vvs ls hk hv r⟩
theorem Zui{K:Zys}{F H:Hp}{q:HM.B}{v w:V}{fp:List Addr}{x:PyData}{c:Bool}(sub:Zq F H)(rq:Zad K F H q v fp)(rx:Rep K F x w)(h:HM.hasB q x=some c):∃l o,v=.ref l/\ZbV H l w o/\o.isSome=c:=by
 cases rq with
 | pl _=>cases h
 | hd _ _ _ _=>cases h
 | hf _=>cases h
 | ol _ _=>cases h
 | @ok l kvs vvs h1 h2 h3=>obtain⟨k,e1,e2⟩:=Zyu.mp h;rw[Zgo e1 rx];exact⟨l,_,rfl,ZbV.k h1,by rw[ZaF.some_iff (K:=K) (F:=F) ⟨h2,h3⟩,<-e2]⟩
 | @ot l kvs vvs h1 h2 h3=>obtain⟨k,e1,e2⟩:=Zyu.mp h;obtain⟨bb,rfl,hbb⟩:=ZbA e1 rx;exact⟨l,_,rfl,ZbV.t h1 (sub _ _ hbb),by rw[ZaF.some_iff (K:=K) (F:=F) ⟨h2,h3⟩,<-e2]⟩
 | @otl l kvs vvs ls h1 h2 h3 h4 =>
  obtain⟨k,e1,e2⟩:=Zyu.mp h;obtain⟨bb,rfl,hbb⟩:=ZbA e1 rx;refine⟨l,_,rfl,ZbV.t h1 (sub _ _ hbb),?_⟩;obtain⟨l2,vvs2,ls2,e3,e4,e5,_,_,hl⟩:=Zph (Zad.otl h1 h2 h3 h4);cases e3;rw[h1]at e5;cases e5;obtain⟨i1,i2⟩:=hl k;rw[<-e2];cases hq:HM.Zh kvs k with
  | none=>rw[i2 hq]; rfl
  | some ds=>obtain⟨_,_,h5,_⟩:=i1 ds hq; rw[h5]; rfl
theorem Zrt{r:HM.Env}{d:PyData}(h:HM.Zk4 fa f r=some d):∃x q c,fa r=some x/\f r=some q/\HM.hasB q x=some c/\d=.bool (!c):=by
 unfold HM.Zk4 at h;split at h
 ·split at h
  ·obtain⟨c,h1,h2⟩:=Zyu.mp h
   exact⟨_,_,c,by assumption,by assumption,h1,h2.symm⟩
  ·cases h
 ·cases h
theorem Zs3(hu:X.A.units+1<cLine)(ha:XE X a fa)(hb:XB X b f)(hm:ZzE .NotIn b=false:=by rfl):XT X (.Compare a [.NotIn] [b] pos) (HM.tV (HM.Zk4 fa f)):=by intro r d h;obtain⟨x,q,c,h1,h2,h3,e⟩:=Zrt (Zgl h);cases e;refine PT.imp (ZnV (Zl6 hu (ha r x h1) (hb r q h2)) hm) λσ H Q ⟨F0,H0,F,at_,k⟩=>?_;refine⟨F0,H0,F,at_,λv F1 H1 x1 r1=>⟨F0,H0,F1,at_.grow x1,λw F2 H2 x2 ⟨fp,r2⟩=>?_⟩⟩;obtain⟨l,o,e1,e2,e3⟩:=Zui x2.sub r2 (r1.mono x2.ff) h3;exact⟨l,o,e1,e2,_,rfl,by rw[e3]; exact k F2 H2 (x1.trans x2)⟩
theorem Zt1{i:Nat}{r:HM.Env}{q:HM.B}(h:HM.ZoK i fa r=some q):∃x bb,fa r=some x/\r[i]?=some (some bb) /\
  ((∃kvs k d,bb=.ok kvs/\HM.Zii x=some k/\HM.Zh kvs k=some d/\q=.pl d)\/(∃kvs k d,bb=.ot kvs/\HM.ZaN x=some k/\HM.Zh kvs k=some d/\q=.pl d)\/∃kvs k ds,bb=.otl kvs/\HM.ZaN x=some k/\HM.Zh kvs k=some ds/\q=.ol ds):=by
 unfold HM.ZoK at h;split at h
 ·rename_i x hx
  split at h
  ·rename_i kvs hb
   split at h
   ·rename_i k hk
    obtain⟨d,h1,h2⟩:=Zyu.mp h;exact⟨x,_,hx,hb,.inl ⟨kvs,k,d,rfl,hk,h1,h2.symm⟩⟩
   ·cases h
  ·rename_i kvs hb
   split at h
   ·rename_i k hk
    obtain⟨d,h1,h2⟩:=Zyu.mp h;exact⟨x,_,hx,hb,.inr (.inl ⟨kvs,k,d,rfl,hk,h1,h2.symm⟩)⟩
   ·cases h
  ·rename_i kvs hb
   split at h
   ·rename_i k hk
    obtain⟨d,h1,h2⟩:=Zyu.mp h;exact⟨x,_,hx,hb,.inr (.inr ⟨kvs,k,d,rfl,hk,h1,h2.symm⟩)⟩
   ·cases h
  ·cases h
 ·cases h
theorem ZrC(hu:X.A.units+1<cLine)(i:Nat){x:Str}{p1:Pos}(hk:XE X b fb)(hN:X.N[i]?=some x:=by rfl)(hv:Vis X.env.scope x:=by first | exact Zzo rfl | exact Zy5 (Zzo rfl) | exact Zy5 (Zy5 rfl))(hd:(x==("__debug__":Str))=false:=by decide)(hcd:(x==("__classdict__":Str))=false:=by decide)
  (hs:Zo9 b:=by intro _ _; rfl):XB X (.Subscript (.Name x p1) b pos) (HM.ZoK i fb):=by
 intro r q h;obtain⟨y,bb,h1,h2,h3⟩:=Zt1 h;refine PE.imp (ZlH hu (Zb8 hN hv hd hcd) (hk r y h1) hs) λσ H Q ⟨F0,H0,F,at_,kk⟩=>?_;obtain⟨u,fp,e1,e2⟩:=at_.any h2;refine⟨u,e1,F0,H0,F,at_,λw F2 H2 x2 r2=>?_⟩;have e2':=e2.mono x2.ff λ_ _ _ z=>x2.hh _ _ z;rcases h3 with⟨kvs,k,d,rfl,hk',hl,rfl⟩ | ⟨kvs,k,d,rfl,hk',hl,rfl⟩ | ⟨kvs,k,ds,rfl,hk',hl,rfl⟩
 ·cases e2' with
  | @ok l _ vvs g1 g2 g3=>obtain⟨v,q1,q2⟩:=(ZaF.look (k:=k) (K:=X.K) (F:=F2) ⟨g2,g3⟩).1 d hl;rw[Zgo hk' r2];exact⟨l,v,rfl,by rw[<-q1]; exact ZbV.k g1,kk v F2 H2 x2 ⟨[],.pl q2⟩⟩
 ·cases e2' with
  | @ot l _ vvs g1 g2 g3=>obtain⟨v,q1,q2⟩:=(ZaF.look (k:=k) (K:=X.K) (F:=F2) ⟨g2,g3⟩).1 d hl;obtain⟨bb',rfl,hbb⟩:=ZbA hk' r2;exact⟨l,v,rfl,by rw[<-q1]; exact ZbV.t g1 (x2.sub _ _ hbb),kk v F2 H2 x2 ⟨[],.pl q2⟩⟩
 ·obtain⟨l,vvs,ls,rfl,_,g1,_,_,hlk⟩:=Zph e2'
  obtain⟨l',vs,q1,_,q2,q3⟩:=(hlk k).1 ds hl;obtain⟨bb',rfl,hbb⟩:=ZbA hk' r2;exact⟨l,_,rfl,by rw[<-q1]; exact ZbV.t g1 (x2.sub _ _ hbb),kk _ F2 H2 x2 ⟨[l'],.ol q2 q3⟩⟩
end
end HP
namespace HP
open PySem PySem.Spec PyProof.Rows L2
variable[FX]
abbrev No:Value->Shared->Prop:=λ_ _=>False
abbrev Zqr(ifs:List Expr)(env:Env):Sem Bool :=
 forIn ifs true λc r=>if r=true then do let ok <-isTrue c env (eval c env); pure (ZB7 ok)else pure (ZB7 r)
theorem ZrN{prog:Program}{w:World}{A:Around}{R:Result->Shared->Prop}{s:Shared}{elt target iter:Expr}{ifs:List Expr}{scope:Scope}{pos:Pos}{it acc:Value}{env:Env}(J:Nat->Shared->Prop)
  (turn:∀n s,J n s->wpAny (model prog w) A (pyNext it) (λr s1=>match r with
   | none=>R (.ok .next) s1
   | some v=>wpAny (model prog w) A (ZB4 target it v) (λ_ s2=>wpAny (model prog w) A (assign target env v) (λ_ s3=>wpAny (model prog w) A (Zqr ifs env) (λok s4=>if ok=true then wpAny (model prog w) A (eval elt env) (λx s5=>wpAny (model prog w) A (call (.builtin "list.append") [acc,x]) (λ_ s6=>∃m,m<n/\J m s6) No s5) No s4 else ∃m,m<n/\J m s4) No s3) No s2) No s1) No s)
  (n:Nat) (h:J n s):codeAny (model prog w) A (.compLoop (.ListComp elt [⟨target,iter,ifs,0⟩] scope pos) 0 it acc env) R s:=by
 refine codeAny_loop rfl J (λn s hI=>?_) n h;show wpAny _ A ((compTurn (.ListComp elt [⟨target,iter,ifs,0⟩] scope pos) 0 it acc env).onRaise (λx=>do noteFrame x env; theTreesLotGoes x)) _ _ s;refine wpAny_noted ?_;rw[compTurn_list];refine Zyr (wpAny_standAt (Zyr (ZzJ (turn n s hI) (λr s1 h1=>?_) λ_ _ z=>z.elim)));cases r with
 | none=>exact Zyv h1
 | some v =>
  refine Zyr (ZzJ h1 (λ_ s2 h2=>Zyr (ZzJ h2 (λ_ s3 h3=>Zyr (ZzJ h3 (λok s4 h4=>?_) λ_ _ z=>z.elim)) λ_ _ z=>z.elim)) λ_ _ z=>z.elim);cases ok with
  | false=>exact Zyv ⟨rfl,h4⟩
  | true=>refine Zyr (Zyr (ZzJ h4 (λx s5 h5=>?_) λ_ _ z=>z.elim));exact Zyr (ZzJ h5 (λ_ s6 h6=>Zyv (Zyv ⟨rfl,h6⟩)) λ_ _ z=>z.elim)
def ZV(X:Cx)(N:List Str)(scope:Scope)(cl:List (Str × Addr))(C:Addr)(s₀:Shared)(H₀:Hp)(ex:List Addr):Cx where
 prog:=X.prog
 w:=X.w
 K:=X.K
 mg:=X.mg
 base:=X.base
 A:=X.A
 N:=N
 s₀:=s₀
 H₀:=H₀
 env:=compEnvC scope cl C X.env
 outer:=X.stack
 stack:=X.stack
 ex:=ex
 fn:=λ_=>false
 calm:=true
 pn:=[]
 xe:=λ_ _=>False
theorem Zic{env:Env}:∀(names:List (Str × NameKind)) (cs:List (Str × Addr)),(∀y∈names,y.2=.free->∃c,env.cells.lookup y.1=some c)->(∀x c,cs.lookup x=some c->env.cells.lookup x=some c) ->
  ∃cl,(forIn names cs λ(x:Str × NameKind) r=>(match x with | (name,kind)=>if kind==.free then do let c <-cellOf env name; pure (ZB7 ((name,c)::r))else pure (ZB7 r):Sem (ForInStep (List (Str × Addr)))))=pure cl /\
   (∀x c,cl.lookup x=some c->env.cells.lookup x=some c)/\(∀x,(cs.lookup x).isSome=true->(cl.lookup x).isSome=true)/\∀y∈names,y.2=.free->(cl.lookup y.1).isSome=true
 | [],cs,_,h2=>⟨cs,rfl,h2,λ_ h=>h,λy hy=>by simp at hy⟩
 | (n,k)::r,cs,h1,h2=>by
  rw[List.forIn_cons]
  by_cases hk:(k==ZAM)=true
  ·obtain⟨c,hc⟩:=h1 (n,k) (Zyw ..) (by simpa using hk)
   have ec:cellOf env n=pure c:=by unfold cellOf; rw[hc]
   obtain⟨cl,e1,e2,e3,e4⟩:=Zic r ((n,c)::cs) (λy hy=>h1 y (Zyx _ hy)) (λx d hx=>by
    rw[ZAj]at hx;split at hx
    ·rename_i hb
     have:x=n:=by simpa using hb
     cases hx; rw[this]; exact hc
    ·exact h2 x d hx)
   refine⟨cl,?_,e2,λx hx=>e3 x ?_,λy hy hf=>?_⟩
   ·simp only[hk,if_true,ec,pure_bind]
    exact e1
   ·rw[ZAj]
    split
    ·rfl
    ·exact hx
   ·rcases ZyR.mp hy with e | hy
    ·subst e
     exact e3 n (by rw[ZAj]; simp)
    ·exact e4 y hy hf
  ·obtain⟨cl,e1,e2,e3,e4⟩:=Zic r cs (λy hy=>h1 y (Zyx _ hy)) h2
   refine⟨cl,?_,e2,e3,λy hy hf=>?_⟩
   ·simp only[hk,if_false,pure_bind,ZAo]
    exact e1
   ·rcases ZyR.mp hy with e | hy
    ·subst e
     exact absurd (by simpa using hf) hk
    ·exact e4 y hy hf
theorem Zft{scope:Scope}{env:Env}(h:∀y∈scope.names,y.2=.free->∃c,env.cells.lookup y.1=some c) :
  ∃cl,closureFor scope env=pure cl/\(∀x c,cl.lookup x=some c->env.cells.lookup x=some c)/\∀y∈scope.names,y.2=.free->(cl.lookup y.1).isSome=true:=by
 obtain⟨cl,e1,e2,_,e4⟩:=Zic (env:=env) scope.names [] h (λx c hx=>by simp at hx);refine⟨cl,?_,e2,e4⟩;unfold closureFor;exact(congrArg (λm:Sem (List (Str × Addr))=>m >>= λcs=>pure cs) e1).trans (pure_bind cl λcs=>pure cs)
theorem Ext.chg{F H F' H':Hp}(x:Ext F H F' H'){p:Addr}(o:HO)(h1:H p=none)(h2:F' p=none)(h3:∀u,H' p=some u->ZlL u=true):Ext F H F' (upd H' p o) :=
 ⟨x.ff,λb q z=>by
  have hb:b≠p:=Zat z h1;have y:=x.hh b q z;unfold Zdd at y ⊢;rw[ZA hb];exact y,λb q z=>by rw[ZA (Zat z h2)]; exact x.sub b q z,x.new,λt=>(x.tab t).keep λa u z hu=>by
   have ha:a≠p:=λe=>by subst e; exact ZsN (h3 u z) hu
   rw[ZA ha]; exact z,x.nts⟩
theorem At.push{K:Zys}{F0 H0 F H:Hp}{r:HM.Env}{σ:L2.St}{d:PyData}{v:V}(e:At K F0 H0 F H r σ)(q:Rep K F d v):At K F0 H0 F H (some (.pl d)::r) (some v::σ):=by
 obtain⟨fp,e⟩:=e;refine⟨λi=>match i with | 0=>[] | i+1=>fp i,e.ext,by rw[ZyI,ZyI,e.len],λi b h=>?_,λi h=>?_,λi a h=>?_,λi=>?_,λi j a hij h=>?_,e.tb,e.nt⟩
 ·cases i with
  | zero=>rw[ZA4]at h;cases h;exact⟨v,rfl,.pl q⟩
  | succ i=>rw[Zza]at h;obtain⟨u,h1,h2⟩:=e.at_ i b h;exact⟨u,by rw[Zza]; exact h1,h2⟩
 ·cases i with
  | zero=>rfl
  | succ i=>exact e.emp i λb z=>h b (by rw[Zza]; exact z)
 ·cases i with
  | zero=>simp at h
  | succ i=>exact e.own i a h
 ·cases i with
  | zero=>exact ZAb
  | succ i=>exact e.nd i
 ·cases i with
  | zero=>simp at h
  | succ i =>
   cases j with
   | zero=>simp
   | succ j=>exact e.dis i j a (by omega) h
theorem At.chgNew{K:Zys}{F0 H0 F H:Hp}{r:HM.Env}{σ:L2.St}{p:Addr}(o:HO){Hs Fs:Hp}(e:At K F0 H0 F H r σ)(es:At K F0 H0 Fs Hs r σ)(hs:ZaB Hs H)(h1:Hs p=none)(h2:F p=none)(h3:∀u,H p=some u->ZlL u=true):At K F0 H0 F (upd H p o) r σ:=by
 obtain⟨fp,e⟩:=e;obtain⟨fq,es⟩:=es;have hp:∀i,¬p∈fp i:=λi hm=>by
  obtain⟨b,hb⟩:=e.bound hm;obtain⟨v,q1,q2⟩:=e.at_ i b hb;obtain⟨v',q3,q4⟩:=es.at_ i b hb;rw[q1]at q3;cases q3;generalize fp i=f1 at q2 hm;generalize fq i=f2 at q4;cases q2 with
  | pl _=>simp at hm
  | hd _ _ _ _=>simp at hm
  | hf _=>simp at hm
  | ol k _=>cases q4 with | ol k' _=>simp at hm; subst hm; rw[h1]at k'; cases k'
  | ok k _ _=>cases q4 with | ok k' _ _=>simp at hm; subst hm; rw[h1]at k'; cases k'
  | ot k _ _=>cases q4 with | ot k' _ _=>simp at hm; subst hm; rw[h1]at k'; cases k'
  | otl k _ v1 _ =>
   cases q4 with
   | otl k' hk' v2 r2' =>
    have eo:=hs.back k' k λ_ z=>by cases z
    cases eo;have v2':=v2;rw[v1]at v2;rcases ZyR.mp hm with z2 | z2
    ·subst z2; rw[h1]at k'; cases k'
    ·have:V.ref p∈ZCg V.ref _:=ZyC.mpr ⟨p,z2,rfl⟩
     rw[v2]at this;obtain⟨a',m1,m2⟩:=ZyC.mp this;injection m2 with m2
     subst m2;obtain⟨o,ho⟩:=Zad.there (Zad.otl k' hk' v2' r2') (Zyx _ m1);rw[h1]at ho; cases ho
 have hH0:H0 p=none:=es.ext.hh.free h1;refine⟨fp,e.ext.chg o hH0 h2 h3,e.len,λi b h=>?_,e.emp,e.own,e.nd,e.dis,e.tb,e.nt⟩;obtain⟨v,q1,q2⟩:=e.at_ i b h;refine⟨v,q1,q2.mono (Zq.refl F) λa ha o' z=>?_⟩;have hne:a≠p:=λe=>hp i (by rw[<-e]; exact ha);exact .of (by rw[ZA hne]; exact z)
end HP
namespace HP
open PySem PySem.Spec PyProof.Rows L2
variable[FX]
structure ZdE(X:Cx)(N:List Str)(scope:Scope)(fr:List Str):Prop where
 kind:scope.kind=.function
 cell:∀y∈scope.names,y.2≠.cell
 names:∀y∈scope.names,y.2=.local->scope.names.lookup y.1=some .local
 loc:∀x∈fr,scope.names.lookup x=some .local
 first:∀(i:Nat) (x:Str),fr[i]?=some x->N[i]?=some x
 nd:N.Nodup
 len:N.length=X.N.length+fr.length
 cap:∀y∈scope.names,y.2=.free->X.env.kindOf y.1=some .cell\/X.env.kindOf y.1=some .free
 same:∀(i:Nat) (y:Str),N[i+fr.length]?=some y->scope.names.lookup y=some .free->X.N[i]?=some y
 vis:∀(i:Nat) (y:Str),N[i+fr.length]?=some y->Vis scope y->scope.names.lookup y=some .free
def goG(dec:PyData->Option (List PyData))(c:HM.TF)(e:HM.EF)(r:HM.Env):List PyData->Option (List PyData)
 | []=>some []
 | x::xs=>match dec x with
  | some ys=>match c (ys.map (λd=>some (HM.B.pl d))++r)with
   | some true=>match e (ys.map (λd=>some (HM.B.pl d))++r)with
    | some y=>(goG dec c e r xs).map (y::·)
    | none=>none
   | some false=>goG dec c e r xs
   | none=>none
  | none=>none
def Zff(dec:PyData->Option (List PyData))(i:HM.IF)(c:HM.TF)(e:HM.EF):HM.BF:=λr=>match i r with
 | some xs=>if xs.length<HM.big then(goG dec c e r xs).map λys=>HM.B.ol ys else none
 | none=>none
def Zjc(Y:Cx)(m:Nat)(tg:Expr)(dec:PyData->Option (List PyData)):Prop:=∀(pins:List (Addr × Obj)) (s:Shared) (σ:L2.St) (sv:List (Option V)) (H F:Hp) (d:PyData) (ys:List PyData) (xv:V) (u:Value),sv.length=m->Inv Y pins (sv++σ) H s->RelV xv u->Zq F H->Rep Y.K F d xv->dec d=some ys ->
 wpAny (model Y.prog Y.w) Y.A (assign tg Y.env u) (λ_ s'=>∃vs:List V,vs.length=m/\Inv Y pins (vs.map some++σ) H s'/\Zt Y.K F ys vs) Y.xe s
theorem At.pushes{K:Zys}{F0 H0 F H:Hp}{r:HM.Env}{σ:L2.St}:∀{ds:List PyData} {vs:List V},At K F0 H0 F H r σ->Zt K F ds vs->At K F0 H0 F H (ds.map (λd=>some (HM.B.pl d))++r) (vs.map some++σ)
 | [],vs,e,q=>by rw[q.nil_inv];exact e
 | d::ds,vs,e,q=>by obtain⟨v,us,rfl,r1,r2⟩:=q.cons_inv;exact(At.pushes e r2).push r1
section
variable{X:Cx}{N:List Str}{scope:Scope}{fr:List Str}{cl:List (Str × Addr)}{C:Addr}
theorem Zbz{env:Env}{y:Str}{k:NameKind}:∀{names:List (Str × NameKind)},(names.map λ(n,k)=>if(k==ZAM&&env.scope.kind==.function&&env.kindOf n==some .cell)then(n,NameKind.cell)else(n,k)).lookup y=some k ->
  names.lookup y=some k\/(k=.cell/\names.lookup y=some .free)
 | [],h=>by simp at h
 | (n,k')::r,h=>by
  have ih:=@Zbz env y k r;rw[Zyz]at h;dsimp only at h
  by_cases hc:(k'==ZAM&&env.scope.kind==.function&&env.kindOf n==some .cell)=true
  ·rw[if_pos hc,ZAj]at h
   rw[ZAj];split at h
   ·cases h
    refine .inr ⟨rfl,?_⟩;have:(k'==ZAM)=true:=by rw[ZyN,ZyN]at hc;exact hc.1.1
    rw[show k'=ZAM by simpa using this]
   ·exact ih h
  ·rw[if_neg hc,ZAj]at h
   rw[ZAj];split at h
   ·cases h
    exact .inl rfl
   ·exact ih h
theorem lookup_mem{y:Str}{k:NameKind}:∀{names:List (Str × NameKind)},names.lookup y=some k->(y,k)∈names
 | [],h=>by simp at h
 | (n,k')::r,h=>by
  rw[ZAj]at h;split at h
  ·cases h
   rename_i hb;rw[show y=n by simpa using hb];exact Zyw ..
  ·exact Zyx _ (lookup_mem h)
theorem Zvh{pins:List (Addr × Obj)}{σ:L2.St}{H:Hp}{s:Shared}{fp:List Addr}(T:ZdE X N scope fr)(hcl:∀y c,cl.lookup y=some c->X.env.cells.lookup y=some c)(hfr:∀y∈scope.names,y.2=.free->(cl.lookup y.1).isSome=true)
  (I:Inv X pins σ H s) (hc:X.calm=true) (hf:∀b∈fp,ZgC X pins H b) (hfl:∀b∈fp,b<s.heap.objs.size) (hC:s.heap.objs.size<=C):(ZV X N scope cl C s H fp).Ok:=by
 refine⟨I.ok.mod,T.kind,I.ok.glob,I.ok.blt,hC,λy z c h1 h2=>I.ok.inj y z c (hcl y c h1) (hcl z c h2),λy h=>?_,λy c h=>?_,λ_=>I.ok.hd hc,I.ok.frames,.inl rfl,λb hb=>⟨?_,λy c h=>?_⟩,λb o h=>I.bs b o h,
  Zzg I.ok.bsz I.sz,λb o h hb=>?_,λb hb hs=>?_,I.stack,I.stkFree⟩
 ·have h':(relabel scope X.env).names.lookup y=some .cell\/(relabel scope X.env).names.lookup y=some .free:=h
  have hm:(y,ZAM)∈scope.names:=by
   rcases h' with h' | h'
   ·rcases Zbz h' with q | ⟨_,q⟩
    ·exact absurd rfl (T.cell _ (lookup_mem q))
    ·exact lookup_mem q
   ·rcases Zbz h' with q | ⟨e,_⟩
    ·exact lookup_mem q
    ·cases e
  exact Zy4.mp (hfr _ hm rfl)
 ·exact absurd h (by show ¬false=true; simp)
 ·exact ZyQ (ZyX (hfl b hb) hC)
 ·obtain⟨_,_,_,_,q,_⟩:=hf b hb
  exact q y c (hcl y c h)
 ·obtain⟨_,_,_,q,_⟩:=hf b hb
  rcases q with q | q
  ·exact I.ok.noex b o h q
  ·exact absurd (ZyX (ZyK h) (Zzg I.ok.bsz q)) (ZAh _)
 ·obtain⟨_,q1,q2,_⟩:=hf b hb
  rcases ZyR.mp (I.stkSub b hs)with z | z
  ·exact q1 z
  ·exact q2 z
theorem Zoz{pins:List (Addr × Obj)}{σ:L2.St}{H:Hp}{s:Shared}{fp:List Addr}{D:Addr}{h1:Heap}{tk:Nat}(T:ZdE X N scope fr)(hcl:∀y c,cl.lookup y=some c->X.env.cells.lookup y=some c)(hfr:∀y∈scope.names,y.2=.free->(cl.lookup y.1).isSome=true)
  (I:Inv X pins σ H s) (hc:X.calm=true) (hf:∀b∈fp,ZgC X pins H b) (hfl:∀b∈fp,b<s.heap.objs.size) (hD:s.heap.objs.size=D) (hC:D<C) (ns:h1.Ns C (λ_=>none)) (hl:h1.get? D=some { cls:=.type "list",data:=.seq #[] 0 })
  (k:∀b o,s.heap.get? b=some o->h1.get? b=some o):Inv (ZV X N scope cl C s H fp) [] (Zy1 fr.length none++σ) (upd H D (.lst [])) { s with heap:=h1,toks:=tk }:=by
 have hn:H D=none:=I.hok.fresh (ZB8 hD);have hDC:s.heap.objs.size<=C:=Zzg (ZB8 hD) (ZAp hC);have hCn:H C=none:=I.hok.fresh hDC;refine⟨Zvh T hcl hfr I hc hf hfl hDC,rfl,I.bare,Un.laid k (ZB8 hD) hn,⟨_,ns,λi y v e1 e2 e3=>?_⟩,λy c h=>?_,?_,λy c h=>?_,λp hp=>absurd (show p∈([]:List (Addr × Obj)) from hp) (by simp),I.hok.laid k (ZB8 hD) ⟨ZzS _,[],0,.nil,hl⟩,?_⟩
 ·have hge:fr.length<=i:=by
   apply ZBk;intro hlt;rw[Zy3 (by rw[Zzh]; exact hlt),ZA3,if_pos hlt]at e2;cases e2
  rw[Zze (by rw[Zzh]; exact hge),Zzh]at e2;obtain⟨j,rfl⟩:∃j,i=j+fr.length:=⟨i-fr.length,by omega⟩;rw[Nat.add_sub_cancel]at e2
  ·have e3':Vis scope y:=by
    have e3:Vis (relabel scope X.env) y:=e3;rcases e3 with q | q | q
    ·rcases Zbz q with q | ⟨z,_⟩
     ·exact .inl q
     ·cases z
    ·rcases Zbz q with q | ⟨_,q⟩
     ·exact .inr (.inl q)
     ·exact .inr (.inr q)
    ·rcases Zbz q with q | ⟨z,_⟩
     ·exact .inr (.inr q)
     ·cases z
   have hfree:=T.vis j y e1 e3';have hm:=lookup_mem hfree;have hN:=T.same j y e1 hfree;have hcap:=T.cap _ hm rfl;obtain⟨m,_,hl⟩:=I.loc;obtain⟨u,ru,lu⟩:=hl j y v hN e2 (by
    rcases hcap with q | q
    ·exact .inr (.inl q)
    ·exact .inr (.inr q))
   refine⟨u,ru,?_⟩;obtain⟨c,hcc⟩:=Zy4.mp (hfr _ hm rfl);rcases lu with⟨q,_⟩ | ⟨_,c',e,z⟩
   ·rcases hcap with q' | q'<;>(rw[q']at q; cases q)
   ·refine .inr ⟨?_,c,hcc,?_⟩
    ·rcases e3 with q | q | q
     ·have q:(relabel scope X.env).names.lookup y=some .local:=q
      rcases Zbz q with q | ⟨z,_⟩
      ·rw[hfree]at q; cases q
      ·cases z
     ·exact .inl q
     ·exact .inr q
    ·rw[hcl y c hcc]at e
     cases e;obtain⟨o,ho,hd⟩:=z;exact⟨o,k _ _ ho,hd⟩
 ·obtain⟨v,o,ho,hd⟩:=I.cell y c (hcl y c h)
  exact⟨v,o,k _ _ ho,hd⟩
 ·show upd H D (.lst []) C=none
  rw[ZA (ZBv hC)];exact hCn
 ·have hq:=I.freeC y c (hcl y c h)
  obtain⟨v,o,ho,_⟩:=I.cell y c (hcl y c h);have:c≠D:=ZyQ (by rw[<-hD]; exact ZyK ho);rw[ZA this];exact hq
 ·show(Zy1 fr.length none++σ).length=N.length
  rw[ZyM,Zzh,I.len,T.len,Nat.add_comm]
def XTs(Y:Cx)(ifs:List Expr)(f:HM.TF):Prop:=∀r c,f r=some c->∀(pins:List (Addr × Obj)) (s:Shared) (σ:L2.St) (H:Hp) (Q:Bool->Hp->Prop),Inv Y pins σ H s->(Now Y.K r σ H λF0 H0 F=>∀F' H',Ext F H F' H'->Q c H') ->
 wpAny (model Y.prog Y.w) Y.A (Zqr ifs Y.env) (TP Y pins σ Q) Y.xe s
theorem Zbg{Y:Cx}:XTs Y [] HM.Zaa:=by intro r c h pins s σ H Q I ⟨F0,H0,F,at_,k⟩;cases h;exact wpAny_tests_nil ⟨H,I,k F H at_.refl⟩
theorem Zca{Y:Cx}{e:Expr}{f:HM.TF}(h:XT Y e f):XTs Y [e] f:=λr c hc pins s σ H Q I q=>wpAny_tests_one (h r c hc pins s σ H Q I q)
def ItE(K:Zys)(J:It)(ds:List PyData)(F:Hp):Prop:=∀F' H,Zq F F'->Zq F' H ->
 (∀(i:Nat) (d:PyData),ds[i]?=some d->J.go i H/\∀x H',J.yld i H x H'->∃F2,Ext (ZcR F' H) H F2 H'/\Rep K F2 d x)/\J.stop ds.length H
theorem ItD.e{K:Zys}{J:It}{ds:List PyData}{F:Hp}(h:ItD K J ds F):ItE K J ds F:=λF' H s1 s2=>by obtain⟨a,b⟩:=h F' H s1 s2;refine⟨λi d hd=>⟨(a i d hd).1,λx H' hy=>?_⟩,b⟩;obtain⟨e,r⟩:=(a i d hd).2 x H' hy;subst e;exact⟨_,.refl (Ext.refl s2).tups.sub,r⟩
def XIE(X:Cx)(tg e:Expr)(f:HM.IF):Prop:=∀r ds,f r=some ds->PI X tg e λσ H R=>Now X.K r σ H λF0 H0 F=>∀J F' H',Ext F H F' H'->ItE X.K J ds F'->R J H'
theorem XI.e{X:Cx}{tg e:Expr}{f:HM.IF}(h:XI X tg e f):XIE X tg e f:=λr ds hr pins s σ H R I ⟨F0,H0,F,at_,k⟩=>h r ds hr pins s σ H R I ⟨F0,H0,F,at_,λJ F' H' x q=>k J F' H' x q.e⟩
theorem ZnS{pins:List (Addr × Obj)}{σ:L2.St}{H1:Hp}{s2:Shared}{fp:List Addr}{it D:Addr}{tn:Nat->Heap->Prop}{J:It}{elt iter:Expr}{ifs:List Expr}{tg:Expr}{pos:Pos}{dec:PyData->Option (List PyData)}{fc:HM.TF}{fe:HM.EF}{s4:Shared}{r:HM.Env}{ds out:List PyData}{Fs Hs F0 H0 F1:Hp}
  {R:Result->Shared->Prop} (T:ZdE X N scope fr) (I2:Inv X pins σ H1 s2) (W:Turn X.prog X.w X.K tg J fp it tn) (hf:∀b∈fp,ZgC X pins H1 b)
  (I4:Inv (ZV X N scope cl C s2 H1 fp) [] (Zy1 fr.length none++σ) (upd H1 D (.lst [])) s4) (tn0:tn 0 s4.heap) (hD:s2.heap.objs.size<=D) (hfl:∀b∈fp,b<s2.heap.objs.size) (hbl:X.calm=true)
  (hc:XTs (ZV X N scope cl C s2 H1 fp) ifs fc) (he:XE (ZV X N scope cl C s2 H1 fp) elt fe) (at_:At X.K F0 H0 Fs Hs r σ) (x1:Ext Fs Hs F1 H1) (itd:ItE X.K J ds F1) (hbind:Zjc (ZV X N scope cl C s2 H1 fp) fr.length tg dec) (hbig:ds.length<HM.big) (go:goG dec fc fe r ds=some out)
  (hR:∀s',(∃F H vs,Inv (ZV X N scope cl C s2 H1 fp) [] (Zy1 fr.length none++σ) H s'/\Ext Fs Hs F H/\H D=some (.lst vs)/\F D=none/\Zt X.K F out vs)->R (.ok .next) s') :
  codeAny (model X.prog X.w) X.A (.compLoop (.ListComp elt [⟨tg,iter,ifs,0⟩] scope pos) 0 (.ref it) (.ref D) (compEnvC scope cl C X.env)) R s4:=by
 have hH1D:H1 D=none:=I2.hok.fresh hD;have hHsD:Hs D=none:=x1.hh.free hH1D;have hF1D:F1 D=none:=x1.sub.free hH1D;have hfpD:∀b∈fp,b≠D:=λb hb=>ZyQ (ZyX (hfl b hb) hD);have okY:=I4.ok;have stat:∀{H:Hp},(∀b∈fp,H b=none)->∀b∈fp,ZgC (ZV X N scope cl C s2 H1 fp) [] H b:=λhn b hb=>⟨hn b hb,(okY.exf b hb).1,okY.exfs b hb,.inl hb,(okY.exf b hb).2,λp hp=>absurd (show p∈([]:List (Addr × Obj)) from hp) (by simp)⟩;refine ZrN (λn s'=>∃(j:Nat) (sv:List (Option V)) (F H:Hp) (ys:List PyData) (vs:List V) (rest:List PyData),sv.length=fr.length/\Inv (ZV X N scope cl C s2 H1 fp) [] (sv++σ) H s'/\tn j s'.heap/\(∀b∈fp,H b=none)/\Ext Fs Hs F H/\Zq F1 F/\At X.K F0 H0 F H r σ /\
  H D=some (.lst vs)/\F D=none/\Zt X.K F ys vs/\j+n=ds.length/\ys.length<=j/\goG dec fc fe r (ds.drop j)=some rest/\out=ys++rest) ?_ ds.length
  ⟨0,Zy1 fr.length none,F1,_,[],[],out,Zzh,I4,tn0,λb hb=>by rw[ZA (hfpD b hb)]; exact(hf b hb).1,x1.lay' hH1D,Zq.refl _,(at_.grow x1).grow ((at_.grow x1).refl.lay' hH1D),ZC,hF1D,.nil,by omega,ZyB _,go,rfl⟩
 rintro n s5 ⟨j,sv,F,H,ys,vs,rest,hsv,I5,tn5,hfp5,x5,sF,at5,hHD,hFD,rys,hjn,hyl,hgo,hout⟩
 obtain⟨it1,it2⟩:=itd F H sF at5.sub;cases n with
 | zero =>
  have ej:j=ds.length:=by omega
  subst ej;rw[ZCR]at hgo;cases hgo;rw[Zy7]at hout;subst hout;refine thn (W.done (ZV X N scope cl C s2 H1 fp) rfl rfl rfl rfl _ [] s5 _ H No I5 (stat hfp5) tn5 it2) λrv s6 ⟨e,I6⟩=>?_;subst e;refine hR s6 ⟨F,H,vs,I6.weak (by rw[ZyM,ZyM,Zzh,hsv]) λi v hv=>?_,x5,hHD,hFD,rys⟩
  by_cases hi:i<fr.length
  ·rw[Zy3 (by rw[Zzh]; exact hi),ZA3,if_pos hi]at hv
   cases hv
  ·rw[Zze (by rw[Zzh]; omega),Zzh]at hv
   rw[Zze (by omega),hsv];exact hv
 | succ n =>
  have hlt:j<ds.length:=by omega
  obtain⟨jg,jy⟩:=it1 j ds[j] (ZyH hlt);obtain⟨F2,x5,sF,at5,hFD,rys,jy⟩:∃F2,Ext Fs Hs F2 H/\Zq F1 F2/\At X.K F0 H0 F2 H r σ/\F2 D=none/\Zt X.K F2 ys vs/\∀x H',J.yld j H x H'->∃F3,Ext F2 H F3 H'/\Rep X.K F3 ds[j] x :=
   ⟨ZcR F H,x5.tups,sF.trans (Zc7 at5.sub),at5.grow at5.refl.tups,by unfold ZcR; rw[hHD]; exact hFD,rys.mono (Zc7 at5.sub),jy⟩
  clear it1 it2
  rw[ZBs hlt]at hgo;refine thn (W.item (ZV X N scope cl C s2 H1 fp) rfl rfl rfl rfl j [] s5 _ H No I5 (stat hfp5) tn5 jg) λrv s6 ⟨u,e,h6⟩=>?_;subst e;refine thn h6 λ_ s7 ⟨xv,H7,I7,r7,y7,tn7,fr7⟩=>?_;obtain⟨F7,x7,rx⟩:=jy xv H7 y7;obtain⟨F2,x5,sF,at5,hHD,hFD,rys,rx⟩:∃F2,Ext Fs Hs F2 H7/\Zq F1 F2/\At X.K F0 H0 F2 H7 r σ/\H7 D=some (.lst vs)/\F2 D=none/\Zt X.K F2 ys vs/\Rep X.K F2 ds[j] xv:=by
   refine⟨F7,x5.trans x7,sF.trans x7.ff,at5.grow x7,x7.hh _ _ hHD,?_,rys.mono x7.ff,rx⟩;cases q:F7 D with
   | none=>rfl
   | some o =>
    rcases x7.new D o q with z | z
    ·rw[hFD]at z; cases z
    ·exact(z.no hHD λ_ q=>by cases q).elim
  have I7':=I7.pinned (stat fr7) (W.obj _ _ tn7);unfold goG at hgo;split at hgo
  case h_2=>cases hgo
  rename_i zs hzs;have dok:=hbind _ s7 σ sv H7 F2 ds[j] zs xv u hsv I7' r7 at5.sub rx hzs;refine thn dok λ_ s8 ⟨ws,hws,I8,rws⟩=>?_;have atp:=at5.pushes rws;have again:∀{s9:Shared} {F9 H9:Hp} {zs9:List PyData} {ws9:List V} {rest':List PyData},Inv (ZV X N scope cl C s2 H1 fp) ([]++Zi9 fp s7.heap) (ws.map some++σ) H9 s9->Ext Fs Hs F9 H9->Zq F2 F9->At X.K F0 H0 F9 H9 r σ->H9 D=some (.lst ws9)->F9 D=none->Zt X.K F9 zs9 ws9->zs9.length<=j+1->goG dec fc fe r (ds.drop (j+1))=some rest'->out=zs9++rest' ->
    ∃m,m<n+1/\∃(j:Nat) (sv:List (Option V)) (F2 H:Hp) (ys:List PyData) (vs:List V) (rest:List PyData),sv.length=fr.length/\Inv (ZV X N scope cl C s2 H1 fp) [] (sv++σ) H s9/\tn j s9.heap/\(∀b∈fp,H b=none)/\Ext Fs Hs F2 H/\Zq F1 F2/\At X.K F0 H0 F2 H r σ /\
     H D=some (.lst vs)/\F2 D=none/\Zt X.K F2 ys vs/\j+m=ds.length/\ys.length<=j/\goG dec fc fe r (ds.drop j)=some rest/\out=ys++rest:=by
   intro s9 F9 H9 zs9 ws9 rest' I9 x9 s9F a9 h9 f9 r9 l9 g9 o9;refine⟨n,ZAV n,j+1,ws.map some,F9,H9,zs9,ws9,rest',by rw[Zyt]; exact hws,I9.unpinned,W.keep _ _ _ tn7 λb hb o e=>(I9.pin (b,o) (ZyY _ (ZyY _ (ZfF hb e)))).1,λb hb=>?_,x9,sF.trans s9F,a9,h9,f9,r9,by omega,l9,g9,o9⟩;obtain⟨o,e,d⟩:=W.obj _ _ tn7 b hb;exact(I9.pin (b,o) (ZyY _ (ZyY _ (ZfF hb e)))).2.1
  have noD:∀{F' H':Hp},Ext F2 H7 F' H'->F' D=none:=λ{F' H'} y=>by
   cases q:F' D with
   | none=>rfl
   | some o =>
    rcases y.new D o q with z | z
    ·rw[hFD]at z; cases z
    ·exact(z.no hHD λ_ q=>by cases q).elim
  split at hgo
  ·rename_i hcv
   split at hgo
   ·rename_i y hy
    obtain⟨rest',g1,g2⟩:=Zyu.mp hgo;subst g2;refine thn (hc _ _ hcv _ s8 _ H7 (λc' H'=>c'=true/\∃F',Ext F2 H7 F' H') I8 ⟨F0,H0,F2,atp,λF' H' y=>⟨rfl,F',y⟩⟩) λok s9 ⟨H9,I9,eok,F9,x9⟩=>?_;subst eok;rw[if_pos rfl];refine thn (he _ _ hy _ s9 _ H9 (λv' H'=>∃F',Ext F9 H9 F' H'/\Rep X.K F' y v') I9 ⟨F0,H0,F9,atp.grow x9,λv' F' H' x q=>⟨F',x,q⟩⟩) λu' s10 ⟨v',H10,I10,r10,F10,x10,q10⟩=>?_;have x910:=x9.trans x10;have hHD':H10 D=some (.lst vs):=x910.hh _ _ hHD;have hFD':=noD x910;refine thn (ZgP (X:=ZV X N scope cl C s2 H1 fp) _ s10 _ H10 (.ref D) [v'] (.ref D) [u'] (λ_ H'=>H'=upd H10 D (.lst (vs++[v']))) I10 rfl (.cons r10 .nil) ⟨D,vs,v',rfl,rfl,hHD',?_,rfl⟩) λ_ s11 ⟨_,H11,I11,_,e11⟩=>?_
    ·have:=rys.1
     exact ZeN (by omega)
    subst e11;refine again (zs9:=ys++[y]) I11 ((x5.trans x910).chg _ hHsD hFD' λu z=>by rw[hHD']at z; cases z; rfl) x910.ff ((at5.grow x910).chgNew _ at_ (x5.trans x910).hh hHsD hFD' λu z=>by rw[hHD']at z; cases z; rfl) ZC hFD' ((rys.mono x910.ff).append (.one q10)) (by rw[ZyM]; show ys.length+1<=j+1; omega) g1 (by rw[hout,ZzK]; rfl)
   ·cases hgo
  ·rename_i hcv
   refine thn (hc _ _ hcv _ s8 _ H7 (λc' H'=>c'=false/\∃F',Ext F2 H7 F' H') I8 ⟨F0,H0,F2,atp,λF' H' y=>⟨rfl,F',y⟩⟩) λok s9 ⟨H9,I9,eok,F9,x9⟩=>?_;subst eok;rw[if_neg (by simp)];exact again (zs9:=ys) I9 (x5.trans x9) x9.ff (at5.grow x9) (x9.hh _ _ hHD) (noD x9) (rys.mono x9.ff) (by omega) hgo hout
  ·cases hgo
theorem Zn0{pins:List (Addr × Obj)}{σ:L2.St}{H1 H:Hp}{s2 s':Shared}{fp:List Addr}{sv:List (Option V)}{h':Heap}(I2:Inv X pins σ H1 s2)(hf:∀b∈fp,ZgC X pins H1 b)(hC:s2.heap.objs.size<=C)
  (I:Inv (ZV X N scope cl C s2 H1 fp) [] (sv++σ) H s') (hs:ZAq C s'.heap h'):Inv X pins σ H { s' with heap:=h' }:=by
 have u:Un (frs X.stack) fp H1 H s2.heap s'.heap:=I.base;have hCn:H C=none:=I.free;have ne:∀b o,s2.heap.get? b=some o->b≠C:=λb o e=>ZyQ (ZyX (ZyK e) hC);refine I2.call' (s':={ s' with heap:=h' }) (ch:=fp) I.os ⟨λb o e n hb hx=>(hs.2 b (ne b o e)).trans (u.keep b o e n hb hx),λb o e n hb hx=>?_,u.free,λb o e hx=>?_,u.tups,u.frzs,u.tbls⟩ (λb o e=>?_) I.bare λb hb=>?_
 ·obtain⟨sl,q⟩:=u.slot b o e n hb hx
  exact⟨sl,(hs.2 b (ne b o e)).trans q⟩
 ·obtain⟨o',q⟩:=u.there b o e hx
  exact⟨o',(hs.2 b (ne b o e)).trans q⟩
 ·refine(I.hok b o e).stay (λc w' hc q=>(hs.2 c ?_).trans q) (λ_ q=>q) λ_ _ q=>q
  rintro rfl
  rcases hc with rfl | hc
  ·rw[hCn]at e; cases e
  ·rw[hCn]at hc; cases hc
 ·obtain⟨q0,q1,q2,q3,q4,q5⟩:=hf b hb
  exact⟨q3,q1,q4,q5⟩
variable{elt iter:Expr}{ifs:List Expr}{tg:Expr}{pos:Pos}{fi:HM.IF}{dec:PyData->Option (List PyData)}{fc:HM.TF}{fe:HM.EF}
theorem ZnU{pins:List (Addr × Obj)}{σ:L2.St}{H:Hp}{s:Shared}(T:ZdE X N scope fr)(I:Inv X pins σ H s):∀y∈scope.names,y.2=.free->∃c,X.env.cells.lookup y.1=some c:=λy hy e=>I.ok.has y.1 (T.cap y hy e)
theorem Znl(hxe:X.xe=λ_ _=>False)(hcalm:X.calm=true)(T:ZdE X N scope fr)(hbind:∀cl C s H ex,Zjc (ZV X N scope cl C s H ex) fr.length tg dec)(hi:XIE X tg iter fi)(hc:∀cl C s H ex,XTs (ZV X N scope cl C s H ex) ifs fc)(he:∀cl C s H ex,XE (ZV X N scope cl C s H ex) elt fe)
  (hs:∀x,ZzV iter X.env x=pure x:=by intro _; rfl):XF X (.ListComp elt [⟨tg,iter,ifs,0⟩] scope pos) (Zff dec fi fc fe):=by
 intro r b h;unfold Zff at h;split at h
 ·rename_i ds hds
  split at h
  ·rename_i hbig
   obtain⟨out,hgo,e⟩:=Zyu.mp h;subst e;intro pins s σ H Q I ⟨F0,H0,F,at_,k⟩;obtain⟨cl,hclos,hcl,hfr⟩:=Zft (ZnU T I);rw[eval_ListComp];refine wpAny_comprehension_free (use:=none) rfl hs hclos T.kind T.names (thn (hi r ds hds pins s σ H (λJ H'=>∃F',Ext F H F' H'/\ItE X.K J ds F') I ⟨F0,H0,F,at_,λJ F' H' x q=>⟨F',x,q⟩⟩) λv s1 h1=>thn h1 λitv s2 h2=>?_);obtain⟨it,fp,tn,J,H1,rfl,I2,W,st2,f2,F1,x1,itd⟩:=h2;have hfl:∀b∈fp,b<s2.heap.objs.size:=λb hb=>let ⟨o,ho,_⟩:=W.obj 0 _ st2 b hb; ZyK ho
   refine Zzb (ZB9 T.cell (by intro y hy; simp at hy) (λh1 hns hsb=>?_) T.kind);dsimp only at hns hsb ⊢;generalize hP:s2.heap.push { cls:=.type "list",dict:=none,data:=.seq ([]:List Value).toArray }=h0 at hns hsb ⊢;have hsz:h0.objs.size=s2.heap.objs.size+1:=by rw[<-hP,ZBd]
   have hDC:s2.heap.objs.size<h0.objs.size:=by rw[hsz]; exact ZAV _
   have old:∀b o,s2.heap.get? b=some o->h1.get? b=some o:=λb o e=>hsb.extBut b o (ZyQ (ZAt (ZyK e) hDC)) (Zyy _ (by rw[<-hP]; exact Zyy _ e));have hl:h1.get? s2.heap.objs.size=some { cls:=.type "list",data:=.seq #[] 0 }:=hsb.extBut _ _ (ZyQ hDC) (Zyy _ (by rw[<-hP]; exact ZyO _ rfl));have I4:Inv (ZV X N scope cl h0.objs.size s2 H1 fp) [] (Zy1 fr.length none++σ) (upd H1 s2.heap.objs.size (.lst [])) { s2 with heap:=h1,toks:=s2.toks+([]:List (Str × Value)).length }:=Zoz T hcl hfr I2 hcalm f2 hfl rfl hDC hns hl old;have tn1:tn 0 h1:=W.keep _ _ _ st2 λb _ o e=>old b o e;have hHsD:H s2.heap.objs.size=none:=x1.hh.free (I2.hok.fresh (ZyB _));have loop:codeAny (model X.prog X.w) X.A (.compLoop (.ListComp elt [⟨tg,iter,ifs,0⟩] scope pos) 0 (.ref it) (.ref s2.heap.objs.size) (compEnvC scope cl h0.objs.size X.env)) (compPost (model X.prog X.w) X.A X.xe none (EP X pins σ Q) (.ref s2.heap.objs.size) h0.objs.size)
     { s2 with heap:=h1,toks:=s2.toks+([]:List (Str × Value)).length }:=by
    refine ZnS T I2 W f2 I4 tn1 (ZyB _) hfl hcalm (hc _ _ _ _ _) (he _ _ _ _ _) at_ x1 itd (hbind _ _ _ _ _) hbig hgo λs' ⟨F',H',vs,I',x',hD',hFD',rs⟩=>?_;obtain⟨m,hn,_⟩:=id I'.loc;refine⟨m,hn,λh2 hs2=>⟨.ref s2.heap.objs.size,H',Zn0 I2 f2 (ZAp hDC) I' hs2,rfl,k _ F' H' x' ⟨[s2.heap.objs.size],.ol hD' rs,by simp,λa ha=>?_⟩⟩⟩;obtain rfl:a=s2.heap.objs.size:=by simpa using ha
    exact⟨hFD',hHsD⟩
   exact codeAny_compStart_list loop (W.self _ 0 _ _ _ tn1 loop)
  ·cases h
 ·cases h
theorem ZjQ(i:Nat){y:Str}{py spos:Pos}(hN:X.N.Nodup)(hxe:X.xe=λ_ _=>False)(hcalm:X.calm=true)(T:ZdE X N scope fr)(hbind:∀cl C s H ex,Zjc (ZV X N scope cl C s H ex) fr.length tg dec)(hi:XIE X tg iter fi)(hc:∀cl C s H ex,XTs (ZV X N scope cl C s H ex) ifs fc)(he:∀cl C s H ex,XE (ZV X N scope cl C s H ex) elt fe)
  (hiy:X.N[i]?=some y:=by rfl) (hy:X.env.scope.names.lookup y=some .local:=by rfl) (hsw:ZAE (.ListComp elt [⟨tg,iter,ifs,0⟩] scope pos) (some (.Name y py)) spos.line X.env=pure true:=by rfl)
  (hs:∀x,ZzV iter X.env x=pure x:=by intro _; rfl):XS X (.Assign [.Name y py] (.ListComp elt [⟨tg,iter,ifs,0⟩] scope pos) spos) (HM.ZT i (Zff dec fi fc fe)):=by
 intro r o h;obtain⟨b,hb,e⟩:=Zyu.mp h;subst e;unfold Zff at hb;split at hb
 ·rename_i ds hds
  split at hb
  ·rename_i hbig
   obtain⟨out,hgo,e⟩:=Zyu.mp hb;subst e;intro pins s σ H E I ⟨F0,H0,F,at_,k⟩;obtain⟨cl,hclos,hcl,hfr⟩:=Zft (ZnU T I);rw[exec_Assign_Name_used _ _ _ _ hsw];refine Zyr (wpAny_standAt (Zyr ?_));show wpAny _ X.A (do let _ <-comprehension (.ListComp elt [⟨tg,iter,ifs,0⟩] scope pos) scope X.env _ (newList []) false (eval iter X.env) (some (assign (.Name y py) X.env))) _ _ s;refine Zyr (ZzJ (wpAny_comprehension_free (use:=some (assign (.Name y py) X.env)) (Q:=λ_ s'=>SP X pins E .next s') rfl hs hclos T.kind T.names (thn (hi r ds hds pins s σ H (λJ H'=>∃F',Ext F H F' H'/\ItE X.K J ds F') I ⟨F0,H0,F,at_,λJ F' H' x q=>⟨F',x,q⟩⟩) λv s1 h1=>thn h1 λitv s2 h2=>?_)) (λ_ s' hq=>Zyv (Zyv hq)) λ_ _ e=>e)
   obtain⟨it,fp,tn,J,H1,rfl,I2,W,st2,f2,F1,x1,itd⟩:=h2;have hfl:∀b∈fp,b<s2.heap.objs.size:=λb hb=>let ⟨o,ho,_⟩:=W.obj 0 _ st2 b hb; ZyK ho
   refine Zzb (ZB9 T.cell (by intro y hy; simp at hy) (λh1 hns hsb=>?_) T.kind);dsimp only at hns hsb ⊢;generalize hP:s2.heap.push { cls:=.type "list",dict:=none,data:=.seq ([]:List Value).toArray }=h0 at hns hsb ⊢;have hsz:h0.objs.size=s2.heap.objs.size+1:=by rw[<-hP,ZBd]
   have hDC:s2.heap.objs.size<h0.objs.size:=by rw[hsz]; exact ZAV _
   have old:∀b o,s2.heap.get? b=some o->h1.get? b=some o:=λb o e=>hsb.extBut b o (ZyQ (ZAt (ZyK e) hDC)) (Zyy _ (by rw[<-hP]; exact Zyy _ e));have hl:h1.get? s2.heap.objs.size=some { cls:=.type "list",data:=.seq #[] 0 }:=hsb.extBut _ _ (ZyQ hDC) (Zyy _ (by rw[<-hP]; exact ZyO _ rfl));have I4:Inv (ZV X N scope cl h0.objs.size s2 H1 fp) [] (Zy1 fr.length none++σ) (upd H1 s2.heap.objs.size (.lst [])) { s2 with heap:=h1,toks:=s2.toks+([]:List (Str × Value)).length }:=Zoz T hcl hfr I2 hcalm f2 hfl rfl hDC hns hl old;have tn1:tn 0 h1:=W.keep _ _ _ st2 λb _ o e=>old b o e;have hHsD:H s2.heap.objs.size=none:=x1.hh.free (I2.hok.fresh (ZyB _));have loop:codeAny (model X.prog X.w) X.A (.compLoop (.ListComp elt [⟨tg,iter,ifs,0⟩] scope pos) 0 (.ref it) (.ref s2.heap.objs.size) (compEnvC scope cl h0.objs.size X.env)) (compPost (model X.prog X.w) X.A X.xe (some (assign (.Name y py) X.env)) (λ_ s'=>SP X pins E .next s') (.ref s2.heap.objs.size) h0.objs.size)
     { s2 with heap:=h1,toks:=s2.toks+([]:List (Str × Value)).length }:=by
    refine ZnS T I2 W f2 I4 tn1 (ZyB _) hfl hcalm (hc _ _ _ _ _) (he _ _ _ _ _) at_ x1 itd (hbind _ _ _ _ _) hbig hgo λs' ⟨F',H',vs,I',x',hD',hFD',rs⟩=>?_;obtain⟨m,hn,_⟩:=id I'.loc;have IX:Inv X pins σ H' s':=Zn0 (h':=s'.heap) I2 f2 (ZAp hDC) I' (ZDz _ _);have hCn:H' h0.objs.size=none:=I'.free;have neL:h0.objs.size≠X.env.locals:=ZBv (ZAt I2.lt hDC);have neC:∀z c,X.env.cells.lookup z=some c->c≠h0.objs.size:=λz c hz=>by obtain⟨v,o,ho,_⟩:=I2.cell z c hz;exact ZyQ (ZAt (ZyK ho) hDC)
    have neP:∀p∈X.pn++pins,p.1≠h0.objs.size:=λp hp=>ZyQ (ZAt (ZyK (I2.pin p hp).1) hDC);show wpAny _ X.A (assign (.Name y py) X.env (.ref s2.heap.objs.size)) _ _ _;refine wpAny_assign_Name (Zmm IX hN hiy (.inl hy) (v:=.ref s2.heap.objs.size) rfl (λs3 I3 hsa=>?_) (.inr hy));obtain⟨a,sa,ea⟩:=hsa;have neA:h0.objs.size≠a:=by
     rcases ea with e | e
     ·rw[e]; exact neL
     ·exact Zzu (neC _ _ e)
    refine⟨m,hn.sameBut sa neA,λh2 hs2=>?_⟩;refine⟨_,H',I3.turned (t':=s3.toks) (it:=h0.objs.size) (λb o hb e=>(hs2.2 b hb).trans e) hCn neL (.inr (Zzg I2.sz (ZAp hDC))) neC neP,k _ F' H' ((at_.grow x').storeNew at_ x'.hh (fp':=[s2.heap.objs.size]) (.ol hD' rs) (by simp) λa ha=>?_)⟩;obtain rfl:a=s2.heap.objs.size:=by simpa using ha
    exact⟨hFD',hHsD⟩
   exact codeAny_compStart_list loop (W.self _ 0 _ _ _ tn1 loop)
  ·cases hb
 ·cases hb
end
end HP
namespace HP
open PySem PySem.Spec PyProof.Rows L2
variable[FX]
def Zty(d:PyData):Option (List PyData):=some [d]
def ZlM:PyData->Option (List PyData)
 | .tuple [x,y]=>some [x,y]
 | _=>none
theorem ZvR(c:HM.TF)(e:HM.EF)(r:HM.Env):∀xs,HM.ZaG c e r xs=goG Zty c e r xs
 | []=>rfl
 | x::xs=>by unfold HM.ZaG goG;rw[ZvR c e r xs];rfl
theorem ZwQ(c:HM.TF)(e:HM.EF)(r:HM.Env):∀xs,HM.Zch c e r xs=goG ZlM c e r xs
 | []=>rfl
 | x::xs=>by
  have ih:=ZwQ c e r xs;unfold HM.Zch goG;split
  ·rename_i h; cases h
  ·rename_i a b q h
   cases h;rw[ih];rfl
  ·rename_i h1
   have hn:ZlM x=none:=by
    unfold ZlM;split
    ·exact(h1 _ _ _ rfl).elim
    ·rfl
   rw[hn]
theorem Zqh(i:HM.IF)(c:HM.TF)(e:HM.EF):HM.ZQ i c e=Zff Zty i c e:=by
 funext r
 unfold HM.ZQ Zff;cases i r with
 | none=>rfl
 | some xs=>dsimp only; rw[ZvR]
theorem Zp1(i:HM.IF)(c:HM.TF)(e:HM.EF):HM.ZdO i c e=Zff ZlM i c e:=by
 funext r
 unfold HM.ZdO Zff;cases i r with
 | none=>rfl
 | some xs=>dsimp only; rw[ZwQ]
theorem Zpk{K:Zys}{F:Hp}{d1 d2:PyData}{v:V}(h:Rep K F (.tuple [d1,d2]) v):∃a v1 v2,v=.ref a/\F a=some (.tup [v1,v2])/\Rep K F d1 v1/\Rep K F d2 v2:=by
 cases h with
 | @tup a ds vs h1 h2 h3 =>
  cases vs with
  | nil=>simp at h2
  | cons v1 vs=>cases vs with
   | nil=>simp at h2
   | cons v2 vs=>cases vs with
    | nil=>exact⟨a,v1,v2,rfl,h1,h3 0 _ _ rfl rfl,h3 1 _ _ rfl rfl⟩
    | cons _ _=>simp at h2
section
variable{X:Cx}{N:List Str}{scope:Scope}{x x2:Str}{px px2 pt:Pos}{kt:Nat}
theorem Zr6(T:ZdE X N scope [x])(cl:List (Str × Addr))(C:Addr)(s₀:Shared)(H₀:Hp)(ex:List Addr):Zjc (ZV X N scope cl C s₀ H₀ ex) 1 (.Name x px) Zty:=by
 intro pins s σ sv H F d ys xv u hsv I r sub q hd;cases hd;have hx:=T.loc x (ZyL.mpr rfl);refine thn (ZfR (X:=ZV X N scope cl C s₀ H₀ ex) (i:=0) T.nd (T.first 0 x rfl) (.inl (ZAu hx)) (.inr (ZAu hx)) _ s _ H xv u (λσ' H'=>σ'=(sv++σ).set 0 (some xv)/\H'=H) I r ⟨rfl,rfl⟩) λ_ s' ⟨σ',H',I',e1,e2⟩=>?_
 subst e1 e2;refine⟨[xv],rfl,?_,.one q⟩;cases sv with
 | nil=>simp at hsv
 | cons a sv=>cases sv with
  | nil=>exact I'
  | cons _ _=>simp at hsv
theorem ZsR(T:ZdE X N scope [x,x2])(cl:List (Str × Addr))(C:Addr)(s₀:Shared)(H₀:Hp)(ex:List Addr):Zjc (ZV X N scope cl C s₀ H₀ ex) 2 (.Tuple [.Name x px,.Name x2 px2] kt pt) ZlM:=by
 intro pins s σ sv H F d ys xv u hsv I r sub q hd;have hx:=T.loc x (Zyw ..);have hx2:=T.loc x2 (Zyx _ (Zyw ..));unfold ZlM at hd;split at hd
 ·rename_i d1 d2
  cases hd;obtain⟨pa,v1,v2,e7,hpa,rx1,rx2⟩:=Zpk q;subst e7;refine thn (Zsn (X:=ZV X N scope cl C s₀ H₀ ex) (n:=2) rfl (Zil (ZfR (X:=ZV X N scope cl C s₀ H₀ ex) (i:=0) T.nd (T.first 0 x rfl) (.inl (ZAu hx)) (.inr (ZAu hx))) (Zil (ZfR (X:=ZV X N scope cl C s₀ H₀ ex) (i:=1) T.nd (T.first 1 x2 rfl) (.inl (ZAu hx2)) (.inr (ZAu hx2))) Zqp)) rfl rfl _ s _ H (.ref pa) u (λσ' H'=>σ'=((sv++σ).set 0 (some v1)).set 1 (some v2)/\H'=H) I r ⟨pa,[v1,v2],rfl,.of (sub _ _ hpa),rfl,v1,[v2],rfl,v2,[],rfl,rfl,rfl,rfl⟩) λ_ s' ⟨σ',H',I',e1,e2⟩=>?_
  subst e1 e2;refine⟨[v1,v2],rfl,?_,.cons rx1 (.one rx2)⟩;cases sv with
  | nil=>simp at hsv
  | cons a sv=>cases sv with
   | nil=>simp at hsv
   | cons b sv=>cases sv with
    | nil=>exact I'
    | cons _ _=>simp at hsv
 ·cases hd
def ZsE(kinds:Str->Option NameKind)(XN N:List Str)(names:List (Str × NameKind))(fr:List Str):Bool :=
 names.all (λy=>y.2 != .cell)&&names.all (λy=>y.2 != .local||names.lookup y.1==some .local)&&fr.all (λx=>names.lookup x==some .local)&&(ZyA fr.length).all (λi=>N[i]?==fr[i]?)&&decide N.Nodup&&N.length==XN.length+fr.length &&
 names.all (λy=>y.2 != .free||kinds y.1==some .cell||kinds y.1==some .free) &&
 (ZyA (N.length-fr.length)).all (λi=>match N[i+fr.length]? with
  | some y=>(names.lookup y != some .free||XN[i]?==some y)&&(names.lookup y==some .free||(names.lookup y != some .local&&names.lookup y != some .cell))
  | none=>true)
theorem ZE{X:Cx}{N XN:List Str}{scope sc:Scope}{fr:List Str}(hs:X.env.scope=sc:=by rfl)(hN:X.N=XN:=by rfl)(hk:scope.kind=.function:=by rfl)(h:ZsE (λy=>sc.names.lookup y) XN N scope.names fr=true:=by decide +kernel):ZdE X N scope fr:=by
 subst hN;unfold ZsE at h;simp only[ZyN,ZyD,ZAd,bne_iff_ne,beq_iff_eq,decide_eq_true_eq]at h;obtain⟨⟨⟨⟨⟨⟨⟨h1,h2⟩,h3⟩,h4⟩,h5⟩,h6⟩,h7⟩,h8⟩:=h;have at_:∀(i:Nat) (y:Str),N[i+fr.length]?=some y->(scope.names.lookup y≠some .free\/X.N[i]?=some y)/\(scope.names.lookup y=some .free\/(scope.names.lookup y≠some .local/\scope.names.lookup y≠some .cell)):=λi y e=>by have hi:i+fr.length<N.length:=(ZyG.mp e).1;have:=h8 i (ZyS.mpr (by omega));rw[e]at this;simpa only[ZyN,ZAd,bne_iff_ne,beq_iff_eq]using this
 refine⟨hk,h1,λy hy e=>(h2 y hy).resolve_left (λz=>z e),h3,λi x e=>?_,h5,h6,λy hy e=>?_,λi y e q=>(at_ i y e).1.resolve_left (λz=>z q),λi y e v=>?_⟩
 ·rw[h4 i (ZyS.mpr (ZyG.mp e).1)]
  exact e
 ·have:=h7 y hy
  rw[show X.env.kindOf y.1=sc.names.lookup y.1 by rw[<-hs]; rfl];rcases this with(z | z) | z
  ·exact absurd e z
  ·exact .inl z
  ·exact .inr z
 ·rcases(at_ i y e).2 with z | ⟨z1,z2⟩
  ·exact z
  ·rcases v with v | v | v
   ·exact absurd v z1
   ·exact absurd v z2
   ·exact v
variable{elt iter:Expr}{ifs:List Expr}{pos:Pos}{fi:HM.IF}{fc:HM.TF}{fe:HM.EF}
theorem ZaJ(hxe:X.xe=λ_ _=>False)(hcalm:X.calm=true)(T:ZdE X N scope [x])(hi:XI X (.Name x px) iter fi)(hc:∀cl C s H ex,XTs (ZV X N scope cl C s H ex) ifs fc)(he:∀cl C s H ex,XE (ZV X N scope cl C s H ex) elt fe)
  (hs:∀x,ZzV iter X.env x=pure x:=by intro _; rfl):XF X (.ListComp elt [⟨.Name x px,iter,ifs,0⟩] scope pos) (HM.ZQ fi fc fe):=by
 rw[Zqh];exact Znl hxe hcalm T (Zr6 T) hi.e hc he hs
theorem Zka(hxe:X.xe=λ_ _=>False)(hcalm:X.calm=true)(T:ZdE X N scope [x,x2])(hi:XI X (.Tuple [.Name x px,.Name x2 px2] kt pt) iter fi)(hc:∀cl C s H ex,XTs (ZV X N scope cl C s H ex) ifs fc)(he:∀cl C s H ex,XE (ZV X N scope cl C s H ex) elt fe)
  (hs:∀x,ZzV iter X.env x=pure x:=by intro _; rfl):XF X (.ListComp elt [⟨.Tuple [.Name x px,.Name x2 px2] kt pt,iter,ifs,0⟩] scope pos) (HM.ZdO fi fc fe):=by
 rw[Zp1];exact Znl hxe hcalm T (ZsR T) hi.e hc he hs
theorem Zdx(i:Nat){y:Str}{py spos:Pos}(hN:X.N.Nodup)(hxe:X.xe=λ_ _=>False)(hcalm:X.calm=true)(T:ZdE X N scope [x])(hi:XI X (.Name x px) iter fi)(hc:∀cl C s H ex,XTs (ZV X N scope cl C s H ex) ifs fc)(he:∀cl C s H ex,XE (ZV X N scope cl C s H ex) elt fe)
  (hiy:X.N[i]?=some y:=by rfl) (hy:X.env.scope.names.lookup y=some .local:=by rfl) (hsw:ZAE (.ListComp elt [⟨.Name x px,iter,ifs,0⟩] scope pos) (some (.Name y py)) spos.line X.env=pure true:=by rfl)
  (hs:∀x,ZzV iter X.env x=pure x:=by intro _; rfl):XS X (.Assign [.Name y py] (.ListComp elt [⟨.Name x px,iter,ifs,0⟩] scope pos) spos) (HM.ZT i (HM.ZQ fi fc fe)):=by
 rw[Zqh];exact ZjQ i hN hxe hcalm T (Zr6 T) hi.e hc he hiy hy hsw hs
theorem ZjR(i:Nat){y:Str}{py spos:Pos}(hN:X.N.Nodup)(hxe:X.xe=λ_ _=>False)(hcalm:X.calm=true)(T:ZdE X N scope [x,x2])(hi:XI X (.Tuple [.Name x px,.Name x2 px2] kt pt) iter fi)(hc:∀cl C s H ex,XTs (ZV X N scope cl C s H ex) ifs fc)(he:∀cl C s H ex,XE (ZV X N scope cl C s H ex) elt fe)
  (hiy:X.N[i]?=some y:=by rfl) (hy:X.env.scope.names.lookup y=some .local:=by rfl) (hsw:ZAE (.ListComp elt [⟨.Tuple [.Name x px,.Name x2 px2] kt pt,iter,ifs,0⟩] scope pos) (some (.Name y py)) spos.line X.env=pure true:=by rfl)
  (hs:∀x,ZzV iter X.env x=pure x:=by intro _; rfl):XS X (.Assign [.Name y py] (.ListComp elt [⟨.Tuple [.Name x px,.Name x2 px2] kt pt,iter,ifs,0⟩] scope pos) spos) (HM.ZT i (HM.ZdO fi fc fe)):=by
 rw[Zp1];exact ZjQ i hN hxe hcalm T (ZsR T) hi.e hc he hiy hy hsw hs
end
end HP
namespace HP
open PySem PySem.Spec PyProof.Rows L2
variable[FX]
section
variable{prog:Program}{w:World}{K:Type}[DecidableEq K]{knd:HeapKind prog w K}{A:Around}{E:Value->Shared->Prop}{s:Shared}
theorem ZlW{d a:Addr}{xs:List (K × Addr × Value)}{k:K}{v:Value}{Q:Value->Shared->Prop}(hu:knd.room A)(hkey:knd.is s.heap k a)(hm:s.heap.DictOfH knd d xs)(hsz:xs.length<=sizeLine)
  (h1:∀p,atKey xs k=some p->Q p.2 { s with toks:=s.toks+knd.draws k })
  (h2:atKey xs k=none->∀h',h'.DictOfH knd d (storedH xs k a v)->ZAq d s.heap h'->Q v { s with heap:=h',toks:=s.toks+knd.draws k }) :
  wpAny (model prog w) A (dictSetDefault d (.ref a) v) Q E s:=by
 obtain⟨o,es,ep,ho,hc,hd,he,his,hn⟩:=hm;unfold dictSetDefault
 try with_reducible refine Zzz ?_
 refine Zyr (knd.pyHash hu hkey ?_);refine Zyr (wpAny_dictFind_heap (s:={ s with toks:=s.toks+knd.draws k }) hu hkey ho hd he his hn ?_ ?_)
 ·intro hno
  have hnot:k ∉ xs.map (·.1):=not_mem_keys_of_get hno;have hnk:=atKey_none_of_get hno;refine Zyr (wpAny_rule (Zyr (wpAny_updateDictKeys (hz:=by have e:=size_of_entries he; omega) (s:={ s with toks:=s.toks+knd.draws k }) ho hd (Zyv (h2 hnk _ ⟨_,_,ep+1,ZzD _ ho (Obj.isFreed_of_dict (Obj.data_mapDictKeys hd _)),
   hc.mapDictKeys _,Obj.data_mapDictKeys hd _,?_,?_,?_⟩ (ZzC ..))))))
  ·rw[storedH_new hnk]
   simp[he,entryOfKey]
  ·rw[storedH_new hnk]
   intro x hx;rcases ZyZ.mp hx with hx | hx
   ·exact knd.keeps (his x hx) ho hd (ZzC ..)
   ·simp only[ZyL]at hx
    subst hx;exact knd.keeps hkey ho hd (ZzC ..)
  ·rw[storedH_new hnk]
   rw[Zy8,ZAP];refine⟨hn,by simp,?_⟩;intro x hx y hy;simp only[Zyz,ZAs,ZyL]at hy;subst hy;exact λe=>hnot (e▸hx)
 ·intro j p hj
  refine Zyr (ZBL (s:={ s with toks:=s.toks+knd.draws k }) ho hd ?_);rw[entry_at he j,hj];exact Zyr (wpAny_rule (Zyv (h1 p (atKey_of_get hn hj))))
theorem ZjN(d a:Addr)(hd:(d==Zz0)=false)(dflt:Value) :
  MeetsIn prog w (Builtin.«dict.setdefault» ⟨[.ref d,.ref a,dflt],[]⟩) (λA R s=>knd.room A.in1/\∃k xs,knd.is s.heap k a/\s.heap.DictOfH knd d xs/\xs.length<=sizeLine /\
   (∀p,atKey xs k=some p->R (.ok (.ret p.2)) { s with toks:=s.toks+knd.draws k }) /\
   (atKey xs k=none->∀h',h'.DictOfH knd d (storedH xs k a dflt)->ZAq d s.heap h'->R (.ok (.ret dflt)) { s with heap:=h',toks:=s.toks+knd.draws k })) :=
 .of_wp λA R s ⟨hu,k,xs,hkey,hm,hz,h1,h2⟩=>by unfold Builtin.«dict.setdefault»;refine Zyr ?_;unfold Builtin.Dict.keyAndDefault;refine Zyr (wpAny_notOrdered_dict hm.typeIs ?_);show wpAny _ _ (pure (d,Zzj a,some dflt)) _ _ s;refine Zyv ?_;show wpAny _ _ (if(d==Zz0)=true then _ else(dictSetDefault d (.ref a) dflt >>= _)) _ _ s;rw[if_neg (by rw[hd]; exact Zzc)];exact Zyr (ZlW hu hkey hm hz (λp hp=>Zyv ⟨p.2,rfl,h1 p hp⟩) λhn h' hm' hs'=>Zyv ⟨dflt,rfl,h2 hn h' hm' hs'⟩)
end
section
variable{X:Cx}{pins:List (Addr × Obj)}{σ:L2.St}{H:Hp}{s:Shared}{a b:Addr}{z:V}{r:Value}{A:Around}{E:Value->Shared->Prop}{kvs:List (List Key × V)}{k:List Key}
theorem ZwL{Q:Value->Shared->Prop}(hu:A.units+1<cLine)(I:Inv X pins σ H s)(e:H a=some (.dT kvs))(eb:H b=some (.tup (k.map kV)))(hl:kvs.length<sizeLine)(rz:RelV z r)
  (h1:∀v,ZaO kvs k=some v->∀w' s',Inv X pins σ H s'->RelV v w'->Q w' s') (h2:ZaO kvs k=none->∀s',Inv X pins σ (upd H a (.dT (kvs++[(k,z)]))) s'->Q r s') :
  wpAny (model X.prog X.w) A (call (.builtin "dict.setdefault") [.ref a,.ref b,r]) Q E s:=by
 obtain⟨zz,hd,xs,rel,dd⟩:=Zup I.hok e;have hz:xs.length<=sizeLine:=by rw[<-ZA7 rel]; exact zz
 have hv:=rel.val k;refine ZB5 ZCh dd.typeIs PySem.F.entry_dict_setdefault (PySem.F.args_dict_setdefault_3 _ _ _) (ZjN (knd:=ZBg (Zah X.prog X.w)) a b hd r) ⟨ZAm hu,k,xs,Ze8 I.hok eb,dd,hz,λp hp=>?_,λhn h' dd' hs=>?_⟩
 ·rw[hp]at hv
  cases hvv:ZaO kvs k with
  | none=>rw[hvv]at hv; exact hv.elim
  | some v=>rw[hvv]at hv; exact h1 v hvv _ _ (I.tok _) hv
 ·rw[hn]at hv
  have hvv:ZaO kvs k=none:=by
   cases hvv:ZaO kvs k with
   | none=>rfl
   | some v=>rw[hvv]at hv; exact hv.elim
  refine h2 hvv _ ?_;have hp:=rel.put k eb rz;have epk:putK kvs k z=kvs++[(k,z)]:=by unfold putK;rw[if_neg];rw[Zh7,hvv];simp
  rw[epk]at hp;obtain⟨q,es,ep,hq,g2,g3,g4,_,g5⟩:=dd';refine Zjw I (by rw[e]; exact ZBC) hs ⟨q,hq⟩ ⟨by rw[ZyM]; exact hl,hd,_,hp.keeps λc ys ec=>?_,q,es,ep,hq,g2,g3,g4,g5⟩;rw[ZA (Zuv ec e (λz=>nomatch z))];exact ec
end
def Zx9(td ty tx:TE):TE:=λσ H Q=>td σ H λx H1=>∃a,x=.ref a/\IsD H1 a/\ty σ H1 λy H2=>tx σ H2 λz H3=>∃kvs k b,H3 a=some (.dT kvs)/\y=.ref b/\H3 b=some (.tup (k.map kV))/\kvs.length<sizeLine /\
 (∀v,ZaO kvs k=some v->Q v H3)/\(ZaO kvs k=none->Q z (upd H3 a (.dT (kvs++[(k,z)]))))
section
variable{X:Cx}{o e f:Expr}{apos cpos:Pos}{td ty tx:TE}
theorem Zwp(hu:X.A.units+1<cLine)(ho:PE X o td)(he:PE X e ty)(hf:PE X f tx)(m:M2 X o "setdefault" apos e f cpos):PE X (.Call (.Attribute o "setdefault" apos) [e,f] [] cpos) (Zx9 td ty tx):=by intro pins s σ H Q I h;refine ZCB m.base m.few m.line ZBH ZCh PySem.F.type_dict_setdefault (thn (ho pins s σ H _ I h) λu s1 ⟨x,H1,I1,rx,a,ex,d,q1⟩=>?_);subst ex;obtain rfl:u=Zzj a:=rx;obtain⟨t1,t2,_⟩:=Zn9 I1 d;refine⟨t1,t2,?_⟩;rw[m.trees];refine ZAC rfl (ZBj (ZAF (thn (he pins s1 σ H1 _ I1 q1) λiv s2 ⟨y,H2,I2,ry,q2⟩=>ZAF (thn (hf pins s2 σ H2 _ I2 q2) λfv s3 ⟨z,H3,I3,rz,kvs,k,b,ea,ey,eb,hl,q3,q4⟩=>ZBK ?_))));subst ey;obtain rfl:iv=Zzj b:=ry;exact ZwL hu I3 ea eb hl rz (λv hv w' s4 I4 rw'=>⟨v,H3,I4,rw',q3 v hv⟩) λhn s4 I4=>⟨z,_,I4,rz,q4 hn⟩
end
def OT(K:Zys)(F H:Hp)(kvs:List (List Key × List PyData))(vvs:List (List Key × V))(ls:List Addr):Prop:=kvs.map (·.1)=vvs.map (·.1)/\vvs.map (·.2)=ls.map V.ref /\
 ∀(i:Nat) (ds:List PyData) (l:Addr),(kvs.map (·.2))[i]?=some ds->ls[i]?=some l->∃vs,H l=some (.lst vs)/\Zt K F ds vs
section
variable{K:Zys}{F F' H H':Hp}{kvs:List (List Key × List PyData)}{vvs:List (List Key × V)}{ls:List Addr}
theorem OT.len(q:OT K F H kvs vvs ls):kvs.length=ls.length/\kvs.length=vvs.length:=by have e1:=congrArg Zzf q.1;have e2:=congrArg Zzf q.2.1;rw[Zyt,Zyt]at e1 e2;omega
theorem OT.mono(q:OT K F H kvs vvs ls)(s:Zq F F')(k:∀a∈ls,∀o,H a=some o->H' a=some o):OT K F' H' kvs vvs ls :=
 ⟨q.1,q.2.1,λi ds l h1 h2=>let ⟨vs,q1,q2⟩:=q.2.2 i ds l h1 h2; ⟨vs,k l (ZyW h2) _ q1,q2.mono s⟩⟩
theorem OT.snoc(q:OT K F H kvs vvs ls)(k:List Key){p:Addr}(hp:H p=some (.lst [])):OT K F H (kvs++[(k,[])]) (vvs++[(k,.ref p)]) (ls++[p]):=by
 refine⟨by rw[Zy8,Zy8,q.1]; rfl,by rw[Zy8,Zy8,q.2.1]; rfl,λi ds l h1 h2=>?_⟩;have hl:=q.len;rw[Zy8]at h1
 by_cases hi:i<kvs.length
 ·rw[Zy3 (by rw[Zyt]; exact hi)]at h1
  rw[Zy3 (by omega)]at h2;exact q.2.2 i ds l h1 h2
 ·rw[Zze (by rw[Zyt]; omega),Zyt]at h1
  rw[Zze (by omega),<-hl.1]at h2;cases hj:i-kvs.length with
  | zero=>rw[hj]at h1 h2;cases h1; cases h2;exact⟨[],hp,.nil⟩
  | succ j=>rw[hj]at h1; cases h1
theorem OT.look(q:OT K F H kvs vvs ls)(k:List Key):(∀ds,HM.Zh kvs k=some ds->∃l' vs,ZaO vvs k=some (.ref l')/\l'∈ls/\H l'=some (.lst vs)/\Zt K F ds vs)/\(HM.Zh kvs k=none->ZaO vvs k=none):=Zkl k kvs vvs ls q.1 q.2.1 q.2.2
theorem OT.app(k:List Key){d:PyData}{v:V}:∀{kvs:List (List Key × List PyData)} {vvs:List (List Key × V)} {ls:List Addr},OT K F H kvs vvs ls->ls.Nodup->Rep K F d v->∀{l':Addr} {vs:List V},ZaO vvs k=some (.ref l')->H l'=some (.lst vs) ->
  OT K F (upd H l' (.lst (vs++[v]))) (HM.Zdr kvs k d) vvs ls
 | [],[],_,q,_,_,l',vs,hv,_=>by cases hv
 | [],_::_,_,q,_,_,_,_,_,_=>by have:=q.len; simp at this
 | _::_,[],_,q,_,_,_,_,_,_=>by have:=q.len; simp at this
 | _::_,_::_,[],q,_,_,_,_,_,_=>by have:=q.len; simp at this
 | (k1,ds1)::kvs,(k2,v2)::vvs,l1::ls,q,nd,rd,l',vs,hv,hl=>by
  obtain⟨q1,q2,q3⟩:=q;rw[Zyz,Zyz]at q1 q2;injection q1 with e1 e2
  injection q2 with e3 e4
  have e1:k1=k2:=e1;have e3:v2=.ref l1:=e3;subst e1 e3;have rest:OT K F H kvs vvs ls:=⟨e2,e4,λi ds l h1 h2=>q3 (i+1) ds l (by simpa using h1) (by simpa using h2)⟩;obtain⟨n1,n2⟩:=Zzq.mp nd;obtain⟨us,f1,f2⟩:=q3 0 ds1 l1 rfl rfl;unfold HM.Zdr
  by_cases hk:k1=k
  ·rw[if_pos hk]
   rw[Zd3 (p:=(k1,V.ref l1)) hk]at hv;cases hv;rw[hl]at f1;cases f1;refine⟨by rw[Zyz,Zyz,e2],by rw[Zyz,Zyz,e4],λi ds l h1 h2=>?_⟩;cases i with
   | zero=>cases h1; cases h2;exact⟨_,ZC,f2.append (.one rd)⟩
   | succ i=>rw[Zyz,Zza]at h1;rw[Zza]at h2;obtain⟨us,g1,g2⟩:=rest.2.2 i ds l h1 h2;exact⟨us,by rw[ZA (λz=>n1 (by rw[<-z]; exact ZyW h2))]; exact g1,g2⟩
  ·rw[if_neg hk]
   rw[Zd4 (p:=(k1,V.ref l1)) hk]at hv;have ih:=OT.app k rest n2 rd hv hl;have hne:l1≠l':=by
    rintro rfl
    have:∀(vvs:List (List Key × V)) (ls:List Addr),vvs.map (·.2)=ls.map V.ref->∀l',ZaO vvs k=some (.ref l')->l'∈ls:=by
     intro vvs
     induction vvs with
     | nil=>intro ls _ l' h; cases h
     | cons p vvs ih =>
      intro ls he l' h;cases ls with
      | nil=>simp at he
      | cons l ls =>
       rw[Zyz,Zyz]at he;injection he with he1 he2
       by_cases hp:p.1=k
       ·rw[Zd3 hp]at h
        rw[he1]at h;cases h;exact Zyw
       ·rw[Zd4 hp]at h
        exact Zyx _ (ih ls he2 l' h)
    exact n1 (this vvs ls e4 _ hv)
   refine⟨by rw[Zyz,Zyz,ih.1],by rw[Zyz,Zyz,e4],λi ds l h1 h2=>?_⟩;cases i with
   | zero=>cases h1; cases h2;exact⟨us,by rw[ZA hne]; exact f1,f2⟩
   | succ i=>rw[Zyz,Zza]at h1;rw[Zza]at h2;exact ih.2.2 i ds l h1 h2
end
theorem Zbh.otl{K:Zys}{F0 H0 F H:Hp}{r:HM.Env}{σ:L2.St}{fp:Nat->List Addr}{i:Nat}{kvs:List (List Key × List PyData)}(e:Zbh K F0 H0 F H r σ fp)(h:r[i]?=some (some (.otl kvs))) :
  ∃a vvs ls,σ[i]?=some (some (.ref a))/\H a=some (.dT vvs)/\OT K F H kvs vvs ls/\fp i=a::ls:=by
 obtain⟨v,h1,h2⟩:=e.at_ i _ h;generalize hf:fp i=q at h2;cases h2 with
 | otl k1 k2 k3 k4=>exact⟨_,_,_,h1,k1,⟨k2,k3,k4⟩,rfl⟩
theorem Zbh.otlNew{K:Zys}{F0 H0 Fb Hb F H:Hp}{r:HM.Env}{σ:L2.St}{fp:Nat->List Addr}{i:Nat}{kvs:List (List Key × List PyData)}{p:Addr}(k:List Key)(eb:Zbh K F0 H0 Fb Hb r σ fp)(x:Ext Fb Hb F H)(h:r[i]?=some (some (.otl kvs)))(hp:H p=some (.lst []))(hF:F p=none)(hb:Hb p=none) :
  ∃a vvs,σ[i]?=some (some (.ref a))/\H a=some (.dT vvs)/\vvs.length=kvs.length/\(HM.Zh kvs k=none->ZaO vvs k=none)/\At K F0 H0 F (upd H a (.dT (vvs++[(k,.ref p)]))) (r.set i (some (.otl (kvs++[(k,[])])))) σ:=by
 have e:=eb.grow x;obtain⟨a,vvs,ls,h1,h2,h3,h4⟩:=e.otl h;have hpn:∀j,p ∉ fp j:=λj hj=>by obtain⟨o,ho⟩:=eb.there hj;rw[hb]at ho; cases ho
 have hpa:p≠a:=λz=>hpn i (by rw[h4,z]; exact Zyw);have hal:a ∉ ls:=(Zzq.mp (h4▸e.nd i)).1;have nl:ls.Nodup:=(Zzq.mp (h4▸e.nd i)).2;have hpl:p ∉ ls:=λz=>hpn i (by rw[h4]; exact Zyx _ z);refine⟨a,vvs,h1,h2,h3.len.2.symm,(h3.look k).2,?_⟩;have q:=h3.snoc k hp;have q':OT K F (upd H a (.dT (vvs++[(k,.ref p)]))) (kvs++[(k,[])]) (vvs++[(k,.ref p)]) (ls++[p]):=q.mono (Zq.refl F) λc hc o z=>by
  rw[ZA]
  ·exact z
  ·rintro rfl
   rcases ZyZ.mp hc with hc | hc
   ·exact hal hc
   ·exact hpa (ZyL.mp hc).symm
 have nd':(a::(ls++[p])).Nodup:=by
  refine Zzq.mpr ⟨?_,?_⟩
  ·intro z
   rcases ZyZ.mp z with z | z
   ·exact hal z
   ·exact hpa (ZyL.mp z).symm
  ·rw[ZAP]
   refine⟨nl,by simp,λx hx y hy=>?_⟩;obtain rfl:y=p:=by simpa using hy
   rintro rfl
   exact hpl hx
 refine e.changeW h1 (fp':=a::(ls++[p])) (.otl ZC q'.1 q'.2.1 q'.2.2) nd' (λc hc=>?_) λc o z hn=>?_
 ·rcases ZyR.mp hc with z | z
  ·subst z; exact .inl (by rw[h4]; exact Zyw)
  ·rcases ZyZ.mp z with z | z
   ·exact .inl (by rw[h4]; exact Zyx _ z)
   ·obtain rfl:c=p:=ZyL.mp z
    exact .inr ⟨hF,eb.ext.hh.free hb,hpn⟩
 ·rw[ZA (λy=>hn (by rw[h4,y]; exact Zyw))]
  exact z
theorem At.otlApp{K:Zys}{F0 H0 F H:Hp}{r:HM.Env}{σ:L2.St}{i:Nat}{kvs:List (List Key × List PyData)}{ds:List PyData}(k:List Key)(e:At K F0 H0 F H r σ)(h:r[i]?=some (some (.otl kvs)))(hd:HM.Zh kvs k=some ds) :
  ∃a vvs l vs,σ[i]?=some (some (.ref a))/\H a=some (.dT vvs)/\ZaO vvs k=some (.ref l)/\H l=some (.lst vs)/\Zt K F ds vs/\∀d v,Rep K F d v->At K F0 H0 F (upd H l (.lst (vs++[v]))) (r.set i (some (.otl (HM.Zdr kvs k d)))) σ:=by
 obtain⟨fp,e⟩:=e;obtain⟨a,vvs,ls,h1,h2,h3,h4⟩:=e.otl h;obtain⟨l,vs,g1,g2,g3,g4⟩:=(h3.look k).1 ds hd;have hal:a ∉ ls:=(Zzq.mp (h4▸e.nd i)).1;have nl:ls.Nodup:=(Zzq.mp (h4▸e.nd i)).2;have hne:a≠l:=λz=>hal (by rw[z]; exact g2);refine⟨a,vvs,l,vs,h1,h2,g1,g3,g4,λd v rd=>?_⟩;have q:=h3.app k nl rd g1 g3;refine e.change h1 (fp':=a::ls) (.otl (by rw[ZA hne]; exact h2) q.1 q.2.1 q.2.2) (h4▸e.nd i) (λc hc=>.inl (by rw[h4]; exact hc)) λc o z hn=>?_;rw[ZA (λy=>hn (by rw[h4,y]; exact Zyx _ g2))];exact z
section
variable{X:Cx}{a b c e:Expr}{fa fb fc:HM.EF}{pos p:Pos}{f:HM.BF}
theorem ZrD(hu:X.A.units+1<cLine)(i:Nat){x:Str}{p1 p2 p3:Pos}(hk:XE X b fb)(hN:X.N[i]?=some x:=by rfl)(hv:Vis X.env.scope x:=by first | exact Zzo rfl | exact Zy5 (Zzo rfl) | exact Zy5 (Zy5 rfl))(hd:(x==("__debug__":Str))=false:=by decide)(hcd:(x==("__classdict__":Str))=false:=by decide)
  (hs:ZAE (.List [] p3) (some (.Subscript (.Name x p1) b p2)) pos.line X.env=pure false:=by rfl):XS X (.Assign [.Subscript (.Name x p1) b p2] (.List [] p3) pos) (HM.ZlG i fb):=by
 intro r o h;unfold HM.ZlG at h;split at h
 ·rename_i y hy
  split at h
  ·rename_i kvs hb
   split at h
   ·rename_i k hk'
    split at h
    ·rename_i hz
     split at h
     ·rename_i hl
      cases h;refine PS.imp (ZlN hu (Zb8 hN hv hd hcd) (hk r y hy) (ZbQ (X:=X) Zg (by simp) r (.ol []) rfl) hs) λE σ H ⟨F0,H0,F,at_,kk⟩=>?_;refine⟨F0,H0,F,at_,λv F1 H1 x1 ⟨fp,r1,nd,hn⟩=>?_⟩;cases r1 with
      | @ol l _ vs hl1 rs =>
       obtain rfl:vs=[]:=rs.nil_inv;have at1:=at_.grow x1;obtain⟨u,fp,e1,e2⟩:=at1.any hb;refine⟨u,e1,F0,H0,F1,at1,λw F2 H2 x2 r2=>?_⟩;obtain⟨fq,eb⟩:=at_;have hlF:F2 l=none:=by
        cases q:F2 l with
        | none=>rfl
        | some o =>
         rcases x2.new l o q with z | z
         ·rw[(hn l (by simp)).1]at z; cases z
         ·exact(z.no hl1 λ_ q=>by cases q).elim
       obtain⟨aa,vvs,g1,g2,g3,g4,g5⟩:=eb.otlNew k (x1.trans x2) hb (x2.hh _ _ hl1) hlF (hn l (by simp)).2;rw[e1]at g1;cases g1;obtain⟨bb,rfl,hbb⟩:=ZbA hk' r2;have hpk:putK vvs k (V.ref l)=vvs++[(k,.ref l)]:=by unfold putK;rw[if_neg];rw[Zh7,g4 hl];simp
       refine⟨aa,_,rfl,Zih.t g2 (x2.sub _ _ hbb) (by rw[g3]; exact ZeN hz),?_⟩;rw[hpk];exact kk _ F2 _ g5
     ·cases h
    ·cases h
   ·cases h
  ·cases h
 ·cases h
theorem Zs4(hu:X.A.units+1<cLine)(i:Nat){x:Str}{p1 p2 p3 p4:Pos}(hk:XE X b fb)(ha:XE X a fa)(hN:X.N[i]?=some x:=by rfl)(hv:Vis X.env.scope x:=by first | exact Zzo rfl | exact Zy5 (Zzo rfl) | exact Zy5 (Zy5 rfl))(hd:(x==("__debug__":Str))=false:=by decide)(hcd:(x==("__classdict__":Str))=false:=by decide)
  (hsl:Zo9 b:=by intro _ _; rfl)
  (hbase:ZAx (.Subscript (.Name x p1) b p2) "append" X.env (eval (.Subscript (.Name x p1) b p2) X.env)=eval (.Subscript (.Name x p1) b p2) X.env:=by rfl)
  (hfew:((backTo p4 (ZyF [a] X.env)).all (λx=>!x.1)&&(ZCf p4 (ZBp [] X.env)).all (λx=>x.1.isSome)&&decide (([a]:List Expr).length+([]:List Keyword).length+(if([]:List Keyword).isEmpty then 0 else 1)<30))=true:=by rfl)
  (hline:(p3.endLine==p4.line)=true:=by rfl) (hs:ZyF [a] X.env=[(false,eval a X.env)]:=by rfl):XS X (.Expr (.Call (.Attribute (.Subscript (.Name x p1) b p2) "append" p3) [a] [] p4) pos) (HM.ZoE i fb fa):=by
 intro r o h;unfold HM.ZoE at h;split at h
 ·rename_i y hy
  split at h
  ·rename_i kvs hb
   split at h
   ·rename_i k hk'
    split at h
    ·rename_i d hd'
     split at h
     ·rename_i ds hds
      split at h
      ·rename_i hz
       cases h;refine PS.imp (ZhC (Zm8 ZAz ZBw ZBx ZgP (ZlH hu (Zb8 hN hv hd hcd) (hk r y hy) hsl) (Zai (ha r d hd') ZbH hs) hbase hfew hline hs rfl)) λE σ H ⟨F0,H0,F,at_,kk⟩=>?_;obtain⟨aa,vvs,l,vs,e1,e2,e3,e4,e5,_⟩:=at_.otlApp k hb hds;refine⟨.ref aa,e1,F0,H0,F,at_,λw F1 H1 x1 r1=>?_⟩;obtain⟨bb,rfl,hbb⟩:=ZbA hk' r1;have at1:=at_.grow x1;refine⟨aa,.ref l,rfl,by rw[<-e3]; exact ZbV.t (x1.hh _ _ e2) (x1.sub _ _ hbb),.inl ⟨rfl,_,SqL.of (x1.hh _ _ e4)⟩,F0,H0,F1,at1,λv F2 H2 x2 r2=>?_⟩;obtain⟨aa',vvs',l',vs',g1,g2,g3,g4,g5,g6⟩:=(at1.grow x2).otlApp k hb hds;rw[e1]at g1;cases g1;have:=(x1.trans x2).hh _ _ e2;rw[this]at g2;cases g2;rw[e3]at g3;cases g3;refine⟨_,vs',v,rfl,rfl,g4,?_,kk _ F2 _ (g6 d v r2)⟩;rw[<-g5.1];exact ZeN hz
      ·cases h
     ·cases h
    ·cases h
   ·cases h
  ·cases h
 ·cases h
theorem Zsp{k:List Key}{kvs:List (List Key × List PyData)}{ds:List PyData}(h:HM.Zh kvs k=some ds):HM.ZbI kvs k=kvs:=by unfold HM.ZbI; rw[h]
theorem ZrZ{k:List Key}{kvs:List (List Key × List PyData)}(h:HM.Zh kvs k=none):HM.ZbI kvs k=kvs++[(k,[])]:=by unfold HM.ZbI; rw[h]
theorem Zs5(hu:X.A.units+1<cLine)(i:Nat){x:Str}{p0 p1 p2 p3 p4 p5:Pos}(hk:XE X b fb)(ha:XE X a fa)(m:M2 X (.Name x p0) "setdefault" p1 b (.List [] p2) p3)(hN:X.N[i]?=some x:=by rfl)(hv:Vis X.env.scope x:=by first | exact Zzo rfl | exact Zy5 (Zzo rfl) | exact Zy5 (Zy5 rfl))(hd:(x==("__debug__":Str))=false:=by decide)(hcd:(x==("__classdict__":Str))=false:=by decide)
  (hbase:ZAx (.Call (.Attribute (.Name x p0) "setdefault" p1) [b,.List [] p2] [] p3) "append" X.env (eval (.Call (.Attribute (.Name x p0) "setdefault" p1) [b,.List [] p2] [] p3) X.env)=eval (.Call (.Attribute (.Name x p0) "setdefault" p1) [b,.List [] p2] [] p3) X.env:=by rfl)
  (hfew:((backTo p5 (ZyF [a] X.env)).all (λx=>!x.1)&&(ZCf p5 (ZBp [] X.env)).all (λx=>x.1.isSome)&&decide (([a]:List Expr).length+([]:List Keyword).length+(if([]:List Keyword).isEmpty then 0 else 1)<30))=true:=by rfl)
  (hline:(p4.endLine==p5.line)=true:=by rfl) (hs:ZyF [a] X.env=[(false,eval a X.env)]:=by rfl):XS X (.Expr (.Call (.Attribute (.Call (.Attribute (.Name x p0) "setdefault" p1) [b,.List [] p2] [] p3) "append" p4) [a] [] p5) pos) (HM.ZoR i fb fa):=by
 intro r o h;unfold HM.ZoR at h;split at h
 ·rename_i y hy
  split at h
  ·rename_i kvs hb
   split at h
   ·rename_i k hk'
    split at h
    ·rename_i hzz
     split at h
     ·rename_i d hd'
      split at h
      ·rename_i ds hds
       split at h
       ·rename_i hz
        cases h;have hi:i<r.length:=(ZyG.mp hb).1;have hb':(r.set i (some (.otl (HM.ZbI kvs k))))[i]?=some (some (.otl (HM.ZbI kvs k))):=Zzk hi;refine PS.imp (ZhC (Zm8 ZAz ZBw ZBx ZgP (Zwp hu (Zb8 hN hv hd hcd) (hk r y hy) (ZbQ (X:=X) Zg (by simp) r (.ol []) rfl) m) (Zai (ha _ d hd') ZbH hs) hbase hfew hline hs rfl)) λE σ H ⟨F0,H0,F,at_,kk⟩=>?_;have fin:∀{F3 H3:Hp} {l:Addr},At X.K F0 H0 F3 H3 (r.set i (some (.otl (HM.ZbI kvs k)))) σ->(∃vs,SqL X.K H3 l vs)->(∀a' vvs',σ[i]?=some (some (.ref a'))->H3 a'=some (.dT vvs')->ZaO vvs' k=some (.ref l)) ->
          tyV X.K "list" (.ref l) H3/\Now X.K (r.set i (some (.otl (HM.ZbI kvs k)))) σ H3 λF0 H0 F=>∀v F' H',Ext F H3 F' H'->Rep X.K F' d v->Zqd (.ref l) [v] H' λ_ H'=>E.nx σ H':=by
         intro F3 H3 l at3 hl hat;refine⟨.inl ⟨rfl,hl⟩,F0,H0,F3,at3,λv F4 H4 x4 r4=>?_⟩;obtain⟨aa',vvs',l',vs',g1,g2,g3,g4,g5,g6⟩:=(at3.grow x4).otlApp k hb' hds;obtain⟨aa2,vvs2,l2,vs2,f1,f2,f3,_⟩:=at3.otlApp k hb' hds;rw[f1]at g1;cases g1;rw[x4.hh _ _ f2]at g2;cases g2;rw[hat _ _ f1 f2]at g3;cases g3;have g7:=g6 d v r4;rw[ZB6]at g7;refine⟨_,vs',v,rfl,rfl,g4,?_,kk _ F4 _ g7⟩;rw[<-g5.1];exact ZeN hz
        obtain⟨fq,eb⟩:=at_;obtain⟨aa,vvs,ls,e1,e2,e3,e4⟩:=eb.otl hb;refine⟨.ref aa,e1,aa,rfl,.inr ⟨vvs,.inl e2⟩,F0,H0,F,⟨fq,eb⟩,λw F1 H1 x1 r1=>⟨F0,H0,F1,At.grow ⟨fq,eb⟩ x1,λv F2 H2 x2 ⟨fp,r2,nd,hn⟩=>?_⟩⟩;obtain⟨bb,rfl,hbb⟩:=ZbA hk' r1;have x12:=x1.trans x2;have hz0:vvs.length<sizeLine:=by rw[<-e3.len.2]; exact ZeN hzz
        refine⟨vvs,k,bb,x12.hh _ _ e2,rfl,x2.hh _ _ (x1.sub _ _ hbb),hz0,λu hu'=>?_,λhno=>?_⟩
        ·have hls:∃ds0,HM.Zh kvs k=some ds0:=by
          cases hq:HM.Zh kvs k with
          | some ds0=>exact⟨ds0,rfl⟩
          | none=>rw[(e3.look k).2 hq]at hu'; cases hu'
         obtain⟨ds0,hls⟩:=hls;have ead:=Zsp hls;obtain⟨l0,vs0,q1,q2,q3,q4⟩:=(e3.look k).1 ds0 hls;rw[q1]at hu';cases hu';refine fin (F3:=F2) ?_ ⟨vs0,SqL.of (x12.hh _ _ q3)⟩ λa' vvs' z1 z2=>?_
         ·rw[ead]
          have:r.set i (some (.otl kvs))=r:=by obtain⟨h1,h2⟩:=ZyG.mp hb;rw[<-h2];exact ZBc h1
          rw[this];exact At.grow ⟨fq,eb⟩ x12
         ·rw[e1]at z1
          cases z1;rw[x12.hh _ _ e2]at z2;cases z2;exact q1
        ·have hls:HM.Zh kvs k=none:=by
          cases hq:HM.Zh kvs k with
          | none=>rfl
          | some ds0=>obtain⟨l0,vs0,q1,_⟩:=(e3.look k).1 ds0 hq;rw[hno]at q1; cases q1
         have ead:=ZrZ hls;cases r2 with
         | @ol l _ vs hl1 rs =>
          obtain rfl:vs=[]:=rs.nil_inv;have hHl:H l=none:=x1.hh.free (hn l (by simp)).2;obtain⟨aa2,vvs2,g1,g2,g3,g4,g5⟩:=eb.otlNew k x12 hb hl1 (hn l (by simp)).1 hHl;rw[e1]at g1;cases g1;rw[x12.hh _ _ e2]at g2;cases g2;have hne:l≠aa:=λz=>by rw[z,e2]at hHl; cases hHl
          refine fin (F3:=F2) (by rw[ead]; exact g5) ⟨[],SqL.of (by rw[ZA hne]; exact hl1)⟩ λa' vvs' z1 z2=>?_;rw[e1]at z1;cases z1;rw[ZC]at z2;cases z2;unfold ZaO at hno ⊢;rw[Option.map_eq_none_iff]at hno;rw[ZCD,hno];simp
       ·cases h
      ·cases h
     ·cases h
    ·cases h
   ·cases h
  ·cases h
 ·cases h
end
end HP
namespace HP
open PySem PyProof.Rows
def ZeC(xs:Array Nat):Prop:=xs.toList.Pairwise (· < ·)
theorem ZeC.lt{xs:Array Nat}(h:ZeC xs){i k:Nat}(hk:k<xs.size)(hik:i<k):xs.getD i 0<xs.getD k 0:=by have:=ZCK.mp h i k (by simpa using ZAt hik hk) (by simpa using hk) hik;simpa [ZAD,hk,ZAt hik hk]using this
theorem Zko{xs:Array Nat}(h:ZeC xs)(j:Nat):∀(fuel lo hi:Nat),lo<=hi->hi<=xs.size->hi-lo<=fuel->(∀i,i<lo->xs.getD i 0<j)->(∀i,hi<=i->i<xs.size->j<=xs.getD i 0) ->
  ZBM xs j fuel lo hi<=xs.size/\(∀i,i<ZBM xs j fuel lo hi->xs.getD i 0<j)/\∀i,ZBM xs j fuel lo hi<=i->i<xs.size->j<=xs.getD i 0
 | 0,lo,hi,h1,h2,h3,a,b=>by
  obtain rfl:lo=hi:=by omega
  exact⟨h2,a,b⟩
 | fuel+1,lo,hi,h1,h2,h3,a,b=>by
  unfold ZBM;split
  ·rename_i hlt
   have hm:(lo+hi) / 2<xs.size:=by omega
   have e:xs.getD ((lo+hi) / 2) j=xs.getD ((lo+hi) / 2) 0:=by simp[ZAD,hm]
   dsimp only;rw[e]
   by_cases q:xs.getD ((lo+hi) / 2) 0<j
   ·rw[if_pos q]
    refine Zko h j fuel ((lo+hi) / 2+1) hi (by omega) h2 (by omega) (λi hi'=>?_) b
    by_cases c:i=(lo+hi) / 2
    ·rw[c]; exact q
    ·exact ZAt (h.lt hm (by omega)) q
   ·rw[if_neg q]
    refine Zko h j fuel lo ((lo+hi) / 2) (by omega) (by omega) (by omega) a (λi hi' hs=>?_)
    by_cases c:i=(lo+hi) / 2
    ·rw[c]; omega
    ·have:=h.lt hs (show(lo+hi) / 2<i by omega); omega
  ·obtain rfl:lo=hi:=by omega
   exact⟨h2,a,b⟩
theorem ZfK{xs:Array Nat}(h:ZeC xs)(j:Nat):ZyE xs j<=xs.size/\(∀i,i<ZyE xs j->xs.getD i 0<j)/\∀i,ZyE xs j<=i->i<xs.size->j<=xs.getD i 0 :=
 Zko h j xs.size 0 xs.size (ZzS _) (ZyB _) (by omega) (λi hi=>by omega) λi h1 h2=>by omega
theorem ZqQ{xs:Array Nat}(h:ZeC xs){i:Nat}(hi:i<xs.size):ZyE xs (xs.getD i 0+1)=i+1:=by
 obtain⟨a,b,c⟩:=ZfK h (xs.getD i 0+1);apply Nat.le_antisymm
 ·apply ZBk
  intro q;have h1:=b (i+1) q;have h2:=h.lt (show i+1<xs.size by omega) (ZAV i);omega
 ·apply ZBk
  intro q;have h1:=c (ZyE xs (xs.getD i 0+1)) (ZyB _) (by omega)
  by_cases e:ZyE xs (xs.getD i 0+1)=i
  ·rw[e]at h1; omega
  ·have:=h.lt hi (show ZyE xs (xs.getD i 0+1)<i by omega); omega
theorem Zq7{xs:Array Nat}(h:ZeC xs):ZyE xs 0=0:=by obtain⟨a,b,c⟩:=ZfK h 0;apply Nat.eq_zero_of_not_pos;intro q;have:=b 0 q;omega
theorem Zj2{xs:Array Nat}(h:ZeC xs){j:Nat}(hn:xs[ZyE xs j]?≠some j):ZeC (ZyV xs (ZyE xs j) j):=by
 obtain⟨a,b,c⟩:=ZfK h j;unfold ZeC;rw[ZBy];have gt:∀i,ZyE xs j<=i->i<xs.size->j<xs.getD i 0:=by
  intro i h1 h2
  by_cases e:ZyE xs j=i
  ·subst e
   have h3:=c _ h1 h2;have:xs.getD (ZyE xs j) 0≠j:=λq=>hn (by
    have z:xs[ZyE xs j]?=some (xs.getD (ZyE xs j) 0):=by simp[ZAD,h2]
    rw[z,q])
   omega
  ·have h3:=h.lt h2 (show ZyE xs j<i by omega)
   have h4:=c _ (ZyB _) (show ZyE xs j<xs.size by omega);omega
 rw[List.pairwise_append];refine⟨h.sublist (List.take_sublist ..),Zzi.mpr ⟨λx hx=>?_,h.sublist (List.drop_sublist ..)⟩,λx hx y hy=>?_⟩
 ·obtain⟨i,hi,rfl⟩:=ZAZ hx
  rw[ZAT,ZyT]at hi;rw[List.getElem_drop];have:=gt (ZyE xs j+i) (by omega) (by omega);simpa [ZAD,show ZyE xs j+i<xs.size by omega]using this
 ·obtain⟨i,hi,rfl⟩:=ZAZ hx
  rw[ZzO,ZyT]at hi;rw[List.getElem_take];have h1:=b i (by omega);have h1':xs.toList[i]'(by simp; omega)<j:=by simpa [ZAD,show i<xs.size by omega]using h1
  rcases ZyR.mp hy with e | e
  ·rw[e]; exact h1'
  ·obtain⟨k,hk,rfl⟩:=ZAZ e
   rw[ZAT,ZyT]at hk;rw[List.getElem_drop];have h2:=gt (ZyE xs j+k) (by omega) (by omega);have h2':j<xs.toList[ZyE xs j+k]'(by simp; omega):=by simpa [ZAD,show ZyE xs j+k<xs.size by omega]using h2
   exact ZAt h1' h2'
theorem has_none(j:Nat):SetTable.has #[] j=false:=by simp[SetTable.has]
structure Tab(b:Bool)(t:SetTable):Prop where
 dum:t.dummies=#[]
 rise:ZeC t.place
 led:t.led=b
 plain:t.plain=true
 low:∀j∈t.place.toList,j<8
 mask:t.mask=if t.place.size<=4 then 7 else 31
theorem Tab.fresh(b:Bool):Tab b (SetTable.fresh 0 0 b):=⟨rfl,.nil,rfl,rfl,λj hj=>by simp[SetTable.fresh]at hj,rfl⟩
theorem Tab.few{b:Bool}{t:SetTable}(h:Tab b t):t.place.size<=8:=by
 have key:∀(l:List Nat) (lo:Nat),l.Pairwise (· < ·)->(∀j∈l,lo<=j/\j<8)->l.length<=8-lo:=by
  intro l
  induction l with
  | nil=>intro lo _ _; simp
  | cons x l ih=>intro lo hp hb;have h1:=hb x (Zyw ..);have h2:=ih (x+1) (Zzi.mp hp).2 λy hy=>⟨(Zzi.mp hp).1 y hy,(hb y (Zyx _ hy)).2⟩;rw[ZyI]; omega
 have:=key t.place.toList 0 h.rise λj hj=>⟨ZzS _,h.low j hj⟩;simpa using this
theorem Zh4{b:Bool}{t:SetTable}(h:Tab b t){j:Nat}(hj:j ∉ t.place.toList):t.slot j=.empty/\t.place[ZyE t.place j]?≠some j:=by have q:t.place[ZyE t.place j]?≠some j:=λe=>hj (by rw[<-Zzl]at e;exact ZyW e);unfold SetTable.slot;dsimp only;rw[if_neg (by simpa using q),h.dum,has_none,if_neg (by simp)];exact⟨rfl,q⟩
theorem ZwV{b:Bool}{t:SetTable}(h:Tab b t)(j:Nat):t.put j=({ t with place:=ZyV t.place (ZyE t.place j) j },ZyE t.place j):=by
 unfold SetTable.put;dsimp only;rw[h.dum,has_none];cases t;have:=h.dum
 simp_all
theorem size_insert{α:Type}(xs:Array α)(p:Nat)(x:α):(ZyV xs p x).size=xs.size+1:=by rw[<-ZyT,(ZAg xs p x).length_eq];simp
theorem ZvO{b:Bool}{t:SetTable}(h:Tab b t){es:Array (Int × Value)}(he:es.size=t.place.size){j:Nat}(h8:j<8)(hj:j ∉ t.place.toList)(v:Value) :
  layNew t es (j:Int) v=(ZyV es (ZyE t.place j) ((j:Int),v),{ t with place:=ZyV t.place (ZyE t.place j) j },false,false):=by
 obtain⟨e1,e2⟩:=Zh4 h hj;have hfew:=h.few;have hm:t.mask=7\/t.mask=31:=by rw[h.mask]; split<;>simp
 have hbits:ZDm (j:Int) % (t.mask+1)=j:=by
  have hb:ZDm (j:Int)=j:=by unfold ZDm; omega
  rw[hb];rcases hm with e | e<;>rw[e]<;>omega
 have hfree:t.freeSlot (j:Int)=some (j,false):=by
  unfold SetTable.freeSlot SetTable.probe;have hf:10*ZDf t.mask=(10*ZDf t.mask-1)+1:=by unfold ZDf; omega
  rw[hf];unfold SetTable.probe.go;have hp:(t.probeStart (j:Int)).j=j:=hbits;rw[hp,e1];rfl
 have hle:t.place.size<=7:=by
  apply ZBk;intro q;have h8':t.place.size=8:=by omega
  have:=Zz1 (l₁:=j::t.place.toList) (l₂:=ZyA 8) (Zzq.mpr ⟨hj,h.rise.imp λq=>ZyQ q⟩) (λx hx=>by
   rcases ZyR.mp hx with e | e
   ·rw[e]; exact ZyS.mpr h8
   ·exact ZyS.mpr (h.low x e))
  simp at this;omega
 have hfit:(ZBU { t with place:=ZyV t.place (ZyE t.place j) j } (ZyV es (ZyE t.place j) ((j:Int),v)).size)=true:=by unfold ZBU ZBV;simp only[size_insert,he,h.dum];simp;rw[h.mask];split<;>omega
 unfold layNew;rw[hfree];dsimp only;rw[ZwV h];dsimp only;unfold SetTable.orStandIn;rw[hfit];rfl
theorem Tab.ins{b:Bool}{t:SetTable}(h:Tab b t){j:Nat}(h8:j<8)(hj:j ∉ t.place.toList)(hs:t.place.size≠4):Tab b { t with place:=ZyV t.place (ZyE t.place j) j }:=by
 obtain⟨_,e2⟩:=Zh4 h hj;refine⟨h.dum,Zj2 h.rise e2,h.led,h.plain,λx hx=>?_,?_⟩
 ·have:=(ZAg t.place (ZyE t.place j) j).mem_iff.mp hx
  rw[ZAQ]at this;rcases ZyZ.mp this with q | q
  ·exact h.low x q
  ·rw[ZyL.mp q]; exact h8
 ·dsimp only
  rw[size_insert,h.mask];split<;>split<;>omega
def Zlq:List (List Nat):=(ZyA 8).flatMap λa=>(ZyA 8).flatMap λb=>(ZyA 8).flatMap λc=>(ZyA 8).flatMap λd=>(ZyA 8).filterMap λe=>if a<b/\b<c/\c<d/\d<e then some [a,b,c,d,e]else none
theorem ZpR{l:List Nat}(h:l.Pairwise (· < ·))(h8:∀j∈l,j<8)(h5:l.length=5):l∈Zlq:=by
 match l,h5 with
 | [a,b,c,d,e],_=>simp at h h8;unfold Zlq;simp only[ZAW,ZyS,Zzy];refine⟨a,by omega,b,by omega,c,by omega,d,by omega,e,by omega,?_⟩;rw[if_pos (by omega)]
theorem Zwa:∀l∈Zlq,(SetTable.layClean 31 (l.map λ(n:Nat)=>(n:Int)).toArray).map (λowner=>(ZyA 32).filterMap λj=>(owner.getD j none).map (j,·))=some (l.zip (ZyA 5)):=by decide +kernel
end HP
namespace HP
open PySem PyProof.Rows
def ZeE(e:Int × Value):Int:=match e.2 with
 | .int n _=>n
 | _=>0
section
variable(prog:Program)(w:World)
def Zow(es:List (Int × Value)):Prop:=∀e∈es,∃n t,e=((intKind prog w).hash n,ZAl n t)
def ZdL(h:Heap)(a:Addr)(L:List Int):Prop:=∃o es ep t,h.get? a=some o/\o.ExactSet/\o.data=.set es ep t/\Zow prog w es.toList/\(es.toList.map ZeE).Perm L/\es.toList.map ZeE=t.place.toList.map (λ(j:Nat)=>(j:Int))/\Tab (!w.params.followText "set-order") t
end
section
variable{prog:Program}{w:World}{A:Around}{E:Value->Shared->Prop}{s:Shared}{a:Addr}{L:List Int}
theorem Zow.elems{es:List (Int × Value)}(h:Zow prog w es):ElemsOf (intKind prog w) es:=λe he=>by obtain⟨n,t,rfl⟩:=h e he;exact⟨⟨n,ZCL _ _ _ _,rfl⟩,rfl⟩
theorem ZdL.at'{h h':Heap}(x:ZdL prog w h a L)(k:∀o,h.get? a=some o->h'.get? a=some o):ZdL prog w h' a L:=let ⟨o,es,ep,t,e,r⟩:=x; ⟨o,es,ep,t,k o e,r⟩
def stp(L:List Int)(n:Int):List Int:=if L.contains n then L else L++[n]
theorem ZsP{k n:Int}{t:Tok}:(intKind prog w).is k (.int n t)=true↔n=k:=by
 constructor
 ·intro h
  exact(intKind prog w).inj _ _ _ (ZCL _ _ _ _) h
 ·rintro rfl; exact ZCL _ _ _ _
theorem Zip:∀(j:Nat),j<8->(intKind prog w).hash (j:Int)=(j:Int)
 | 0,_=>rfl
 | 1,_=>rfl
 | 2,_=>rfl
 | 3,_=>rfl
 | 4,_=>rfl
 | 5,_=>rfl
 | 6,_=>rfl
 | 7,_=>rfl
 | n+8,h=>by omega
theorem Tab.fits{b:Bool}{t:SetTable}(h:Tab b t):t.fits t.place.size=true:=by have hf:=h.few;unfold ZBU ZBV;rw[h.dum,h.mask];simp;split<;>omega
theorem size_of{es:Array (Int × Value)}{t:SetTable}(h:es.toList.map ZeE=t.place.toList.map (λ(j:Nat)=>(j:Int))):es.size=t.place.size:=by have:=congrArg Zzf h;simpa using this
theorem Zla{h:Heap}{o:Obj}{es es':Array (Int × Value)}{ep:Nat}{t t':SetTable}(ho:h.get? a=some o)(hex:o.ExactSet)(hd:o.data=.set es ep t)(hel:Zow prog w es'.toList)(hp:(es'.toList.map ZeE).Perm L)
  (hs:es'.toList.map ZeE=t'.place.toList.map (λ(j:Nat)=>(j:Int))) (ht:Tab (!w.params.followText "set-order") t') :
  (h.update a (ZBE es' t')).get? a=some { o with data:=.set es' (ep+1) t' }/\ZdL prog w (h.update a (ZBE es' t')) a L:=by
 have hg:(h.update a (ZBE es' t')).get? a=some { o with data:=.set es' (ep+1) t' }:=by
  have:=ZzD (ZBE es' t') ho (by rw[putSet_of es' t' hd]; rfl)
  rwa [putSet_of es' t' hd]at this
 exact⟨hg,_,es',ep+1,t',hg,hex,rfl,hel,hp,hs,ht⟩
theorem ZtS{b:Bool}{t:SetTable}{es:Array (Int × Value)}(hr:ZeC t.place)(h8:∀j∈t.place.toList,j<8)(h5:t.place.size=5)(he:es.map (·.1)=(t.place.toList.map (λ(j:Nat)=>(j:Int))).toArray)(hl:t.led=b)(hp:t.plain=true) :
  ∃t',relayAll t es 20=(es,t',false)/\t'.place=t.place/\Tab b t':=by
 have hc:=Zwa _ (ZpR hr h8 (by simpa using h5));obtain⟨owner,o1,o2⟩:=Zyu.mp hc;have hsz:es.size=5:=by have:=congrArg Array.size he;simp at this;omega
 have hlen:t.place.toList.length=5:=by simpa using h5
 have z1:(t.place.toList.zip (ZyA 5)).map (·.1)=t.place.toList:=List.map_fst_zip (by rw[hlen]; simp);have z2:(t.place.toList.zip (ZyA 5)).map (·.2)=ZyA 5:=List.map_snd_zip (by rw[hlen]; simp);have hrl:t.relaid (es.map (·.1)) 20=some ({ mask:=31,place:=t.place,dummies:=#[],finger:=t.finger,led:=t.led,moves:=t.movedTo 31,plain:=t.plain },(ZyA 5).toArray):=by
  unfold SetTable.relaid SetTable.laid;have e31:SetTable.sizeAbove 20-1=31:=by decide
  rw[e31,he,o1];show some _=some _;rw[o2,z1,z2]
 refine⟨{ mask:=31,place:=t.place,dummies:=#[],finger:=t.finger,led:=t.led,moves:=t.movedTo 31,plain:=t.plain },?_,rfl,⟨rfl,hr,hl,hp,h8,?_⟩⟩
 ·unfold relayAll
  rw[hrl];dsimp only;have ef:(ZyA 5).toArray.filterMap (λx=>es[x]?)=es:=by apply Array.toList_inj.mp;rw[Array.toList_filterMap];have:=filterMap_getElem?_range es;rw[hsz]at this;simpa using this
  rw[ef];have ec:coversAll (ZyA 5).toArray es.size=true:=by rw[hsz]; decide
  have et:ZBU { mask:=31,place:=t.place,dummies:=#[],finger:=t.finger,led:=t.led,moves:=t.movedTo 31,plain:=t.plain } es.size=true:=by unfold ZBU ZBV;simp[h5,hsz]
  rw[ec,et];rfl
 ·dsimp only
  rw[h5];rfl
theorem Ztk{j:Nat}{tk:Tok}{Q:Bool->Shared->Prop}(h8:j<8)(hX:ZdL prog w s.heap a L)
  (h:∀b h',ZAq a s.heap h'->ZdL prog w h' a (stp L j)->Q b { s with heap:=h' }) :
  wpAny (model prog w) A (setAddHashed a (.int j tk) ((intKind prog w).hash j)) Q E s:=by
 obtain⟨o,es,ep,t,ho,hex,hd,hen,hpm,hpl,ht⟩:=hX;have hel:=hen.elems;have hsc:(ZAl (j:Int) tk).scannable=true:=rfl;have hkey:(intKind prog w).is (j:Int) (.int j tk)=true:=ZCL _ _ _ _;have hsz:=size_of hpl;have hfew:=ht.few;have hf:t.fits es.size=true:=by rw[hsz]; exact ht.fits
 have hsb:scanBound=4096:=rfl;have hb:es.size<scanBound:=by omega
 unfold setAddHashed setAddHashedIn;refine Zzz (Zyr (ZBN ho hd hf ?_));dsimp only;rw[byScan_of hsc hb hel];simp only[↓reduceIte];unfold setAddByScan;refine Zyr (Zyr (wpAny_rule (Zyr (wpAny_setScan_of hkey ho hd hf hel ?_))));cases hr:List.findIdx? (λe=>(intKind prog w).is (j:Int) e.2) es.toList with
 | some i =>
  dsimp only;obtain⟨hi,hpi,_⟩:=List.findIdx?_eq_some_iff_getElem.mp hr;have hmem:(j:Int)∈L:=by refine hpm.mem_iff.mp (ZyC.mpr ⟨es.toList[i],Zz5 hi,?_⟩);obtain⟨m,u,e⟩:=hen _ (Zz5 hi);rw[e]at hpi ⊢;exact ZsP.mp hpi
  refine Zyv (Zyv ?_);have e:s={ s with heap:=s.heap }:=by cases s; rfl
  have q:=h false s.heap (ZDz a s.heap) ⟨o,es,ep,t,ho,hex,hd,hen,by unfold stp; rw[if_pos (by simpa using hmem)]; exact hpm,hpl,ht⟩;rw[e];exact q
 | none =>
  dsimp only;have hne:∀e∈es.toList,ZeE e≠(j:Int):=λe he hv=>by obtain⟨m,u,e1⟩:=hen e he;have no:=List.findIdx?_eq_none_iff.mp hr e he;rw[e1]at no hv;have yes:(intKind prog w).is (j:Int) (.int m u)=true:=ZsP.mpr hv;exact absurd (yes.symm.trans no) (by simp)
  have hnm:(j:Int) ∉ L:=λhm=>by obtain⟨e,he,hv⟩:=ZyC.mp (hpm.mem_iff.mpr hm);exact hne e he hv
  have hj:j ∉ t.place.toList:=λhm=>by
   have:(j:Int)∈es.toList.map ZeE:=by rw[hpl]; exact ZyC.mpr ⟨j,hm,rfl⟩
   obtain⟨e,he,hv⟩:=ZyC.mp this;exact hne e he hv
  obtain⟨mk,pl,dm,fg,ld,mv,pn⟩:=t;obtain rfl:pn=true:=ht.plain;obtain rfl:dm=#[]:=ht.dum;rw[Zip j h8,ZvO ht hsz h8 hj];dsimp only;obtain⟨_,hnj⟩:=Zh4 ht hj;obtain⟨hle,_,_⟩:=ZfK ht.rise j;have hen1:Zow prog w (ZyV es (ZyE pl j) ((j:Int),ZAl j tk)).toList:=λe he=>by
   have:=(ZAg _ _ _).mem_iff.mp he;rw[ZAQ]at this;rcases ZyZ.mp this with q | q
   ·exact hen e q
   ·exact⟨j,tk,by rw[Zip j h8]; exact ZyL.mp q⟩
  have hpm1:((ZyV es (ZyE pl j) ((j:Int),ZAl j tk)).toList.map ZeE).Perm (stp L j):=by unfold stp;rw[if_neg (by simpa using hnm)];refine((ZAg _ _ _).map ZeE).trans ?_;rw[ZAQ,Zy8];exact hpm.append_right _
  have hpl1:(ZyV es (ZyE pl j) ((j:Int),ZAl j tk)).toList.map ZeE=(ZyV pl (ZyE pl j) j).toList.map (λ(j:Nat)=>(j:Int)):=by rw[ZBy,ZBy,Zy8,Zy8,Zyz,Zyz,List.map_take,List.map_take,List.map_drop,List.map_drop,hpl];rfl
  have hs1:(ZyV es (ZyE pl j) ((j:Int),ZAl j tk)).size=es.size+1:=size_insert _ _ _;generalize hE:ZyV es (ZyE pl j) ((j:Int),ZAl j tk)=es1 at hen1 hpm1 hpl1 hs1 ⊢;have hz1:es1.size<=sizeLine:=by rw[ZzP]; omega
  refine Zyr (Zyv ?_);simp only[↓reduceIte];refine Zyr ?_;rw[hashByValue_scannable 8 hsc];refine Zyv ?_;rw[show plainKind (ZAl (j:Int) tk)=true from rfl];simp only[↓reduceIte];show wpAny (model prog w) A (do
    storeSet a es1 (⟨mk,ZyV pl (ZyE pl j) j,#[],fg,ld,mv,true⟩:SetTable)
    if(!false&&ZBl (⟨mk,ZyV pl (ZyE pl j) j,#[],fg,ld,mv,true⟩:SetTable))=true then _ else _) _ E s
  refine Zyr (wpAny_storeSet_of ho hd ?_ hz1);have hsb1:=ZzC s.heap a (ZBE es1 (⟨mk,ZyV pl (ZyE pl j) j,#[],fg,ld,mv,true⟩:SetTable))
  by_cases h4:pl.size=4
  ·have hm:mk=7:=by have q:=ht.mask; dsimp only at q; rw[h4]at q; exact q
   have htf:ZBl (⟨mk,ZyV pl (ZyE pl j) j,#[],fg,ld,mv,true⟩:SetTable)=true:=by unfold ZBl ZBV;simp[size_insert,h4,ht.dum,hm]
   have hg:(s.heap.update a (ZBE es1 (⟨mk,ZyV pl (ZyE pl j) j,#[],fg,ld,mv,true⟩:SetTable))).get? a=some { o with data:=.set es1 (ep+1) (⟨mk,ZyV pl (ZyE pl j) j,#[],fg,ld,mv,true⟩:SetTable) }:=by
    have:=ZzD (ZBE es1 (⟨mk,ZyV pl (ZyE pl j) j,#[],fg,ld,mv,true⟩:SetTable)) ho (by rw[putSet_of _ _ hd]; rfl)
    rwa [putSet_of _ _ hd]at this
   have hh:es1.map (·.1)=((ZyV pl (ZyE pl j) j).toList.map (λ(j:Nat)=>(j:Int))).toArray:=by
    apply Array.toList_inj.mp;rw[Array.toList_map,<-hpl1];refine ZzZ λe he=>?_;obtain⟨m,u,e1⟩:=hen1 e he;have hm:m∈es1.toList.map ZeE:=ZyC.mpr ⟨e,he,by rw[e1]; rfl⟩;rw[hpl1]at hm;obtain⟨k,hk,rfl⟩:=ZyC.mp hm;have hk8:k<8:=by
     have:=(ZAg _ _ _).mem_iff.mp hk;rw[ZAQ]at this;rcases ZyZ.mp this with q | q
     ·exact ht.low k q
     ·rw[ZyL.mp q]; exact h8
    rw[e1];exact Zip (prog:=prog) (w:=w) k hk8
   obtain⟨t',r1,r2,r3⟩:=ZtS (b:=!w.params.followText "set-order") (t:=(⟨mk,ZyV pl (ZyE pl j) j,#[],fg,ld,mv,true⟩:SetTable)) (es:=es1) (Zj2 ht.rise hnj)
    (λk hk=>by
     have:=(ZAg _ _ _).mem_iff.mp hk;rw[ZAQ]at this;rcases ZyZ.mp this with q | q
     ·exact ht.low k q
     ·rw[ZyL.mp q]; exact h8) (by dsimp only; rw[size_insert,h4]) hh ht.led ht.plain
   have hgr:SetTable.grown es1.size=20:=by rw[hs1,hsz,h4]; rfl
   rw[htf];simp only[Bool.not_false,Bool.and_self,↓reduceIte];rw[hgr,r1];dsimp only;refine Zyr (Zyv (Zyr (wpAny_storeSet_of hg rfl ?_ hz1)));obtain⟨_,hS2⟩:=Zla (prog:=prog) (t':=t') hg hex rfl hen1 hpm1 (by rw[r2]; exact hpl1) r3;exact Zyv (Zyv (h true _ (hsb1.trans (ZzC _ a _)) hS2))
  ·have htf:ZBl (⟨mk,ZyV pl (ZyE pl j) j,#[],fg,ld,mv,true⟩:SetTable)=false:=by
    unfold ZBl ZBV;have q:=ht.mask;dsimp only at q;simp only[size_insert];rw[q];simp;have:=hfew;dsimp only at this;split<;>omega
   rw[htf];simp only[Bool.and_false,ZAo,↓reduceIte];obtain⟨_,hS1⟩:=Zla (prog:=prog) (t':=(⟨mk,ZyV pl (ZyE pl j) j,#[],fg,ld,mv,true⟩:SetTable)) ho hex hd hen1 hpm1 hpl1 (ht.ins h8 hj h4);exact Zyv (Zyv (h true _ hsb1 hS1))
end
section
variable{prog:Program}{w:World}{A:Around}{E:Value->Shared->Prop}{s:Shared}
abbrev Zc9(w:World):Obj:={ cls:=.type "set",dict:=none,data:=.set #[] 0 (.fresh 0 0 (!w.params.followText "set-order")) }
theorem ZmZ(v:Value){Q₁:Value->Shared->Prop}(h:Q₁ (.ref s.heap.objs.size) { s with heap:=s.heap.push (Zc9 w) }) :
  codeAny (model prog w) A (.call (.builtin "set.__new__") ⟨[.type "set",v],[]⟩) (wants Q₁ E) s:=by
 refine codeAny_of_tree ?_;show wpAny _ A.in1 (do checkBuiltinCall "set.__new__" ⟨[.type "set",v],[]⟩; again (.builtin "set.__new__" ⟨[.type "set",v],[]⟩)) _ _ s;refine Zyr (ZC9 (PySem.F.newCall_set_1 v) (Zyv ⟨ZAN ZDg _,ZzN PySem.F.entry_set_new ?_⟩));rw[Zzx ZDg _];unfold Builtin.«set.__new__» Builtin.Frozenset.newClass;have hsub:=sub_set_self;obtain⟨hp,g,d,tk,os⟩:=s;dsimp only
 wp_walk
 refine ZBm (Zyv ?_);dsimp only;simp only[newObj];exact Zyr (wpAny_alloc (Zyv (Zyv h)))
theorem Ztg(h:Heap):ZdL prog w (h.push (Zc9 w)) h.objs.size [] :=
 ⟨_,#[],0,_,ZyO _ rfl,⟨rfl,rfl,rfl⟩,rfl,λe he=>by simp at he,.nil,rfl,Tab.fresh _⟩
theorem Zia:∀(l acc:List Int) (x:Int),HM.dedup acc (l++[x])=stp (HM.dedup acc l) x
 | [],acc,x=>by show HM.dedup acc [x]=stp acc x;unfold HM.dedup stp;split<;>rfl
 | y::l,acc,x=>by
  show HM.dedup acc (y::(l++[x]))=_;unfold HM.dedup;split
  ·exact Zia l acc x
  ·exact Zia l _ x
variable{R:Result->Shared->Prop}{I:Addr}{fp wr:List Addr}{G:Array GenState->Array GenState->Prop}{P:Nat->Value->Prop}{St:Nat->Shared->Prop}
theorem Zr1{ns:List Int}(W:WalksS prog w A.in1 I fp wr G ns.length P St)(S:Addr)(hSf:S ∉ fp)(hval:∀i v,P i v->∃t,v=.int (ns.getD i 0) t)(hb:∀n∈ns,0<=n/\n<8) :
  ∀(k i:Nat) (s:Shared),ns.length-i=k->i<=ns.length->St i s->ZdL prog w s.heap S (HM.dedup [] (ns.take i)) ->
   (∀s',Moved (S::wr) G s s'->ZdL prog w s'.heap S (HM.dedup [] ns)->R (.ok (.ret .none)) s') ->
   codeAny (model prog w) A (.builtin "set.update.loop" ⟨[.ref S,.ref I],[]⟩) R s:=by
 have hSw:S ∉ wr:=λh=>hSf (W.sub _ h);have hsub:∀b∈wr,b∈S::wr:=λb hb=>Zyx _ hb;intro k
 induction k with
 | zero =>
  intro i s hk hi hst hS hR;obtain rfl:i=ns.length:=by omega
  rw[List.take_length]at hS;refine ZzN F.entry_set_update_loop ?_;rw[Zzx F.plain_set_update_loop _];show wpAny _ A.in1 (pyNext (.ref I) >>= _) _ _ s;refine Zyr (W.done s _ _ hst λs' hm=>?_);show wpAny _ A.in1 (ret Zzv) _ _ s';exact Zyv (hR s' (hm.mono hsub) (hS.at' λo e=>hm.heap S o hSw e))
 | succ k ih =>
  intro i s hk hi hst hS hR;have hlt:i<ns.length:=by omega
  refine ZzN F.entry_set_update_loop ?_;rw[Zzx F.plain_set_update_loop _];show wpAny _ A.in1 (pyNext (.ref I) >>= _) _ _ s;refine Zyr (W.item i s _ _ hlt hst λv s' hP hst' hm=>?_);obtain⟨t,rfl⟩:=hval i v hP;have hS':=hS.at' (h':=s'.heap) λo e=>hm.heap S o hSw e;show wpAny _ A.in1 (holding [ZAl (ns.getD i 0) t] (setAdd S (.int (ns.getD i 0) t)) >>= _) _ _ s';refine Zyr (Zzz ?_);unfold setAdd;refine Zzz (Zyr ((intKind prog w).pyHash (k:=ns.getD i 0) (ZCL _ _ _ _) ?_));have hbi:=hb (ns.getD i 0) (by rw[ZzX,ZyH hlt]; exact Zz5 hlt);obtain⟨j,ej⟩:∃j:Nat,ns.getD i 0=(j:Int):=⟨(ns.getD i 0).toNat,by omega⟩;have e:stp (HM.dedup [] (ns.take i)) (ns.getD i 0)=HM.dedup [] (ns.take (i+1)):=by rw[<-Zia,List.take_succ,ZzX];simp[hlt]
  rw[ej]at e hbi ⊢;refine Ztk (s:={ s' with toks:=s'.toks+1 }) (by omega) hS' λb h' hsb hS2=>?_;rw[e]at hS2;refine Zyv ⟨ZAN F.plain_set_update_loop _,ih (i+1) _ (by omega) hlt (W.frame _ s' _ _ hst' (Nat.le_succ _) λb hb o e=>?_) hS2 λs'' hm'' hS''=>?_⟩
  ·rw[hsb.2 b (λh:b=S=>hSf (by rw[<-h]; exact hb))]; exact e
  ·refine hR s'' (Moved.trans W.gtrans ((hm.mono hsub).then_heap (Nat.le_succ _) λb o hb e=>?_) hm'') hS''
   rw[hsb.2 b (λh:b=S=>hb (by rw[h]; exact Zyw))]; exact e
set_option maxHeartbeats 3200000 in
theorem Zsl{l:Addr}{items:Array Value}{ns:List Int}{Q:Value->Shared->Prop}(hh:A.handled=none)(hl:s.heap.IsList l items)(hi:IntsAre items.toList ns)(hb:∀n∈ns,0<=n/\n<8)
  (h:∀(h':Heap) (tk:Nat),ZdL prog w h' s.heap.objs.size (HM.dedup [] ns)->(∀b o,b<s.heap.objs.size->s.heap.get? b=some o->h'.get? b=some o)->Q (.ref s.heap.objs.size) { s with heap:=h',toks:=tk }) :
  wpAny (model prog w) A (call (.type "set") [.ref l]) Q E s:=by
 have hsz:items.size=ns.length:=by rw[<-hi.length,ZyT]
 obtain⟨c,tl,hmro⟩:=Zz6.mro;have hmade:=Zz6.made;have hsub:=Zz6.sub;refine wpAny_call (codeAny_of_tree ?_);show wpAny _ _ (callAny (.type "set") _) _ _ _;refine Zyv ⟨Code.quiet_builtin _ (by decide +kernel),ZzN PySem.F.entry_type_call ?_⟩;rw[Around.under_plain (weight_type_call_type "set" [.ref l] []) rfl];have h1:=Zz6.notType;have h2:=Zz6.canCreate;have hct:=PySem.F.typeCall_set_1 (.ref l)
 repeat (any_goals (first | assumption | wp_step))
 refine ZAG (ZmZ (.ref l) (E:=E) (Q₁:=λobj s₁=>obj=.ref s.heap.objs.size/\s₁={ s with heap:=s.heap.push (Zc9 w) }) ⟨rfl,rfl⟩) λr s₁ hr=>?_;cases r with
 | error e=>exact hr
 | ok fl =>
  cases fl with
  | ret obj =>
   obtain⟨rfl,rfl⟩:=hr;have hX:=Ztg (prog:=prog) (w:=w) s.heap;have hS:(s.heap.push (Zc9 w)).get? s.heap.objs.size=some (Zc9 w):=ZyO _ rfl;have hT:Shared.TypeIs { s with heap:=s.heap.push (Zc9 w) } (.ref s.heap.objs.size) "set":=⟨_,hS,rfl⟩;have hli:=Zz6.init.lookup;have hbi:=Zz6.init.bind (.ref s.heap.objs.size)
   repeat (any_goals (first | assumption | wp_step))
   refine ZAG (codeAny_call_builtin (R:=wants (λr s₂=>r=.none/\∃h' tk,s₂={ s with heap:=h',toks:=tk }/\ZdL prog w h' s.heap.objs.size (HM.dedup [] ns) /\
     (∀b o,b<s.heap.objs.size->s.heap.get? b=some o->h'.get? b=some o)) E) Zz6.init.plain PySem.F.entry_set_init (check_set_init_1 hT ?_)) λr₂ s₂ hr₂=>?_
   ·obtain⟨⟨ocls,odict,odata,oslots⟩,hol,hcl,nl,hdl⟩:=hl
    simp only at hcl hdl;subst hcl; subst hdl;have hol':(s.heap.push (Zc9 w)).get? l=some { cls:=.type "list",dict:=odict,data:=.seq items nl,slots:=oslots }:=Zyy _ hol;have hsls:=PySem.F.sub_list_set;have hslf:=PySem.F.sub_list_frozenset;have hne:(ZBA "list" == ZBA "dict")=false:=by decide
    have hl1:(s.heap.push (Zc9 w)).IsList l items:=⟨_,hol',rfl,nl,rfl⟩;unfold Builtin.«set.__init__» noKeywords Builtin.Frozenset.updateFrom;generalize hPI:pyIter=PI
    wp_walk
    subst hPI;refine ZCC hl1 (Zyr (wpAny_runValue ?_));have hlS:l<s.heap.objs.size:=ZyK hol;have hh3:A.in1.in1.in1.handled=none:=by simp[hh]
    have hneI:l≠(s.heap.push (Zc9 w)).objs.size:=by rw[ZBd]; exact ZyQ (ZBb hlS)
    have hSf:s.heap.objs.size ∉ [(s.heap.push (Zc9 w)).objs.size,l]:=by rw[ZBd]; simp only[ZyR,ZyL,List.not_mem_nil,or_false,not_or];exact⟨ZyQ (ZAV _),ZBv hlS⟩
    have Wl:=(Walks.list (prog:=prog) (w:=w) hh3 _ l hneI items).toS;rw[hsz]at Wl;refine Zr1 Wl s.heap.objs.size hSf (λi v hv=>IntsAre.int_at hi i v (by rw[Zzl]; exact hv)) hb (ns.length-0) 0 _ (by omega) (ZzS _)
     ⟨⟨_,ZyO _ rfl,rfl,rfl⟩,hl1.push _⟩ (hX.at' λo e=>Zyy _ e) λs' hm hS'=>?_
    obtain⟨h',g',d',tk',os'⟩:=s';have eg:g'=s.gens:=hm.gens;have ed:d'=s.drawn:=hm.drawn;have eo:os'=s.os:=hm.os;subst eg; subst ed; subst eo
    show wpAny _ _ _ _ _ _;refine Zyv ?_;show wpAny _ _ (ret Zzv) _ _ _;refine Zyv ⟨rfl,h',tk',rfl,hS',λb o hb e=>?_⟩;refine hm.heap b o ?_ (Zyy _ (Zyy _ e));simp only[ZyR,ZyL,List.not_mem_nil,or_false,not_or];exact⟨ZyQ hb,by rw[ZBd]; exact ZyQ (ZBb hb)⟩
   ·cases r₂ with
    | error e=>exact hr₂
    | ok fl₂ =>
     cases fl₂ with
     | ret r =>
      obtain⟨rfl,h',tk,rfl,hS',hk'⟩:=hr₂
      repeat (any_goals (first | assumption | wp_step))
      exact h _ _ hS' hk'
     | _=>exact hr₂.elim
  | _=>exact hr.elim
end
end HP
namespace HP
open PySem PyProof.Rows
theorem ZcQ:Slot "set_iterator" "__next__" "set_iterator.__next__" :=
 .of (owner:="set_iterator") (n:="__next__") (by rw[typeLookup_type,builtinLookup_eq_fast]; kernel_rfl) (by decide +kernel) (by decide +kernel) (by decide +kernel)
  (by first | exact .inl (by decide +kernel) | exact .inr (by decide +kernel)) (by rw[isSubtype_type]; kernel_rfl)
theorem Ziu:entryFor table "set_iterator.__next__" = some Builtin.«set_iterator.__next__»:=entryFor_of_tree (by kernel_rfl)
theorem ZiX:Slot "set_iterator" "__iter__" "set_iterator.__iter__" :=
 .of (owner:="set_iterator") (n:="__iter__") (by rw[typeLookup_type,builtinLookup_eq_fast]; kernel_rfl) (by decide +kernel) (by decide +kernel) (by decide +kernel)
  (by first | exact .inl (by decide +kernel) | exact .inr (by decide +kernel)) (by rw[isSubtype_type]; kernel_rfl)
theorem Zm1:entryFor table "set_iterator.__iter__" = some Builtin.«dict_keyiterator.__iter__» :=
 entryFor_alias (id':="dict_keyiterator.__iter__") (by kernel_rfl) rfl (by decide +kernel) (by kernel_rfl)
theorem Zk8:entryFor table "set.__iter__" = some Builtin.«frozenset.__iter__» :=
 entryFor_alias (id':="frozenset.__iter__") (by kernel_rfl) rfl (by decide +kernel) (by kernel_rfl)
theorem Zoe:Manifest.owners.lookup (String.ofList ['r','o','t','a','r','e','t','i','_','t','e','s'].reverse)=some Manifest.sig_set_iterator:=by kernel_rfl
theorem Zi7(a:Value):argsOk "set_iterator.__next__" ⟨[a],[]⟩:=by unfold argsOk; rw[signature?_of (id:="set_iterator.__next__") (n:=['_','_','t','x','e','n','_','_']) (o:=['r','o','t','a','r','e','t','i','_','t','e','s']) (by kernel_rfl) Zoe]; kernel_rfl
theorem Zpe(a:Value):argsOk "set_iterator.__iter__" ⟨[a],[]⟩:=by unfold argsOk; rw[signature?_of (id:="set_iterator.__iter__") (n:=['_','_','r','e','t','i','_','_']) (o:=['r','o','t','a','r','e','t','i','_','t','e','s']) (by kernel_rfl) Zoe]; kernel_rfl
theorem Zlf{α:Type}:∀(l:List α) (i:Nat) (h:i<l.length),(l[i]::l.eraseIdx i).Perm l
 | x::l,0,_=>.refl _
 | x::l,i+1,h=>by
  have h':i<l.length:=by simpa using h
  show(l[i]::x::l.eraseIdx i).Perm (x::l);exact(List.Perm.swap x l[i] _).trans ((Zlf l i h').cons x)
theorem Zmj{α:Type}(next:Nat->Nat):∀(n k:Nat) (left:List α) (out:Array α),left.length=n->(ZC1.go next n k left out).toList.Perm (out.toList++left)
 | 0,k,left,out,h=>by rw[Zz3 h,Zy7];exact .refl _
 | n+1,k,left,out,h=>by
  have hl:next k % left.length<left.length:=Nat.mod_lt _ (by omega)
  unfold ZC1.go;rw[ZyH hl];dsimp only;refine(Zmj next n (k+1) _ _ (by rw[List.length_eraseIdx_of_lt hl]; omega)).trans ?_
  rw[ZAQ,ZzK];refine List.Perm.append_left _ ?_;exact Zlf left _ hl
theorem Zlu{α:Type}(next:Nat->Nat)(xs:Array α):(ZC1 next xs).toList.Perm xs.toList:=by
 have:=Zmj next xs.size 0 xs.toList #[] (by simp)
 simpa [ZC1]using this
end HP
namespace HP
open PySem PyProof.Rows
structure ZeH(w:World)(h:Heap)(a:Addr)(es:Array (Int × Value))(ep:Nat)(t:SetTable):Prop where
 obj:∃o,h.get? a=some o/\o.ExactSet/\o.data=.set es ep t
 fit:t.fits es.size=true
 siz:es.size=t.place.size
 tab:Tab (!w.params.followText "set-order") t
theorem ZeH.at'{w:World}{h h':Heap}{a:Addr}{es:Array (Int × Value)}{ep:Nat}{t:SetTable}(x:ZeH w h a es ep t)(k:∀o,h.get? a=some o->h'.get? a=some o):ZeH w h' a es ep t :=
 ⟨let ⟨o,e,r⟩:=x.obj; ⟨o,k o e,r⟩,x.fit,x.siz,x.tab⟩
def Zd5(w:World)(a:Addr)(es:Array (Int × Value))(ep:Nat):Array (Int × Value):=if w.params.followText "set-order" then ZC1 (w.params.setOrder a ep) es else es
theorem Zje(w:World)(a:Addr)(es:Array (Int × Value))(ep:Nat):(Zd5 w a es ep).toList.Perm es.toList:=by
 unfold Zd5; split
 ·exact Zlu _ _
 ·exact .refl _
theorem ZiU(w:World)(a:Addr)(es:Array (Int × Value))(ep:Nat):(Zd5 w a es ep).size=es.size:=by have:=(Zje w a es ep).length_eq;simpa using this
def Zhj(h:Heap)(it a:Addr)(slot i n ep:Nat):Prop:=∃o,h.get? it=some o/\o.cls=.type "set_iterator"/\o.data=.fields #[.int slot 0,.int i 0,.ref a,.int n 0,.int ep 0]
theorem Zhj.typeIs{s:Shared}{it a:Addr}{slot i n ep:Nat}(x:Zhj s.heap it a slot i n ep):s.TypeIs (.ref it) "set_iterator":=let ⟨o,ho,hc,_⟩:=x; ⟨o,ho,hc⟩
theorem Zhj.at'{h h':Heap}{it a:Addr}{slot i n ep:Nat}(x:Zhj h it a slot i n ep)(k:∀o,h.get? it=some o->h'.get? it=some o):Zhj h' it a slot i n ep:=let ⟨o,e,r⟩:=x; ⟨o,k o e,r⟩
section
variable{prog:Program}{w:World}{A:Around}{E:Value->Shared->Prop}{s:Shared}{it a:Addr}{es:Array (Int × Value)}{ep:Nat}{t:SetTable}
theorem ZtR{Q:Value->Shared->Prop}(x:ZeH w s.heap a es ep t)
  (hQ:Q (.ref s.heap.objs.size) { s with heap:=s.heap.push { cls:=.type "set_iterator",data:=.fields #[.int 0 0,.int 0 0,.ref a,.int es.size 0,.int ep 0] } }) :
  wpAny (model prog w) A (pyIter (.ref a)) Q E s:=by
 obtain⟨o,ho,hex,hd⟩:=x.obj;have hT:s.TypeIs (.ref a) "set":=⟨o,ho,hex.1⟩;refine ZCE hT ZDh (ZzH ZDh hT Zk8 ?_ (PySem.F.args_set_iter_1 _));unfold Builtin.«frozenset.__iter__» Builtin.Frozenset.slot0 slotArgs Builtin.Frozenset.addrOf Builtin.Frozenset.sizeOf;refine Zyr (Zyr (Zyv (Zyv ?_)));dsimp only;refine Zyr (Zyr (ZCd ho hd x.fit (Zyv ?_)));have hdr:∀{R:Bool->Shared->Prop} {A':Around} {E':Value->Shared->Prop},R false s->wpAny (model prog w) A' (setDrawn a) R E' s:=λ{R A' E'} hR=>by unfold setDrawn setsByText;refine Zyr (ZBN ho hd x.fit (Zyr (Zyr (ZBm (Zyv (Zyv ?_))))));obtain⟨mk,pl,dm,fg,ld,mv,pn⟩:=t;obtain rfl:pn=true:=x.tab.plain;show R (!_&&(!true&&_)) s;simpa using hR
 refine Zyr (hdr ?_);rw[if_neg (by simp)];refine Zyr (Zyv (Zyr (wpAny_setEpoch_of ho hd x.fit ?_)));show wpAny (model prog w) A.in1 (newFields "set_iterator" [rawInt 0,rawInt 0,Zzj a,rawInt (es.size:Int),rawInt (ep:Int)] >>= _) _ E s;refine Zyr (Zzb (Zyv ⟨_,rfl,"set_iterator",_,⟨_,ZyO _ rfl,rfl⟩,ZcQ.lookup,?_⟩));simpa [rawInt]using hQ
theorem Zj5{slot i:Nat}{R:Option (Value × Nat)->Shared->Prop}(x:ZeH w s.heap a es ep t)(hs:w.params.followText "set-order" = false->ZyE t.place slot=i)
  (hR:R ((Zd5 w a es ep)[i]?.map λe=>(e.2,if w.params.followText "set-order" then slot else t.place.getD i 0+1)) s):wpAny (model prog w) A (setNext a slot i ep) R E s:=by
 obtain⟨o,ho,hex,hd⟩:=x.obj;unfold setNext setsByText;refine Zyr (ZBN ho hd x.fit ?_);dsimp only;refine Zyr (Zyr (ZBm (Zyv ?_)));dsimp only;cases hb:w.params.followText "set-order" with
 | true=>have hb':(model prog w).w.params.followText "set-order" = true:=hb;rw[hb',if_pos rfl];unfold Zd5 at hR;rw[hb,if_pos rfl]at hR;simp only[if_pos]at hR;refine ZAK (λq=>absurd q (by simp)) λ_=>?_;unfold setWalk setsByText;refine Zyr (Zyr (ZBN ho hd x.fit ?_));dsimp only;refine Zyr (Zyr (ZBm (Zyv ?_)));dsimp only;rw[hb',if_pos rfl];exact Zyr (ZBm (Zyv (Zyv hR)))
 | false =>
  have hb':(model prog w).w.params.followText "set-order" = false:=hb;rw[hb',if_neg (by simp)];unfold Zd5 at hR;rw[hb]at hR;simp only[ZAo,if_false]at hR;have hi:=hs hb;have hled:t.led=true:=by rw[x.tab.led,hb]; rfl
  have hsz:=x.siz;obtain⟨mk,pl,dm,fg,ld,mv,pn⟩:=t;obtain rfl:pn=true:=x.tab.plain;obtain rfl:ld=true:=hled;refine ZAK (λq=>absurd (show(!true&&_)=true from q) (by simp)) λ_=>?_;refine Zyr ?_;refine ZAK (λq=>absurd (show(!true&&_)=true from q) (by simp)) λ_=>?_;refine Zyv ?_;dsimp only at hi hsz ⊢;rw[hi];refine Zyv ?_
  by_cases hlt:i<es.size
  ·have h1:es[i]?=some es[i]:=ZAS hlt
   have h2:pl[i]?=some (pl.getD i 0):=by simp[ZAD,show i<pl.size by omega]
   rw[h1]at hR ⊢;rw[h2];exact hR
  ·have h1:es[i]?=none:=ZBR (by omega)
   rw[h1]at hR ⊢;exact hR
theorem Zt0{slot i:Nat}{e:Int × Value}{Q:Option Value->Shared->Prop}(hit:Zhj s.heap it a slot i es.size ep)(x:ZeH w s.heap a es ep t)(hs:w.params.followText "set-order" = false->ZyE t.place slot=i)(he:(Zd5 w a es ep)[i]?=some e)
  (hQ:∀h',Zhj h' it a (if w.params.followText "set-order" then slot else t.place.getD i 0+1) (i+1) es.size ep->ZAq it s.heap h'->Q (some e.2) { s with heap:=h' }) :
  wpAny (model prog w) A (pyNext (.ref it)) Q E s:=by
 obtain⟨o,ho,hc,hd⟩:=id hit;obtain⟨os,hos,hex,hds⟩:=x.obj;unfold pyNext;refine Zyr (ZCv (wpAny_callSpecial?_slot (name:=ZAI "__next__") hit.typeIs ZcQ
  (ZzH ZcQ hit.typeIs Ziu ?_ (Zi7 _))))
 unfold Builtin.«set_iterator.__next__» slotArgs;refine Zyr (Zyv ?_);dsimp only;refine Zyr (ZCi ho hd ?_);dsimp only;refine Zyr (ZCd hos hds x.fit ?_);refine ZAK (λq=>absurd q (by simp)) λ_=>?_;simp only[ZBO];refine Zyr (Zj5 x hs ?_);rw[he];dsimp only[Option.map_some];refine Zyr (ZBF ho hd (by simp) ?_);have g1:(s.heap.update it (ZDn (·.setIfInBounds 0 (rawInt ((if w.params.followText "set-order" = true then slot else t.place.getD i 0+1:Nat):Int))))).get? it=some _:=ZzD _ ho (ZB0 (Zz7 hd _));refine Zyr (ZBF g1 (Zz7 hd _) (by simp) ?_);refine Zyv ⟨_,rfl,Zyv (hQ _ ⟨_,ZzD _ g1 (ZB0 (Zz7 (Zz7 hd _) _)),?_,?_⟩ ((ZzC ..).trans (ZzC ..)))⟩
 ·rw[ZCF,ZCF]; exact hc
 ·rw[Zz7 (Zz7 hd _)]; simp[rawInt]
theorem Ztr{slot i:Nat}{Q:Option Value->Shared->Prop}(hh:A.handled=none)(hit:Zhj s.heap it a slot i es.size ep)(x:ZeH w s.heap a es ep t)(hs:w.params.followText "set-order" = false->ZyE t.place slot=i)(he:es.size<=i)
  (hQ:∀h',Heap.ExtBut it s.heap h'->Q none { s with heap:=h' }):wpAny (model prog w) A (pyNext (.ref it)) Q E s:=by
 obtain⟨o,ho,hc,hd⟩:=id hit;obtain⟨os,hos,hex,hds⟩:=x.obj;have hn:(Zd5 w a es ep)[i]?=none:=ZBR (by rw[ZiU]; exact he);unfold pyNext;refine Zyr (ZCv (wpAny_callSpecial?_slot (name:=ZAI "__next__") hit.typeIs ZcQ
  (ZzH ZcQ hit.typeIs Ziu ?_ (Zi7 _))))
 unfold Builtin.«set_iterator.__next__» slotArgs;refine Zyr (Zyv ?_);dsimp only;refine Zyr (ZCi ho hd ?_);dsimp only;refine Zyr (ZCd hos hds x.fit ?_);refine ZAK (λq=>absurd q (by simp)) λ_=>?_;simp only[ZBO];refine Zyr (Zj5 x hs ?_);rw[hn];dsimp only[Option.map_none];refine Zyr (ZBF ho hd (by simp) ?_);refine Zyr ?_;simp only[newExc,newTuple];refine Zyr (Zzb ?_ (by size_fits));refine Zyr (m:=ZCj _ _) (ZC9 (a:=Zzv) (by first | rfl | (simp only[ZCj]; rfl)) ?_)
 refine Zzb ?_ (by size_fits);simp only[raiseNew];refine Zyr (wpAny_handled ?_);rw[show A.in1.handled=none from hh];refine Zyr (Zyv (wpAny_throw ?_));refine Zyr (ZCS (T:="StopIteration") (b:=true) ⟨_,ZyO _ rfl,rfl⟩ isSubtype_stop ?_);exact Zyv (hQ _ (((ZzC ..).extBut.push _).push _))
theorem Zt9{slot i n:Nat}{Q:Value->Shared->Prop}(hit:Zhj s.heap it a slot i n ep)(h:Q (.ref it) s):wpAny (model prog w) A (pyIter (.ref it)) Q E s:=by refine ZCE hit.typeIs ZiX (ZzH ZiX hit.typeIs Zm1 ?_ (Zpe _));show wpAny _ _ (ret (.ref it)) _ _ s;exact Zyv ⟨_,rfl,"set_iterator",_,hit.typeIs,ZcQ.lookup,h⟩
theorem ZsA(hh:A.handled=none)(I a:Addr)(hne:a≠I)(es:Array (Int × Value))(ep:Nat)(t:SetTable) :
  Walks prog w A I [I,a] [I] es.size (λi v=>∃e,(Zd5 w a es ep)[i]?=some e/\v=e.2) (λi h=>∃slot,Zhj h I a slot i es.size ep/\ZeH w h a es ep t/\(w.params.followText "set-order" = false->ZyE t.place slot=i)) where
 sub:=λb hb=>by simp at hb; simp[hb]
 frame:=λ_ _ _ ⟨slot,h1,h2,h3⟩ hk=>⟨slot,h1.at' λo e=>hk I (by simp) o e,h2.at' λo e=>hk a (by simp) o e,h3⟩
 item:=λi s Q E hi ⟨slot,h1,h2,h3⟩ hQ=>by
  have hlt:i<(Zd5 w a es ep).size:=by rw[ZiU]; exact hi
  have hx:(Zd5 w a es ep)[i]?=some (Zd5 w a es ep)[i]:=ZAS hlt;refine Zt0 h1 h2 h3 hx λh' hit' hs'=>?_;refine hQ _ h' s.toks ⟨_,hx,rfl⟩ ⟨_,hit',h2.at' λo e=>hs'.extBut a o hne e,λhb=>?_⟩ λb o hb e=>hs'.extBut b o (λh=>hb (by simp[h])) e;rw[hb];exact ZqQ h2.tab.rise (by rw[<-h2.siz]; exact hi)
 done:=λs Q E ⟨slot,h1,h2,h3⟩ hQ=>Ztr hh h1 h2 h3 (ZyB _) λh' he'=>hQ h' s.toks λb o hb e=>he' b o (λh=>hb (by simp[h])) e
 self:=λ_ _ _ _ ⟨slot,h1,_⟩ hQ=>Zt9 h1 hQ
end
end HP
namespace HP
open PySem PySem.W PyProof.Rows
section
variable{α β:Type}
def ZcO(o:Nat->Nat->Bool)(n:Nat):KasT α->(α->Prop)->Prop
 | .ret a,Q=>Q a
 | .ask i j k,Q=>i<n/\j<n/\ZcO o n (k (o i j)) Q
theorem ZcO.bnd{o:Nat->Nat->Bool}{n:Nat}{f:α->KasT β}{Q:β->Prop}:∀(t:KasT α),ZcO o n t (λa=>ZcO o n (f a) Q)->ZcO o n (t.bind f) Q
 | .ret a,h=>h
 | .ask i j k,h=>⟨h.1,h.2.1,ZcO.bnd (k (o i j)) h.2.2⟩
end
structure Pm(n:Nat)(p:Array Nat):Prop where
 pos:0<n
 perm:p.Perm (List.toArray (ZyA n))
theorem Pm.size{n:Nat}{p:Array Nat}(h:Pm n p):p.size=n:=by have:=h.perm.size_eq;simpa using this
theorem Pm.lt{n:Nat}{p:Array Nat}(h:Pm n p)(i:Nat):p.getD i 0<n:=by
 by_cases hi:i<p.size
 ·have e:p.getD i 0=p[i]:=by simp[ZAD,hi]
  rw[e];have:=(ZCw.mp h.perm).mem_iff (a:=p[i]);have h2:=this.mp (by simp);simpa using h2
 ·have e:p.getD i 0=0:=by simp[ZAD,hi]
  rw[e]; exact h.pos
theorem Pm.rev{n:Nat}{p:Array Nat}(h:Pm n p)(i j:Nat):Pm n (kas_rev p i j):=⟨h.pos,(mirror_perm _ _ _ _).trans h.perm⟩
theorem Pm.bub{n:Nat}{p:Array Nat}(h:Pm n p)(i j:Nat):Pm n (bubble p i j):=⟨h.pos,(bubble_perm _ _ _).trans h.perm⟩
theorem getD_eq?(p:Array Nat)(i:Nat):p.getD i 0=(p[i]?).getD 0:=by simp[Array.getD_eq_getD_getElem?]
section
variable(O:KeyOrd)(key:Nat->O.α)
def Ka(p:Array Nat)(i:Nat):O.α:=key (p.getD i 0)
def Up(p:Array Nat)(k:Nat):Prop:=∀i j,i<=j->j<k->O.kle (Ka O key p i) (Ka O key p j)
def Dn(p:Array Nat)(k:Nat):Prop:=∀i j,i<=j->j<k->O.kle (Ka O key p j) (Ka O key p i)
def Ev(p:Array Nat)(m q:Nat):Prop:=∀i,m-(q+1)<=i->i<m->Ka O key p i=Ka O key p (m-1)
abbrev orc:Nat->Nat->Bool:=λi j=>O.blt (key i) (key j)
variable{O key}{p:Array Nat}{n:Nat}
theorem Zoa{i j:Nat}(hj:j<=p.size)(k:Nat):Ka O key (kas_rev p i j) k=if i<=k/\k<j then Ka O key p (i+j-1-k)else Ka O key p k:=by unfold Ka kas_rev;rw[getD_eq?,getElem?_mirror_all hj];split<;>rw[<-getD_eq?]
theorem Zi1{i j:Nat}(hj:j<=p.size)(h:∀k,i<=k->k<j->Ka O key p k=Ka O key p (j-1))(k:Nat):Ka O key (kas_rev p i j) k=Ka O key p k:=by
 rw[Zoa hj];split
 ·rename_i hk
  rw[h _ (by omega) (by omega),h k hk.1 hk.2]
 ·rfl
theorem ZsK{s d:Nat}(hs:s<p.size)(hd:d<=s)(k:Nat):Ka O key (bubble p s d) k=if k=s-d then Ka O key p s else if s-d<k/\k<=s then Ka O key p (k-1)else Ka O key p k:=by
 unfold Ka;rw[getD_eq?,getElem?_bubble hs d hd]
 by_cases h1:k=s-d
 ·rw[if_pos h1,if_pos h1,<-getD_eq?]
 ·rw[if_neg h1,if_neg h1]
  by_cases h2:s-d<k/\k<=s
  ·rw[if_pos h2,if_pos h2,<-getD_eq?]
  ·rw[if_neg h2,if_neg h2,<-getD_eq?]
theorem Up.one:Up O key p 1:=λi j h1 h2=>by
 obtain rfl:i=j:=by omega
 exact ZA8 _
theorem Up.more{k:Nat}(h:Up O key p k)(hl:O.kle (Ka O key p (k-1)) (Ka O key p k)):Up O key p (k+1):=λi j h1 h2=>by
 by_cases hj:j<k
 ·exact h i j h1 hj
 obtain rfl:j=k:=by omega
 by_cases hi:i=j
 ·subst hi; exact ZA8 _
 ·exact ZBY (h i (j-1) (by omega) (by omega)) hl
theorem Dn.more{k:Nat}(h:Dn O key p k)(hl:O.kle (Ka O key p k) (Ka O key p (k-1))):Dn O key p (k+1):=λi j h1 h2=>by
 by_cases hj:j<k
 ·exact h i j h1 hj
 obtain rfl:j=k:=by omega
 by_cases hi:i=j
 ·subst hi; exact ZA8 _
 ·exact ZBY hl (h i (j-1) (by omega) (by omega))
theorem Dn.same{p':Array Nat}{k:Nat}(h:Dn O key p k)(e:∀i,Ka O key p' i=Ka O key p i):Dn O key p' k:=λi j h1 h2=>by rw[e,e]; exact h i j h1 h2
theorem Zkr(hp:Pm n p){Q:Nat->Prop}:∀(f m:Nat),Up O key p m->(∀m',m<=m'->m'<=m+f->Up O key p m'->(m'=m+f\/O.klt (Ka O key p m') (Ka O key p (m'-1)))->Q m')->ZcO (orc O key) n (kas_asc p f m) Q
 | 0,m,hu,hq=>hq m (ZyB _) (by omega) hu (.inl rfl)
 | f+1,m,hu,hq=>by
  refine⟨hp.lt _,hp.lt _,?_⟩;dsimp only;split
  ·rename_i h
   exact hq m (ZyB _) (by omega) hu (.inr h)
  ·rename_i h
   refine Zkr hp f (m+1) (hu.more (ZAL h)) λm' h1 h2 h3 h4=>hq m' (by omega) (by omega) h3 (h4.imp (λe=>by omega) id)
theorem ZgV{Q:Array Nat × Nat × Nat->Prop}:∀(f:Nat) (p:Array Nat) (m q:Nat),Pm n p->Dn O key p m->q+1<=m->Ev O key p m q->m+f<=n ->
  (∀p' m' q',Pm n p'->m<=m'->m'<=m+f->Dn O key p' m'->q'+1<=m'->Ev O key p' m' q'->Q (p',m',q'))->ZcO (orc O key) n (kas_desc f p m q) Q
 | 0,p,m,q,hp,hd,h1,he,hn,hq=>hq p m q hp (ZyB _) (by omega) hd h1 he
 | f+1,p,m,q,hp,hd,h1,he,hn,hq=>by
  have hz:m<=p.size:=by rw[hp.size]; omega
  have e0:∀p',Ev O key p' (m+1) 0:=λp' i h1 h2=>by congr 1; omega
  refine⟨hp.lt _,hp.lt _,?_⟩;dsimp only;split
  ·rename_i h
   have hd':=hd.more (ZBP h);split
   ·exact ZgV f _ (m+1) 0 (hp.rev _ _) (hd'.same (Zi1 hz he)) (by omega) (e0 _) (by omega) λp' m' q' a b c d e g=>hq p' m' q' a (by omega) (by omega) d e g
   ·exact ZgV f _ (m+1) 0 hp hd' (by omega) (e0 _) (by omega) λp' m' q' a b c d e g=>hq p' m' q' a (by omega) (by omega) d e g
  ·rename_i h
   refine⟨hp.lt _,hp.lt _,?_⟩;dsimp only;split
   ·exact hq p m q hp (ZyB _) (by omega) hd h1 he
   ·rename_i h'
    have l1:=ZAL h;have l2:=ZAL h';have ee:Ka O key p m=Ka O key p (m-1):=ZDp l2 l1;refine ZgV f p (m+1) (q+1) hp (hd.more l2) (by omega) (λi a b=>?_) (by omega) λp' m' q' a b c d e g=>hq p' m' q' a (by omega) (by omega) d e g;rw[show m+1-1=m by omega]
    by_cases hi:i=m
    ·rw[hi]
    ·rw[ee]; exact he i (by omega) (by omega)
theorem Zmi{Q:Nat × Array Nat->Prop}{m:Nat}(hp:Pm n p)(hd:Dn O key p m)(h1:1<=m)(hm:m<=n)(hq:∀m' p',1<=m'->m'<=n->Pm n p'->Up O key p' m'->Q (m',p')):ZcO (orc O key) n (kas_tail3 m n p) Q:=by
 have hz:m<=p.size:=by rw[hp.size]; omega
 refine ZcO.bnd _ (Zkr (hp.rev 0 m) (n-m) m (λi j a b=>?_) λm' a b c _=>hq m' _ (by omega) (by omega) (hp.rev 0 m) c);rw[Zoa hz,Zoa hz,if_pos (by omega),if_pos (by omega)];exact hd _ _ (by omega) (by omega)
theorem Zmd{Q:Nat × Array Nat->Prop}{m:Nat}(hp:Pm n p)(hd:Dn O key p (m+1))(hm:m+1<=n)(hq:∀m' p',1<=m'->m'<=n->Pm n p'->Up O key p' m'->Q (m',p')):ZcO (orc O key) n (kas_descPart m n p) Q:=by
 refine ZcO.bnd _ (ZgV (n-(m+1)) p (m+1) 0 hp hd (by omega) (λi a b=>by congr 1; omega) (by omega) λp' m' q' h1 h2 h3 h4 h5 h6=>?_);have hz:m'<=p'.size:=by rw[h1.size]; omega
 dsimp only;split
 ·exact Zmi (h1.rev _ _) (h4.same (Zi1 hz h6)) (by omega) (by omega) hq
 ·exact Zmi h1 h4 (by omega) (by omega) hq
theorem Zrb{Q:Nat × Array Nat->Prop}(hp:Pm n p)(hq:∀m' p',1<=m'->m'<=n->Pm n p'->Up O key p' m'->Q (m',p')):ZcO (orc O key) n (kas_count n p) Q:=by
 have h0:=hp.pos;refine ZcO.bnd _ (Zkr hp (n-1) 1 Up.one λm h1 h2 h3 h4=>?_);have hz:m<=p.size:=by rw[hp.size]; omega
 split
 ·exact hq m p (by omega) (by omega) hp h3
 ·rename_i hne
  have hne':m≠n:=by simpa using hne
  have hlt:O.klt (Ka O key p m) (Ka O key p (m-1)):=h4.resolve_left (by omega);split
  ·rename_i hm
   refine⟨hp.lt _,hp.lt _,?_⟩;dsimp only;split
   ·exact hq m p (by omega) (by omega) hp h3
   ·rename_i hr
    have hr':O.kle (Ka O key p (m-1)) (Ka O key p 0):=ZAL hr;have all:∀k,0<=k->k<m->Ka O key p k=Ka O key p (m-1):=λk _ hk=>ZDp (h3 k (m-1) (by omega) (by omega)) (ZBY hr' (h3 0 k (by omega) hk));refine Zmd (hp.rev _ _) (Dn.same ?_ (Zi1 hz all)) (by omega) hq;refine Dn.more (λi j a b=>?_) (ZBP hlt);rw[all i (by omega) (by omega),all j (by omega) b]; exact ZA8 _
  ·obtain rfl:m=1:=by omega
   refine Zmd hp (Dn.more (λi j a b=>?_) (ZBP hlt)) (by omega) hq;obtain rfl:i=j:=by omega
   exact ZA8 _
theorem Zh9{Q:Nat->Prop}{k:Nat}(hp:Pm n p)(hu:Up O key p k):∀(f l r:Nat),l<=r->r<=k->r-l<=f->(∀i,i<l->O.kle (Ka O key p i) (Ka O key p k))->(∀i,r<=i->i<k->O.klt (Ka O key p k) (Ka O key p i)) ->
  (∀l,l<=k->(∀i,i<l->O.kle (Ka O key p i) (Ka O key p k))->(∀i,l<=i->i<k->O.klt (Ka O key p k) (Ka O key p i))->Q l)->ZcO (orc O key) n (kas_place p k f l r) Q
 | 0,l,r,h1,h2,h3,lo,hi,hq=>by
  obtain rfl:l=r:=by omega
  exact hq l h2 lo hi
 | f+1,l,r,h1,h2,h3,lo,hi,hq=>by
  unfold kas_place;split
  ·obtain rfl:l=r:=by omega
   exact hq l h2 lo hi
  ·refine⟨hp.lt _,hp.lt _,?_⟩
   dsimp only;split
   ·rename_i h
    exact Zh9 hp hu f l ((l+r) / 2) (by omega) (by omega) (by omega) lo (λi a b=>KeyOrd.klt_of_klt_of_kle h (hu _ _ a b)) hq
   ·rename_i h
    refine Zh9 hp hu f ((l+r) / 2+1) r (by omega) (by omega) (by omega) (λi a=>ZBY (hu i ((l+r) / 2) (by omega) (by omega)) (ZAL h)) hi hq
theorem ZoJ{Q:Array Nat->Prop}:∀(f:Nat) (p:Array Nat) (k:Nat),Pm n p->Up O key p k->k+f=n->(∀p',Pm n p'->Up O key p' n->Q p')->ZcO (orc O key) n (kas_bin f p k) Q
 | 0,p,k,hp,hu,hn,hq=>by
  obtain rfl:k=n:=by omega
  exact hq p hp hu
 | f+1,p,k,hp,hu,hn,hq=>by
  refine ZcO.bnd _ (Zh9 hp hu k 0 k (by omega) (ZyB _) (by omega) (λi a=>by omega) (λi a b=>by omega) λl hl lo hi=>?_);refine ZoJ f _ (k+1) (hp.bub _ _) (λi j a b=>?_) (by omega) hq;have hk:k<p.size:=by rw[hp.size]; omega
  rw[ZsK hk (by omega),ZsK hk (by omega),show k-(k-l)=l by omega]
  repeat' split
  all_goals first
   | (exfalso; omega)
   | exact ZA8 _
   | exact lo _ (by omega)
   | exact ZBP (hi _ (by omega) (by omega))
   | exact hu _ _ (by omega) (by omega)
theorem Zsv(hn:0<n){Q:Array Nat->Prop}(hq:∀p,Pm n p->Up O key p n->Q p):ZcO (orc O key) n (kas_sort n) Q:=by
 refine ZcO.bnd _ (Zrb ⟨hn,.refl _⟩ λm p h1 h2 h3 h4=>?_);dsimp only;rw[show max m 1=m by omega];split
 ·exact ZoJ _ p m h3 h4 (by omega) hq
 ·exact hq p h3 (by rwa [show n=m by omega])
end
theorem lex_irrefl:∀a:List Int,HM.lexLt a a=false
 | []=>rfl
 | x::a=>by show(if x=x then HM.lexLt a a else decide (x<x))=false;rw[if_pos rfl]; exact lex_irrefl a
theorem Zgy(x y:Int)(a b:List Int):HM.lexLt (x::a) (y::b)=if x=y then HM.lexLt a b else decide (x<y):=rfl
theorem lex_trans:∀a b c:List Int,HM.lexLt a b=true->HM.lexLt b c=true->HM.lexLt a c=true
 | [],[],_,h,_=>by cases h
 | [],_::_,[],_,h=>by cases h
 | [],_::_,_::_,_,_=>rfl
 | _::_,[],_,h,_=>by cases h
 | _::_,_::_,[],_,h=>by cases h
 | x::a,y::b,z::c,h1,h2=>by
  rw[Zgy]at *;split at h1
  ·rename_i e
   subst e;split at h2
   ·rename_i e; subst e; rw[if_pos rfl]; exact lex_trans a b c h1 h2
   ·rename_i e; rw[if_neg e]; exact h2
  ·split at h2
   ·rename_i e1 e2; subst e2; rw[if_neg e1]; exact h1
   ·rename_i e1 e2
    have h1:=of_decide_eq_true h1;have h2:=of_decide_eq_true h2;rw[if_neg (by omega)]; exact decide_eq_true (by omega)
theorem ZlB:∀a b c:List Int,HM.lexLt a c=true->HM.lexLt a b=true\/HM.lexLt b c=true
 | [],[],_,h=>.inr h
 | [],_::_,_,_=>.inl rfl
 | _::_,_,[],h=>by cases h
 | _::_,[],_::_,_=>.inr rfl
 | x::a,y::b,z::c,h=>by
  rw[Zgy]at *;rw[Zgy];split at h
  ·rename_i e
   subst e
   by_cases e:x=y
   ·subst e; rw[if_pos rfl,if_pos rfl]; exact ZlB a b c h
   ·rw[if_neg e,if_neg (Zzu e)]
    by_cases q:x<y
    ·exact .inl (decide_eq_true q)
    ·exact .inr (decide_eq_true (by omega))
  ·rename_i e
   have h:=of_decide_eq_true h
   by_cases e1:x=y
   ·subst e1; rw[if_neg e]; exact .inr (decide_eq_true h)
   ·rw[if_neg e1]
    by_cases q:x<y
    ·exact .inl (decide_eq_true q)
    ·rw[if_neg (by omega)]; exact .inr (decide_eq_true (by omega))
theorem ZiR:∀a b:List Int,HM.lexLt a b=false->HM.lexLt b a=false->a=b
 | [],[],_,_=>rfl
 | [],_::_,h,_=>by cases h
 | _::_,[],_,h=>by cases h
 | x::a,y::b,h1,h2=>by
  rw[Zgy]at h1 h2
  by_cases e:x=y
  ·subst e
   rw[if_pos rfl]at h1 h2;rw[ZiR a b h1 h2]
  ·rw[if_neg e]at h1
   rw[if_neg (Zzu e)]at h2;have h1:=of_decide_eq_false h1;have h2:=of_decide_eq_false h2;omega
@[reducible] def Zo6:KeyOrd where
 α:=List Int
 blt:=HM.lexLt
 irrefl:=lex_irrefl
 trans:=lex_trans
 negTrans:=ZlB
 total:=ZiR
theorem Zh0{α:Type}{R:α->α->Prop}(anti:∀a b,R a b->R b a->a=b):∀{l m:List α},l.Perm m->l.Pairwise R->m.Pairwise R->l=m
 | [],m,hp,_,_=>(List.nil_perm.mp hp).symm
 | x::l,[],hp,_,_=>absurd hp.symm (by intro q; exact List.cons_ne_nil _ _ (List.nil_perm.mp q))
 | x::l,y::m,hp,hl,hm=>by
  obtain⟨l1,l2⟩:=Zzi.mp hl;obtain⟨m1,m2⟩:=Zzi.mp hm;have e:x=y:=by
   rcases ZyR.mp (hp.mem_iff.mp (Zyw ..))with e | e
   ·exact e
   ·rcases ZyR.mp (hp.mem_iff.mpr (Zyw ..))with e' | e'
    ·exact e'.symm
    ·exact anti x y (l1 y e') (m1 x e)
  subst e;rw[Zh0 anti ((List.perm_cons x).mp hp) l2 m2]
def TI(h:Heap)(b:Addr)(t:List Int):Prop:=∃o its n,h.get? b=some o/\o.cls=.type "tuple"/\o.data=.seq its n/\IntsAre its.toList t
theorem TI.keep{h h':Heap}{b:Addr}{t:List Int}(x:TI h b t)(k:∀o,h.get? b=some o->h'.get? b=some o):TI h' b t:=let ⟨o,its,n,e,r⟩:=x; ⟨o,its,n,k o e,r⟩
section
variable{prog:Program}{w:World}{A:Around}{E:Value->Shared->Prop}{s:Shared}
theorem ZsZ{fin:Bool}{Q:Bool->Shared->Prop}:∀{vs ws:List Value} {a b:List Int} (i:Nat),IntsAre vs a->IntsAre ws b->fin=decide (vs.length<ws.length)->Q (HM.lexLt a b) s->KatLex prog w A true fin Q (vs.zip ws) i s
 | _,_,_,_,i,.nil,.nil,e,q=>by subst e; exact kat_nil q
 | _,_,_,_,i,.nil,.cons _ _ _,e,q=>by subst e; exact kat_nil q
 | _,_,_,_,i,.cons _ _ _,.nil,e,q=>by subst e; exact kat_nil q
 | _,_,_,_,i,.cons x t hv,.cons y u hw,e,q=>by
  rw[List.zip_cons_cons];refine kat_cons (wpAny_eqBool_int ?_);rw[Zgy]at q
  by_cases h:x=y
  ·rw[if_pos h]at q
   rw[show(x==y)=true by simpa using h];refine kat_yes (ZsZ (i+1) hv hw ?_ q);rw[e,ZyI,ZyI];exact decide_eq_decide.mpr (by omega)
  ·rw[if_neg h]at q
   rw[show(x==y)=false by simpa using h];refine kat_no ?_
   by_cases hi:i=0
   ·rw[show(true&&i==0)=true by simpa using hi]
    exact oneLt_int q
   ·rw[show(true&&i==0)=false by simpa using hi]
    exact kat_one _ _ (PyProof.Rows.lt_int q)
theorem ZwR{x y:Addr}{a b:List Int}{Q:Bool->Shared->Prop}(hx:TI s.heap x a)(hy:TI s.heap y b)(h:Q (HM.lexLt a b) s):wpAny (model prog w) A (keyLt' (tuples' true) (.ref x) (.ref y)) Q E s:=by obtain⟨ox,ix,n,e1,_,d1,r1⟩:=hx;obtain⟨oy,iy,k,e2,_,d2,r2⟩:=hy;refine kat_lt e1 d1 e2 d2 (ZsZ 0 r1 r2 ?_ h);rw[ZyT,ZyT]
theorem Zqs{α:Type}{cmp:Nat->Nat->(Bool->Shared->Prop)->Shared->Prop}{o:Nat->Nat->Bool}{n:Nat}(hc:∀i j C,i<n->j<n->C (o i j) s->cmp i j C s){G:α->Shared->Prop}:∀(t:KasT α),ZcO o n t (λa=>G a s)->t.kasWp cmp G s
 | .ret a,h=>h
 | .ask i j k,h=>hc i j _ h.1 h.2.1 (Zqs hc (k (o i j)) h.2.2)
theorem ZtT{a:Addr}{vs:List Value}{ts:List (List Int)}{n:Nat}{P:PySem.Fin->Shared->Prop}(ho:s.heap.get? a=some (seqObj "list" vs.toArray n))(hl:ts.length=vs.length)
  (hT:∀(i:Nat) t,ts[i]?=some t->∃b,vs[i]?=some (.ref b)/\TI s.heap b t) (hne:vs.length<2\/∀t∈ts,t≠[]) (h64:vs.length<64)
  (h:∀p:List Nat,p.Perm (ZyA vs.length)->(p.map λi=>ts.getD i []).Pairwise (λx y=>HM.lexLt y x=false)->P (.done (.ret .none)) { s with heap:=sortedHeap s.heap a vs (p.map λi=>vs.getD i Zzv).toArray }) :
  wpAny (model prog w) A (Builtin.«list.sort» ⟨[.ref a],[]⟩) P E s:=by
 rw[list_sort_plain];have ha:a<s.heap.objs.size:=ZyK ho;refine Zyr (listItems_at ho rfl (Zyr (listUpdate_at ho rfl ?_ (by rw[ZyJ,ZzP]; omega) (ZzS _))));obtain⟨e1,ho1⟩:∃e1,(s.heap.update a (ZBB λ_=>#[])).get? a=some (seqObj "list" #[] e1):=⟨_,get?_update_seq ho (λ_=>#[])⟩;refine Zyr (seqEpoch_at ho1 rfl ?_);refine Zyr (wpAny_newTuple ?_ (by show vs.length<=_; rw[ZzP]; omega));refine Zyr (wpAny_newList ?_ (ZzS _));refine Zzz ?_;generalize hG:((s.heap.update a (ZBB λ_=>#[])).push (seqObj "tuple" vs.toArray 0)).push (seqObj "list" #[] 0)=g;have ho6:g.get? a=some (seqObj "list" #[] e1):=by rw[<-hG,ZBQ _ _ _ (by rw[size_push',ZBZ]; exact ZyQ (ZBb ha)),ZBQ _ _ _ (by rw[ZBZ]; exact ZyQ ha)];exact ho1
 have hold:∀b o,b≠a->s.heap.get? b=some o->g.get? b=some o:=λb o hb e=>by have hlt:=ZyK e;rw[<-hG,ZBQ _ _ _ (by rw[size_push',ZBZ]; exact ZyQ (ZBb hlt)),ZBQ _ _ _ (by rw[ZBZ]; exact ZyQ hlt),Heap.get?_update_ne _ _ _ _ hb];exact e
 have hT6:∀(i:Nat) t,ts[i]?=some t->∃b,vs[i]?=some (.ref b)/\TI g b t:=λi t e=>by
  obtain⟨b,e1,x⟩:=hT i t e;refine⟨b,e1,x.keep λo q=>hold b o ?_ q⟩
  rintro rfl
  obtain⟨o',_,_,q1,q2,_⟩:=x;rw[ho]at q1;cases q1;injection q2 with q2
  exact absurd q2 (by decide)
 show wpAny (model prog w) A _ P E { s with heap:=g };dsimp only;have fin:∀(st':SortSt) (p:List Nat),p.Perm (ZyA vs.length)->(p.map λi=>ts.getD i []).Pairwise (λx y=>HM.lexLt y x=false)->(arrOf st').map (·.2)=(p.map λi=>vs.getD i Zzv).toArray->failedOf st'=none ->
   wpAny (model prog w) A (do
    let touched:=(<-seqEpoch a) != e1
    Builtin.List.listUpdate (.ref a) λ_=>(arrOf st').map (·.2)
    if let some e:=failedOf st' then rule "list.sort.comparison-raised"; throw e
    if touched then rule "list.sort.modified"; raiseError "ValueError" "list modified during sort"
    ret .none) P E { s with heap:=g }:=by
  intro st' p hp hs har hf;refine Zyr (seqEpoch_at ho6 rfl ?_);rw[har];refine Zyr (listUpdate_at ho6 rfl ?_ (ZzS _) (by show(p.map λi=>vs.getD i Zzv).toArray.size<=_; rw[ZyJ,Zyt,hp.length_eq,ZAw,ZzP]; omega));rw[hf];simp only[bne_self_eq_false,ZAo,if_false];refine Zyv ?_;have:=h p hp hs;unfold sortedHeap at this;rw[hG]at this;exact this
 by_cases h2:vs.toArray.size<2
 ·rw[if_pos h2,if_pos h2]
  refine Zyr (Zyv ?_);rw[StateT.run_pure];refine Zyr (Zyv ?_);refine fin (SortSt.mk' general' (vs.toArray.zip vs.toArray) #[] 7 none) (ZyA vs.length) (.refl _) ?_ ?_ rfl
  ·rw[ZyJ]at h2
   have:vs.length=0\/vs.length=1:=by omega
   rcases this with e | e<;>rw[e]<;>simp
  ·rw[ZyJ]at h2
   show Array.map (·.2) (vs.toArray.zip vs.toArray)=_
   match vs,h2 with
   | [],_=>simp
   | [v],_=>simp
 ·rw[if_neg h2,if_neg h2]
  rw[ZyJ]at h2;have hne':∀t∈ts,t≠[]:=hne.resolve_left h2;have tups:∀(vs:List Value) (ts:List (List Int)),ts.length=vs.length->(∀(i:Nat) t,ts[i]?=some t->∃b,vs[i]?=some (.ref b)/\TI g b t)->(∀t∈ts,t≠[])->∃fs,KatTups g vs fs/\fs.length=vs.length/\∀v∈fs,∃x t,v=ZAl x t:=by
   intro vs
   induction vs with
   | nil=>intro ts hl _ _; exact⟨[],KatTups.nil,rfl,by simp⟩
   | cons v vs ih =>
    intro ts hl hT hn;cases ts with
    | nil=>simp at hl
    | cons t ts =>
     obtain⟨fs,f1,f2,f3⟩:=ih ts (by simpa using hl) (λi t e=>hT (i+1) t (by simpa using e)) λx hx=>hn x (Zyx _ hx);obtain⟨b,eb,o,its,m,g1,g2,g3,g4⟩:=hT 0 t rfl;simp at eb;subst eb;cases t with
     | nil=>exact absurd rfl (hn [] (Zyw ..))
     | cons x t =>
      cases hi:its.toList with
      | nil=>rw[hi]at g4; cases g4
      | cons y ys =>
       rw[hi]at g4;cases g4 with
       | cons _ u _ =>
        refine⟨.int x u::fs,KatTups.cons g1 g2 g3 ?_ f1,by simp[f2],λv hv=>?_⟩
        ·rw[<-Zzl,hi]; rfl
        ·rcases ZyR.mp hv with e | e
         ·exact⟨x,u,e⟩
         ·exact f3 v e
  obtain⟨fs,f1,f2,f3⟩:=tups vs ts hl hT6 hne';refine Zyr (kat_kind (s:={ s with heap:=g }) (T:=.type "int") f1 (by omega) (λv hv=>?_) (by rfl) ?_)
  ·obtain⟨x,t,rfl⟩:=f3 v hv
   exact Looks.of_pure rfl
  rw[show(ZBA "int" != ZBA "tuple")=true by decide];refine Zyr (ZzJ (kat_run (ks:=vs) (Q:=λst' s'=>s'={ s with heap:=g }/\∃p:Array Nat,Pm vs.length p/\Up Zo6 (λi=>ts.getD i []) p vs.length/\arrOf st'=p.map (kas_item (vs.toArray.zip vs.toArray))/\failedOf st'=none)
   (G:=λp s'=>s'={ s with heap:=g }/\Pm vs.length p/\Up Zo6 (λi=>ts.getD i []) p vs.length) rfl (by omega) h64 (λp' st' s' a1 a2 a3 a4=>⟨a4.1,p',a4.2.1,a4.2.2,a2,a3⟩) ?_) ?_ λ_ _ e=>e)
  ·refine Zqs (o:=orc Zo6 λi=>ts.getD i []) (n:=vs.length) (λi j C hi hj hC=>?_) _ (Zsv (by omega) λp h1 h2=>⟨rfl,h1,h2⟩)
   have gi:ts[i]?=some (ts.getD i []):=by simp[show i<ts.length by omega]
   have gj:ts[j]?=some (ts.getD j []):=by simp[show j<ts.length by omega]
   obtain⟨b1,v1,x1⟩:=hT6 i _ gi;obtain⟨b2,v2,x2⟩:=hT6 j _ gj;show wpAny (model prog w) A (keyLt' _ (vs.getD i Zzv) (vs.getD j Zzv)) C _ _;rw[show vs.getD i Zzv=.ref b1 by simp[ZzX,v1],show vs.getD j Zzv=.ref b2 by simp[ZzX,v2]];exact ZwR x1 x2 hC
  ·rintro ⟨⟨⟩,st'⟩ s' ⟨rfl,p,hp,hu,har,hf⟩
   refine fin st' p.toList ?_ ?_ (kat_snds rfl har) hf
   ·have:=ZCw.mp hp.perm
    simpa using this
   ·rw[ZCG,ZCK]
    intro i j hi hj hij;have hsz:=hp.size;have q:=hu i j (ZAp hij) (by rw[ZyT]at hj; omega);unfold Ka at q;rw[show p.getD i 0=p.toList[i] by simp[ZAD,show i<p.size by simpa using hi],show p.getD j 0=p.toList[j] by simp[ZAD,show j<p.size by simpa using hj]]at q;exact q
end
def ZeX(h:Heap)(d:Addr)(es:Array DictEntry)(ep:Nat):Prop:=∃o,h.get? d=some o/\o.ExactDict/\o.data=.dict es ep
theorem ZeX.at'{h h':Heap}{d:Addr}{es:Array DictEntry}{ep:Nat}(x:ZeX h d es ep)(e:∀o,h.get? d=some o->h'.get? d=some o):ZeX h' d es ep:=let ⟨o,ho,r⟩:=x; ⟨o,e _ ho,r⟩
theorem ZeX.typeIs{s:Shared}{d:Addr}{es:Array DictEntry}{ep:Nat}(x:ZeX s.heap d es ep):s.TypeIs (.ref d) "dict":=let ⟨o,ho,hc,_⟩:=x; ⟨o,ho,hc.1⟩
theorem ZeX.lt{h:Heap}{d:Addr}{es:Array DictEntry}{ep:Nat}(x:ZeX h d es ep):d<h.objs.size:=let ⟨o,ho,_⟩:=x; ZyK ho
section
variable{prog:Program}{w:World}{A:Around}{E:Value->Shared->Prop}{s:Shared}{it d:Addr}{es:Array DictEntry}{ep i:Nat}
theorem Zom{Q:Value->Shared->Prop}(hd:(d==Zz0)=false)(hm:ZeX s.heap d es ep)
  (hQ:Q (.ref s.heap.objs.size) { s with heap:=s.heap.push { cls:=.type "dict_keyiterator",data:=.fields #[.ref d,.int 0 0,.int es.size 0,.int ep 0] } }) :
  wpAny (model prog w) A (pyIter (.ref d)) Q E s:=by
 obtain⟨o,ho,hc,hdat⟩:=id hm;have hT:=hm.typeIs;refine ZCE hT F.slot_dict_iter (ZzH F.slot_dict_iter hT F.entry_dict_iter ?_ (F.args_dict_iter_1 _));unfold Builtin.«dict.__iter__»;refine Zyr ?_;unfold Builtin.Dict.dictSlotNone;refine Zyr (wpAny_notOrdered_dict hT ?_);show wpAny _ _ (pure (Zzj d)) _ _ s;refine Zyv ?_;show wpAny _ _ (ZDi d >>= _) _ _ s;unfold ZDi;rw[if_neg (by rw[hd]; exact Zzc)];refine Zyr (Zyv (Zyr (ZBL ho hdat (Zyr (ZC2 ho hdat ?_)))));refine Zyr (Zzb (Zyv ⟨_,rfl,"dict_keyiterator",_,⟨_,ZyO _ rfl,rfl⟩,F.slot_dict_keyiterator_next.lookup,?_⟩));simpa [rawInt]using hQ
theorem Zod{e:DictEntry}{Q:Option Value->Shared->Prop}(hit:s.heap.IsKeyIter it d i es.size ep)(hm:ZeX s.heap d es ep)(hx:es[i]?=some e)
  (hQ:∀h',h'.IsKeyIter it d (i+1) es.size ep->ZAq it s.heap h'->Q (some e.key) { s with heap:=h' }) :
  wpAny (model prog w) A (pyNext (.ref it)) Q E s:=by
 obtain⟨o,ho,hc,hd⟩:=id hit;obtain⟨od,hod,hcd,hdd⟩:=id hm;unfold pyNext;refine Zyr (ZCv (wpAny_callSpecial?_slot (name:=ZAI "__next__") hit.typeIs F.slot_dict_keyiterator_next
  (ZzH F.slot_dict_keyiterator_next hit.typeIs F.entry_dict_keyiterator_next ?_ (F.args_dict_keyiterator_next_1 _))))
 refine Zyr (Zyv (Zyr (Zyr ?_)))
 first | refine Zyr (ZAy hit.typeIs (Zyv ?_)) | refine Zyr (ZAX hit.typeIs (Zyv ?_))
 refine Zyr (ZCi ho hd ?_);have hown:ZCk "dict_keyiterator" = false:=by decide
 simp only[hown,ZAo,if_false];show wpAny _ _ (if(Zzj d==Zzv)=true then _ else _) _ _ s;rw[if_neg (show ¬((Zzj d==Zzv)=true) from Zzc)];refine Zyr (Zyv (Zyr (ZBL hod hdd ?_)));rw[if_neg (by simp)];refine Zyr (Zyv (Zyr (ZC2 hod hdd ?_)));rw[if_neg (by simp)];refine Zyv ?_;obtain⟨hlt,he⟩:=Array.getElem?_eq_some_iff.mp hx;simp only[show ¬((i:Int)<0) from by omega,if_false,ZBO,ZAS hlt];refine Zyr ?_
 first | refine Zyr (ZAy hit.typeIs (Zyv ?_)) | refine Zyr (ZAX hit.typeIs (Zyv ?_))
 refine Zyr (wpAny_isOneOf_keyiter hit.typeIs ?_);show wpAny _ _ (setField (.ref it) 1 (rawInt ((i:Int)+1)) >>= _) _ _ s;refine Zyr (ZBF ho hd (by simp) ?_);have hit':(s.heap.update it (ZDn (·.setIfInBounds 1 (rawInt ((i:Int)+1))))).IsKeyIter it d (i+1) es.size ep :=
  ⟨_,ZzD _ ho (ZB0 (Zz7 hd _)),(ZCF ..).trans hc,by rw[Zz7 hd]; simp[rawInt]⟩
 refine Zyr (Zzz ?_);refine Zyr (wpAny_isOneOf_keyiter (s:={ s with heap:=s.heap.update it (ZDn (·.setIfInBounds 1 (rawInt ((i:Int)+1)))) }) hit'.typeIs ?_);show wpAny _ _ (pure es[i].key) _ _ _;refine Zyv (Zyv ⟨_,rfl,Zyv ?_⟩);rw[he];exact hQ _ hit' (ZzC ..)
theorem Zqq{Q:Option Value->Shared->Prop}(hh:A.handled=none)(hit:s.heap.IsKeyIter it d i es.size ep)(hm:ZeX s.heap d es ep)(hx:es.size<=i)
  (hQ:∀h',Heap.ExtBut it s.heap h'->Q none { s with heap:=h' }):wpAny (model prog w) A (pyNext (.ref it)) Q E s:=by
 obtain⟨o,ho,hc,hd⟩:=id hit;obtain⟨od,hod,hcd,hdd⟩:=id hm;unfold pyNext;refine Zyr (ZCv (wpAny_callSpecial?_slot (name:=ZAI "__next__") hit.typeIs F.slot_dict_keyiterator_next
  (ZzH F.slot_dict_keyiterator_next hit.typeIs F.entry_dict_keyiterator_next ?_ (F.args_dict_keyiterator_next_1 _))))
 refine Zyr (Zyv (Zyr (Zyr ?_)))
 first | refine Zyr (ZAy hit.typeIs (Zyv ?_)) | refine Zyr (ZAX hit.typeIs (Zyv ?_))
 refine Zyr (ZCi ho hd ?_);have hown:ZCk "dict_keyiterator" = false:=by decide
 simp only[hown,ZAo,if_false];show wpAny _ _ (if(Zzj d==Zzv)=true then _ else _) _ _ s;rw[if_neg (show ¬((Zzj d==Zzv)=true) from Zzc)];refine Zyr (Zyv (Zyr (ZBL hod hdd ?_)));rw[if_neg (by simp)];refine Zyr (Zyv (Zyr (ZC2 hod hdd ?_)));rw[if_neg (by simp)];refine Zyv ?_;simp only[show ¬((i:Int)<0) from by omega,if_false,ZBO,ZBR hx];refine Zyr ?_
 first | refine Zyr (ZAy hit.typeIs (Zyv ?_)) | refine Zyr (ZAX hit.typeIs (Zyv ?_))
 show wpAny _ _ (setField (.ref it) 0 .none >>= _) _ _ s;refine Zyr (ZBF ho hd (by simp) ?_);show wpAny _ _ (newExc (.type "StopIteration") [] >>= _) _ _ _;refine Zyr ?_;simp only[newExc,newTuple];refine Zyr (Zzb ?_ (by size_fits));refine Zyr (m:=ZCj _ _) (ZC9 (a:=Zzv) (by first | rfl | (simp only[ZCj]; rfl)) ?_)
 refine Zzb ?_ (by size_fits);simp only[raiseNew];refine Zyr (wpAny_handled ?_);rw[show A.in1.handled=none from hh];refine Zyr (Zyv (wpAny_throw ?_));refine Zyr (ZCS (T:="StopIteration") (b:=true) ⟨_,ZyO _ rfl,rfl⟩ isSubtype_stop ?_);exact Zyv (hQ _ (((ZzC ..).extBut.push _).push _))
theorem Zsw(hh:A.handled=none)(I d:Addr)(hne:d≠I)(es:Array DictEntry)(ep:Nat) :
  Walks prog w A I [I,d] [I] es.size (λi v=>∃e,es[i]?=some e/\v=e.key) (λi h=>h.IsKeyIter I d i es.size ep/\ZeX h d es ep) where
 sub:=λb hb=>by simp at hb; simp[hb]
 frame:=λ_ _ _ st hk=>⟨st.1.at λo e=>hk I (by simp) o e,st.2.at' λo e=>hk d (by simp) o e⟩
 item:=λi s Q E hi st hQ=>by have hx:es[i]?=some es[i]:=ZAS hi;refine Zod st.1 st.2 hx λh' hit' hs'=>?_;exact hQ _ h' s.toks ⟨_,hx,rfl⟩ ⟨hit',st.2.at' λo e=>hs'.extBut d o hne e⟩ λb o hb e=>hs'.extBut b o (λh=>hb (by simp[h])) e
 done:=λs Q E st hQ=>Zqq hh st.1 st.2 (ZyB _) λh' he'=>hQ h' s.toks λb o hb e=>he' b o (λh=>hb (by simp[h])) e
 self:=λ_ _ _ _ st hQ=>wpAny_pyIter_keyiter st.1 hQ
end
end HP
namespace HP
open PySem PySem.Spec PySem.W PySem.Calls PyProof.Rows L2
variable[FX]
section
variable{prog:Program}{w:World}{A:Around}{E:Value->Shared->Prop}{s:Shared}
theorem Zt8{r:Addr}{Q:Bool->Shared->Prop}(hT:s.TypeIs (.ref r) "set")(h:Q false s):wpAny (model prog w) A (ZCn (.ref r)) Q E s:=by
 unfold ZCn;refine Zyr (wpAny_specialOf hT PySem.F.slot_set_len.lookup ?_);generalize hid:("set.__len__":String)=id0
 wp_delta
 rw[show splitId id0=some ("set","__len__") from by subst hid; decide +kernel];subst hid;refine Zyr (ZCS (T:="set") (b:=true) hT (by rw[isSubtype_type]; kernel_rfl) ?_);refine ZAK (λq=>absurd q (by decide)) λ_=>?_;refine ZAK (λ_=>?_) (λq=>absurd (by decide +kernel) q);exact Zyr (wpAny_typeOf hT (Zyv h))
theorem ZuS{d:Addr}{es:Array DictEntry}{ep:Nat}(lo:(d==Zz0)=false):KdlSrc prog w "dict" d d es.size (λi v=>∃e,es[i]?=some e/\v=e.key) (λh=>ZeX h d es ep) where
 type:=λ_ hm=>hm.typeIs
 there:=λ_ hm=>⟨hm.lt,hm.lt⟩
 keep:=λ_ _ hm hk=>hm.at' λo e=>hk d (.inl rfl) o e
 notList:=by decide
 notTuple:=by decide
 hint:=λ_ _ _ _ hm hq=>kdl_hint_dict hm.typeIs hq
 iter:=λ_ _ hh hm=>⟨_,_,(λ_ _ hq=>Zom lo hm hq),Zsw hh _ d (ZyQ hm.lt) es ep,⟨⟨_,ZyO _ rfl,rfl,rfl⟩,hm.at' λo e=>Zyy _ e⟩⟩
theorem ZeH.typeIs{a:Addr}{es:Array (Int × Value)}{ep:Nat}{t:SetTable}(x:ZeH w s.heap a es ep t):s.TypeIs (.ref a) "set":=let ⟨o,ho,hc,_⟩:=x.obj; ⟨o,ho,hc.1⟩
theorem ZeH.lt{h:Heap}{a:Addr}{es:Array (Int × Value)}{ep:Nat}{t:SetTable}(x:ZeH w h a es ep t):a<h.objs.size:=let ⟨o,ho,_⟩:=x.obj; ZyK ho
theorem ZuK{a:Addr}{es:Array (Int × Value)}{ep:Nat}{t:SetTable}:KdlSrc prog w "set" a a es.size (λi v=>∃e,(Zd5 w a es ep)[i]?=some e/\v=e.2) (λh=>ZeH w h a es ep t) where
 type:=λ_ hm=>hm.typeIs
 there:=λ_ hm=>⟨hm.lt,hm.lt⟩
 keep:=λ_ _ hm hk=>hm.at' λo e=>hk a (.inl rfl) o e
 notList:=by decide
 notTuple:=by decide
 hint:=λ_ _ _ _ hm hq=>Zt8 hm.typeIs hq
 iter:=λ_ _ hh hm=>⟨_,_,(λ_ _ hq=>ZtR hm hq),ZsA hh _ a (ZyQ hm.lt) es ep t,⟨0,⟨_,ZyO _ rfl,rfl,rfl⟩,hm.at' λo e=>Zyy _ e,λ_=>Zq7 hm.tab.rise⟩⟩
theorem Zhi{T:String}{r d:Addr}{n:Nat}{P:Nat->Value->Prop}{OK:Heap->Prop}{R:List Value->Shared->Prop}(K:KdlSrc prog w T r d n P OK)(hh:A.handled=none)(hok:OK s.heap)(hn:n<=sizeLine)
  (h:∀(h':Heap) (tk:Nat) (acc:Array Value),(∀b o,s.heap.get? b=some o->h'.get? b=some o)->s.heap.objs.size<h'.objs.size->ItemsOf P acc n->R acc.toList { s with heap:=h',toks:=tk }) :
  wpAny (model prog w) A (collect (.ref r)) R E s:=by
 have hlt:=K.there _ hok;unfold collect;refine Zyr (wpAny_runValue (ZzN entry_proto_collect' ?_));rw[Zzx ZCo _];show wpAny _ A.in1 (newList [] >>= λl=>again (.builtin "list.__iadd__" ⟨[l,.ref r],[]⟩)) _ _ s;refine Zyr (Zzb (Zyv ⟨ZAN ZA5 _,ZzN entry_list_iadd' ?_⟩));rw[Zzx ZA5 _];have hS₁:(s.heap.push { cls:=.type "list",data:=.seq ([]:List Value).toArray }).get? s.heap.objs.size=some { cls:=.type "list",data:=.seq #[] }:=ZyO _ rfl;show wpAny _ A.in1 (ZCp (.ref s.heap.objs.size) (.ref r) (.ref s.heap.objs.size)) _ _ _;refine ZzJ (kdl_extend (A:=A) (s:={ s with heap:=s.heap.push { cls:=.type "list",data:=.seq ([]:List Value).toArray } })
  (R:=λ(q:Result) (s':Shared)=>∃(h':Heap) (tk:Nat) (acc':Array Value) (c':Nat),q=.ok (.ret (.ref s.heap.objs.size))/\s'={ s with heap:=h',toks:=tk } /\
   (∀b o,s.heap.get? b=some o->h'.get? b=some o)/\h'.get? s.heap.objs.size=some { cls:=.type "list",dict:=none,data:=.seq acc' c',slots:=#[] }/\ItemsOf P acc' n)
  K hh (K.keep _ _ hok λb _ o e=>Zyy _ e) s.heap.objs.size (ZBv hlt.1) (ZBv hlt.2) (.ref s.heap.objs.size) 0 hS₁
  (λh' tk acc' c' hk hS' hacc=>⟨h',tk,acc',c',rfl,rfl,λb o e=>hk b o (ZyQ (ZyK e)) (Zyy _ e),hS',hacc⟩) hn) (λfin s' x=>?_) λe s' x=>?_
 ·have go:∀(h':Heap) (tk:Nat) (acc':Array Value) (c':Nat),(∀b o,s.heap.get? b=some o->h'.get? b=some o)->h'.get? s.heap.objs.size=some { cls:=.type "list",dict:=none,data:=.seq acc' c',slots:=#[] }->ItemsOf P acc' n ->
    wpAny (model prog w) A (load s.heap.objs.size >>= λo=>match o.data with | .seq xs _=>pure xs.toList | _=>unsupported "internal:collect") R E { s with heap:=h',toks:=tk }:=λh' tk acc' c' hk hS' hacc =>
   Zyr (wpAny_load hS' (Zyv (h h' tk acc' hk (ZyK hS') hacc)))
  cases fin with
  | done f=>obtain⟨h',tk,acc',c',e,rfl,hk,hS',hacc⟩:=x;cases e;exact go h' tk acc' c' hk hS' hacc
  | again c₁=>refine⟨x.1,ZAG x.2 λq s₂ y=>?_⟩;obtain⟨h',tk,acc',c',rfl,rfl,hk,hS',hacc⟩:=y;exact go h' tk acc' c' hk hS' hacc
 ·obtain⟨_,_,_,_,e',_⟩:=x
  cases e'
end
inductive ZiV(K:Zys)(F H:Hp)(p:Addr):List PyData->Prop where
 | lst {ds:List PyData} {vs:List V} (h:SqL K H p vs) (r:Zt K F ds vs):ZiV K F H p ds
 | tup {ds:List PyData} {vs:List V} (h:SqT K H p vs) (r:Zt K F ds vs):ZiV K F H p ds
 | dk {kvs:List (Key × V)} (h:H p=some (.dK kvs)):ZiV K F H p (kvs.map λq=>HM.ZaH q.1)
 | dt {kvs:List (List Key × V)} (h:H p=some (.dT kvs)):ZiV K F H p (kvs.map λq=>.tuple (q.1.map HM.ZaH))
theorem ZuP{K:Zys}{F:Hp}(k:Key):Rep K F (HM.ZaH k) (kV k):=by
 cases k with
 | inl i=>exact .int i
 | inr x=>exact .str x
theorem ZgN{K:Zys}{F:Hp}:∀(ks:List Key),Zt K F (ks.map HM.ZaH) (ks.map kV)
 | []=>.nil
 | k::ks=>.cons (ZuP k) (ZgN ks)
theorem Zvi{P:Program}{w:World}{k:Key}{u:Value}(h:(Zah P w).is k u=true):RelV (kV k) u:=by
 rw[Zrm]at h;rcases Zbe h with⟨i,t,rfl,rfl⟩ | ⟨x,t,rfl,rfl⟩
 ·exact⟨t,rfl⟩
 ·exact⟨t,rfl⟩
section
variable{X:Cx}{pins:List (Addr × Obj)}{σ:L2.St}{H F:Hp}{s:Shared}{p:Addr}{ds:List PyData}
theorem ZhF:∀{vs:List V} {us:List Value},vs.length=us.length->(∀(i:Nat) v u,vs[i]?=some v->us[i]?=some u->RelV v u)->Vals vs us
 | [],[],_,_=>.nil
 | [],_::_,h,_=>by simp at h
 | _::_,[],h,_=>by simp at h
 | v::vs,u::us,h,k=>.cons (k 0 v u rfl rfl) (ZhF (by simpa using h) λi a b e1 e2=>k (i+1) a b (by simpa using e1) (by simpa using e2))
theorem ZiV.gath(I:Inv X pins σ H s)(sub:Zq F H)(h:ZiV X.K F H p ds):∃vs,Zt X.K (ZcR F H) ds vs/\∀(A:Around) (E:Value->Shared->Prop) (R:List Value->Shared->Prop),A.handled=none ->
  (∀us h' tk,Vals vs us->(∀b o,s.heap.get? b=some o->h'.get? b=some o)->R us { s with heap:=h',toks:=tk })->wpAny (model X.prog X.w) A (collect (.ref p)) R E s:=by
 cases h with
 | @lst _ vs h r=>obtain⟨its,rv,pl,hz⟩:=I.list h;obtain⟨o,ho,hcl,n,hd⟩:=pl.isList;refine⟨vs,r.mono (Zc7 sub),λA E R _ k=>wpAny_collect_seq p (.inl rfl) ho hcl hd (λh' kp=>?_) (by rw[ZyJ,<-rv.length]; exact hz)⟩;exact k its h' s.toks rv kp
 | @tup _ vs h r=>obtain⟨its,rv,pl,hz⟩:=I.tuple h;obtain⟨o,ho,hcl,n,hd⟩:=pl;refine⟨vs,r.mono (Zc7 sub),λA E R _ k=>wpAny_collect_seq p (.inr rfl) ho hcl hd (λh' kp=>?_) (by rw[ZyJ,<-rv.length]; exact hz)⟩;exact k its h' s.toks rv kp
 | @dk kvs h =>
  obtain⟨z,lo,vs,rel,dd⟩:=Zrn I.hok h;obtain⟨ep,hat⟩:=dd.dictAt;have hl:kvs.length=vs.length:=ZA7 rel;refine⟨kvs.map λq=>kV q.1,?_,λA E R hh k=>Zhi (kdl_dict (knd:=Zah X.prog X.w) (kvs:=vs) (ep:=ep) lo) hh hat (by omega) λh' tk acc kp hsz hacc=>k _ h' tk ?_ kp⟩
  ·have:=ZgN (K:=X.K) (F:=ZcR F H) (kvs.map (·.1))
   rw[ZyP,ZyP]at this;exact this
  ·refine ZhF (by have q:acc.toList.length=acc.size:=ZyT; rw[Zyt,q,hacc.1,hl]) λi v u e1 e2=>?_
   obtain⟨kk,x,q1,q2⟩:=hacc.2 i u (by rw[<-Zzl]; exact e2);rw[ZyU]at e1;obtain⟨q,e3,e4⟩:=Zyu.mp e1;subst e4;have key:∀{l:List (Key × V)} {m:List (Key × Value)},KV l m->∀(i:Nat) a b,l[i]?=some a->m[i]?=some b->a.1=b.1:=by
    intro l m r
    induction r with
    | nil=>intro i a b e; simp at e
    | cons hq _ ih =>
     intro i a b e1 e2;cases i with
     | zero=>simp at e1 e2; subst e1; subst e2; exact hq.1
     | succ i=>exact ih i a b (by simpa using e1) (by simpa using e2)
   have ek:=key rel i q (kk,x) e3 q1;rw[ek];exact Zvi q2
 | @dt kvs h =>
  obtain⟨z,lo,xs,rel,o,es,ep,h1,h2,h3,h4,h5⟩:=(show Zab X.prog X.w H s.heap p (.dT kvs) from I.hok p _ h);have hl:kvs.length=xs.length:=ZA7 rel;have hes:es.size=xs.length:=by rw[<-ZyT,h4,Zyt]
  have hm:ZeX s.heap p es ep:=⟨o,h1,h2,h3⟩;refine⟨xs.map λq=>V.ref q.2.1,?_,λA E R hh k=>Zhi (ZuS (es:=es) (ep:=ep) lo) hh hm (by omega) λh' tk acc kp hsz hacc=>k _ h' tk ?_ kp⟩
  ·clear h4 hes hl z h h5
   induction rel with
   | nil=>exact .nil
   | @cons p0 _ _ _ hq _ ih=>obtain⟨q1,q2,_⟩:=hq;rw[Zyz,Zyz];refine .cons ?_ ih;have rk:=ZgN (K:=X.K) (F:=ZcR F H) p0.1;exact .tup (Zpb q2) rk.1 rk.2
  ·refine ZhF (by have q:acc.toList.length=acc.size:=ZyT; rw[Zyt,q,hacc.1,hes]) λi v u e1 e2=>?_
   obtain⟨e,q1,q2⟩:=hacc.2 i u (by rw[<-Zzl]; exact e2);subst q2;rw[ZyU]at e1;obtain⟨q,e3,e4⟩:=Zyu.mp e1;subst e4;rw[<-Zzl,h4,ZyU,e3]at q1;cases q1;rfl
theorem ZcS{K:Zys}{F:Hp}:∀{ds:List PyData} {vs:List V} {ns:List Int},HM.ZaK ds=some ns->Zt K F ds vs->vs=ns.map V.int
 | [],vs,ns,h,r=>by cases h;exact r.nil_inv
 | d::ds,vs,ns,h,r=>by
  obtain⟨v,us,rfl,r1,r2⟩:=r.cons_inv;cases d with
  | int b=>obtain⟨bs',h1,h2⟩:=Zyu.mp h;subst h2;rw[r1.int_inv,ZcS h1 r2];rfl
  | none=>cases h
  | bool _=>cases h
  | str _=>cases h
  | list _=>cases h
  | tuple _=>cases h
  | dict _=>cases h
theorem Zp5:∀(t:List Int),HM.ZaK (HM.ofInts t)=some t
 | []=>rfl
 | x::t=>by show(HM.ZaK (HM.ofInts t)).map (x::·)=_;rw[Zp5 t];rfl
theorem Zoi:∀{ds:List PyData} {ns:List Int},HM.ZaK ds=some ns->ds=HM.ofInts ns
 | [],ns,h=>by cases h; rfl
 | d::ds,ns,h=>by
  cases d with
  | int b=>obtain⟨bs',h1,h2⟩:=Zyu.mp h;subst h2;rw[Zoi h1];rfl
  | none=>cases h
  | bool _=>cases h
  | str _=>cases h
  | list _=>cases h
  | tuple _=>cases h
  | dict _=>cases h
theorem Zfd{K:Zys}{F:Hp}:∀(ns:List Int),Zt K F (HM.ofInts ns) (ns.map V.int)
 | []=>.nil
 | n::ns=>.cons (.int n) (Zfd ns)
theorem Zd9:∀{ns:List Int} {us:List Value},Vals (ns.map V.int) us->IntsAre us ns
 | [],_,r=>by rw[ZAs]at r; cases r; exact .nil
 | n::ns,_,r=>by
  rw[Zyz]at r;cases r with
  | cons h t=>obtain⟨u,rfl⟩:=h; exact .cons n u (Zd9 t)
theorem Zh8:∀{us:List Value} {ns:List Int},IntsAre us ns->Vals (ns.map V.int) us
 | _,_,.nil=>.nil
 | _,_,.cons n t h=>.cons ⟨t,rfl⟩ (Zh8 h)
theorem ZnY:∀{ds:List PyData} {ts:List (List Int)},HM.Zjv ds=some ts->ds=HM.Zfc ts
 | [],ts,h=>by cases h; rfl
 | d::ds,ts,h=>by
  cases d with
  | tuple es =>
   unfold HM.Zjv at h;split at h
   ·rename_i ns hn
    obtain⟨r',h1,h2⟩:=Zyu.mp h;subst h2;rw[Zoi hn,ZnY h1];rfl
   ·cases h
  | none=>cases h
  | bool _=>cases h
  | int _=>cases h
  | str _=>cases h
  | list _=>cases h
  | dict _=>cases h
theorem ZoA{ns ms:List Int}(h:ms.Perm ns)(hs:ms.Pairwise (·<=·)):ms=HM.sortI ns:=by refine Zh0 (R:=(·<=·)) (λa b h1 h2=>by omega) (h.trans (ZBq ns _).symm) hs ?_;have:=ZBJ (le:=λa b:Int=>decide (a<=b)) (λa b c h1 h2=>by simp at *; omega) (λa b=>by simp; omega) ns;exact this.imp λh=>by simpa using h
theorem Ztv{ts us:List (List Int)}(h:us.Perm ts)(hs:us.Pairwise (λx y=>HM.lexLt y x=false)):us=HM.ZdW ts:=by
 refine Zh0 (R:=λx y=>HM.lexLt y x=false) (λa b h1 h2=>ZiR a b h2 h1) (h.trans (ZBq ts _).symm) hs ?_;have:=ZBJ (le:=λa b:List Int=>!HM.lexLt b a) (λa b c h1 h2=>by
  simp only[Bool.not_eq_true']at *;cases q:HM.lexLt c a with
  | false=>rfl
  | true =>
   rcases ZlB c b a q with z | z
   ·rw[h2]at z; cases z
   ·rw[h1]at z; cases z) (λa b=>by
  cases q:HM.lexLt b a with
  | false=>simp
  | true =>
   cases q2:HM.lexLt a b with
   | false=>simp
   | true=>have:=lex_trans _ _ _ q q2; rw[lex_irrefl]at this; cases this) ts
 exact this.imp λh=>by simpa using h
theorem Zj0{h:Heap}{a:Addr}{vs:List Value}{out:Array Value}{b:Addr}{o:Obj}(hb:b≠a)(e:h.get? b=some o):(sortedHeap h a vs out).get? b=some o:=by rw[sortedHeap_old hb (ZyK e)]; exact e
theorem Zn1(hc:X.calm=true):Za4 X (.builtin "sorted") (λxs H Q=>∃p F ds ds',xs=[.ref p]/\Zq F H/\ZiV X.K F H p ds/\HM.Ze3 ds=some ds'/\∀l ws,H l=none->Zt X.K (ZcR F H) ds' ws->Q (.ref l) (upd H l (.lst ws))):=by
 intro pins s σ H xs us Q I r h;obtain⟨p,F,ds,ds',rfl,sub,hsrc,hsort,q⟩:=h;obtain⟨u,rfl,rx⟩:=vals1 r;cases rx;obtain⟨vs,rv,go⟩:=hsrc.gath I sub;unfold HM.Ze3 at hsort;split at hsort
 ·rename_i h64
  have hvl:=rv.1;refine ZCM kind_sorted plain_sorted entry_sorted (args_sorted1 _) ?_;unfold Builtin.«sorted»;refine Zyr (m:=checkCount "sorted" 1 1 _) (Zyv ?_);refine Zyr (go _ _ _ (I.ok.hd hc) λus h' tk ru kp=>?_);have hul:=ru.length;refine Zyr (wpAny_newList ?_ (by rw[ZzP]; omega));have hoL:(h'.push (seqObj "list" us.toArray 0)).get? h'.objs.size=some (seqObj "list" us.toArray 0):=ZyO _ rfl;have fin:∀(out:Array Value) (ws:List V),Vals ws out.toList->Zt X.K (ZcR F H) ds' ws->ws.length<64->EP X pins σ Q (.ref h'.objs.size) { s with heap:=sortedHeap (h'.push (seqObj "list" us.toArray 0)) h'.objs.size us out,toks:=tk }:=λout ws rw' rd hw=>by obtain⟨e,he⟩:=sortedHeap_at (out:=out) hoL;have I1:Inv X pins σ H { s with heap:=h',toks:=tk }:=I.kept kp;refine⟨.ref h'.objs.size,_,I1.laid (a:=h'.objs.size) (o:=.lst ws) (t':=tk) (λb o e1=>?_) (ZyB _) ⟨by rw[ZzP]; omega,out.toList,e,rw',by simpa using he⟩,rfl,q _ ws (I1.hok.fresh (ZyB _)) rd⟩;exact Zj0 (ZyQ (ZyK e1)) (Zyy _ e1)
  show wpAny _ _ _ _ _ { s with heap:=h'.push (seqObj "list" us.toArray 0),toks:=tk };split at hsort
  ·rename_i ns hns
   cases hsort;have evs:=ZcS hns rv;rw[evs]at ru;have hI:=Zd9 ru;refine Zyr (Zzz (ZzH slot_list_sort ⟨_,hoL,rfl⟩ ZC3 (list_sort_tree hoL hI (by omega) λout ns' a1 a2 a3=>⟨_,rfl,?_⟩) (args_list_sort _)));refine Zyv ⟨_,rfl,?_⟩;have e:=ZoA a2 a3;have hl:ns'.length<64:=by rw[a2.length_eq,<-hI.length,<-hul]; omega
   refine fin out (ns'.map V.int) (Zh8 a1) ?_ (by rw[Zyt]; exact hl);rw[<-e];exact Zfd ns'
  ·split at hsort
   ·rename_i ts hts
    split at hsort
    ·rename_i hne
     cases hsort;have eds:=ZnY hts;have hT:∀(i:Nat) t,ts[i]?=some t->∃b,us[i]?=some (.ref b)/\TI (h'.push (seqObj "list" us.toArray 0)) b t:=λi t e=>by
      have ed:ds[i]?=some (.tuple (HM.ofInts t)):=by rw[eds]; unfold HM.Zfc; rw[ZyU,e]; rfl
      obtain⟨v,hv,rp⟩:=rv.get ed;generalize hq:HM.ofInts t=q at rp;cases rp with
      | @tupk b x h1 =>
       exfalso;cases t with
       | nil=>cases hq
       | cons a t =>
        injection hq with e1 _
        cases e1
      | @tup b _ xs hb hl hr=>subst hq;obtain⟨u,hu,ru'⟩:=ru.get hv;cases ru';have ev:=ZcS (F:=ZcR F H) (Zp5 t) ⟨hl,hr⟩;subst ev;have hH:H b=some (.tup (t.map V.int)):=(Ext.refl sub).tups.sub _ _ hb;obtain⟨z,its,rt,o,h1,h2,n,h3⟩:=(show Zab X.prog X.w H s.heap b (.tup (t.map V.int)) from I.hok b _ hH);exact⟨b,hu,o,its.toArray,n,Zyy _ (kp b o h1),h2,h3,by simpa using Zd9 rt⟩
     have hlt:ts.length=us.length:=by have:=congrArg Zzf eds;unfold HM.Zfc at this;rw[Zyt]at this;omega
     refine Zyr (Zzz (ZzH slot_list_sort ⟨_,hoL,rfl⟩ ZC3 (ZtT hoL hlt hT ?_ (by omega) λpm hp hs=>⟨_,rfl,?_⟩) (args_list_sort _)))
     ·rw[ZAd]at hne
      rcases hne with z | z
      ·left
       have:=of_decide_eq_true z;omega
      ·right
       intro t ht e;have:=ZyD.mp z t ht;rw[e]at this;cases this
     ·refine Zyv ⟨_,rfl,?_⟩
      have hpl:pm.length=us.length:=by rw[hp.length_eq,ZAw]
      have hmem:∀i∈pm,i<us.length:=λi hi=>ZyS.mp (hp.mem_iff.mp hi);have e:(pm.map λi=>ts.getD i [])=HM.ZdW ts:=by
       refine Ztv ?_ hs;refine(hp.map _).trans ?_;have:(ZyA us.length).map (λi=>ts.getD i [])=ts:=by refine List.ext_getElem (by simp[hlt]) λi h1 h2=>?_;simp at h1;simp[ZzX,show i<ts.length by omega]
       rw[this]
      refine fin _ (pm.map λi=>vs.getD i V.non) ?_ ?_ (by rw[Zyt]; omega)
      ·refine ZhF (by simp) λk v u e1 e2=>?_
       rw[ZyU]at e1;rw[List.toList_toArray,ZyU]at e2;obtain⟨i,hi,rfl⟩:=Zyu.mp e1;rw[hi]at e2;cases e2;have hlt':=hmem i (ZyW hi);have hv:vs[i]?=some (vs.getD i V.non):=by simp[ZzX,show i<vs.length by omega]
       obtain⟨u,hu,ru'⟩:=ru.get hv;have:us.getD i Zzv=u:=by simp[ZzX,hu]
       show RelV _ (us.getD i Zzv);rw[this];exact ru'
      ·rw[<-e]
       refine⟨by unfold HM.Zfc; simp,λk d v e1 e2=>?_⟩;unfold HM.Zfc at e1;rw[ZyU,ZyU]at e1;rw[ZyU]at e2;obtain⟨i,hi,rfl⟩:=Zyu.mp e2;rw[hi]at e1;have hlt':=hmem i (ZyW hi);have hd:ds[i]?=some d:=by
        rw[eds]; unfold HM.Zfc;rw[ZyU];have:ts[i]?=some (ts.getD i []):=by simp[ZzX,show i<ts.length by omega]
        rw[this];exact e1
       have hv:vs[i]?=some (vs.getD i V.non):=by simp[ZzX,show i<vs.length by omega]
       exact rv.2 i d _ hd hv
    ·cases hsort
   ·cases hsort
 ·cases hsort
end
end HP
namespace HP
open PySem PySem.Spec PySem.W PySem.Calls PyProof.Rows L2
variable[FX]
section
variable{prog:Program}{w:World}{A:Around}{E:Value->Shared->Prop}{s:Shared}
theorem Zm0{r:Addr}{a b c:Int}{t u v:Tok}{n:Nat}{R:List Value->Shared->Prop}(hh:A.handled=none)(hr:IsRange s.heap r a b c t u v)(hsmall:ZDq a b c=true)(hn:ZA2 a b c=n)(hlen:n<=2 ^ 24)
  (h:∀(h':Heap) (tk:Nat) (acc:Array Value),(∀b o,s.heap.get? b=some o->h'.get? b=some o)->ItemsOf (λi v=>∃t,v=.int (a+i*c) t) acc n->R acc.toList { s with heap:=h',toks:=tk }) :
  wpAny (model prog w) A (collect (.ref r)) R E s:=by
 unfold collect;refine Zyr (wpAny_runValue (ZzN entry_proto_collect' ?_));rw[Zzx ZCo _];show wpAny _ A.in1 (newList [] >>= λl=>again (.builtin "list.__iadd__" ⟨[l,.ref r],[]⟩)) _ _ s;refine Zyr (Zzb (Zyv ⟨ZAN ZA5 _,ZzN entry_list_iadd' ?_⟩));rw[Zzx ZA5 _];have hS₁:(s.heap.push { cls:=.type "list",data:=.seq ([]:List Value).toArray }).get? s.heap.objs.size=some { cls:=.type "list",data:=.seq #[] }:=ZyO _ rfl;show wpAny _ A.in1 (ZCp (.ref s.heap.objs.size) (.ref r) (.ref s.heap.objs.size)) _ _ _;have hr1:IsRange (s.heap.push { cls:=.type "list",data:=.seq ([]:List Value).toArray }) r a b c t u v:=Zyy _ hr;refine ZzJ (wpAny_extend_range (A:=A) (s:={ s with heap:=s.heap.push { cls:=.type "list",data:=.seq ([]:List Value).toArray } })
  (R:=λ(q:Result) (s':Shared)=>∃(h':Heap) (tk:Nat) (acc':Array Value) (c':Nat),q=.ok (.ret (.ref s.heap.objs.size))/\s'={ s with heap:=h',toks:=tk } /\
   (∀b o,s.heap.get? b=some o->h'.get? b=some o)/\h'.get? s.heap.objs.size=some { cls:=.type "list",dict:=none,data:=.seq acc' c',slots:=#[] }/\ItemsOf (λi v=>∃t,v=.int (a+i*c) t) acc' n)
  hh hr1 hsmall hn hlen s.heap.objs.size (.ref s.heap.objs.size) 0 hS₁
  (λh' tk acc' c' hk hS' hacc=>⟨h',tk,acc',c',rfl,rfl,λb o e=>hk b o (ZyQ (ZyK e)) (Zyy _ e),hS',hacc⟩)) (λfin s' x=>?_) λe s' x=>?_
 ·have go:∀(h':Heap) (tk:Nat) (acc':Array Value) (c':Nat),(∀b o,s.heap.get? b=some o->h'.get? b=some o)->h'.get? s.heap.objs.size=some { cls:=.type "list",dict:=none,data:=.seq acc' c',slots:=#[] }->ItemsOf (λi v=>∃t,v=.int (a+i*c) t) acc' n ->
    wpAny (model prog w) A (load s.heap.objs.size >>= λo=>match o.data with | .seq xs _=>pure xs.toList | _=>unsupported "internal:collect") R E { s with heap:=h',toks:=tk }:=λh' tk acc' c' hk hS' hacc =>
   Zyr (wpAny_load hS' (Zyv (h h' tk acc' hk hacc)))
  cases fin with
  | done f=>obtain⟨h',tk,acc',c',e,rfl,hk,hS',hacc⟩:=x;cases e;exact go h' tk acc' c' hk hS' hacc
  | again c₁=>refine⟨x.1,ZAG x.2 λq s₂ y=>?_⟩;obtain⟨h',tk,acc',c',rfl,rfl,hk,hS',hacc⟩:=y;exact go h' tk acc' c' hk hS' hacc
 ·obtain⟨_,_,_,_,e',_⟩:=x
  cases e'
end
theorem ZjO(r:Addr)(a b c:Int)(t u v:Tok)(n:Nat)(hsmall:ZDq a b c=true)(hn:ZA2 a b c=n)(hlen:n<=2 ^ 24) :
  Meets (Builtin.«tuple.__new__» ⟨[.type "tuple",.ref r],[]⟩)
   (λA R s=>A.handled=none/\IsRange s.heap r a b c t u v/\∀(h':Heap) (tk:Nat) (acc:Array Value),(∀b o',s.heap.get? b=some o'->h'.get? b=some o')->ItemsOf (λi v=>∃t,v=.int (a+i*c) t) acc n ->
    R (.ok (.ret (.ref h'.objs.size))) { s with heap:=h'.push { cls:=.type "tuple",data:=.seq acc },toks:=tk }) :=
 .of_wp λprog w A R s h=>by
  obtain⟨hp,g,d,tk,os⟩:=s; obtain⟨hh,ht,h⟩:=h;have hsub:=PySem.sub_tuple_self;have hinit:=PySem.init_tuple_lookup;have hmh:=PySem.madeHere_tuple;have hT:Shared.TypeIs ⟨hp,g,d,tk,os⟩ (.ref r) "range":=⟨_,ht,rfl⟩;have hh1:A.in1.handled=none:=hh
  wp_walk using wpAny_typeOf hT,Zm0 hh1 ht hsmall hn hlen
  intro h' tk' acc hk hacc;show wpAny _ _ (Zz4 acc.toList.toArray >>= λv=>ret v) _ _ _;unfold Zz4;have e:acc.toList.toArray=acc:=by simp
  rw[e];refine Zyr (Zzb ?_ (by show acc.size<=sizeLine; rw[hacc.1,ZzP]; omega));exact Zyv ⟨_,rfl,h h' tk' acc hk hacc⟩
section
variable{X:Cx}{a b c e:Expr}{fa fb fc:HM.EF}{pos p:Pos}{f:HM.BF}
theorem Zon:Za4 X (.type "range") (λxs H Q=>∃j,xs=[.int j]/\∀l,H l=none->Q (.ref l) (upd H l (.rng 0 j))):=by intro pins s σ H xs us Q I r h;obtain⟨j,rfl,q⟩:=h;obtain⟨u,rfl,rx⟩:=vals1 r;obtain⟨t,rfl⟩:=rx;refine call_range_1 ⟨.ref s.heap.objs.size,_,I.laid (a:=s.heap.objs.size) (o:=.rng 0 j) (λb o e=>Zyy _ e) (ZyB _) ?_,rfl,q _ (I.hok.fresh (ZyB _))⟩;exact⟨_,_,_,ZyO _ rfl⟩
theorem ZpS(hc:X.calm=true):Za4 X (.type "tuple") (λxs H Q=>∃p lo hi,xs=[.ref p]/\H p=some (.rng lo hi)/\-1000000<lo/\lo<1000000/\-1000000<hi/\hi<1000000 /\
  ∀l,H l=none->Q (.ref l) (upd H l (.tup ((ZyA (hi-lo).toNat).map λ(k:Nat)=>V.int (lo+k))))):=by
 intro pins s σ H xs us Q I r h;obtain⟨p,lo,hi,rfl,hp,h1,h2,h3,h4,q⟩:=h;obtain⟨u,rfl,rx⟩:=vals1 r;cases rx;obtain⟨t,u,v,ho⟩:=(show Zab X.prog X.w H s.heap p (.rng lo hi) from I.hok p _ hp);have hn:ZA2 lo hi 1=((hi-lo).toNat:Nat):=by rw[rangeSize_one]; split<;>omega
 refine callType_new PySem.F.called_tuple (by decide) (PySem.F.typeCall_tuple_1 _) (PySem.F.newCall_tuple_1 _) (λobj=>PySem.F.args_object_init_2 obj _) PySem.F.entry_tuple_new
  (ZjO p lo hi 1 t u v (hi-lo).toNat (small_one (by omega) (by omega) (by omega) (by omega)) hn (by omega)) ⟨I.ok.hd hc,ho,λh' tk' acc kp hacc=>⟨⟨_,ZyO _ rfl,rfl⟩,?_⟩⟩
 have I1:Inv X pins σ H { s with heap:=h',toks:=tk' }:=I.kept kp;have rv:Vals ((ZyA (hi-lo).toNat).map λ(k:Nat)=>V.int (lo+k)) acc.toList:=by
  refine ZhF (by have z:acc.toList.length=acc.size:=ZyT; rw[Zyt,ZAw,z,hacc.1]) λi v u e1 e2=>?_;rw[ZyU]at e1;obtain⟨k,hk,rfl⟩:=Zyu.mp e1;obtain⟨t,rfl⟩:=hacc.2 i u (by rw[<-Zzl]; exact e2);have:k=i:=by have:=ZyG.mp hk;obtain⟨_,e⟩:=this;simpa using e.symm
  subst this;exact⟨t,by simp⟩
 have I2:=I1.laid (a:=h'.objs.size) (o:=.tup ((ZyA (hi-lo).toNat).map λ(k:Nat)=>V.int (lo+k))) (h':=h'.push { cls:=.type "tuple",data:=.seq acc }) (t':=tk') (λb o e=>Zyy _ e) (ZyB _)
  ⟨by rw[Zyt,ZAw,ZzP]; omega,acc.toList,rv,by simpa using ZDv _ _⟩
 exact⟨.ref h'.objs.size,_,I2,rfl,q _ (I1.hok.fresh (ZyB _))⟩
theorem ZpK{K:Zys}{F:Hp}(lo:Int)(n:Nat):Zt K F (HM.ZbT lo n) ((ZyA n).map λ(k:Nat)=>V.int (lo+k)):=by unfold HM.ZbT;refine⟨by simp,λi d v e1 e2=>?_⟩;rw[ZyU]at e1 e2;obtain⟨k,hk,rfl⟩:=Zyu.mp e1;rw[hk]at e2;cases e2;exact .int _
theorem Zpm(hmt:X.mg "tuple" = none)(hm:X.mg "range" = none)(hc:X.calm=true)(ha:XE X a fa){p' pos':Pos}(hgt:Gl X "tuple":=by rfl)(hg:Gl X "range":=by rfl)(hs:ZyF [a] X.env=[(false,eval a X.env)]:=by rfl)
  (hs2:ZyF [ZDw (.Name "range" p') [a] [] pos'] X.env=[(false,eval (ZDw (.Name "range" p') [a] [] pos') X.env)]:=by rfl) :
  XE X (.Call (.Name "tuple" p) [.Call (.Name "range" p') [a] [] pos'] [] pos) (HM.Zkj (HM.ZbU fa)):=by
 intro r d hd;unfold HM.Zkj at hd;split at hd
 ·rename_i ds hds
  split at hd
  ·cases hd
   unfold HM.ZbU at hds;split at hds
   ·rename_i j hj
    split at hds
    ·rename_i hok
     cases hds;obtain⟨k1,k2⟩:=ZjD hok;refine PE.imp (Zdv (ZpS hc) hgt hmt Zkz (Zai (Zdv Zon hg hm boot_range (Zai (ha r _ hj) ZbH hs) (he:=hs)) ZbH hs2) (he:=hs2)) λσ H Q ⟨F0,H0,F,at_,k⟩=>?_;refine⟨F0,H0,F,at_,λv F1 H1 x1 r1=>⟨j,by rw[r1.int_inv],λl hl=>?_⟩⟩;refine⟨l,0,j,rfl,ZC,by omega,by omega,by omega,by omega,λl2 hl2=>?_⟩;have x2:=x1.lay' (o:=.rng 0 j) hl;have x3:=x2.lay (o:=.tup ((ZyA (j-0).toNat).map λ(k:Nat)=>V.int (0+k))) hl2;have rp:=ZpK (K:=X.K) (F:=upd F1 l2 (.tup ((ZyA (j-0).toNat).map λ(k:Nat)=>V.int (0+k)))) 0 j.toNat;have ej:(j-0).toNat=j.toNat:=by omega
     refine k _ _ _ x3 (.tup ZC ?_ ?_)
     ·rw[ej]; exact rp.1
     ·rw[ej]at rp ⊢; exact rp.2
    ·cases hds
   ·cases hds
  ·cases hd
 ·cases hd
theorem ZrR{K:Zys}{F H:Hp}{q:HM.B}{v:V}{fp:List Addr}{ds:List PyData}(sub:Zq F H)(r:Zad K F H q v fp)(h:HM.Zuw q=some ds):∃a,v=.ref a/\ZiV K F H a ds:=by
 cases r with
 | pl r =>
  cases r with
  | tup h1 h2 h3=>cases h; exact⟨_,rfl,.tup (.of (sub _ _ h1)) ⟨h2,h3⟩⟩
  | @tupk a x h1=>cases h; exact⟨_,rfl,.tup (.inr h1) (.one (.str x))⟩
  | lst h1 h2 h3=>cases h; exact⟨_,rfl,.lst (sub.seq h1) ⟨h2,h3⟩⟩
  | dct _ _ _ _=>cases h
  | fn _=>cases h
  | non=>cases h
  | bl _=>cases h
  | int _=>cases h
  | str _=>cases h
 | ol h1 r=>cases h; exact⟨_,rfl,.lst (.of h1) r⟩
 | hd _ _ _ _=>cases h
 | hf _=>cases h
 | @ok a kvs vvs h1 h2 h3 =>
  cases h;refine⟨_,rfl,?_⟩;have e:(kvs.map λp=>HM.ZaH p.1)=vvs.map λp=>HM.ZaH p.1:=by
   have:=congrArg (ZCg HM.ZaH) h2
   rwa [ZyP,ZyP]at this
  rw[e];exact .dk h1
 | @ot a kvs vvs h1 h2 h3 =>
  cases h;refine⟨_,rfl,?_⟩;have e:(kvs.map λp=>Zzn (p.1.map HM.ZaH))=vvs.map λp=>Zzn (p.1.map HM.ZaH):=by
   have:=congrArg (ZCg λk:List Key=>Zzn (k.map HM.ZaH)) h2
   rwa [ZyP,ZyP]at this
  rw[e];exact .dt h1
 | @otl a kvs vvs ls h1 h2 h3 h4 =>
  cases h;refine⟨_,rfl,?_⟩;have e:(kvs.map λp=>Zzn (p.1.map HM.ZaH))=vvs.map λp=>Zzn (p.1.map HM.ZaH):=by
   have:=congrArg (ZCg λk:List Key=>Zzn (k.map HM.ZaH)) h2
   rwa [ZyP,ZyP]at this
  rw[e];exact .dt h1
theorem ZgG(hm:X.mg "sorted" = none)(hc:X.calm=true)(ha:XB X a f)(hg:Gl X "sorted":=by rfl)(hs:ZyF [a] X.env=[(false,eval a X.env)]:=by rfl):XF X (.Call (.Name "sorted" p) [a] [] pos) (HM.ZfQ f):=by
 intro r d h;unfold HM.ZfQ at h;split at h
 ·rename_i x hx
  split at h
  ·rename_i ds hds
   obtain⟨ds',h1,h2⟩:=Zyu.mp h;subst h2;refine PE.imp (Zdp (Zn1 hc) hg hm Zmb (Zfb ha hx hs) (he:=hs)) λσ H Q ⟨F0,H0,F,at_,k⟩=>?_;refine⟨F0,H0,F,at_,λv fp F1 H1 x1 r1=>?_⟩;obtain⟨l,e1,src⟩:=ZrR x1.sub r1 hds;subst e1;exact⟨l,F1,ds,ds',rfl,x1.sub,src,h1,λl' ws hl' rs=>ZeQ (P:=λv _ H'=>Q v H') x1.tups rs hl' k⟩
  ·cases h
 ·cases h
theorem ZrQ(hc:X.calm=true):Za4 X (.type "set") (λxs H Q=>∃p ns,xs=[.ref p]/\SqL X.K H p (ns.map V.int)/\(∀n∈ns,0<=n/\n<8)/\∀l,H l=none->Q (.ref l) (upd H l (.ext λh=>ZdL X.prog X.w h l (HM.dedup [] ns)))):=by intro pins s σ H xs us Q I r h;obtain⟨p,ns,rfl,hq,hb,q⟩:=h;obtain⟨u,rfl,rx⟩:=vals1 r;cases rx;obtain⟨its,rv,pl,hz⟩:=I.list hq;refine Zsl (I.ok.hd hc) pl.isList (by simpa using Zd9 rv) hb λh' tk hS kp=>?_;have hS':=hS;obtain⟨o,es,ep,t,ho,_⟩:=hS';refine⟨.ref s.heap.objs.size,_,I.laid (a:=s.heap.objs.size) (o:=.ext λh=>ZdL X.prog X.w h s.heap.objs.size (HM.dedup [] ns)) (λb o e=>kp b o (ZyK e) e) (ZyB _) ?_,rfl,q _ (I.hok.fresh (ZyB _))⟩;exact⟨hS,⟨o,ho⟩,λh1 h2 x kk=>x.at' kk⟩
theorem ZoI(hc:X.calm=true):Za4 X (.builtin "sorted") (λxs H Q=>∃p L,xs=[.ref p]/\H p=some (.ext λh=>ZdL X.prog X.w h p L)/\∀l,H l=none->Q (.ref l) (upd H l (.lst ((HM.sortI L).map V.int)))):=by
 intro pins s σ H xs us Q I r h;obtain⟨p,L,rfl,hp,q⟩:=h;obtain⟨u,rfl,rx⟩:=vals1 r;cases rx;obtain⟨hX,_,_⟩:=(show Zab X.prog X.w H s.heap p (.ext λh=>ZdL X.prog X.w h p L) from I.hok p _ hp);obtain⟨o,es,ep,t,ho,hex,hd,hen,hpm,hpl,ht⟩:=hX;have hsz:=size_of hpl;have hfew:=ht.few;have raw:ZeH X.w s.heap p es ep t:=⟨⟨o,ho,hex,hd⟩,by rw[hsz]; exact ht.fits,hsz,ht⟩;refine ZCM kind_sorted plain_sorted entry_sorted (args_sorted1 _) ?_;unfold Builtin.«sorted»;refine Zyr (m:=checkCount "sorted" 1 1 _) (Zyv ?_);refine Zyr (Zhi (ZuK (es:=es) (ep:=ep) (t:=t)) (I.ok.hd hc) raw (by rw[ZzP]; omega) λh' tk acc kp _ hacc=>?_);have hal:acc.toList.length=es.size:=by rw[ZyT]; exact hacc.1
 have hI:IntsAre acc.toList ((Zd5 X.w p es ep).toList.map ZeE):=by
  have key:∀(us:List Value) (xs:List (Int × Value)),us.length=xs.length->(∀(i:Nat) u,us[i]?=some u->∃e,xs[i]?=some e/\u=e.2)->(∀e∈xs,∃n t,e=((intKind X.prog X.w).hash n,ZAl n t))->IntsAre us (xs.map ZeE):=by
   intro us
   induction us with
   | nil=>intro xs hl _ _; cases xs with | nil=>exact .nil | cons _ _=>simp at hl
   | cons u us ih =>
    intro xs hl hk he;cases xs with
    | nil=>simp at hl
    | cons x xs=>obtain⟨e,e1,e2⟩:=hk 0 u rfl;simp at e1;subst e1;obtain⟨n,t,e3⟩:=he x (Zyw ..);rw[e2,e3];exact .cons n t (ih xs (by simpa using hl) (λi u e=>hk (i+1) u (by simpa using e)) λe h=>he e (Zyx _ h))
  refine key acc.toList (Zd5 X.w p es ep).toList (by rw[hal,ZyT,ZiU]) (λi u e=>?_) λe h=>hen e ((Zje X.w p es ep).mem_iff.mp h);obtain⟨e',e1,e2⟩:=hacc.2 i u (by rw[<-Zzl]; exact e);exact⟨e',by rw[Zzl]; exact e1,e2⟩
 refine Zyr (wpAny_newList ?_ (by rw[hal,ZzP]; omega));have hoL:(h'.push (seqObj "list" acc.toList.toArray 0)).get? h'.objs.size=some (seqObj "list" acc.toList.toArray 0):=ZyO _ rfl;show wpAny _ _ _ _ _ { s with heap:=h'.push (seqObj "list" acc.toList.toArray 0),toks:=tk };refine Zyr (Zzz (ZzH slot_list_sort ⟨_,hoL,rfl⟩ ZC3 (list_sort_tree hoL hI (by omega) λout ns' a1 a2 a3=>⟨_,rfl,?_⟩) (args_list_sort _)));refine Zyv ⟨_,rfl,?_⟩;have e:ns'=HM.sortI L:=ZoA (a2.trans (((Zje X.w p es ep).map ZeE).trans hpm)) a3;have hl:ns'.length<64:=by rw[a2.length_eq,<-hI.length,hal]; omega
 obtain⟨ee,he⟩:=sortedHeap_at (out:=out) hoL;have I1:Inv X pins σ H { s with heap:=h',toks:=tk }:=I.kept kp;refine⟨.ref h'.objs.size,_,I1.laid (a:=h'.objs.size) (o:=.lst (ns'.map V.int)) (t':=tk) (λb o e1=>?_) (ZyB _) ⟨by rw[Zyt,ZzP]; omega,out.toList,ee,Zh8 a1,by simpa using he⟩,rfl,?_⟩
 ·exact Zj0 (ZyQ (ZyK e1)) (Zyy _ e1)
 ·rw[e]; exact q _ (I1.hok.fresh (ZyB _))
theorem Ziz(hm:X.mg "sorted" = none)(hm2:X.mg "set" = none)(hc:X.calm=true){p' pos':Pos}(ha:XB X a f)(hg:Gl X "sorted":=by rfl)(hg2:Gl X "set":=by rfl)(hs:ZyF [a] X.env=[(false,eval a X.env)]:=by rfl)
  (hs2:ZyF [ZDw (.Name "set" p') [a] [] pos'] X.env=[(false,eval (ZDw (.Name "set" p') [a] [] pos') X.env)]:=by rfl) :
  XF X (.Call (.Name "sorted" p) [.Call (.Name "set" p') [a] [] pos'] [] pos) (HM.ZfI f):=by
 intro r d h;unfold HM.ZfI at h;split at h
 ·rename_i x hx
  split at h
  ·rename_i ds hds
   split at h
   ·rename_i ns hns
    split at h
    ·rename_i hlow
     cases h;refine PE.imp (Zdp (ZoI hc) hg hm Zmb (Zai (Zdv (ZrQ hc) hg2 hm2 Zwg (Zfb ha hx hs) (he:=hs)) ZbH hs2) (he:=hs2)) λσ H Q ⟨F0,H0,F,at_,k⟩=>?_;refine⟨F0,H0,F,at_,λv fp F1 H1 x1 r1=>?_⟩;obtain⟨l,vs,e1,hq,rs⟩:=Zgw x1.sub r1 hds;subst e1;rw[ZcS hns rs]at hq;refine⟨l,ns,rfl,hq,λn hn=>?_,λl2 hl2=>⟨l2,_,rfl,ZC,λl3 hl3=>?_⟩⟩
     ·have:=ZyD.mp hlow n hn
      rw[ZyN,decide_eq_true_eq,decide_eq_true_eq]at this;exact this
     ·have x2:=x1.lay' (o:=.ext λh=>ZdL X.prog X.w h l2 (HM.dedup [] ns)) hl2
      exact ZeQ (P:=λv _ H'=>Q v H') x2 (Zfd _) hl3 k
    ·cases h
   ·cases h
  ·cases h
 ·cases h
end
end HP
namespace HP
open PySem PySem.Spec PyProof.Rows L2
variable[FX]
section
variable{X:Cx}{a b:Expr}{fa:HM.EF}{f:HM.BF}{pos:Pos}
theorem Zkn(i:Int):∀ns:List Int,inV (.int i) (ns.map V.int)=ns.contains i
 | []=>rfl
 | n::ns=>by have ih:=Zkn i ns;unfold inV at ih ⊢;rw[Zyz,ZAa,ih,List.contains_cons];show(n==i||_)=(i==n||_);rw[show(n==i)=(i==n) from ZCa.mpr ⟨λh=>beq_iff_eq.mpr (beq_iff_eq.mp h).symm,λh=>beq_iff_eq.mpr (beq_iff_eq.mp h).symm⟩]
theorem Zjn:∀ns:List Int,(ns.map V.int).all Za5=true
 | []=>rfl
 | n::ns=>by rw[Zyz,ZzL,Zjn ns]; rfl
theorem Ztw{r:HM.Env}{d:PyData}(h:HM.ZoQ fa f r=some d):∃i q ds ns,fa r=some (.int i)/\f r=some q/\HM.Zbc q=some ds/\HM.ZaK ds=some ns/\d=.bool (ns.contains i):=by
 unfold HM.ZoQ at h;split at h
 ·split at h
  ·split at h
   ·obtain⟨c,h1,h2⟩:=Zyu.mp h
    obtain⟨ns,h3,h4⟩:=Zyu.mp h1;exact⟨_,_,_,ns,by assumption,by assumption,by assumption,h3,by rw[<-h2,<-h4]⟩
   ·cases h
  ·cases h
 ·cases h
theorem ZpT{r:HM.Env}{d:PyData}(h:HM.Zhz fa f r=some d):∃i q ds ns,fa r=some (.int i)/\f r=some q/\HM.Zbc q=some ds/\HM.ZaK ds=some ns/\d=.bool (!ns.contains i):=by
 unfold HM.Zhz at h;split at h
 ·split at h
  ·split at h
   ·obtain⟨c,h1,h2⟩:=Zyu.mp h
    obtain⟨ns,h3,h4⟩:=Zyu.mp h1;exact⟨_,_,_,ns,by assumption,by assumption,by assumption,h3,by rw[<-h2,<-h4]⟩
   ·cases h
  ·cases h
 ·cases h
theorem Ztj{neg:Bool}{r:HM.Env}{i:Int}{q:HM.B}{ds:List PyData}{ns:List Int}(ha:XE X a fa)(hb:XB X b f)(h1:fa r=some (.int i))(h2:f r=some q)(h3:HM.Zbc q=some ds)(h4:HM.ZaK ds=some ns){op:CmpOp}(ho:OpR X (ZzF op) (rIn X.K neg))(hm:ZzE op b=false) :
  PE X (.Compare a [op] [b] pos) (tAt X.K r λ_ F' _ v=>v=.bl (if neg then !ns.contains i else ns.contains i)):=by
 refine PE.imp (Zqi ho (ha r _ h1) (hb r q h2) hm) λσ H Q ⟨F0,H0,F,at_,k⟩=>?_;refine⟨F0,H0,F,at_,λv F1 H1 x1 r1=>⟨F0,H0,F1,at_.grow x1,λw F2 H2 x2 ⟨fp,r2⟩=>?_⟩⟩;obtain⟨p,vs,e1,hq,rs⟩:=Zgu x2.sub r2 h3;cases r1;rw[ZcS h4 rs]at hq;refine⟨p,_,e1,hq,rfl,Zjn ns,k _ F2 H2 (x1.trans x2) ?_⟩;rw[Zkn]
theorem Zua{neg:Bool}{r:HM.Env}{i:Int}{q:HM.B}{ds:List PyData}{ns:List Int}(ha:XE X a fa)(hb:XB X b f)(h1:fa r=some (.int i))(h2:f r=some q)(h3:HM.Zbc q=some ds)(h4:HM.ZaK ds=some ns){op:CmpOp}(ho:OpR X (ZzF op) (rIn X.K neg))(hm:ZzE op b=false) :
  PT X (.Compare a [op] [b] pos) λσ H Q=>Now X.K r σ H λF0 H0 F=>∀F' H',Ext F H F' H'->Q (if neg then !ns.contains i else ns.contains i) H':=by
 refine PT.imp (Zlx ho (ha r _ h1) (hb r q h2) hm) λσ H Q ⟨F0,H0,F,at_,k⟩=>?_;refine⟨F0,H0,F,at_,λv F1 H1 x1 r1=>⟨F0,H0,F1,at_.grow x1,λw F2 H2 x2 ⟨fp,r2⟩=>?_⟩⟩;obtain⟨p,vs,e1,hq,rs⟩:=Zgu x2.sub r2 h3;cases r1;rw[ZcS h4 rs]at hq;refine⟨p,_,e1,hq,rfl,Zjn ns,_,rfl,?_⟩;rw[Zkn];exact k F2 H2 (x1.trans x2)
theorem ZvA(ha:XE X a fa)(hb:XB X b f)(hm:ZzE .In b=false:=by rfl):XE X (.Compare a [.In] [b] pos) (HM.ZoQ fa f):=by intro r d h;obtain⟨i,q,ds,ns,h1,h2,h3,h4,rfl⟩:=Ztw h;refine PE.imp (Ztj ha hb h1 h2 h3 h4 Zso hm) λσ H Q ⟨F0,H0,F,at_,k⟩=>⟨F0,H0,F,at_,λv F' H' x e=>k v F' H' x ?_⟩;subst e;exact .bl _
theorem ZrE(ha:XE X a fa)(hb:XB X b f)(hm:ZzE .NotIn b=false:=by rfl):XT X (.Compare a [.NotIn] [b] pos) (HM.tV (HM.Zhz fa f)):=by intro r d h;obtain⟨i,q,ds,ns,h1,h2,h3,h4,e⟩:=ZpT (Zgl h);cases e;exact Zua ha hb h1 h2 h3 h4 Zov hm
end
end HP
namespace HP
open PySem PySem.Spec PyProof.Rows L2
variable[FX]
section
variable{X:Cx}{c e:Expr}{fa:HM.EF}{t:HM.TF}{g:HM.SF}{pos:Pos}{body:List Stmt}
theorem Zkb(n:Nat)(hxe:X.xe=λ_ _=>False)(hc:XT X c t)(hb:XSs X body g):XS X (.While c body [] pos) (HM.Zlg n t g):=by
 intro r o ho;have ho:HM.ZaY t g n r=some o:=ho;have pb:PSs X body (λE σ H=>∃r o,g r=some o/\tSt X.K r o E σ H):=λpins s σ H E I ⟨r,o,h1,h2⟩=>hb r o h1 pins s σ H E I h2;have pc:PT X c (λσ H Q=>∃r b,t r=some b/\Now X.K r σ H λF0 H0 F=>∀F' H',Ext F H F' H'->Q b H'):=λpins s σ H Q I ⟨r,b,h1,h2⟩=>hc r b h1 pins s σ H Q I h2;refine PS.imp (Ztu (Zjf hxe) pc pb) λE σ H ⟨F0,H0,F,at_,k⟩=>?_;refine⟨λm σ H=>∃F r,At X.K F0 H0 F H r σ/\HM.ZaY t g m r=some o,⟨n,F,r,at_,ho⟩,?_⟩
 rintro m σ H ⟨F2,r2,at2,go⟩
 cases m with
 | zero=>cases go
 | succ m =>
  unfold HM.ZaY at go;split at go
  ·rename_i ht
   refine⟨r2,true,ht,F0,H0,F2,at2,λF' H' x=>?_⟩;dsimp only;rw[if_pos rfl];have at3:=at2.grow x;have a4:=at3.rebase;refine⟨λσ' H'=>∃F r,At X.K F0 H0 F H' r σ'/\HM.ZaY t g m r=some o,λσ' H' q=>⟨m,ZAV m,q⟩,?_⟩;split at go
   ·rename_i r' hr
    exact⟨_,_,hr,F',H0,F',a4,λσ' F' H' a'=>⟨F',r',a'.unbase at3.ext at3.nt0,go⟩⟩
   ·rename_i r' hr
    exact⟨_,_,hr,F',H0,F',a4,λσ' F' H' a'=>⟨F',r',a'.unbase at3.ext at3.nt0,go⟩⟩
   ·rename_i r' hr
    cases go;exact⟨_,_,hr,F',H0,F',a4,λσ' F' H' a'=>k σ' F' H' (a'.unbase at3.ext at3.nt0)⟩
   ·rename_i d hr
    cases go;exact⟨_,_,hr,F',H0,F',a4,λv F' H' x q=>k v F' H' (at3.ext.unbase x) q⟩
   ·cases go
  ·rename_i ht
   cases go;refine⟨r2,false,ht,F0,H0,F2,at2,λF' H' x=>?_⟩;dsimp only;rw[if_neg (by simp)];exact k σ F' H' (at2.grow x)
  ·cases go
theorem ZuR{i j:Nat}{x y:Str}{px py pt:Pos}{kt:Nat}(hc:X.calm=true)(hN:X.N.Nodup)(hi:X.N[i]?=some x)(hj:X.N[j]?=some y)(hx:Loc X.env.scope x)(hy:Loc X.env.scope y)(hf:X.fn x=true\/X.env.scope.names.lookup x=some .local)(hg:X.fn y=true\/X.env.scope.names.lookup y=some .local)
  (h1:(ZAB [.Name x px,.Name y py] X.env).length=2:=by rfl) (h2:(ZAB [.Name x px,.Name y py] X.env).findIdx? (·.1)=none:=by rfl) :
  PG X (.Tuple [.Name x px,.Name y py] kt pt) (ZvM X.K 2 (ZqY (Zna i) (ZqY (Zna j) Zwd))) :=
 Zsn hc (Zil (ZfR hN hi hx hf) (Zil (ZfR hN hj hy hg) Zqp)) h1 h2
theorem Zuz(i j:Nat){x y:Str}{px py pt:Pos}{kt:Nat}{iter:Expr}{fi:HM.IF}(hN:X.N.Nodup)(hxe:X.xe=λ_ _=>False)(hc:X.calm=true)(hi:XI X (.Tuple [.Name x px,.Name y py] kt pt) iter fi)(hb:XSs X body g)(hix:X.N[i]?=some x:=by rfl)(hjy:X.N[j]?=some y:=by rfl)
  (hx:Loc X.env.scope x:=by first | exact Zzo rfl | exact Zy5 rfl) (hy:Loc X.env.scope y:=by first | exact Zzo rfl | exact Zy5 rfl) (hf:X.fn x=true\/X.env.scope.names.lookup x=some .local:=by first | exact .inl rfl | exact .inr rfl) (hf2:X.fn y=true\/X.env.scope.names.lookup y=some .local:=by first | exact .inl rfl | exact .inr rfl)
  (h1:(ZAB [.Name x px,.Name y py] X.env).length=2:=by rfl) (h2:(ZAB [.Name x px,.Name y py] X.env).findIdx? (·.1)=none:=by rfl)
  (hs:∀x,ZzV iter X.env x=pure x:=by intro _; rfl):XS X (.For (.Tuple [.Name x px,.Name y py] kt pt) iter body [] pos) (HM.Znh i j fi g):=by
 intro r o ho;unfold HM.Znh at ho;split at ho
 ·rename_i ds hds
  split at ho
  ·rename_i hbig
   have pb:PSs X body (λE σ H=>∃r o,g r=some o/\tSt X.K r o E σ H):=λpins s σ H E I ⟨r,o,h1,h2⟩=>hb r o h1 pins s σ H E I h2;refine PS.imp (Zr0 (Zjf hxe) hc (hi r ds hds) (ZuR hc hN hix hjy hx hy hf hf2 h1 h2) pb hs) λE σ H ⟨F0,H0,F,at_,k⟩=>?_;refine⟨F0,H0,F,at_,λJ F1 H1 x1 it=>?_⟩;refine⟨λn m σ H=>∃F r,At X.K F0 H0 F H r σ/\Zq F1 F/\n+m=ds.length/\HM.Zfa i j g (ds.drop n) r=some o,⟨ds.length,F1,r,at_.grow x1,Zq.refl _,by omega,ho⟩,?_⟩
   rintro n m σ H ⟨F2,r2,at2,s2,hn,go⟩
   obtain⟨it1,it2⟩:=it F2 H s2 at2.sub;cases m with
   | zero =>
    have e:n=ds.length:=by omega
    subst e;rw[ZCR]at go;cases go;exact .inl ⟨it2,k σ F2 H at2⟩
   | succ m =>
    have hlt:n<ds.length:=by omega
    rw[ZBs hlt]at go;obtain⟨j1,j2⟩:=it1 n ds[n] (ZyH hlt);refine .inr ⟨j1,λσ' H'=>∃F r,At X.K F0 H0 F H' r σ'/\Zq F1 F/\HM.Zfa i j g (ds.drop (n+1)) r=some o,λσ' H' ⟨F,r,a1,a2,a3⟩=>⟨m,by omega,F,r,a1,a2,by omega,a3⟩,λy H' hy=>?_⟩;obtain⟨e1,ry⟩:=j2 y H' hy;subst e1;obtain⟨F3,at3,s3,ry⟩:∃F3,At X.K F0 H0 F3 H' r2 σ/\Zq F1 F3/\Rep X.K F3 ds[n] y:=⟨_,at2.grow at2.refl.tups,s2.trans (Zc7 at2.sub),ry⟩;have hsh:∃d1 d2,ds[n]=.tuple [d1,d2]:=by
     unfold HM.Zfa at go;split at go
     ·cases ‹_=[]›
     ·rename_i d1 d2 q hq
      injection hq with hq _
      exact⟨d1,d2,hq⟩
     ·cases go
    obtain⟨d1,d2,hsh⟩:=hsh;rw[hsh]at ry go;obtain⟨pa,v1,v2,e7,hpa,rx1,rx2⟩:=Zpk ry;subst e7;have a3:=(at3.set (i:=i) rx1).set (i:=j) rx2;have a4:=a3.rebase;refine⟨pa,[v1,v2],rfl,.of (at3.sub _ _ hpa),rfl,v1,[v2],rfl,v2,[],rfl,rfl,?_⟩;dsimp only[HM.Zfa]at go;split at go
    ·rename_i r' hr
     exact⟨_,_,hr,F3,H0,F3,a4,λσ' F' H' a'=>⟨F',r',a'.unbase at3.ext at3.nt0,s3.trans a'.ext.ff,go⟩⟩
    ·rename_i r' hr
     exact⟨_,_,hr,F3,H0,F3,a4,λσ' F' H' a'=>⟨F',r',a'.unbase at3.ext at3.nt0,s3.trans a'.ext.ff,go⟩⟩
    ·rename_i r' hr
     cases go;exact⟨_,_,hr,F3,H0,F3,a4,λσ' F' H' a'=>k σ' F' H' (a'.unbase at3.ext at3.nt0)⟩
    ·rename_i d hr
     cases go;exact⟨_,_,hr,F3,H0,F3,a4,λv F' H' x q=>k v F' H' (at3.ext.unbase x) q⟩
    ·cases go
  ·cases ho
 ·cases ho
end
end HP
namespace HP
open PySem PySem.Spec PyProof.Rows L2
variable[FX]
section
variable{X:Cx}{a b:Expr}{fa:HM.EF}{f:HM.BF}{pos:Pos}
theorem ZsS{e:Value->Bool}{f:PyData->Bool}:∀{ds:List PyData} {us:List Value},ds.length=us.length->(∀(i:Nat) d u,ds[i]?=some d->us[i]?=some u->e u=f d)->us.any e=ds.any f
 | [],[],_,_=>rfl
 | [],_::_,hl,_=>by simp at hl
 | _::_,[],hl,_=>by simp at hl
 | d::ds,u::us,hl,k=>by rw[ZAa,ZAa,k 0 d u rfl rfl,ZsS (ds:=ds) (us:=us) (by simpa using hl) λi d u e1 e2=>k (i+1) d u (by simpa using e1) (by simpa using e2)]
def ZvS(K:Zys)(neg:Bool):R2:=λvx vy H Q=>∃F p xs x ds,Zq F H/\vy=.ref p/\(SqL K H p xs\/SqT K H p xs)/\Rep K F x vx/\Zt K F ds xs/\HM.ZaA x=true/\ds.all HM.ZaA=true /\
 Q (.bl (if neg then !ds.any λd=>ZzB d x else ds.any λd=>ZzB d x)) H
open Classical in
noncomputable def Zhf (h:Heap) (x:PyData) (u:Value):Bool:=decide (∃d as,Reads h u d as/\d.canLay0=true/\ZzB d x=true)
theorem ZrU{h:Heap}{x d:PyData}{u:Value}{as:List Addr}(r:Reads h u d as)(hl:d.canLay0=true):Zhf h x u=ZzB d x:=by
 classical
 unfold Zhf;cases q:ZzB d x with
 | true=>exact decide_eq_true ⟨d,as,r,hl,q⟩
 | false=>refine decide_eq_false λ⟨d',as',r',hl',q'⟩=>?_;rw[SeqAt.Reads.unique d d' u as as' hl r r']at q;rw[q]at q';cases q'
theorem ZoN{k:Nat}(hr:Zas k X.A){pins:List (Addr × Obj)}{s:Shared}{σ:L2.St}{H F:Hp}{x:PyData}{vx:V}{u:Value}{ds:List PyData}{xs:List V}{its:List Value}(I:Inv X pins σ H s)(sub:Zq F H)(rx:Rep X.K F x vx)(ru:RelV vx u)(rs:Zt X.K F ds xs)(rv:Vals xs its)(px:HM.ZaA x=true)(pd:ds.all HM.ZaA=true) :
  (∀y∈its,SeqAt.EqAt X.A.in1 s y u (Zhf s.heap x y))/\its.any (Zhf s.heap x)=ds.any λd=>ZzB d x:=by
 obtain⟨x1,x2⟩:=ZfH px;obtain⟨as,hx⟩:=rx.reads I sub x1 u ru;have hun:=hr.un;have each:∀(i:Nat) d y,ds[i]?=some d->its[i]?=some y->(∃bs,Reads s.heap y d bs)/\d.canLay0=true/\d.depth<=60:=λi d y e1 e2=>by
  have hi:i<xs.length:=by rw[<-rs.1]; exact(ZyG.mp e1).1
  obtain⟨y',q1,q2⟩:=rv.get (ZyH hi);rw[e2]at q1;cases q1;have hp:=ZfH (ZyD.mp pd d (ZyW e1));exact⟨(rs.2 i d _ e1 (ZyH hi)).reads I sub hp.1 y q2,hp⟩
 have hl:ds.length=its.length:=rs.1.trans rv.length;refine⟨λy hy=>?_,ZsS hl λi d y e1 e2=>?_⟩
 ·obtain⟨i,hi,e⟩:=ZAZ hy
  have hi':i<ds.length:=by omega
  obtain⟨⟨bs,q⟩,h1,h2⟩:=each i ds[i] y (ZyH hi') (by rw[ZyH hi,e]);rw[ZrU q h1];refine SeqAt.eqAt_reads _ _ _ _ _ _ _ _ q hx h1 x1 ?_;have:min (ds[i]).depth x.depth<=60:=Zzg (Nat.min_le_left _ _) h2;show X.A.units+1+_<_;omega
 ·obtain⟨⟨bs,q⟩,h1,_⟩:=each i d y e1 e2
  exact ZrU q h1
theorem ZrX{k:Nat}(hr:Zas k X.A):OpR X (ZzF .NotIn) (ZvS X.K true):=by
 intro pins s σ H vx vy v u Q I r1 r2 ⟨F,p,xs,x,ds,sub,e,hq,rx,rs,px,pd,q⟩;subst e;cases r2;rcases hq with hq | hq
 ·obtain⟨its,r,pl,hz⟩:=I.list hq
  obtain⟨h1,h2⟩:=ZoN hr I sub rx r1 rs r px pd;refine SeqAt.notIn_listAt (Zhf s.heap x) pl.isList (λw hw=>h1 w (by simpa using hw)) ⟨.bl _,H,I,rfl,?_⟩;rw[show its.toArray.any (Zhf s.heap x)=its.any (Zhf s.heap x) by simp,h2];exact q
 ·obtain⟨its,r,pl,hz⟩:=I.tuple hq
  obtain⟨h1,h2⟩:=ZoN hr I sub rx r1 rs r px pd;refine SeqAt.notIn_tupleAt (Zhf s.heap x) pl (λw hw=>h1 w (by simpa using hw)) ⟨.bl _,H,I,rfl,?_⟩;rw[show its.toArray.any (Zhf s.heap x)=its.any (Zhf s.heap x) by simp,h2];exact q
theorem ZtX{ds:List PyData}{x:PyData}{c:Bool}(h:HM.Zpa ds x=some c):HM.ZaA x=true/\ds.all HM.ZaA=true/\c=ds.any λd=>ZzB d x:=by
 unfold HM.Zpa at h;split at h
 ·rename_i hp
  rw[ZyN]at hp;cases h;exact⟨hp.1,hp.2,rfl⟩
 ·cases h
theorem ZpU{r:HM.Env}{d:PyData}(h:HM.ZhA fa f r=some d):∃x q ds,fa r=some x/\f r=some q/\HM.Zbc q=some ds/\HM.ZaA x=true/\ds.all HM.ZaA=true/\d=.bool (!ds.any λd=>ZzB d x):=by
 unfold HM.ZhA at h;split at h
 ·split at h
  ·split at h
   ·obtain⟨c,h1,h2⟩:=Zyu.mp h
    obtain⟨h3,h4,h5⟩:=ZtX h1;exact⟨_,_,_,by assumption,by assumption,by assumption,h3,h4,by rw[<-h2,<-h5]⟩
   ·cases h
  ·cases h
 ·cases h
theorem Ztc{neg:Bool}{r:HM.Env}{x:PyData}{q:HM.B}{ds:List PyData}(ha:XE X a fa)(hb:XB X b f)(h1:fa r=some x)(h2:f r=some q)(h3:HM.Zbc q=some ds)(p1:HM.ZaA x=true)(p2:ds.all HM.ZaA=true){op:CmpOp}(ho:OpR X (ZzF op) (ZvS X.K neg))(hm:ZzE op b=false) :
  PT X (.Compare a [op] [b] pos) λσ H Q=>Now X.K r σ H λF0 H0 F=>∀F' H',Ext F H F' H'->Q (if neg then !ds.any λd=>ZzB d x else ds.any λd=>ZzB d x) H':=by
 refine PT.imp (Zlx ho (ha r _ h1) (hb r q h2) hm) λσ H Q ⟨F0,H0,F,at_,k⟩=>?_;refine⟨F0,H0,F,at_,λv F1 H1 x1 r1=>⟨F0,H0,F1,at_.grow x1,λw F2 H2 x2 ⟨fp,r2⟩=>?_⟩⟩;obtain⟨p,vs,e1,hq,rs⟩:=Zgu x2.sub r2 h3;exact⟨F2,p,vs,x,ds,x2.sub,e1,hq,r1.mono x2.ff,rs,p1,p2,_,rfl,k F2 H2 (x1.trans x2)⟩
theorem ZrF{k:Nat}(hr:Zas k X.A)(ha:XE X a fa)(hb:XB X b f)(hm:ZzE .NotIn b=false:=by rfl):XT X (.Compare a [.NotIn] [b] pos) (HM.tV (HM.ZhA fa f)):=by intro r d h;obtain⟨x,q,ds,h1,h2,h3,h4,h5,e⟩:=ZpU (Zgl h);cases e;exact Ztc ha hb h1 h2 h3 h4 h5 (ZrX hr) hm
end
end HP
namespace HP
open PySem PySem.Spec PyProof.Rows L2
variable[FX]
section
variable{X:Cx}{a b c e:Expr}{fa fb fc:HM.EF}{f:HM.BF}{pos p:Pos}{es:List Expr}
theorem rdT{F F':Hp}{a:Addr}{vvs:List (List Key × V)}(r:Rd F a (.dT vvs))(s:ZaB F F'):Rd F' a (.dT vvs):=r.imp (λh=>s _ _ h) λ⟨o,h⟩=>⟨o,s _ _ h⟩
theorem ZkO{H:Hp}{a b:Addr}{kvs:List (List Key × V)}{k:List Key}(e:Rd H a (.dT kvs))(eb:H b=some (.tup (k.map kV))):ZbV H a (.ref b) (ZaO kvs k):=.inr ⟨kvs,k,b,e,rfl,eb,rfl⟩
theorem Zgr{K:Zys}{F H:Hp}{q:HM.B}{v:V}{fp:List Addr}{kvs:List (List Key × PyData)}(sub:Zq F H)(r:Zad K F H q v fp)(h:HM.Zjd q=some kvs):∃l vvs,v=.ref l/\Rd H l (.dT vvs)/\ZaF K F kvs vvs:=by
 cases r with
 | pl r =>
  cases r with
  | @dct l es kvs' vvs h1 h2 h3 h4=>subst h2;have h:HM.Zfw (HM.Zj kvs')=some kvs:=h;rw[HM.dec_enc]at h;cases h;refine⟨l,vvs,rfl,ZjC h1 sub,h3,?_,h4⟩;have:=congrArg Zzf h3;rw[Zyt,Zyt]at this;rw[Zyt,Zyt,this]
  | fn _=>cases h
  | tupk _=>cases h
  | tup _ _ _=>cases h
  | lst _ _ _=>cases h
  | non=>cases h
  | bl _=>cases h
  | int _=>cases h
  | str _=>cases h
 | ol _ _=>cases h
 | ok _ _ _=>cases h
 | @ot l kvs vvs h1 h2 h3=>cases h; exact⟨l,vvs,rfl,.inl h1,h2,h3⟩
 | @hd l o es kvs' vvs h1 h2 h3 h4=>subst h2;have h:HM.Zfw (HM.Zj kvs')=some kvs:=h;rw[HM.dec_enc]at h;cases h;exact⟨l,vvs,rfl,.inr ⟨o,sub _ _ h1⟩,h3,h4⟩
 | hf _=>cases h
 | otl _ _ _ _=>cases h
theorem ZtP{r:HM.Env}{d:PyData}(h:HM.ZoZ fa f r=some d):∃x q kvs y,fa r=some x/\f r=some q/\HM.Zjd q=some kvs/\HM.ZaN x=some y/\d=.bool (HM.Zh kvs y).isSome:=by
 unfold HM.ZoZ at h;split at h
 ·split at h
  ·split at h
   ·obtain⟨y,h1,h2⟩:=Zyu.mp h
    exact⟨_,_,_,y,by assumption,by assumption,by assumption,h1,h2.symm⟩
   ·cases h
  ·cases h
 ·cases h
theorem ZpN{r:HM.Env}{d:PyData}(h:HM.Zcg fa f r=some d):∃x q kvs y,fa r=some x/\f r=some q/\HM.Zjd q=some kvs/\HM.ZaN x=some y/\d=.bool (!(HM.Zh kvs y).isSome):=by
 unfold HM.Zcg at h;split at h
 ·split at h
  ·split at h
   ·obtain⟨y,h1,h2⟩:=Zyu.mp h
    exact⟨_,_,_,y,by assumption,by assumption,by assumption,h1,h2.symm⟩
   ·cases h
  ·cases h
 ·cases h
theorem ZvB(hu:X.A.units+1<cLine)(ha:XE X a fa)(hb:XB X b f)(hm:ZzE .In b=false:=by rfl):XT X (.Compare a [.In] [b] pos) (HM.tV (HM.ZoZ fa f)):=by intro r d h;obtain⟨x,q,kvs,y,h1,h2,h3,h4,e⟩:=ZtP (Zgl h);cases e;refine PT.imp (ZnV (ZwT hu (ha r x h1) (hb r q h2)) hm) λσ H Q ⟨F0,H0,F,at_,k⟩=>?_;refine⟨F0,H0,F,at_,λv F1 H1 x1 r1=>⟨F0,H0,F1,at_.grow x1,λw F2 H2 x2 ⟨fp,r2⟩=>?_⟩⟩;obtain⟨l,vvs,e1,e2,T⟩:=Zgr x2.sub r2 h3;obtain⟨bb,rfl,hbb⟩:=ZbA h4 (r1.mono x2.ff);exact⟨l,_,e1,ZkO e2 (x2.sub _ _ hbb),_,rfl,by rw[T.some_iff]; exact k F2 H2 (x1.trans x2)⟩
theorem ZgH(hu:X.A.units+1<cLine)(ha:XE X a fa)(hb:XB X b f)(hm:ZzE .NotIn b=false:=by rfl):XT X (.Compare a [.NotIn] [b] pos) (HM.tV (HM.Zcg fa f)):=by intro r d h;obtain⟨x,q,kvs,y,h1,h2,h3,h4,e⟩:=ZpN (Zgl h);cases e;refine PT.imp (ZnV (Zl6 hu (ha r x h1) (hb r q h2)) hm) λσ H Q ⟨F0,H0,F,at_,k⟩=>?_;refine⟨F0,H0,F,at_,λv F1 H1 x1 r1=>⟨F0,H0,F1,at_.grow x1,λw F2 H2 x2 ⟨fp,r2⟩=>?_⟩⟩;obtain⟨l,vvs,e1,e2,T⟩:=Zgr x2.sub r2 h3;obtain⟨bb,rfl,hbb⟩:=ZbA h4 (r1.mono x2.ff);exact⟨l,_,e1,ZkO e2 (x2.sub _ _ hbb),_,rfl,by rw[T.some_iff]; exact k F2 H2 (x1.trans x2)⟩
theorem Zhp(hu:X.A.units+1<cLine)(ha:XB X a f)(hk:XE X b fb)(hs:Zo9 b:=by intro _ _; rfl):XE X (.Subscript a b pos) (HM.Zbt f fb):=by
 intro r d h;unfold HM.Zbt at h;split at h
 ·rename_i q hq
  split at h
  ·rename_i kvs hd
   split at h
   ·rename_i x hx
    split at h
    ·rename_i y hy
     refine PE.imp (ZlH hu (ha r q hq) (hk r x hx) hs) λσ H Q ⟨F0,H0,F,at_,kk⟩=>?_;refine⟨F0,H0,F,at_,λv F1 H1 x1 ⟨fp,r1⟩=>⟨F0,H0,F1,at_.grow x1,λw F2 H2 x2 r2=>?_⟩⟩;obtain⟨l,vvs,e1,e2,T⟩:=Zgr x1.sub r1 hd;have e2':=rdT e2 x2.hh;have T':ZaF X.K F2 kvs vvs:=⟨T.1,T.2.mono x2.ff⟩;obtain⟨bb,rfl,hbb⟩:=ZbA hy r2;obtain⟨u,q1,q2⟩:=T'.look.1 d h;exact⟨l,u,e1,by rw[<-q1]; exact ZkO e2' (x2.sub _ _ hbb),kk u F2 H2 (x1.trans x2) q2⟩
    ·cases h
   ·cases h
  ·cases h
 ·cases h
theorem Zs6{apos:Pos}(hu:X.A.units+1<cLine)(ha:XB X a f)(hk:XE X b fb)(hz:XE X c fc)(m:M2 X a "get" apos b c pos):XE X (.Call (.Attribute a "get" apos) [b,c] [] pos) (HM.Zjj f fb fc):=by
 intro r d h;unfold HM.Zjj at h;split at h
 ·rename_i q hq
  split at h
  ·rename_i kvs hd
   split at h
   ·rename_i x hx
    split at h
    ·rename_i z hz'
     split at h
     ·rename_i y hy
      cases h;refine PE.imp (Zth hu (ha r q hq) (hk r x hx) (hz r z hz') m) λσ H Q ⟨F0,H0,F,at_,kk⟩=>?_;refine⟨F0,H0,F,at_,λv F1 H1 x1 ⟨fp,r1⟩=>?_⟩;obtain⟨l,vvs,e1,e2,T⟩:=Zgr x1.sub r1 hd;refine⟨l,e1,.inr ⟨vvs,e2⟩,F0,H0,F1,at_.grow x1,λw F2 H2 x2 r2=>⟨F0,H0,F2,(at_.grow x1).grow x2,λw' F3 H3 x3 r3=>?_⟩⟩;have e3:=rdT (rdT e2 x2.hh) x3.hh;have T':ZaF X.K F3 kvs vvs:=⟨T.1,(T.2.mono x2.ff).mono x3.ff⟩;obtain⟨bb,rfl,hbb⟩:=ZbA hy (r2.mono x3.ff);refine⟨_,ZkO e3 (x3.sub _ _ hbb),kk _ F3 H3 ((x1.trans x2).trans x3) ?_⟩;obtain⟨t1,t2⟩:=T'.look (k:=y);cases hl:HM.Zh kvs y with
      | none=>rw[t2 hl]; exact r3
      | some dd=>obtain⟨u,q1,q2⟩:=t1 dd hl; rw[q1]; exact q2
     ·cases h
    ·cases h
   ·cases h
  ·cases h
 ·cases h
structure XAL(X:Cx)(es:List Expr)(f:HM.AF):Prop where
 len:∀r ds,f r=some ds->ds.length=es.length
 pa:∀r ds,f r=some ds->PA X es λσ H Q=>Now X.K r σ H λF0 H0 F=>∀vs F' H',Ext F H F' H'->Zt X.K H' ds vs->Q vs H'
theorem Zad.lent{K:Zys}{F H:Hp}{q:HM.B}{v:V}{fp:List Addr}{d:PyData}(sub:Zq F H)(r:Zad K F H q v fp)(h:HM.frz q=some d):Rep K H d v:=by
 cases r with
 | pl r=>cases h; exact r.mono sub
 | ol h1 r=>cases h; exact .lst (.of h1) r.1 (r.mono sub).2
 | ok _ _ _=>cases h
 | hd h1 he hk r=>cases h; exact(Rep.dct (.inr ⟨_,h1⟩) he hk r.2).mono sub
 | hf h1=>cases h; exact(Rep.fn h1).mono sub
 | ot h1 hk r=>cases h; exact .dct (.inl h1) rfl hk (r.mono sub).2
 | otl _ _ _ _=>cases h
end
end HP
namespace HP
open PySem PySem.Spec PyProof.Rows L2
variable[FX]
section
variable{X:Cx}{a b c e:Expr}{fa fb fc:HM.EF}{f:HM.BF}{pos p:Pos}{es:List Expr}
theorem ZrG{g:HM.AF}(h:XA X es g):XAL X es g :=
 ⟨h.len,λr ds hd=>PA.imp (h.pa r ds hd) λσ H Q ⟨F0,H0,F,at_,k⟩=>⟨F0,H0,F,at_,λvs F' H' x q=>k vs F' H' x (q.mono x.sub)⟩⟩
theorem ZfX{g:HM.AF}(ha:XE X e fa)(hr:XAL X es g)(hs:ZyF (e::es) X.env=(false,eval e X.env)::ZyF es X.env:=by rfl):XAL X (e::es) (HM.Zd fa g):=by
 refine⟨λr ds h=>?_,λr ds h=>?_⟩
 ·unfold HM.Zd at h
  split at h
  ·obtain⟨xs,h1,h2⟩:=Zyu.mp h
   subst h2;rw[ZyI,ZyI,hr.len r xs h1]
  ·cases h
 unfold HM.Zd at h;split at h
 ·rename_i x hx
  obtain⟨xs,h1,h2⟩:=Zyu.mp h;subst h2;refine PA.imp (Zai (ha r x hx) (hr.pa r xs h1) hs) λσ H Q ⟨F0,H0,F,at_,k⟩=>?_;exact⟨F0,H0,F,at_,λv F1 H1 x1 r1=>⟨F0,H0,F1,at_.grow x1,λvs F2 H2 x2 r2=>k (v::vs) F2 H2 (x1.trans x2) (.cons ((r1.mono x2.ff).mono x2.sub) r2)⟩⟩
 ·cases h
theorem Znm{g:HM.AF}(ha:XB X e f)(hr:XAL X es g)(hs:ZyF (e::es) X.env=(false,eval e X.env)::ZyF es X.env:=by rfl):XAL X (e::es) (HM.Zd (HM.Znc f) g):=by
 refine⟨λr ds h=>?_,λr ds h=>?_⟩
 ·unfold HM.Zd at h
  split at h
  ·obtain⟨xs,h1,h2⟩:=Zyu.mp h
   subst h2;rw[ZyI,ZyI,hr.len r xs h1]
  ·cases h
 unfold HM.Zd at h;split at h
 ·rename_i x hx
  obtain⟨xs,h1,h2⟩:=Zyu.mp h;subst h2;obtain⟨q,hq,hf⟩:=ZBI.mp hx;refine PA.imp (Zai (ha r q hq) (hr.pa r xs h1) hs) λσ H Q ⟨F0,H0,F,at_,k⟩=>?_;exact⟨F0,H0,F,at_,λv F1 H1 x1 ⟨fp,r1⟩=>⟨F0,H0,F1,at_.grow x1,λvs F2 H2 x2 r2=>k (v::vs) F2 H2 (x1.trans x2) (.cons ((r1.lent x1.sub hf).monoT x2.hh) r2)⟩⟩
 ·cases h
theorem Rep.flat{K:Zys}{F F':Hp}{d:PyData}{v:V}(r:Rep K F d v)(h:HM.Zju d=true):Rep K F' d v:=by
 cases r with
 | non=>exact .non
 | bl b=>exact .bl b
 | int i=>exact .int i
 | str x=>exact .str x
 | tupk _=>cases h
 | tup _ _ _=>cases h
 | lst _ _ _=>cases h
 | dct _ _ _ _=>cases h
 | fn _=>cases h
theorem Ext.forget{F H F'' H'':Hp}(s:Zq F H)(n:NoT F)(x:Ext (Zcw H) H F'' H''):Ext F H F H'' :=
 ⟨Zq.refl F,x.hh,(n.sub s).trans (x.ff.trans x.sub),λ_ _ z=>.inl z,x.tab,id⟩
theorem Zs7{k:Nat}{x:Str}{g:HM.AF}{M:List PyData->Option PyData}(C:Callee X.prog X.w X.K X.mg X.base k x M)(hr:Zas k X.A)(ha:XAL X (e::es) g)(hg:Gl X x:=by rfl)(hdb:(x==("__debug__":Str))=false:=by decide)
  (he:ZyF (e::es) X.env=(false,eval e X.env)::ZyF es X.env:=by rfl) (hpl:(backTo pos (ZyF es X.env)).any (·.1)=false:=by rfl):XE X (.Call (.Name x p) (e::es) [] pos) (HM.Zoj M g):=by
 intro r d hd;unfold HM.Zoj at hd;split at hd
 ·rename_i ds hds
  split at hd
  ·rename_i d' hM
   split at hd
   ·rename_i hflat
    cases hd;obtain⟨fa,fd,ps,hl,F,hm,hk,hb⟩:=C.ex;refine PE.imp (ZjA (E:=E0) F hr hg hm hk hb .nil Znd (ha.pa r ds hds) hdb he hpl) λσ H Q ⟨F0,H0,F1,at_,k⟩=>?_;refine⟨F0,H0,F1,at_,λvs F' H' x q=>?_⟩;show spD X.K ps.length M (vs++[]) H' Q E0;rw[Zy7];exact⟨Zcw H',ds,d,by rw[<-q.1]; exact hl ds d hM,Zjh,at_.tbx x,.drop,q.drop',hM,λv F2 H2 x2 q2=>k v F' H2 (x.trans (Ext.forget x.sub (at_.ntx x) x2)) (q2.flat hflat)⟩
   ·cases hd
  ·cases hd
 ·cases hd
theorem Zr4(hc:X.calm=true):Za4 X (.builtin "max") (λxs H Q=>∃(p:Addr) (ns:List Int),xs=[.ref p]/\SqL X.K H p (ns.map V.int)/\0<ns.length/\∀M,M∈ns->(∀a,a∈ns->a<=M)->Q (.int M) H):=by
 intro pins s σ H xs us Q I r h;obtain⟨p,ns,rfl,hq,hne,q⟩:=h;obtain⟨u,rfl,rx⟩:=vals1 r;cases rx;obtain⟨its,rv,pl,hz⟩:=I.list hq;have hi:=Zd9 rv;obtain⟨xs,e⟩:=hi.allInts.items;have hns:ns=xs.toList.map (·.1):=by rw[<-hi.numsOf,<-nums_intItems,<-e]
 have hsz:0<xs.size:=by have h3:=hne; rw[hns,Zyt,ZyT]at h3; exact h3
 have hl:=pl.isList;rw[e]at hl;refine max_intList (I.ok.hd hc) hl hsz λv h' tk hv hk=>?_;obtain⟨t,rfl⟩:=intItems_at hv;obtain⟨h1,h2⟩:=argBest_gt (numAt xs) (xs.size-1);refine⟨.int _,H,I.kept (t':=tk) hk,⟨t,rfl⟩,q _ ?_ λa ha=>?_⟩
 ·rw[hns,numAt_eq]; exact getD_mem (by rw[Zyt,ZyT]; omega)
 ·rw[hns]at ha
  obtain⟨j,hj,rfl⟩:=mem_getD ha;rw[Zyt,ZyT]at hj;rw[<-numAt_eq]; exact h2 j (by omega)
theorem Zlh(hm:X.mg "max" = none)(hc:X.calm=true)(ha:XB X a f)(hg:Gl X "max":=by rfl)(hs:ZyF [a] X.env=[(false,eval a X.env)]:=by rfl):XE X (.Call (.Name "max" p) [a] [] pos) (HM.Zij f):=by
 intro r d h;unfold HM.Zij at h;split at h
 ·rename_i x hx
  split at h
  ·rename_i ds hds
   split at h
   ·rename_i ns hns
    obtain⟨m,h1,h2⟩:=Zyu.mp h;subst h2;refine PE.imp (Zdp (Zr4 hc) hg hm ZsM (Zfb ha hx hs) (he:=hs)) λσ H Q ⟨F0,H0,F,at_,k⟩=>?_;refine⟨F0,H0,F,at_,λv fp F1 H1 x1 r1=>?_⟩;obtain⟨l,vs,e1,hq,rs⟩:=Zgw x1.sub r1 hds;rw[ZcS hns rs]at hq;obtain⟨m1,m2⟩:=ZBe.mp h1;refine⟨l,ns,by rw[e1],hq,List.length_pos_of_mem m1,λM k1 k2=>?_⟩;have:M=m:=Int.le_antisymm (m2 M k1) (k2 m m1);subst this;exact k _ F1 H1 x1 (.int _)
   ·cases h
  ·cases h
 ·cases h
end
end HP
namespace HP
open PySem PySem.Spec PyProof.Rows L2
variable[FX]
end HP
namespace HP
open PySem PySem.Spec PyProof.Rows L2
variable[FX]
section
variable{X:Cx}{a b c e:Expr}{fa fb fc:HM.EF}{f:HM.BF}{pos p:Pos}{es:List Expr}
theorem ZrH(i:Nat){x:Str}{p1 p2 p3:Pos}(ha:XB X a f)(hN:X.N[i]?=some x:=by rfl)(hv:Vis X.env.scope x:=by first | exact Zzo rfl | exact Zy5 (Zzo rfl) | exact Zy5 (Zy5 rfl))(hd:(x==("__debug__":Str))=false:=by decide)(hcd:(x==("__classdict__":Str))=false:=by decide)
  (hbase:ZAx (.Name x p1) "extend" X.env (eval (.Name x p1) X.env)=eval (.Name x p1) X.env:=by rfl)
  (hfew:((backTo p3 (ZyF [a] X.env)).all (λx=>!x.1)&&(ZCf p3 (ZBp [] X.env)).all (λx=>x.1.isSome)&&decide (([a]:List Expr).length+([]:List Keyword).length+(if([]:List Keyword).isEmpty then 0 else 1)<30))=true:=by rfl)
  (hline:(p2.endLine==p3.line)=true:=by rfl) (hs:ZyF [a] X.env=[(false,eval a X.env)]:=by rfl):XS X (.Expr (.Call (.Attribute (.Name x p1) "extend" p2) [a] [] p3) pos) (HM.Zjs i f):=by
 intro r o h;unfold HM.Zjs at h;split at h
 ·rename_i ds hds
  split at h
  ·rename_i es hes
   split at h
   ·rename_i hz
    cases h;refine PS.imp (ZhC (Zm8 ZAz PySem.F.slot_list_extend PySem.F.type_list_extend Zsr (Zb8 hN hv hd hcd) (Zai (ha r _ hes) ZbH hs) hbase hfew hline hs rfl)) λE σ H ⟨F0,H0,F,at_,k⟩=>?_;obtain⟨l,vs,e1,e2,e3,_⟩:=at_.chgList (es:=ds) hds;refine⟨.ref l,e1,.inl ⟨rfl,_,SqL.of e2⟩,F0,H0,F,at_,λv F1 H1 x1 ⟨fp,r1⟩=>?_⟩;have at1:=at_.grow x1;obtain⟨l',vs',f1,f2,f3,f4⟩:=at1.chgList (es:=ds++es) hds;rw[e1]at f1;cases f1;cases r1 with
    | @ol b _ us hb rs =>
     refine⟨_,b,vs',us,rfl,rfl,f2,hb,?_,k _ F1 _ (f4 _ (f3.append rs))⟩;have e4:=f3.1;have e6:=rs.1;have e5:(1000000:Nat)<=sizeLine:=by decide
     unfold HM.big at hz;omega
   ·cases h
  ·cases h
 ·cases h
theorem ZvC(i j:Nat){x y:Str}{p1 p2 p3 p4:Pos}(hN:X.N.Nodup)(hNi:X.N[i]?=some x:=by rfl)(hNj:X.N[j]?=some y:=by rfl)(hx:Loc X.env.scope x:=by first | exact Zzo rfl | exact Zy5 rfl)(hv:Vis X.env.scope y:=by first | exact Zzo rfl | exact Zy5 (Zzo rfl) | exact Zy5 (Zy5 rfl))(hd:(y==("__debug__":Str))=false:=by decide)(hcd:(y==("__classdict__":Str))=false:=by decide)
  (hbase:ZAx (.Name y p1) "pop" X.env (eval (.Name y p1) X.env)=eval (.Name y p1) X.env:=by rfl) (hline:(p2.endLine==p3.line)=true:=by rfl)
  (hs:ZAE (.Call (.Attribute (.Name y p1) "pop" p2) [] [] p3) (some (.Name x p4)) pos.line X.env=pure false:=by rfl) (hf:X.fn x=true\/X.env.scope.names.lookup x=some .local:=by first | exact .inl rfl | exact .inr rfl) :
  XS X (.Assign [.Name x p4] (.Call (.Attribute (.Name y p1) "pop" p2) [] [] p3) pos) (HM.Zul i j):=by
 intro r o h;unfold HM.Zul at h;split at h
 ·rename_i ds hds
  split at h
  ·rename_i d hd'
   cases h;refine PS.imp (Zoo hN hNi hx (Zw0 ZAz PySem.F.slot_list_pop PySem.F.type_list_pop ZwY (Zb8 hNj hv hd hcd) hbase hline) hs hf) λE σ H ⟨F0,H0,F,at_,k⟩=>?_;obtain⟨l,vs,e1,e2,e3,e4⟩:=at_.chgList (es:=ds.dropLast) hds;obtain⟨v,q1,q2⟩:=e3.get hd';refine⟨.ref l,e1,.inl ⟨rfl,_,SqL.of e2⟩,l,vs,v,rfl,rfl,e2,by rw[<-e3.1]; exact q1,k _ F _ ((e4 _ ?_).set q2)⟩;rw[ZDj,ZDj,<-e3.1];exact e3.take _
  ·cases h
 ·cases h
def spF(K:Zys)(n:Nat)(M:List PyData->Option PyData):Sp:=λvs H Q _=>∃F ds ys,vs.length=n/\Zq F H/\Tb H/\NoT F/\Zt K F ds vs/\M ds=some (.list ys)/\∀l us F' H',Ext F H F' H'->H' l=some (.lst us)->Zt K F' ys us->F' l=none->H l=none->Q (.ref l) H'
structure Zee(P:Program)(w:World)(K:Zys)(mg:Str->Option Value)(base:Heap)(k:Nat)(x:Str)(M:List PyData->Option PyData):Prop where
 ex:∃f fd ps,(∀ds d,M ds=some d->ds.length=ps.length)/\Zdt P w K mg base CX0 k f fd ps (spF K ps.length M)/\mg x=some (.ref f)/\ZzQ K (.ref f)=true/\Binds K fd ps []
theorem Zee.mono{P:Program}{w:World}{K:Zys}{mg:Str->Option Value}{base:Heap}{j k:Nat}{x:Str}{M:List PyData->Option PyData}(C:Zee P w K mg base j x M)(h:j<=k):Zee P w K mg base k x M:=by obtain⟨f,fd,ps,l,F,r⟩:=C.ex;exact⟨f,fd,ps,l,F.mono h,r⟩
theorem Zs8{k:Nat}{x:Str}{g:HM.AF}{M:List PyData->Option PyData}(C:Zee X.prog X.w X.K X.mg X.base k x M)(hr:Zas k X.A)(ha:XA X (e::es) g)(hg:Gl X x:=by rfl)(hdb:(x==("__debug__":Str))=false:=by decide)
  (he:ZyF (e::es) X.env=(false,eval e X.env)::ZyF es X.env:=by rfl) (hpl:(backTo pos (ZyF es X.env)).any (·.1)=false:=by rfl):XF X (.Call (.Name x p) (e::es) [] pos) (HM.Zjo M g):=by
 intro r d hd;unfold HM.Zjo at hd;split at hd
 ·rename_i ds hds
  split at hd
  ·rename_i ys hM
   cases hd;obtain⟨fa,fd,ps,hl,F,hm,hk,hb⟩:=C.ex;refine PE.imp (ZjA (E:=E0) F hr hg hm hk hb .nil Znd (ha.pa r ds hds) hdb he hpl) λσ H Q ⟨F0,H0,F1,at_,k⟩=>?_;refine⟨F0,H0,F1,at_,λvs F' H' x q=>?_⟩;show spF X.K ps.length M (vs++[]) H' Q E0;rw[Zy7];refine⟨F',ds,ys,by rw[<-q.1]; exact hl ds _ hM,x.sub,at_.tbx x,at_.ntx x,q,hM,λl us F2 H2 x2 h1 h2 h3 h4=>k _ F2 H2 (x.trans x2) ⟨[l],.ol h1 h2,by simp,λa ha=>?_⟩⟩;obtain rfl:a=l:=by simpa using ha
   exact⟨h3,x.hh.free h4⟩
  ·cases hd
 ·cases hd
theorem ZqS{P:Program}{w:World}{K:Zys}{mg:Str->Option Value}{base:Heap}{k:Nat}{x qual:Str}{st:Stmt}{f:Addr}{fd:FuncData}{N ps:List Str}{e:Expr}{g:HM.BF}{p1:Pos}(Fn:Fun K x qual st f fd)(S:Zw N ps (Ze st))(hm:mg x=some (.ref f))(hb:Binds K fd ps [])
  (hst:ZaT st=[.Return (some e) p1]) (hol:∀r b,g r=some b->∃ys,b=.ol ys)
  (body:∀(cdv:Value) (A:Around) (outer:List Env) (s:Shared) (H:Hp) (E:XK),Zas k (A.deeper (envOfC qual (Ze st) s.heap.objs.size f cdv))->XF (ZgA CX0 P w K mg base N qual (Ze st) f cdv A outer s H E).nox e g) :
  Zee P w K mg base (k+1) x (HM.fnOf ps.length N.length (HM.ZG (HM.eOf g))):=by
 have hpl:ps.length<=N.length:=by have:=congrArg Zzf S.pre; rw[ZzO]at this; omega
 refine⟨f,fd,ps,λds d h=>?_,Fn.ok S (λvs H Q E h=>?_) (λcdv A outer s H vs Q E hr h=>?_),hm,Fn.kp,hb⟩
 ·unfold HM.fnOf at h
  split at h
  ·assumption
  ·cases h
 ·obtain⟨_,_,_,h,_⟩:=h
  exact h
 ·obtain⟨F,ds,ys,hl,sub,tb,nt,q,hM,kk⟩:=h
  unfold HM.fnOf at hM;split at hM
  ·rename_i hds
   have a0:=Zgq (N:=N) sub tb nt q (by omega);have hg:g (HM.ZeI N.length ds)=some (.ol ys):=by
    split at hM
    ·rename_i r hr'
     cases hq:HM.eOf g (HM.ZeI N.length ds)with
     | none=>unfold HM.ZG at hr'; rw[hq]at hr'; cases hr'
     | some d=>unfold HM.ZG at hr'; rw[hq]at hr'; cases hr'
    ·rename_i d' hr'
     cases hM;obtain⟨d,h1,h2⟩:=Zyu.mp hr';cases h2;obtain⟨b,h3,h4⟩:=ZBI.mp h1;obtain⟨zs,rfl⟩:=hol _ _ h3;cases h4;exact h3
    ·cases hM
   rw[hst];refine⟨_,Zqj (Zoq (body cdv A outer s H E hr _ _ hg)),F,H,F,a0,λv F' H' x ⟨fp,r1,nd,hn⟩=>?_⟩;cases r1 with
   | @ol l _ us h1 h2=>exact kk l us F' H' x h1 h2 (hn l (by simp)).1 (hn l (by simp)).2
  ·cases hM
theorem Zug(i:HM.IF)(c:HM.TF)(e:HM.EF)(r:HM.Env)(b:HM.B)(h:HM.ZQ i c e r=some b):∃ys,b=.ol ys:=by
 unfold HM.ZQ at h;split at h
 ·split at h
  ·obtain⟨ys,_,h2⟩:=Zyu.mp h
   exact⟨ys,h2.symm⟩
  ·cases h
 ·cases h
end
end HP
namespace HP
open PySem PySem.Spec PyProof.Rows L2
variable[FX]
section
variable{K:Zys}{F H F0 H0 G:Hp}{a b:Addr}{ob u:HO}{vvs:List (List Key × V)}{d:PyData}{v:V}{ds:List PyData}{vs:List V}{r:HM.Env}{σ:L2.St}{i:Nat}{es:List (PyData × PyData)}
theorem Zba(h:b≠a):sw a ob G b=G b:=by unfold sw; rw[if_neg h]
theorem ZfN:sw a ob G a=(G a).map λ_=>ob:=by unfold sw; rw[if_pos rfl]
theorem Zqw(s:Zq F H):Zq (sw a ob F) (sw a ob H):=λb o z=>by
 by_cases hb:b=a
 ·subst hb
  rw[ZfN]at z ⊢;obtain⟨x,h1,h2⟩:=Zyu.mp z;rw[s _ _ h1,<-h2]; rfl
 ·rw[Zba hb]at z ⊢; exact s b o z
theorem Zuu(hG:∀u,G a=some u->u=.dT vvs):sw a (.dT vvs) (sw a ob G)=G:=by
 funext b
 by_cases hb:b=a
 ·subst hb
  rw[ZfN,ZfN];cases h:G b with
  | none=>rfl
  | some u=>rw[hG u h]; rfl
 ·rw[Zba hb,Zba hb]
theorem Dk.nt(h:Dk vvs u):(∀xs,u≠.tup xs)/\(∀xs,u≠.lst xs)/\(∀o xs,u≠.frz o (.lst xs))/\(∀ps,u≠.tbl ps)/\(∀x,u≠.own x):=by rcases h with h | ⟨o,h⟩<;>subst h<;>exact⟨λ_ z=>(by cases z),λ_ z=>(by cases z),λ_ _ z=>(by cases z),λ_ z=>(by cases z),λ_ z=>(by cases z)⟩
theorem Rep.sw(hF:∀u,F a=some u->Dk vvs u)(hob:Dk vvs ob)(r:Rep K F d v):Rep K (HP.sw a ob F) d v:=by
 induction r with
 | non=>exact .non
 | bl b=>exact .bl b
 | int i=>exact .int i
 | str x=>exact .str x
 | fn h=>exact .fn (FX.sw hF hob h)
 | tupk h=>exact .tupk h
 | @tup b ds vs h hl _ ih=>exact .tup (by rw[Zba (λz=>(hF _ (z▸h)).nt.1 _ rfl)]; exact h) hl ih
 | @lst b ds vs h hl _ ih =>
  refine .lst ?_ hl ih;rcases h with h | h
  ·refine .inl ?_
   have hb:b≠a:=λz=>by
    rcases h with h | ⟨o,h⟩
    ·exact(hF _ (z▸h)).nt.2.1 _ rfl
    ·exact(hF _ (z▸h)).nt.2.2.1 _ _ rfl
   unfold Rd;rw[Zba hb];exact h
  ·exact .inr h
 | @dct b es kvs vvs' h he hk _ ih =>
  refine .dct ?_ he hk ih
  by_cases hb:b=a
  ·subst hb
   have:vvs'=vvs/\∃u,F b=some u:=by
    rcases h with h | ⟨o,h⟩
    ·rcases hF _ h with z | ⟨o',z⟩
     ·cases z; exact⟨rfl,_,h⟩
     ·cases z
    ·rcases hF _ h with z | ⟨o',z⟩
     ·cases z
     ·cases z; exact⟨rfl,_,h⟩
   obtain⟨rfl,u,hu⟩:=this;unfold Rd;rw[ZfN,hu];rcases hob with z | ⟨o,z⟩
   ·subst z; exact .inl rfl
   ·subst z; exact .inr ⟨o,rfl⟩
  ·unfold Rd
   rw[Zba hb];exact h
theorem Zt.sw(hF:∀u,F a=some u->Dk vvs u)(hob:Dk vvs ob)(r:Zt K F ds vs):Zt K (HP.sw a ob F) ds vs:=⟨r.1,λi d v h1 h2=>(r.2 i d v h1 h2).sw hF hob⟩
theorem Ext.sw(x:Ext F0 H0 F H)(hH:∀u,H a=some u->Dk vvs u)(hob:Dk vvs ob):Ext (HP.sw a ob F0) (HP.sw a ob H0) (HP.sw a ob F) (HP.sw a ob H) :=
 ⟨Zqw x.ff,x.hh.sw,Zqw x.sub,λb o z=>by
  by_cases hb:b=a
  ·subst hb
   rw[ZfN]at z;obtain⟨u,h1,h2⟩:=Zyu.mp z;rcases x.new b u h1 with q | q | ⟨xs,e,q⟩
   ·exact .inl (by rw[ZfN,q,<-h2]; rfl)
   ·exact .inr (.inl (by rw[ZfN,q]; rfl))
   ·exact absurd e ((hH _ (x.sub _ _ h1)).nt.1 xs)
  ·rw[Zba hb]at z
   rcases x.new b o z with q | q
   ·exact .inl (by rw[Zba hb]; exact q)
   ·refine .inr ?_
    unfold Fre;rw[Zba hb];exact q,λt=>(x.tab (t.unsw hob)).sw hH,λt b o z=>by
  unfold HP.sw at z;split at z
  ·obtain⟨u,_,e⟩:=Zyu.mp z
   subst e; exact hob.ntt
  ·rename_i hb
   refine x.nts (λc u y=>?_) b o z
   by_cases hc:c=a
   ·subst hc; exact(hH _ (x.sub _ _ (x.ff _ _ y))).ntt
   ·exact t c u (by rw[Zba hc]; exact y)⟩
theorem At.sw(e:At K F0 H0 F H r σ)(hFa:F a=some u)(hu:Dk vvs u)(hob:Dk vvs ob)(nh:∀(i:Nat) (es:List (PyData × PyData)),r[i]?≠some (some (HM.B.hd es))):At K (HP.sw a ob F0) (HP.sw a ob H0) (HP.sw a ob F) (HP.sw a ob H) r σ:=by
 obtain⟨fp,e⟩:=e;have hF:∀u,F a=some u->Dk vvs u:=λu' h=>by rw[hFa]at h; cases h; exact hu
 have hH:∀u,H a=some u->Dk vvs u:=λu' h=>by rw[e.sub _ _ hFa]at h; cases h; exact hu
 have own:∀i,∀c∈fp i,c≠a:=λi c hc z=>by rw[<-z,(e.own i c hc).1]at hFa; cases hFa
 refine⟨fp,e.ext.sw hH hob,e.len,λi b h=>?_,e.emp,λi b h=>?_,e.nd,e.dis,e.tb.sw (vvs:=vvs) (λu' z=>by have q:=e.ext.hh.back z (e.sub _ _ hFa) hu.nt.2.2.2.1;rw[q]; exact hu),λb o z=>?_⟩
 rotate_left 2
 ·unfold HP.sw at z
  split at z
  ·obtain⟨u,_,e⟩:=Zyu.mp z
   subst e; exact hob.ntt
  ·exact e.nt b o z
 ·obtain⟨v,h1,h2⟩:=e.at_ i b h
  refine⟨v,h1,?_⟩;have own:=own i;generalize fp i=f at h2 own;cases h2 with
  | pl q=>exact .pl (q.sw hF hob)
  | ol k q=>exact .ol (by rw[Zba (own _ (by simp))]; exact k) (q.sw hF hob)
  | ok k hk q=>exact .ok (by rw[Zba (own _ (by simp))]; exact k) hk (q.sw hF hob)
  | ot k hk q=>exact .ot (by rw[Zba (own _ (by simp))]; exact k) hk (q.sw hF hob)
  | otl k hk hv q=>refine .otl (by rw[Zba (own _ (by simp))]; exact k) hk hv λi ds l h1 h2=>?_;obtain⟨vs,q1,q2⟩:=q i ds l h1 h2;exact⟨vs,by rw[Zba (own l (Zyx _ (ZyW h2)))]; exact q1,q2.sw hF hob⟩
  | hd _ _ _ _=>exact absurd h (nh _ _)
  | hf _=>exact absurd h (nh _ _)
 ·rw[Zba (own i b h),Zba (own i b h)]
  exact e.own i b h
theorem set_same{x:Option V}(h:σ[i]?=some x):σ.set i x=σ:=by obtain⟨h1,h2⟩:=ZyG.mp h;rw[<-h2];exact ZBc h1
theorem At.say{b':HM.B}(e:At K F0 H0 F H r σ)(h1:σ[i]?=some (some v))(q:Zad K F H b' v []):At K F0 H0 F H (r.set i (some b')) σ:=by
 have:=e.store (i:=i) q ZAb (λa h=>by simp at h) λ_ _ _ _ _ _ h=>by simp at h
 rwa [set_same h1]at this
theorem At.loosen(e:At K F0 H0 F H r σ)(h:r[i]?=some (some (.hd es))):At K F0 H0 F H (r.set i (some (.pl (.dict es)))) σ:=by
 obtain⟨v,fp,h1,h2⟩:=e.any h;cases h2 with
 | hd k1 k2 k3 k4=>exact e.say h1 (.pl (.dct (.inr ⟨_,k1⟩) k2 k3 k4.2))
 | hf k1=>exact e.say h1 (.pl (.fn k1))
theorem Zut(h:r.all (λq=>!HM.Zbr q)=true)(i:Nat)(es:List (PyData × PyData)):r[i]?≠some (some (.hd es)):=λz=>by have:=ZyD.mp h _ (ZyW z);cases this
theorem Zsk{b':HM.B}(h:(r.set i none).all (λq=>!HM.Zbr q)=true)(hb:∀es,b'≠.hd es)(j:Nat)(es:List (PyData × PyData)):(r.set i (some b'))[j]?≠some (some (.hd es)):=λz=>by
 by_cases hj:i=j
 ·subst hj
  by_cases hi:i<r.length
  ·rw[Zzk hi]at z
   injection z with z
   injection z with z
   exact hb _ z
  ·rw[ZDe (by rw[ZzG]; omega)]at z
   cases z
 ·rw[Zy0 hj]at z
  exact Zut h j es (by rw[Zy0 hj]; exact z)
end
section
variable{X:Cx}{pins:List (Addr × Obj)}{σ:L2.St}{H:Hp}{s:Shared}{a:Addr}{u ob:HO}{vvs:List (List Key × V)}
theorem Znf{h:Heap}{o:HO}{b:Addr}(ha:H a=some u)(hu:Dk vvs u)(x:Zab X.prog X.w H h b o):Zab X.prog X.w (sw a ob H) h b o :=
 x.stay (λ_ _ _ q=>q) (λc q=>by rw[Zba (λz=>by rw[z,ha]at q; cases q; exact hu.nt.2.2.2.2 _ rfl)]; exact q) λc xs q=>by rw[Zba (λz=>by rw[z,ha]at q; cases q; exact hu.nt.1 _ rfl)]; exact q
theorem Zn8(I:Inv X pins σ H s)(ha:H a=some u)(hu:Dk vvs u)(ok:Zab X.prog X.w (sw a ob H) s.heap a ob)(hn:∀o w,X.H₀ a≠some (.frz o w)):Inv X pins σ (HP.sw a ob H) s:=by
 have none':∀b,H b=none->HP.sw a ob H b=none:=λb h=>by rw[Zba (λz=>by rw[z,ha]at h; cases h)]; exact h
 refine⟨I.ok,I.os,I.bare,⟨I.base.keep,I.base.slot,λb o h1 h2 h3=>none' b (I.base.free b o h1 h2 h3),I.base.there,λb xs h=>?_,λb o w h=>?_,λb ps h=>?_⟩,I.loc,I.cell,none' _ I.free,λx c h=>none' _ (I.freeC x c h),λp hp=>?_,λb o h=>?_,I.len⟩
 ·have q:=I.base.tups b xs h
  rw[Zba (λz=>by rw[z,ha]at q; cases q; exact hu.nt.1 _ rfl)];exact q
 ·have q:=I.base.frzs b o w h
  rw[Zba (λz=>hn o w (by rw[<-z]; exact h))];exact q
 ·obtain⟨m,q⟩:=I.base.tbls b ps h
  exact⟨m,by rw[Zba (λz=>by rw[z,ha]at q; cases q; exact hu.nt.2.2.2.1 _ rfl)]; exact q⟩
 ·have q:=I.pin p hp
  exact⟨q.1,none' _ q.2.1,q.2.2⟩
 ·by_cases hb:b=a
  ·subst hb
   rw[ZfN,ha]at h;cases h;exact ok
  ·rw[Zba hb]at h
   exact Znf ha hu (I.hok b o h)
theorem Zjq(i:Nat){st:Stmt}{g:HM.SF}(h:XS X st g):XS X st (HM.Ze4 i g):=by
 intro r o ho;unfold HM.Ze4 at ho;split at ho
 case h_2=>exact h r o ho
 rename_i es hr;split at ho
 case isFalse=>cases ho
 rename_i hall;have nh:=Zut hall;intro pins s σ H E I ⟨F0,H0,F,at_,k⟩;obtain⟨v,h1,h2⟩:=at_.plain hr;cases h2 with
 | @dct a _ kvs vvs hd he hk hrr =>
  have rs:∀{F':Hp},Zq F F'->Zt X.K F' (kvs.map (·.2)) (vvs.map (·.2)):=λs=>by refine Zt.mono ⟨?_,hrr⟩ s;have:=congrArg Zzf hk;rw[Zyt,Zyt]at this ⊢;exact this
  rcases hd with hd | ⟨q,hd⟩
  ·have hHa:=at_.sub _ _ hd
   obtain⟨z,y,xs,rl,q,es1,ep,e1,c1⟩:=(show Zab X.prog X.w H s.heap a (.dT vvs) from I.hok a _ hHa);have hn:∀o w,X.H₀ a≠some (.frz o w):=λo w z=>by have:=I.base.frzs _ _ _ z;rw[hHa]at this; cases this
   have I1:=Zn8 (ob:=.frz q (.dT vvs)) I hHa (.inl rfl) ⟨e1,Znf hHa (.inl rfl) ⟨z,y,xs,rl,q,es1,ep,e1,c1⟩⟩ hn;have at1:=at_.sw (ob:=.frz q (.dT vvs)) hd (.inl rfl) (.inr ⟨q,rfl⟩) nh;have Ra:HP.sw a (.frz q (.dT vvs)) F a=some (.frz q (.dT vvs)):=by rw[ZfN,hd]; rfl
   have hFd:∀u,F a=some u->Dk vvs u:=λu z=>by rw[hd]at z; cases z; exact .inl rfl
   have at2:=(at1.say (i:=i) h1 (.hd Ra he hk (Zt.sw hFd (.inr ⟨q,rfl⟩) (rs (Zq.refl F))))).rebase;have e0:HP.sw a (.dT vvs) (HP.sw a (.frz q (.dT vvs)) F0)=F0:=Zuu λu z=>by have:=at_.ext.ff _ _ z;rw[hd]at this; cases this; rfl
   have e1:HP.sw a (.dT vvs) (HP.sw a (.frz q (.dT vvs)) H0)=H0:=Zuu λu z=>by exact at_.ext.hh.back z hHa λ_ w=>by cases w
   split at ho
   ·rename_i r' hg
    split at ho
    case h_2=>cases ho
    rename_i es' hr';split at ho
    case isFalse=>cases ho
    rename_i hall';cases ho;refine thn (h _ _ hg pins s σ _ { nx:=λσ' H'=>∃F',At X.K (HP.sw a (.frz q (.dT vvs)) F) (HP.sw a (.frz q (.dT vvs)) H0) F' H' r' σ',rt:=λ_ _=>False,bk:=λ_ _=>False,ct:=λ_ _=>False } I1 ⟨_,_,_,at2,λσ' F' H' a'=>⟨F',a'⟩⟩) λfl s' z=>?_;cases fl with
    | next=>obtain⟨σ',H',I',F',a'⟩:=z;have Fa:=a'.ext.ff _ _ Ra;have Ha:=a'.sub _ _ Fa;have a3:=((At.unbase at1.ext (at1.nt0) a').loosen hr').sw (ob:=.dT vvs) Fa (.inr ⟨q,rfl⟩) (.inl rfl) (Zsk hall' λ_ z=>by cases z);rw[e0,e1]at a3;exact⟨σ',_,Zn8 I' Ha (.inr ⟨q,rfl⟩) (Znf Ha (.inr ⟨q,rfl⟩) (Zlc I'.hok (.inr ⟨q,Ha⟩))) hn,k σ' _ _ a3⟩
    | brk=>obtain⟨_,_,_,z⟩:=z; exact z.elim
    | cont=>obtain⟨_,_,_,z⟩:=z; exact z.elim
    | ret u=>obtain⟨_,_,_,_,_,z⟩:=z; exact z.elim
   ·rename_i d hg
    cases ho;refine thn (h _ _ hg pins s σ _ { nx:=λ_ _=>False,bk:=λ_ _=>False,ct:=λ_ _=>False,rt:=λv' H'=>∃F',Ext (HP.sw a (.frz q (.dT vvs)) F) (HP.sw a (.frz q (.dT vvs)) H0) F' H'/\Rep X.K F' d v' } I1 ⟨_,_,_,at2,λv' F' H' x q=>⟨F',x,q⟩⟩) λfl s' z=>?_;cases fl with
    | ret u=>obtain⟨v',σ',H',I',rv,F',x',r'⟩:=z;have Fa:=x'.ff _ _ Ra;have Ha:=x'.sub _ _ Fa;have x3:=(Ext.unbase at1.ext x').sw (a:=a) (vvs:=vvs) (ob:=.dT vvs) (λu z=>by rw[Ha]at z; cases z; exact .inr ⟨q,rfl⟩) (.inl rfl);rw[e0,e1]at x3;exact⟨v',σ',_,Zn8 I' Ha (.inr ⟨q,rfl⟩) (Znf Ha (.inr ⟨q,rfl⟩) (Zlc I'.hok (.inr ⟨q,Ha⟩))) hn,rv,k v' _ _ x3 (r'.sw (λu z=>by rw[Fa]at z; cases z; exact .inr ⟨q,rfl⟩) (.inl rfl))⟩
    | next=>obtain⟨_,_,_,z⟩:=z; exact z.elim
    | brk=>obtain⟨_,_,_,z⟩:=z; exact z.elim
    | cont=>obtain⟨_,_,_,z⟩:=z; exact z.elim
   ·cases ho
  ·have at2:=at_.say (i:=i) h1 (.hd hd he hk (rs (Zq.refl F)))
   split at ho
   ·rename_i r' hg
    split at ho
    case h_2=>cases ho
    rename_i es' hr';split at ho
    case isFalse=>cases ho
    cases ho;exact h _ _ hg pins s σ H E I ⟨F0,H0,F,at2,λσ' F' H' a'=>k σ' F' H' (a'.loosen hr')⟩
   ·rename_i d hg
    cases ho;exact h _ _ hg pins s σ H E I ⟨F0,H0,F,at2,k⟩
   ·cases ho
 | fn hv =>
  have at2:=at_.say (i:=i) h1 (.hf hv);split at ho
  ·rename_i r' hg
   split at ho
   case h_2=>cases ho
   rename_i es' hr';split at ho
   case isFalse=>cases ho
   cases ho;exact h _ _ hg pins s σ H E I ⟨F0,H0,F,at2,λσ' F' H' a'=>k σ' F' H' (a'.loosen hr')⟩
  ·rename_i d hg
   cases ho;exact h _ _ hg pins s σ H E I ⟨F0,H0,F,at2,k⟩
  ·cases ho
def Itd(a:Addr)(o:Obj):It :=
 ⟨λi H=>∃vvs q,H a=some (.frz o (.dT vvs))/\vvs[i]?=some q,λi H x H'=>H'=H/\∀vvs,H a=some (.frz o (.dT vvs))->∃q b,vvs[i]?=some q/\x=.ref b/\H b=some (.tup (q.1.map kV)),λi H=>∃vvs,H a=some (.frz o (.dT vvs))/\vvs.length<=i⟩
theorem Zq1{α β:Type}{R:α->β->Prop}{l:List α}{m:List β}(r:Paired R l m):∀{i:Nat} {x:α},l[i]?=some x->∃y,m[i]?=some y/\R x y:=by
 induction r with
 | nil=>intro i x e; simp at e
 | @cons p q _ _ hq _ ih =>
  intro i x e;cases i with
  | zero=>rw[ZA4]at e; cases e; exact⟨q,rfl,hq⟩
  | succ i=>rw[Zza]at e ⊢; exact ih e
theorem ZsI{P:Program}{w:World}{K:Zys}{tg:Expr}(a it:Addr)(o:Obj)(es:Array DictEntry)(ep:Nat)(hd:o.data=.dict es ep):Turn P w K tg (Itd a o) [it] it (λi h=>h.IsKeyIter it a i es.size ep) where
 mem:=by simp
 obj:=λi h st b hb=>by
  have e:b=it:=by simpa using hb
  subst e;obtain⟨o,e,c,d⟩:=st;exact⟨o,e,λv z=>by rw[d]at z; cases z⟩
 keep:=λi h h' st k=>st.at λo e=>k it (by simp) o e
 item:=by
  intro X hP hw hK hc i pins s σ H E I hf st hg;subst hP hw hK;obtain⟨vvs,q,hH,hq⟩:=hg;obtain⟨h1,z,lo,xs,rel,o2,es2,ep2,h2,h3,h4,h5,h6⟩:=(show Zab X.prog X.w H s.heap a (.frz o (.dT vvs)) from I.hok a _ hH);rw[h1]at h2;cases h2;rw[hd]at h4;cases h4;obtain⟨f0,f1,f2,f3,f4,f5⟩:=hf it (by simp);obtain⟨p,hp,hr1,hr2,_⟩:=Zq1 rel hq;have he:es[i]?=some (entryOfKey (ZBg (Zah X.prog X.w)) p):=by rw[<-Zzl,h5,ZyU,hp]; rfl
  refine Zod st ⟨o,h1,h3,hd⟩ he λh' st' sb=>?_;have I1:Inv X pins σ H { s with heap:=h' }:=I.turned (t':=s.toks) (λb o hb e=>(sb.2 b hb).trans e) f0 f1 f3 f4 f5;obtain⟨oi,e,c,d⟩:=id st';refine⟨_,rfl,Zng (s:={ s with heap:=h' }) e c d (by decide) ⟨.ref p.2.1,H,I1,rfl,⟨rfl,λvv hv=>?_⟩,st',λb hb=>(hf b hb).1⟩⟩;rw[hH]at hv;cases hv;exact⟨q,p.2.1,hq,rfl,hr2⟩
 done:=by
  intro X hP hw hK hc i pins s σ H E I hf st hg;subst hP hw hK;obtain⟨vvs,hH,hq⟩:=hg;obtain⟨h1,z,lo,xs,rel,o2,es2,ep2,h2,h3,h4,h5,h6⟩:=(show Zab X.prog X.w H s.heap a (.frz o (.dT vvs)) from I.hok a _ hH);rw[h1]at h2;cases h2;rw[hd]at h4;cases h4;obtain⟨f0,f1,f2,f3,f4,f5⟩:=hf it (by simp);have hl:vvs.length=xs.length:=ZA7 rel;have hes:es.size=xs.length:=by rw[<-ZyT,h5,Zyt]
  exact Zqq (I.ok.hd hc) st ⟨o,h1,h3,hd⟩ (by omega) λh' eb=>⟨rfl,I.turned (t':=s.toks) (λb o hb e=>eb b o hb e) f0 f1 f3 f4 f5⟩
 self:=λ_ _ _ _ _ st h=>wpAny_pyIter_keyiter st h
theorem Zvt{tg l:Expr}{tl:TE}(hl:PE X l tl):PI X tg l (λσ H R=>tl σ H λx H1=>∃a o vvs,x=.ref a/\H1 a=some (.frz o (.dT vvs))/\R (Itd a o) H1):=by
 intro pins s σ H R I h;refine thn (hl pins s σ H _ I h) λv s1 ⟨x,H1,I1,r1,a,o,vvs,e,hH,q⟩=>?_;subst e;cases r1;obtain⟨h1,z,lo,xs,rel,o2,es,ep,h2,h3,h4,h5,h6⟩:=(show Zab X.prog X.w H1 s1.heap a (.frz o (.dT vvs)) from I1.hok a _ hH);rw[h1]at h2;cases h2;refine Zom lo ⟨o,h1,h3,h4⟩ ⟨s1.heap.objs.size,[s1.heap.objs.size],_,_,H1,rfl,I1.kept (t':=s1.toks) λb o e=>Zyy _ e,ZsI a _ o es ep h4,⟨_,ZyO _ rfl,rfl,rfl⟩,λb hb=>?_,q⟩;obtain rfl:b=s1.heap.objs.size:=by simpa using hb
 exact I1.fpOk (ZyB _) (I1.hok.fresh (ZyB _))
theorem ZtY{K:Zys}{F:Hp}{a:Addr}{o:Obj}{kvs:List (List Key × PyData)}{vvs:List (List Key × V)}(h:F a=some (.frz o (.dT vvs)))(hk:kvs.map (·.1)=vvs.map (·.1)):ItD K (Itd a o) (kvs.map λp=>.tuple (p.1.map HM.ZaH)) F:=by
 intro F' H s1 s2;have hH:=s2 _ _ (s1 _ _ h);have hl:kvs.length=vvs.length:=by
  have:=congrArg Zzf hk
  rwa [Zyt,Zyt]at this
 refine⟨λi d hd=>?_,vvs,hH,by rw[Zyt,hl]; exact ZyB _⟩;rw[ZyU]at hd;obtain⟨q,hq,hd⟩:=Zyu.mp hd;subst hd;have hi:i<vvs.length:=by rw[<-hl]; exact(ZyG.mp hq).1
 have hw:vvs[i]?=some vvs[i]:=ZyH hi;have hw1:vvs[i].1=q.1:=by
  have:(kvs.map (·.1))[i]?=(vvs.map (·.1))[i]?:=by rw[hk]
  rw[ZyU,ZyU,hq,hw]at this;exact(Zzp this).symm
 refine⟨⟨vvs,_,hH,hw⟩,λx H' hy=>?_⟩;obtain⟨e,y⟩:=hy;refine⟨e,?_⟩;obtain⟨q',b,e1,e2,e3⟩:=y vvs hH;rw[hw]at e1;cases e1;subst e2;rw[hw1]at e3;have rk:=ZgN (K:=K) (F:=ZcR F' H) q.1;exact .tup (Zpb e3) rk.1 rk.2
theorem Zjr(i:Nat){tg:Expr}{x:Str}{pos:Pos}(hN:X.N[i]?=some x:=by rfl)(hv:Vis X.env.scope x:=by first | exact Zzo rfl | exact Zy5 (Zzo rfl) | exact Zy5 (Zy5 rfl))(hd:(x==("__debug__":Str))=false:=by decide)
  (hcd:(x==("__classdict__":Str))=false:=by decide):XI X tg (.Name x pos) (HM.Zbb i):=by
 intro r ds h;have row:∀{d:PyData},r[i]?=some (some (.pl d))->HM.Zbc (.pl d)=some ds->HM.Zaf (HM.bOf (HM.Zb i)) r=some ds:=λ{d} h1 h2=>by
  have e:HM.Zb i r=some d:=by unfold HM.Zb; rw[h1]
  unfold HM.Zaf HM.bOf;rw[e];exact h2
 unfold HM.Zbb at h;split at h
 ·rename_i q; exact ZU (Za i hN hv hd hcd) r ds (row q h)
 ·rename_i q; exact ZU (Za i hN hv hd hcd) r ds (row q h)
 ·rename_i es q
  obtain⟨kvs,h1,h2⟩:=Zyu.mp h;subst h2;refine PI.imp (Zvt (Zb8 hN hv hd hcd)) λσ H R ⟨F0,H0,F,at_,k⟩=>?_;obtain⟨v,fp,g1,g2⟩:=at_.any q;cases g2 with
  | @hd a o _ kvs' vvs k1 k2 k3 k4=>subst k2;rw[HM.dec_enc]at h1;cases h1;exact⟨.ref a,g1,a,o,vvs,rfl,at_.sub _ _ k1,k _ F H at_.refl (ZtY k1 k3)⟩
  | hf _=>cases h1
 ·cases h
end
end HP
namespace HP
open PySem PySem.Spec PyProof.Rows L2
variable[FX]
section
variable{X:Cx}{a b c e:Expr}{fa fb fc:HM.EF}{f:HM.BF}{pos p:Pos}
theorem ZlR{K:Zys}{F:Hp}{ds:List PyData}{v:V}(r:Rep K F (.tuple ds) v):∃l vs,v=.ref l/\SqT K F l vs/\Zt K F ds vs:=by
 cases r with
 | tup h1 h2 h3=>exact⟨_,_,rfl,.of h1,h2,h3⟩
 | @tupk a x h1=>exact⟨_,_,rfl,.inr h1,.one (.str x)⟩
theorem ZpY{lo hi:Option Expr}{fl fh:Option HM.EF}{p2:Pos}(ha:XE X a fa)(hl:XO X lo fl)(hh:XO X hi fh):XE X (.Subscript a (.Slice lo hi none p2) pos) (HM.ZgS fa fl fh):=by
 intro r d h;unfold HM.ZgS at h;split at h
 ·rename_i xs hx
  split at h
  ·rename_i l hl'
   split at h
   ·rename_i u hu'
    split at h
    ·cases h
    ·rename_i hno
     cases h;refine PE.imp (Zo8 ZwX (ha r _ hx) (hl r _ hl') (hh r _ hu')) λσ H Q ⟨F0,H0,F,at_,k⟩=>?_;refine⟨F0,H0,F,at_,λv F1 H1 x1 r1=>⟨F0,H0,F1,at_.grow x1,λF2 H2 x2=>⟨F0,H0,F2,(at_.grow x1).grow x2,λF3 H3 x3=>?_⟩⟩⟩;have x23:=x2.trans x3;obtain⟨l',vs,e1,hq,rs⟩:=ZlR (r1.mono x23.ff);refine⟨l',vs,e1,Zio hq x3.sub,by rw[<-rs.1]; exact hno,λl2 hl2=>?_⟩;have rc:Zt X.K F3 (HM.cutD xs l u) (Zhd vs l u):=by unfold HM.cutD Zhd;rw[<-rs.1];exact(rs.drop _).take _
     exact k _ (upd F3 l2 (.tup (Zhd vs l u))) _ ((x1.trans x23).lay hl2) (.tup ZC rc.1 (rc.mono (Zq.upd' (x3.sub.free hl2))).2)
   ·cases h
  ·cases h
 ·cases h
theorem ZpZ(ha:XE X a fa)(hb:XE X b fb):XE X (.BinOp a .Add b pos) (HM.ZgL fa fb):=by
 intro r d h;unfold HM.ZgL at h;split at h
 ·rename_i xs hx
  split at h
  ·rename_i ys hy
   split at h
   ·cases h
   ·rename_i hno
    cases h;rw[Bool.not_eq_true,Bool.or_eq_false_iff,Bool.or_eq_false_iff]at hno;obtain⟨⟨n1,n2⟩,n3⟩:=hno;refine PE.imp (Znb ZuZ (ha r _ hx) (hb r _ hy)) λσ H Q ⟨F0,H0,F,at_,k⟩=>?_;refine⟨F0,H0,F,at_,λv F1 H1 x1 r1=>⟨F0,H0,F1,at_.grow x1,λw F2 H2 x2 r2=>?_⟩⟩;obtain⟨l,vs,e1,h1,s1⟩:=ZlR (r1.mono x2.ff);obtain⟨l',us,e2,h2,s2⟩:=ZlR r2;subst e1 e2;have e3:=s1.1;have e4:=s2.1;have hnv:vs≠[]:=λz=>by rw[z]at e3;rw[Zz3 e3]at n1;cases n1
    have hnu:us≠[]:=λz=>by rw[z]at e4;rw[Zz3 e4]at n2;cases n2
    have hz:xs.length+ys.length<1000000:=by have:¬HM.big<=xs.length+ys.length:=of_decide_eq_false n3;unfold HM.big at this;omega
    have e5:(1000000:Nat)<=sizeLine:=by decide
    refine⟨l,l',vs,us,rfl,rfl,Zio h1 x2.sub,Zio h2 x2.sub,hnv,by omega,λz=>absurd z hnu,λ_ p hp=>?_⟩;have rc:=s1.append s2;exact k _ (upd F2 p (.tup (vs++us))) _ ((x1.trans x2).lay hp) (.tup ZC rc.1 (rc.mono (Zq.upd' (x2.sub.free hp))).2)
  ·cases h
 ·cases h
theorem Zs9{apos:Pos}(hu:X.A.units+1<cLine)(ha:XB X a f)(hk:XE X b fb)(m:M1 X a "get" apos b pos):XE X (.Call (.Attribute a "get" apos) [b] [] pos) (HM.Zhw f fb):=by
 intro r d h;unfold HM.Zhw at h;split at h
 ·rename_i q hq
  split at h
  ·rename_i kvs hd
   split at h
   ·rename_i x hx
    split at h
    ·rename_i y hy
     cases h;refine PE.imp (ZtJ hu (ha r q hq) (hk r x hx) m) λσ H Q ⟨F0,H0,F,at_,kk⟩=>?_;refine⟨F0,H0,F,at_,λv F1 H1 x1 ⟨fp,r1⟩=>?_⟩;obtain⟨l,vvs,e1,e2,T⟩:=Zgr x1.sub r1 hd;refine⟨l,e1,.inr ⟨vvs,e2⟩,F0,H0,F1,at_.grow x1,λw F2 H2 x2 r2=>?_⟩;have e3:=rdT e2 x2.hh;have T':ZaF X.K F2 kvs vvs:=⟨T.1,T.2.mono x2.ff⟩;obtain⟨bb,rfl,hbb⟩:=ZbA hy r2;refine⟨_,ZkO e3 (x2.sub _ _ hbb),kk _ F2 H2 (x1.trans x2) ?_⟩;obtain⟨t1,t2⟩:=T'.look (k:=y);cases hl:HM.Zh kvs y with
     | none=>rw[t2 hl]; exact .non
     | some dd=>obtain⟨u,q1,q2⟩:=t1 dd hl; rw[q1]; exact q2
    ·cases h
   ·cases h
  ·cases h
 ·cases h
end
end HP
namespace HP
open PySem PySem.Spec PyProof.Rows L2
variable[FX]
end HP
namespace HP
open PySem
abbrev mdA(I S:Addr)(dv:Value):Args:=⟨[.ref I,.none,.ref S],[(ZAI "default",dv)]⟩
theorem ZjG:(toString "min" ++ toString ".loop":String) = "min.loop":=by decide
theorem Zvf(a dv:Value):argsOk "min" ⟨[a],[(ZAI "default",dv)]⟩:=by unfold argsOk; kernel_rfl
section
variable{prog:Program}{w:World}{A:Around}{R:Result->Shared->Prop}{I:Addr}{fp wr:List Addr}{n:Nat}{P:Nat->Value->Prop}{St:Nat->Heap->Prop}
theorem ZuL(W:Walks prog w A.in1 I fp wr n P St)(bt:Nat->Nat->Bool)(hc:CmpOf prog w A.in1 .Lt P bt){S:Addr}(hf:S ∉ fp)(dv:Value):∀(k j:Nat) (s:Shared) (b:Value) (ep:Nat),n=j+1+k->St (j+1) s.heap->P (argBest bt j) b ->
  s.heap.get? S=some { cls:=.type "list",dict:=none,data:=.seq #[b,b] ep,slots:=#[] } ->
  (∀v h' tk,P (argBest bt (n-1)) v->(∀x o,x ∉ wr->x≠S->s.heap.get? x=some o->h'.get? x=some o)->R (.ok (.ret v)) { s with heap:=h',toks:=tk }) ->
  codeAny (model prog w) A (.builtin "min.loop" (mdA I S dv)) R s:=by
 have hw:S ∉ wr:=λh=>hf (W.sub _ h);intro k
 induction k with
 | zero =>
  intro j s b ep hn st pb gS out;have hn:n=j+1:=by omega
  subst hn;refine ZzN ZBS ?_;rw[Zzx ZzT _];show wpAny _ A.in1 (seqItems? (.ref S) >>= _) _ _ s;refine Zyr (wpAny_seqItems gS rfl ?_);show wpAny _ A.in1 (tryCatch (pyNext (.ref I)) _ >>= _) _ _ s;refine Zyr (ZBG (W.done s _ _ st λh1 tk keep=>?_));have gS1:=keep S _ hw gS;show wpAny _ A.in1 (updateSeq S (λ_=>#[]) >>= _) _ _ _;exact Zyr (ZC4 gS1 rfl (Zyr (ZDa (Zyv (out b _ tk pb λx o hx hS e=>(ZzR _ _ (Zzu hS)).trans (keep x o hx e))))))
 | succ k ih =>
  intro j s b ep hn st pb gS out;refine ZzN ZBS ?_;rw[Zzx ZzT _];show wpAny _ A.in1 (seqItems? (.ref S) >>= _) _ _ s;refine Zyr (wpAny_seqItems gS rfl ?_);show wpAny _ A.in1 (tryCatch (pyNext (.ref I)) _ >>= _) _ _ s;refine Zyr (ZBG (W.item (j+1) s _ _ (by omega) st λv h1 tk pv st1 keep=>?_));have gS1:=keep S _ hw gS;show wpAny _ A.in1 (tryCatch (holding [v,v] (richCompare .Lt v b >>= _)) _ >>= _) _ _ _;refine Zyr (ZBG (Zzz (Zyr (hc (j+1) (argBest bt j) v b _ _ _ pv pb (Zyr (Zzz (ZAv (Zyr (ZDa (Zyv ?_))))))))));have best:argBest bt (j+1)=if bt (j+1) (argBest bt j)then j+1 else argBest bt j:=rfl
  cases hb:bt (j+1) (argBest bt j)with
  | true =>
   rw[hb,if_pos rfl]at best;simp only[if_true];refine Zyr (ZC4 gS1 rfl (Zyr (ZDa ?_)));rw[ZjG];refine Zyv ⟨ZAN ZzT _,ih (j+1) _ v _ (by omega) (W.frame _ _ _ st1 λx hx o e=>?_) (by rw[best]; exact pv) (ZzD _ gS1 rfl) λv' h2 tk2 p' keep2=>?_⟩
   ·exact(ZzR _ _ (λz:S=x=>hf (by rw[z]; exact hx))).trans e
   ·exact out v' h2 tk2 p' λx o hx hS e=>keep2 x o hx hS ((ZzR _ _ (Zzu hS)).trans (keep x o hx e))
  | false=>rw[hb,if_neg (by simp)]at best;simp only[ZAo,if_false];refine Zyr (ZDa ?_);rw[ZjG];exact Zyv ⟨ZAN ZzT _,ih (j+1) _ b ep (by omega) st1 (by rw[best]; exact pb) gS1 λv' h2 tk2 p' keep2=>out v' h2 tk2 p' λx o hx hS e=>keep2 x o hx hS (keep x o hx e)⟩
theorem ZtI(W:Walks prog w A.in1 I fp wr n P St)(bt:Nat->Nat->Bool)(hc:CmpOf prog w A.in1 .Lt P bt){S:Addr}(hf:S ∉ fp)(dv:Value){s:Shared}{ep:Nat}(st:St 0 s.heap)
  (gS:s.heap.get? S=some { cls:=.type "list",dict:=none,data:=.seq #[] ep,slots:=#[] })
  (o0:n=0->∀h' tk,(∀x o,x ∉ wr->x≠S->s.heap.get? x=some o->h'.get? x=some o)->R (.ok (.ret dv)) { s with heap:=h',toks:=tk })
  (o1:0<n->∀v h' tk,P (argBest bt (n-1)) v->(∀x o,x ∉ wr->x≠S->s.heap.get? x=some o->h'.get? x=some o)->R (.ok (.ret v)) { s with heap:=h',toks:=tk }) :
  codeAny (model prog w) A (.builtin "min.loop" (mdA I S dv)) R s:=by
 have hw:S ∉ wr:=λh=>hf (W.sub _ h);refine ZzN ZBS ?_;rw[Zzx ZzT _];show wpAny _ A.in1 (seqItems? (.ref S) >>= _) _ _ s;refine Zyr (wpAny_seqItems gS rfl ?_);show wpAny _ A.in1 (tryCatch (pyNext (.ref I)) _ >>= _) _ _ s
 by_cases h0:n=0
 ·subst h0
  refine Zyr (ZBG (W.done s _ _ st λh1 tk keep=>?_));show wpAny _ A.in1 (rule _ >>= _) _ _ _;exact Zyr (wpAny_rule (Zyv (o0 rfl h1 tk λx o hx _ e=>keep x o hx e)))
 ·refine Zyr (ZBG (W.item 0 s _ _ (by omega) st λv h1 tk pv st1 keep=>?_))
  have gS1:=keep S _ hw gS;show wpAny _ A.in1 (updateSeq S (λ_=>#[v,v]) >>= _) _ _ _;refine Zyr (ZC4 gS1 rfl ?_);rw[ZjG];refine Zyv ⟨ZAN ZzT _,ZuL W bt hc hf dv (n-1) 0 _ v _ (by omega) (W.frame _ _ _ st1 λx hx o e=>?_) pv (ZzD _ gS1 rfl) λv' h2 tk2 p' keep2=>?_⟩
  ·exact(ZzR _ _ (λz:S=x=>hf (by rw[z]; exact hx))).trans e
  ·exact o1 (by omega) v' h2 tk2 p' λx o hx hS e=>keep2 x o hx hS ((ZzR _ _ (Zzu hS)).trans (keep x o hx e))
end
end HP
namespace HP
open PySem PySem.Spec PyProof.Rows L2
variable[FX]
theorem Rep.fn_inv{K:Zys}{F:Hp}{t:Nat}{cs:List PyData}{v:V}(h:Rep K F (HM.fnD t cs) v):∃a,v=.ref a/\FX.fv t cs F a:=by
 cases h with
 | @dct a es kvs vvs h he hk hr =>
  cases kvs with
  | nil=>cases he
  | cons p r =>
   injection he with h1 _
   injection h1 with h2 _
   cases h2
 | fn h=>exact⟨_,rfl,h⟩
theorem ZtE{d:PyData}{t:Nat}{cs:List PyData}(h:HM.ZlY d=some (t,cs)):d=HM.fnD t cs:=by
 unfold HM.ZlY at h;split at h
 ·cases h; rfl
 ·cases h
structure GFn(mg:Str->Option Value)(x:Str)(t:Nat):Prop where
 ex:∃f,mg x=some (.ref f)/\∀F,FX.fv t [] F f
section
variable{X:Cx}{pos p:Pos}{e a b:Expr}{es:List Expr}{f:HM.AF}
theorem ZvD{x:Str}{t:Nat}(h:GFn X.mg x t)(hg:Gl X x:=by rfl)(hd:(x==("__debug__":Str))=false:=by decide):XE X (.Name x pos) (HM.eC (HM.fnD t [])):=by obtain⟨f,hm,hv⟩:=h.ex;exact ZfS (Zqb hg hm (v:=.ref f) rfl hd) λF=>.fn (hv F)
structure Zef(P:Program)(w:World)(K:Zys)(mg:Str->Option Value)(base:Heap)(k:Nat)(ap:HM.AP):Prop where
 fn:∀{t:Nat} {cs:List PyData} {F:Hp} {a:Addr},FX.fv t cs F a->∀{A:Around} {outer:List Env} {s:Shared} {H:Hp},ZeR P w K mg base A outer s H->Zq F H->ZDx a s.heap
 run:∀{t:Nat} {cs:List PyData} {F:Hp} {a:Addr},FX.fv t cs F a->∀{A:Around} {outer:List Env} {s:Shared} {H:Hp},ZeR P w K mg base A outer s H->Zq F H ->
  ∀{us:List Value} {vs:List V} {ds:List PyData} {d:PyData} {Q:VK},Zas k A->Tb H->NoT F->Vals vs us->Zt K F ds vs->ap t cs ds=some d->(∀v F' H',Ext F H F' H'->Rep K F' d v->Q v H') ->
   codeAny (model P w) A (.call (.ref a) ⟨us,[]⟩) (CR CX0 outer P w H s Q E0) s
theorem Zef.mono{P:Program}{w:World}{K:Zys}{mg:Str->Option Value}{base:Heap}{j k:Nat}{ap:HM.AP}(C:Zef P w K mg base j ap)(h:j<=k):Zef P w K mg base k ap :=
 ⟨C.fn,by intro t cs F a q A outer s H e z us vs ds d Q hr; exact C.run q e z (hr.mono h)⟩
theorem Znn{k:Nat}{ap:HM.AP}(C:Zef X.prog X.w X.K X.mg X.base k ap)(hr:Zas k X.A)(i:Nat){x:Str}(ha:XA X (e::es) f)(hN:X.N[i]?=some x:=by rfl)
  (hv:Vis X.env.scope x:=by first | exact Zzo rfl | exact Zy5 (Zzo rfl) | exact Zy5 (Zy5 rfl)) (hd:(x==("__debug__":Str))=false:=by decide) (hcd:(x==("__classdict__":Str))=false:=by decide)
  (he:ZyF (e::es) X.env=(false,eval e X.env)::ZyF es X.env:=by rfl) (hpl:(backTo pos (ZyF es X.env)).any (·.1)=false:=by rfl):XE X (.Call (.Name x p) (e::es) [] pos) (HM.Zgv ap i f):=by
 intro r d h;unfold HM.Zgv at h;split at h
 case h_2=>cases h
 rename_i d0 hs;split at h
 case h_2=>cases h
 rename_i t cs hu;split at h
 case h_2=>cases h
 rename_i ds hds;obtain rfl:=ZtE hu;intro pins s σ H Q I ⟨F0,H0,F1,at_,kk⟩;obtain⟨v,h1,h2⟩:=at_.plain hs;obtain⟨q,rfl,fv⟩:=h2.fn_inv;refine ZAH (thn (Zb8 hN hv hd hcd pins s σ H (λv' H'=>v'=.ref q/\H'=H) I ⟨_,h1,rfl,rfl⟩) λu s1 ⟨v',H1,I1,r1,e1,e2⟩=>?_);subst e1 e2;obtain rfl:u=Zzj q:=r1;refine PySem.W.callWith_F (C.fn fv I1.env0 at_.sub) (thn (ha.pa r ds hds pos pins s1 σ H1 (λvs H2=>∃F2,Ext F1 H1 F2 H2/\Zt X.K F2 ds vs) I1 ⟨F0,H0,F1,at_,λvs F2 H2 x2 q2=>⟨F2,x2,q2⟩⟩) λus s2 ⟨vs,H2,I2,r2,F2,x2,q2⟩=>?_) he hpl;have fv2:=FX.mono fv x2.ff;refine⟨C.fn fv2 I2.env0 x2.sub,wpAny_call (ZAG (C.run fv2 I2.env0 x2.sub hr (at_.tbx x2) (at_.ntx x2) r2 q2 h λv F' H' x3 q3=>kk v F' H' (x2.trans x3) q3) λrs s' hq=>?_)⟩;cases rs with
 | error e=>exact Zzw hq
 | ok fl =>
  cases fl with
  | ret u=>exact I2.after hq
  | next=>exact Zzw hq
  | brk=>exact Zzw hq
  | cont=>exact Zzw hq
def spN(K:Zys)(n:Nat)(M:List PyData->Option (List (List Key × PyData))):Sp:=λvs H Q _=>∃F ds kvs,vs.length=n/\Zq F H/\Tb H/\NoT F/\Zt K F ds vs/\M ds=some kvs /\
 ∀l vvs F' H',Ext F H F' H'->H' l=some (.dT vvs)->kvs.map (·.1)=vvs.map (·.1)->Zt K F' (kvs.map (·.2)) (vvs.map (·.2))->F' l=none->H l=none->Q (.ref l) H'
structure Zeg(P:Program)(w:World)(K:Zys)(mg:Str->Option Value)(base:Heap)(k:Nat)(x:Str)(M:List PyData->Option (List (List Key × PyData))):Prop where
 ex:∃f fd ps,(∀ds d,M ds=some d->ds.length=ps.length)/\Zdt P w K mg base CX0 k f fd ps (spN K ps.length M)/\mg x=some (.ref f)/\ZzQ K (.ref f)=true/\Binds K fd ps []
theorem Zeg.mono{P:Program}{w:World}{K:Zys}{mg:Str->Option Value}{base:Heap}{j k:Nat}{x:Str}{M:List PyData->Option (List (List Key × PyData))}(C:Zeg P w K mg base j x M)(h:j<=k):Zeg P w K mg base k x M:=by obtain⟨f,fd,ps,l,F,r⟩:=C.ex;exact⟨f,fd,ps,l,F.mono h,r⟩
theorem Zt.flat{K:Zys}{F F':Hp}{ds:List PyData}{vs:List V}(r:Zt K F ds vs)(h:∀d∈ds,HM.Zju d=true):Zt K F' ds vs :=
 ⟨r.1,λi d v h1 h2=>(r.2 i d v h1 h2).flat (h d (ZyW h1))⟩
theorem Zta{k:Nat}{x:Str}{g:HM.AF}{M:List PyData->Option (List (List Key × PyData))}(C:Zeg X.prog X.w X.K X.mg X.base k x M)(hr:Zas k X.A)(ha:XAL X (e::es) g)(hg:Gl X x:=by rfl)(hdb:(x==("__debug__":Str))=false:=by decide)
  (he:ZyF (e::es) X.env=(false,eval e X.env)::ZyF es X.env:=by rfl) (hpl:(backTo pos (ZyF es X.env)).any (·.1)=false:=by rfl):XF X (.Call (.Name x p) (e::es) [] pos) (HM.ZiS M g):=by
 intro r d hd;unfold HM.ZiS at hd;split at hd
 case h_2=>cases hd
 rename_i ds hds;split at hd
 case h_2=>cases hd
 rename_i kvs hM;split at hd
 case isFalse=>cases hd
 rename_i hfl;cases hd;obtain⟨fa,fd,ps,hl,F,hm,hk,hb⟩:=C.ex;refine PE.imp (ZjA (E:=E0) F hr hg hm hk hb .nil Znd (ha.pa r ds hds) hdb he hpl) λσ H Q ⟨F0,H0,F1,at_,kk⟩=>?_;refine⟨F0,H0,F1,at_,λvs F' H' x q=>?_⟩;show spN X.K ps.length M (vs++[]) H' Q E0;rw[Zy7];refine⟨Zcw H',ds,kvs,by rw[<-q.1]; exact hl ds _ hM,Zjh,at_.tbx x,.drop,q.drop',hM,λl vvs F2 H2 x2 h1 h2 h3 h4 h5=>?_⟩;refine kk _ F' H2 (x.trans (Ext.forget x.sub (at_.ntx x) x2)) ⟨[l],.ot h1 h2 (h3.flat λd hd=>?_),by simp,λc hc=>?_⟩
 ·obtain⟨q,h6,rfl⟩:=ZyC.mp hd
  exact ZyD.mp hfl q h6
 ·obtain rfl:c=l:=by simpa using hc
  exact⟨x.sub.free h5,x.hh.free h5⟩
def tSn(K:Zys)(r:HM.Env)(kvs:List (List Key × PyData)):TS:=λE σ H=>Now K r σ H λF0 H0 F=>∀l vvs F' H',Ext F0 H0 F' H'->H' l=some (.dT vvs)->kvs.map (·.1)=vvs.map (·.1)->Zt K F' (kvs.map (·.2)) (vvs.map (·.2))->F' l=none->H0 l=none->E.rt (.ref l) H'
def XSn(X:Cx)(sts:List Stmt)(m:HM.NF):Prop:=∀r kvs,m r=some kvs->PSs X sts (tSn X.K r kvs)
theorem Zos{st:Stmt}{rest:List Stmt}{g:HM.SF}{m:HM.NF}(h1:XS X st g)(h2:XSn X rest m):XSn X (st::rest) (HM.ZkA g m):=by
 intro r kvs h;unfold HM.ZkA at h;split at h
 ·rename_i r' q
  refine PSs.imp (Zig (h1 r _ q) (h2 r' kvs h)) λE σ H ⟨F0,H0,F,at_,k⟩=>?_;exact⟨F0,H0,F,at_,λσ' F' H' at'=>⟨F0,H0,F',at',k⟩⟩
 ·cases h
theorem ZuY(j:Nat){x:Str}{p1:Pos}(hN:X.N[j]?=some x:=by rfl)(hv:Vis X.env.scope x:=by first | exact Zzo rfl | exact Zy5 (Zzo rfl) | exact Zy5 (Zy5 rfl))(hd:(x==("__debug__":Str))=false:=by decide)
  (hcd:(x==("__classdict__":Str))=false:=by decide):XSn X [.Return (some (.Name x p)) p1] (HM.ZoH j):=by
 intro r kvs h;unfold HM.ZoH at h;split at h
 ·rename_i kvs' hs
  cases h;refine PSs.imp (Zig (Zoq (Zb8 hN hv hd hcd)) ZgY) λE σ H ⟨F0,H0,F,⟨fp,at_⟩,k⟩=>?_;obtain⟨v,h1,h2⟩:=at_.at_ j _ hs;generalize hfp:fp j=fj at h2;cases h2 with
  | @ot l _ vvs hl hk q=>have ho:=at_.own j l (by rw[hfp]; simp);exact⟨_,h1,k l vvs F H at_.ext hl hk q ho.1 ho.2⟩
 ·cases h
theorem Zrf{P:Program}{w:World}{K:Zys}{mg:Str->Option Value}{base:Heap}{k:Nat}{x qual:Str}{st:Stmt}{f:Addr}{fd:FuncData}{N ps:List Str}{m:HM.NF}(Fn:Fun K x qual st f fd)(S:Zw N ps (Ze st))(hm:mg x=some (.ref f))(hb:Binds K fd ps [])
  (body:∀(cdv:Value) (A:Around) (outer:List Env) (s:Shared) (H:Hp) (E:XK),Zas k (A.deeper (envOfC qual (Ze st) s.heap.objs.size f cdv))->XSn (ZgA CX0 P w K mg base N qual (Ze st) f cdv A outer s H E).nox (ZaT st) m) :
  Zeg P w K mg base (k+1) x (HM.newOf ps.length N.length m):=by
 have hpl:ps.length<=N.length:=by have:=congrArg Zzf S.pre; rw[ZzO]at this; omega
 refine⟨f,fd,ps,λds d h=>?_,Fn.ok S (λvs H Q E h=>?_) (λcdv A outer s H vs Q E hr h=>?_),hm,Fn.kp,hb⟩
 ·unfold HM.newOf at h
  split at h
  ·assumption
  ·cases h
 ·obtain⟨_,_,_,h,_⟩:=h
  exact h
 ·obtain⟨F,ds,kvs,hl,sub,tb,nt,q,hM,kk⟩:=h
  unfold HM.newOf at hM;split at hM
  ·rename_i hds
   exact⟨_,body cdv A outer s H E hr _ _ hM,F,H,F,Zgq (N:=N) sub tb nt q (by omega),λl vvs F' H' x h1 h2 h3 h4 h5=>kk l vvs F' H' x h1 h2 h3 h4 h5⟩
  ·cases hM
theorem ZsT(hc:X.calm=true){pins:List (Addr × Obj)}{s:Shared}{σ:L2.St}{H:Hp}{l:Addr}{ns:List Int}{Q:VK}(I:Inv X pins σ H s)(hq:SqL X.K H l (ns.map V.int))(q:Q (match ns.min? with | some i=>.int i | none=>.non) H) :
  wpAny (model X.prog X.w) X.A (call (.builtin "min") [.ref l] [(ZAI "default",.none)]) (EP X pins σ Q) X.xe s:=by
 obtain⟨its,rv,pl,hz⟩:=I.list hq;have hi:=Zd9 rv;obtain⟨xs,e⟩:=hi.allInts.items;have hns:ns=xs.toList.map (·.1):=by rw[<-hi.numsOf,<-nums_intItems,<-e]
 have hl:=pl.isList;rw[e]at hl;refine PyProof.Rows.kmk_tree PySem.F.kind_min PySem.F.plain_min PySem.F.entry_min (Zvf _ _) ?_;refine Zyr (ZC9 (show Builtin.Builtins.bindParams "min" ["key","default"] 0 ⟨[],[(ZAI "default",.none)]⟩=pure [none,some .none] from rfl) ?_);refine Zyr (Zyv ?_);refine Zyr (iter_intList hl λs2 e2 st hfp hlI=>?_);subst e2;refine Zyr (Zzb ?_);rw[ZjG];generalize hIT:s.heap.push { cls:=.type "list_iterator",data:=.fields #[.ref l,.int 0 0] }=h1 at st hfp;have z1:h1.objs.size=s.heap.objs.size+1:=by rw[<-hIT]; exact ZBd ..
 have k1:∀b o,s.heap.get? b=some o->h1.get? b=some o:=λb o e=>by rw[<-hIT]; exact Zyy _ e
 have W:=Walks.list (prog:=X.prog) (w:=X.w) (A:=X.A.in1) (I.ok.hd hc) s.heap.objs.size l hlI (intItems xs);have hSf:h1.objs.size ∉ [s.heap.objs.size,l]:=λz=>ZAh _ (hfp _ z);have old:∀{h':Heap} {oS:Obj},(∀x o,x ∉ [s.heap.objs.size]->x≠h1.objs.size->(h1.push oS).get? x=some o->h'.get? x=some o)->∀b o,s.heap.get? b=some o->h'.get? b=some o:=λhk b o e=>by have hb:=ZyK e;exact hk b o (λz=>by rw[ZyL.mp z]at hb; exact ZAh _ hb) (ZyQ (by rw[z1]; exact ZBb hb)) (Zyy _ (k1 b o e))
 refine Zyv ⟨ZAN ZzT _,ZtI W (λi j=>decide (numAt xs i<numAt xs j)) (CmpOf.ints_lt (numAt xs) λ_ _=>intItems_at) hSf .none (W.frame _ _ _ st λb _ o e=>Zyy _ e) (ZyO _ rfl) (λh0 h' tk hk=>?_) λh0 v h' tk hP hk=>?_⟩
 ·have e0:ns=[]:=by
   rw[hns];have:xs.size=0:=by simpa [intItems]using h0
   rw[Array.eq_empty_of_size_eq_zero this]; rfl
  subst e0;exact⟨.non,H,I.kept (t':=tk) (old hk),rfl,q⟩
 ·have h0':0<xs.size:=by simpa [intItems]using h0
  have hP':(intItems xs)[argBest (λi j=>decide (numAt xs i<numAt xs j)) (xs.size-1)]?=some v:=by simpa [intItems]using hP
  obtain⟨t,rfl⟩:=intItems_at hP';obtain⟨g1,g2⟩:=argBest_lt (numAt xs) (xs.size-1);have hm:ns.min?=some (numAt xs (argBest (λi j=>decide (numAt xs i<numAt xs j)) (xs.size-1))):=by
   refine ZB1.mpr ⟨?_,λa ha=>?_⟩
   ·rw[hns,numAt_eq]; exact getD_mem (by rw[Zyt,ZyT]; omega)
   ·rw[hns]at ha
    obtain⟨j,hj,rfl⟩:=mem_getD ha;rw[Zyt,ZyT]at hj;rw[<-numAt_eq]; exact g2 j (by omega)
  rw[hm]at q;exact⟨.int _,H,I.kept (t':=tk) (old hk),⟨t,rfl⟩,q⟩
theorem Zp0{f:HM.BF}{kp p2:Pos}{j:Nat}(hm:X.mg "min" = none)(hc:X.calm=true)(ha:XB X a f)(hg:Gl X "min":=by rfl)(hs:ZyF [a] X.env=[(false,eval a X.env)]:=by rfl)
  (he:backTo pos (ZyF [a] X.env)=(false,eval a X.env)::backTo pos (ZyF [] X.env):=by rfl) (hpl:(backTo pos (ZyF [a] X.env)).any (·.1)=false:=by rfl) :
  XE X (.Call (.Name "min" p) [a] [⟨some "default",.Constant .none j p2,kp⟩] pos) (HM.ZfO f):=by
 intro r d h;unfold HM.ZfO at h;split at h
 case h_2=>cases h
 rename_i x hx;split at h
 case h_2=>cases h
 rename_i ds hds;split at h
 case h_2=>cases h
 rename_i ns hns;cases h;intro pins s σ H Q I ⟨F0,H0,F,at_,k⟩;refine ZAH (Zht I hg hm Zs0 ?_);refine callWith_kw (thn (Zfb ha hx hs pos pins s σ H (λvs H1=>∃v fp F1,vs=[v]/\Ext F H F1 H1/\Zad X.K F1 H1 x v fp) I ⟨F0,H0,F,at_,λv fp F' H' x1 r1=>⟨v,fp,F',rfl,x1,r1⟩⟩) λus s1 ⟨vs,H1,I1,rv,v,fp,F1,e1,x1,r1⟩=>?_) he hpl;subst e1;obtain⟨u,rfl,ru⟩:=vals1 rv;obtain⟨l,ws,rfl,hq,rs⟩:=Zgw x1.sub r1 hds;obtain rfl:u=Zzj l:=ru;rw[ZcS hns rs]at hq;refine kws_cons (thn (Zsa pins s1 σ H1 (λv' H'=>v'=.non/\H'=H1) I1 ⟨rfl,rfl⟩) λu2 s2 ⟨v',H2,I2,r2,e2,e3⟩=>?_);subst e2 e3;obtain rfl:u2=Zzv:=r2;refine kws_nil ?_;refine ZsT hc I2 hq ?_;refine k _ F1 H2 x1 ?_;cases ns.min? with
 | none=>exact .non
 | some i=>exact .int i
end
end HP
namespace HP
open PySem PySem.Spec PyProof.Rows L2
abbrev FX0:FX where
 tl:=[]
 fv:=λ_ _ _ _=>False
 sw:=λ_ _ h=>h
 drop:=λh=>h
 mono:=λh _=>h
structure Clo(K:Zys)(F:Hp)(p:Addr)(params:Arguments)(body:Expr)(scope:Scope)(names:List Str)(cs:List PyData):Prop where
 ex:∃(qual:Str) (pm ctv:Value) (c:Addr) (oc:Obj) (clos:List (Str × Addr)),
  F p=some (Zbj p (ZCb "<lambda>" qual params body scope clos pm c ctv))/\F c=some (Zbj c oc)/\ZlK oc qual /\
  (∀x y a,clos.lookup x=some a->clos.lookup y=some a->x=y)/\(∀y∈scope.names,y.2=.free->(clos.lookup y.1).isSome=true) /\
  (∀x a,clos.lookup x=some a->∃o v,F a=some (Zbj a o)/\o.data=.cell v) /\
  names.length=cs.length/\∀(i:Nat) (x:Str) (d:PyData),names[i]?=some x->cs[i]?=some d->∃a o u v,clos.lookup x=some a/\F a=some (Zbj a o)/\o.data=.cell (some u)/\RelV v u/\@Rep FX0 K F d v
section
variable{K:Zys}{F F':Hp}{p:Addr}{params:Arguments}{body:Expr}{scope:Scope}{names:List Str}{cs:List PyData}
theorem Clo.mono(h:Clo K F p params body scope names cs)(s:Zq F F'):Clo K F' p params body scope names cs:=by
 obtain⟨qual,pm,ctv,c,oc,clos,h1,h2,h3,h4,h5,h6,h7,h8⟩:=h.ex;refine⟨qual,pm,ctv,c,oc,clos,s _ _ h1,s _ _ h2,h3,h4,h5,λx a e=>?_,h7,λi x d e1 e2=>?_⟩
 ·obtain⟨o,u,q1,q2⟩:=h6 x a e
  exact⟨o,u,s _ _ q1,q2⟩
 ·obtain⟨a,o,u,v,q1,q2,q3,q4,q5⟩:=h8 i x d e1 e2
  exact⟨a,o,u,v,q1,s _ _ q2,q3,q4,@Rep.mono FX0 _ _ _ _ _ q5 s⟩
theorem Clo.drop(h:Clo K F p params body scope names cs):Clo K (Zcw F) p params body scope names cs:=by
 obtain⟨qual,pm,ctv,c,oc,clos,h1,h2,h3,h4,h5,h6,h7,h8⟩:=h.ex;refine⟨qual,pm,ctv,c,oc,clos,Zct h1 rfl,Zct h2 rfl,h3,h4,h5,λx a e=>?_,h7,λi x d e1 e2=>?_⟩
 ·obtain⟨o,u,q1,q2⟩:=h6 x a e
  exact⟨o,u,Zct q1 rfl,q2⟩
 ·obtain⟨a,o,u,v,q1,q2,q3,q4,q5⟩:=h8 i x d e1 e2
  exact⟨a,o,u,v,q1,Zct q2 rfl,q3,q4,@Rep.drop FX0 _ _ _ _ q5⟩
theorem Clo.sw{a:Addr}{ob:HO}{vvs:List (List Key × V)}(hF:∀u,F a=some u->Dk vvs u)(hob:Dk vvs ob)(h:Clo K F p params body scope names cs):Clo K (HP.sw a ob F) p params body scope names cs:=by
 have key:∀{b:Addr} {o:Obj},F b=some (Zbj b o)->HP.sw a ob F b=some (Zbj b o):=λ{b o} e=>by
  have hb:b≠a:=λz=>by subst z;have:=@Dk.te FX0 _ _ (hF _ e);cases this
  unfold HP.sw; rw[if_neg hb]; exact e
 obtain⟨qual,pm,ctv,c,oc,clos,h1,h2,h3,h4,h5,h6,h7,h8⟩:=h.ex;refine⟨qual,pm,ctv,c,oc,clos,key h1,key h2,h3,h4,h5,λx a e=>?_,h7,λi x d e1 e2=>?_⟩
 ·obtain⟨o,u,q1,q2⟩:=h6 x a e
  exact⟨o,u,key q1,q2⟩
 ·obtain⟨a,o,u,v,q1,q2,q3,q4,q5⟩:=h8 i x d e1 e2
  exact⟨a,o,u,v,q1,key q2,q3,q4,@Rep.sw FX0 _ _ _ _ _ _ _ hF hob q5⟩
end
theorem Rep.up[FX]{K:Zys}{F:Hp}{d:PyData}{v:V}(r:@Rep FX0 K F d v):Rep K F d v:=by
 induction r with
 | non=>exact .non
 | bl b=>exact .bl b
 | int i=>exact .int i
 | str x=>exact .str x
 | tup h hl _ ih=>exact .tup h hl ih
 | tupk h=>exact .tupk h
 | lst h hl _ ih=>exact .lst h hl ih
 | dct h he hk _ ih=>exact .dct h he hk ih
 | fn h=>exact h.elim
theorem Rep.cutF[FX]{K:Zys}{F F':Hp}(hF:∀b o,F b=some o->te o=false->F' b=some o){d:PyData}{v:V}(r:Rep K F d v):∀n,HM.noF n d=true->@Rep FX0 K F' d v:=by
 induction r with
 | non=>intro _ _; exact @Rep.non FX0 _ _
 | bl b=>intro _ _; exact @Rep.bl FX0 _ _ b
 | int i=>intro _ _; exact @Rep.int FX0 _ _ i
 | str x=>intro _ _; exact @Rep.str FX0 _ _ x
 | tupk h=>intro _ _; exact @Rep.tupk FX0 _ _ _ _ h
 | tup h hl _ ih =>
  intro n hn;cases n with
  | zero=>cases hn
  | succ n=>exact @Rep.tup FX0 _ _ _ _ _ (hF _ _ h rfl) hl λi d v h1 h2=>ih i d v h1 h2 n (ZyD.mp hn d (ZyW h1))
 | lst h hl _ ih =>
  intro n hn;cases n with
  | zero=>cases hn
  | succ n =>
   refine @Rep.lst FX0 _ _ _ _ _ ?_ hl λi d v h1 h2=>ih i d v h1 h2 n (ZyD.mp hn d (ZyW h1));rcases h with(h | ⟨o,h⟩) | h
   ·exact .inl (.inl (hF _ _ h rfl))
   ·exact .inl (.inr ⟨o,hF _ _ h rfl⟩)
   ·exact .inr h
 | @dct a es kvs vvs h he hk _ ih =>
  intro n hn;cases n with
  | zero=>cases hn
  | succ n =>
   refine @Rep.dct FX0 _ _ _ _ kvs vvs ?_ he hk λi d v h1 h2=>ih i d v h1 h2 n ?_
   ·rcases h with h | ⟨o,h⟩
    ·exact .inl (hF _ _ h rfl)
    ·exact .inr ⟨o,hF _ _ h rfl⟩
   ·subst he
    rw[ZyU]at h1;obtain⟨q,h3,h4⟩:=Zyu.mp h1;subst h4;have hm:(Zzn (q.1.map HM.ZaH),q.2)∈HM.Zj kvs:=ZyC.mpr ⟨q,ZyW h3,rfl⟩;have:=ZyD.mp hn _ hm;rw[ZyN]at this;exact this.2
 | fn h =>
  intro n hn;cases n with
  | zero=>cases hn
  | succ n=>have:=ZyD.mp hn _ (Zyw ..);cases this
end HP
namespace HP
open PySem PySem.Spec PyProof.Rows L2
theorem Rep0.cut{K:Zys}{F F':Hp}(hF:∀b o,F b=some o->te o=false->F' b=some o){d:PyData}{v:V}(r:@Rep FX0 K F d v):@Rep FX0 K F' d v:=by
 induction r with
 | non=>exact @Rep.non FX0 _ _
 | bl b=>exact @Rep.bl FX0 _ _ b
 | int i=>exact @Rep.int FX0 _ _ i
 | str x=>exact @Rep.str FX0 _ _ x
 | tupk h=>exact @Rep.tupk FX0 _ _ _ _ h
 | tup h hl _ ih=>exact @Rep.tup FX0 _ _ _ _ _ (hF _ _ h rfl) hl ih
 | lst h hl _ ih =>
  refine @Rep.lst FX0 _ _ _ _ _ ?_ hl ih;rcases h with(h | ⟨o,h⟩) | h
  ·exact .inl (.inl (hF _ _ h rfl))
  ·exact .inl (.inr ⟨o,hF _ _ h rfl⟩)
  ·exact .inr h
 | @dct a es kvs vvs h he hk _ ih =>
  refine @Rep.dct FX0 _ _ _ _ kvs vvs ?_ he hk ih;rcases h with h | ⟨o,h⟩
  ·exact .inl (hF _ _ h rfl)
  ·exact .inr ⟨o,hF _ _ h rfl⟩
 | fn h=>exact h.elim
def Za6(C:List Addr)(H:Hp):Hp:=λb=>if b∈C then none else H b
theorem ZhH{C:List Addr}{H:Hp}{b:Addr}(h:b∈C):Za6 C H b=none:=by unfold Za6; rw[if_pos h]
theorem Zan{C:List Addr}{H:Hp}{b:Addr}(h:b ∉ C):Za6 C H b=H b:=by unfold Za6; rw[if_neg h]
theorem Zif{C:List Addr}{H:Hp}{b:Addr}{o:HO}(h:Za6 C H b=some o):b ∉ C/\H b=some o:=by
 unfold Za6 at h;split at h
 ·cases h
 ·exact⟨by assumption,h⟩
def Zhm(C:List Addr)(G H:Hp):Hp:=λb=>if b∈C then G b else H b
theorem ZeP{C:List Addr}{G H:Hp}{b:Addr}(h:b∈C):Zhm C G H b=G b:=by unfold Zhm; rw[if_pos h]
theorem Zbk{C:List Addr}{G H:Hp}{b:Addr}(h:b ∉ C):Zhm C G H b=H b:=by unfold Zhm; rw[if_neg h]
section
variable{P:Program}{w:World}{C:List Addr}{G H H':Hp}{h h':Heap}
theorem Zcs{a:Addr}{o:Obj}(x:Zab P w H h a (Zbj a o)):h.get? a=some o:=x.1
theorem ZjF{a:Addr}{o:Obj}(e:h.get? a=some o):Zab P w H h a (Zbj a o):=⟨e,⟨o,e⟩,λh1 h2 q k=>k o q⟩
theorem HOk.cut(x:HOk P w H h)(hC:∀c∈C,∀o,H c=some o->te o=true):HOk P w (Za6 C H) h:=λa o e=>by
 obtain⟨_,e⟩:=Zif e;have out:∀{b:Addr} {u:HO},H b=some u->te u=false->Za6 C H b=some u:=λ{b u} q t=>by rw[Zan λz=>by rw[hC b z u q]at t; cases t]; exact q
 exact(x a o e).stay (λ_ _ _ q=>q) (λb q=>out q rfl) λb xs q=>out q rfl
theorem HOk.put(x:HOk P w H h)(hn:∀c∈C,H c=none)(hC:∀c∈C,∀u,G c=some u->∃o,u=Zbj c o/\h.get? c=some o):HOk P w (Zhm C G H) h:=λa o e=>by
 have out:∀{b:Addr} {u:HO},H b=some u->Zhm C G H b=some u:=λ{b u} q=>by rw[Zbk λz=>by rw[hn b z]at q; cases q]; exact q
 by_cases ha:a∈C
 ·rw[ZeP ha]at e
  obtain⟨ob,rfl,hb⟩:=hC a ha o e;exact ZjF hb
 ·rw[Zbk ha]at e
  exact(x a o e).stay (λ_ _ _ q=>q) (λb q=>out q) λb xs q=>out q
end
structure ZkB(scope:Scope)(x:Str)(names:List Str):Prop where
 kind:scope.kind=.function
 co:scope.isCoroutine=false
 gen:scope.isGenerator=false
 nocell:∀y∈scope.names,y.2≠.cell
 par:scope.names.lookup x=some .local
 free:∀n∈names,scope.names.lookup n=some .free
 nd:(x::names).Nodup
def Zne(P:Program)(w:World)(K:Zys)(mg:Str->Option Value)(base:Heap)(N:List Str)(qual:Str)(scope:Scope)(f:Addr)(cd:Value)(clos:List (Str × Addr))(A:Around)(outer:List Env)(s:Shared)(H:Hp):Cx where
 prog:=P
 w:=w
 K:=K
 mg:=mg
 base:=base
 A:=A.deeper (ZBz qual scope s.heap.objs.size f cd clos)
 N:=N
 s₀:=s
 H₀:=H
 env:=ZBz qual scope s.heap.objs.size f cd clos
 outer:=outer
 stack:=ZBz qual scope s.heap.objs.size f cd clos::outer
 ex:=[]
 calm:=true
 fn:=λ_=>false
 pn:=[]
 xe:=λ_ _=>False
section
variable{P:Program}{w:World}{K:Zys}{mg:Str->Option Value}{base:Heap}{A:Around}{outer:List Env}{s:Shared}{H:Hp}{k:Nat}
theorem Zsu{qual x:Str}{scope:Scope}{names:List Str}{f:Addr}{cd:Value}{clos:List (Str × Addr)}(S:ZkB scope x names)(hd:A.handled=none)(e0:ZeR P w K mg base A outer s H)
  (inj:∀y z a,clos.lookup y=some a->clos.lookup z=some a->y=z) (has:∀y∈scope.names,y.2=.free->(clos.lookup y.1).isSome=true)
  (hcell:∀y a,clos.lookup y=some a->H a=none/\∃o v,s.heap.get? a=some o/\o.data=.cell v)
  {v:V} {u:Value} (rv:RelV v u) {vs:List V} (hlen:names.length=vs.length) (hcap:∀(i:Nat) (y:Str) (v':V),names[i]?=some y->vs[i]?=some v'->∃a o u',clos.lookup y=some a/\s.heap.get? a=some o/\o.data=.cell (some u')/\RelV v' u')
  {h':Heap} {tk:Nat} (hns:h'.Ns s.heap.objs.size λy=>[(x,u)].reverse.lookup y) (hsb:ZAq s.heap.objs.size (s.heap.push { cls:=.type "frame",data:=.dict #[] }) h') :
  Inv (Zne P w K mg base (x::names) qual scope f cd clos A outer s H) [] (some v::vs.map some) H { s with heap:=h',toks:=tk }:=by
 have hk:∀b o,s.heap.get? b=some o->h'.get? b=some o:=λb o e=>hsb.extBut b o (ZyQ (ZyK e)) (Zyy _ e);have noA:∀b:Addr,b ∉ (Zne P w K mg base (x::names) qual scope f cd clos A outer s H).ex:=λb z=>absurd (show b∈([]:List Addr) from z) (by simp);refine⟨⟨e0.mod,S.kind,rfl,rfl,ZyB _,inj,λy hy=>?_,λy c z=>absurd (show false=true from z) (by simp),λ_=>hd,ZDl e0.frames,.inr ⟨rfl,rfl⟩,λb z=>absurd z (noA b),e0.bs,e0.bsz,λb _ _=>noA b,λb z=>absurd z (noA b),e0.funs,e0.frf⟩,
  rfl,e0.bare,Un.kept hk,⟨_,hns,λi y v' h1 h2 h3=>?_⟩,λy c e=>?_,e0.hok.fresh (ZyB _),λy c e=>(hcell y c e).1,λp hp=>absurd (show p∈([]:List (Addr × Obj)) from hp) (by simp),e0.hok.kept hk,?_⟩
 ·have hy:scope.names.lookup y=some .cell\/scope.names.lookup y=some .free:=hy
  rcases hy with hy | hy
  ·exact absurd rfl (S.nocell _ (ZzY hy))
  ·exact Zy4.mp (has _ (ZzY hy) rfl)
 ·cases i with
  | zero=>have e1:x=y:=Zzp h1;have e2:v=v':=Zzp (Zzp h2);subst e1 e2;exact⟨u,rv,.inl ⟨S.par,by simp⟩⟩
  | succ i=>have h1:names[i]?=some y:=h1;have h2:(vs.map some)[i]?=some (some v'):=h2;rw[ZyU]at h2;obtain⟨v2,h4,h5⟩:=Zyu.mp h2;cases h5;obtain⟨a,o,u',q1,q2,q3,q4⟩:=hcap i y v' h1 h4;exact⟨u',q4,.inr ⟨.inr (S.free y (ZyW h1)),a,q1,o,hk _ _ q2,q3⟩⟩
 ·obtain⟨_,o,v',q1,q2⟩:=hcell y c e
  exact⟨v',o,hk _ _ q1,q2⟩
 ·show(some v::vs.map some).length=(x::names).length
  rw[ZyI,ZyI,Zyt,hlen]
end
end HP
namespace HP
open PySem PySem.Spec PyProof.Rows L2
variable[FX]
def cellsOf(clos:List (Str × Addr)):List Addr:=clos.filterMap λq=>clos.lookup q.1
theorem Zmc{clos:List (Str × Addr)}{a:Addr}:a∈cellsOf clos↔∃y,clos.lookup y=some a:=by unfold cellsOf;rw[Zzy];exact⟨λ⟨q,_,h⟩=>⟨q.1,h⟩,λ⟨y,h⟩=>⟨(y,a),ZzY h,h⟩⟩
theorem Tb.cut{P:Program}{w:World}{C:List Addr}{H:Hp}{h:Heap}(t:Tb H)(x:HOk P w H h)(hC:∀c∈C,∃o v,H c=some (Zbj c o)/\o.data=.cell v):Tb (Za6 C H):=λT q hT=>by
 obtain⟨ps,h1,h2,h3⟩:=t T q hT;refine⟨ps,?_,h2,λpos c hc=>?_⟩
 ·rw[Zan λz=>by
   obtain⟨o,v,e,_⟩:=hC T z;rw[h1]at e; cases e]
  exact h1
 ·obtain⟨a,o,e1,e2,e3⟩:=h3 pos c hc
  refine⟨a,o,e1,?_,e3⟩;rw[Zan λz=>by obtain⟨o',v,f1,f2⟩:=hC a z;have g1:=Zcs (x a _ e2);have g2:=Zcs (x a _ f1);rw[g1]at g2;cases g2;obtain⟨vs,tt,d1,_⟩:=e3;rw[d1]at f2; cases f2];exact e2
section
variable{P:Program}{w:World}{K:Zys}{mg:Str->Option Value}{base:Heap}{k:Nat}
theorem Zvg{params:Arguments}{body:Expr}{scope:Scope}{x:Str}{names:List Str}{g:HM.EF}(S:ZkB scope x names)
  (hbind:∀(qual:Str) (clos:List (Str × Addr)) (pm cd ctv u:Value),bindArgs (PySem.W.kla_fn "<lambda>" qual params body scope clos pm cd ctv) ⟨[u],[]⟩=pure [(x,u)])
  (hbody:∀(qual:Str) (f:Addr) (cd:Value) (clos:List (Str × Addr)) (A:Around) (outer:List Env) (s:Shared) (H:Hp),Zas k (A.deeper (ZBz qual scope s.heap.objs.size f cd clos))->XE (Zne P w K mg base (x::names) qual scope f cd clos A outer s H) body g)
  {A:Around} {outer:List Env} {s:Shared} {F H:Hp} {p:Addr} {cs:List PyData} (C:Clo K F p params body scope names cs) (e0:ZeR P w K mg base A outer s H) (sub:Zq F H) (hr:Zas (k+1) A) (tb:Tb H) (nt:NoT F)
  {us:List Value} {vs:List V} {ds:List PyData} {d:PyData} {Q:VK} (rv:Vals vs us) (rs:Zt K F ds vs) (hap:HM.ZkP 1 names.length g cs ds=some d) (kk:∀v F' H',Ext F H F' H'->Rep K F' d v->Q v H') :
  codeAny (model P w) A (.call (.ref p) ⟨us,[]⟩) (CR CX0 outer P w H s Q E0) s:=by
 unfold HM.ZkP at hap;split at hap
 case isFalse=>cases hap
 rename_i hc;obtain⟨hl1,hl2,hnf⟩:=hc;obtain⟨d0,rfl⟩:=List.length_eq_one_iff.mp hl1;obtain⟨v0,vs',rfl,r0,rs'⟩:=rs.cons_inv;obtain rfl:=rs'.nil_inv;obtain⟨u0,rfl,ru0⟩:=vals1 rv;have hnf0:HM.noF 20 d0=true:=by rw[ZzL,ZyN]at hnf; exact hnf.1
 obtain⟨qual,pm,ctv,c,oc,clos,h1,h2,h3,h4,h5,h6,h7,h8⟩:=C.ex;generalize hCs:cellsOf clos=Cs;have hCm:∀a,a∈Cs↔∃y,clos.lookup y=some a:=λa=>by rw[<-hCs]; exact Zmc
 have hCo:∀a∈Cs,∃o v,F a=some (Zbj a o)/\o.data=.cell v/\s.heap.get? a=some o:=λa ha=>by obtain⟨y,e⟩:=(hCm a).mp ha;obtain⟨o,v,q1,q2⟩:=h6 y a e;exact⟨o,v,q1,q2,Zcs (e0.hok a _ (sub _ _ q1))⟩
 have hCt:∀a∈Cs,∀o,H a=some o->te o=true:=λa ha o e=>by obtain⟨ob,v,q1,_,_⟩:=hCo a ha;rw[sub _ _ q1]at e; cases e; rfl
 have hCn:∀a∈Cs,H a≠none:=λa ha z=>by obtain⟨ob,v,q1,_,_⟩:=hCo a ha;rw[sub _ _ q1]at z; cases z
 have none1:∀b,H b=none->Za6 Cs H b=none:=λb e=>by
  by_cases hb:b∈Cs
  ·exact ZhH hb
  ·rw[Zan hb]; exact e
 have e1:ZeR P w K mg base A outer s (Za6 Cs H):=⟨e0.frames,e0.mod,λb o e=>⟨(e0.bs b o e).1,none1 b (e0.bs b o e).2⟩,e0.bsz,e0.funs,λb hb=>none1 b (e0.frf b hb),HOk.cut e0.hok hCt,e0.bare⟩;have KX:K.In s.heap:=e0.mod.kin.keeps λb o e=>(e0.bs b o e).1;have lim:s.heap.NoLimit:=e0.mod.nolimit.keeps λb o e=>(e0.bs b o e).1;have hcd:s.heap.CodeRec (.ref c) qual:=by obtain⟨vs,t,d1,d2⟩:=h3;exact⟨c,oc,vs,t,rfl,Zcs (e0.hok c _ (sub _ _ h2)),d1,d2⟩
 refine PySem.W.kla_callFunE hr.depth (Zcs (e0.hok p _ (sub _ _ h1))) rfl S.co S.gen rfl hcd ?_;rw[hbind];refine Zyv (ZB9 S.nocell (λy hy=>by rw[ZyL.mp hy]; exact S.par) (λh' hns hsb=>⟨lim.fresh _ hsb,?_⟩) S.kind);show codeAny _ _ (.expr body (ZBz qual scope s.heap.objs.size p (.ref c) clos)) _ _;have hvs:∃wv:List V,names.length=wv.length/\(∀(i:Nat) (y:Str) (v':V),names[i]?=some y->wv[i]?=some v'->∃a o u',clos.lookup y=some a/\s.heap.get? a=some o/\o.data=.cell (some u')/\RelV v' u')/\Zt K (Za6 Cs F) cs wv:=by
  have step:∀n,n<=cs.length->∃wv:List V,wv.length=n/\∀(i:Nat) (y:Str) (d:PyData) (v':V),names[i]?=some y->cs[i]?=some d->wv[i]?=some v'->(∃a o u',clos.lookup y=some a/\s.heap.get? a=some o/\o.data=.cell (some u')/\RelV v' u')/\Rep K (Za6 Cs F) d v':=by
   intro n
   induction n with
   | zero=>exact λ_=>⟨[],rfl,λi y d v' _ _ h=>by simp at h⟩
   | succ n ih =>
    intro hn;obtain⟨wv,l1,l2⟩:=ih (by omega);have hy:n<names.length:=by omega
    have hd:n<cs.length:=by omega
    obtain⟨a,o,u',v',q1,q2,q3,q4,q5⟩:=h8 n names[n] cs[n] (ZyH hy) (ZyH hd);refine⟨wv++[v'],by rw[ZyM,l1]; rfl,λi y d v2 g1 g2 g3=>?_⟩
    by_cases hi:i<n
    ·rw[Zy3 (by omega)]at g3
     exact l2 i y d v2 g1 g2 g3
    ·have hin:i=n:=by
      have:=(ZyG.mp g3).1;rw[ZyM,l1]at this;have:i<n+1:=this;omega
     subst hin;rw[Zze (by omega),l1,Nat.sub_self]at g3;rw[ZyH hy]at g1;rw[ZyH hd]at g2;cases g1; cases g2; cases g3;refine⟨⟨a,o,u',q1,Zcs (e0.hok a _ (sub _ _ q2)),q3,q4⟩,?_⟩;refine(Rep0.cut (λb ob z t=>?_) q5).up;rw[Zan λhb=>by obtain⟨ob',v,w1,_,_⟩:=hCo b hb;rw[w1]at z; cases z; cases t];exact z
  obtain⟨wv,l1,l2⟩:=step cs.length (ZyB _);refine⟨wv,by omega,λi y v' g1 g3=>?_,by omega,λi d v' g2 g3=>?_⟩
  ·have hi:=(ZyG.mp g3).1
   exact(l2 i y cs[i] v' g1 (ZyH (by omega)) g3).1
  ·have hi:=(ZyG.mp g3).1
   exact(l2 i names[i] d v' (ZyH (by omega)) g2 g3).2
 obtain⟨wv,wl,wc,wr⟩:=hvs;have cutF:∀b o,F b=some o->te o=false->Za6 Cs F b=some o:=λb ob z t=>by rw[Zan λhb=>by obtain⟨ob',v,w1,_,_⟩:=hCo b hb;rw[w1]at z; cases z; cases t];exact z
 have r0':Rep K (Za6 Cs F) d0 v0:=(Rep.cutF cutF r0 20 hnf0).up;have sub1:Zq (Za6 Cs F) (Za6 Cs H):=λb o e=>by obtain⟨hb,e⟩:=Zif e;rw[Zan hb]; exact sub _ _ e
 have nt1:NoT (Za6 Cs F):=λb o e=>nt b o (Zif e).2;have tb1:Tb (Za6 Cs H):=tb.cut e0.hok λa ha=>by obtain⟨o,v,q1,q2,_⟩:=hCo a ha;exact⟨o,v,sub _ _ q1,q2⟩
 have I:=Zsu (qual:=qual) (f:=p) (cd:=.ref c) (tk:=s.toks+1) S hr.hd e1 h4 h5 (λy a e=>by obtain⟨o,v,q1,q2,q3⟩:=hCo a ((hCm a).mpr ⟨y,e⟩);exact⟨ZhH ((hCm a).mpr ⟨y,e⟩),o,v,q3,q2⟩) ru0 wl wc hns hsb;have a0:At K (Za6 Cs F) (Za6 Cs H) (Za6 Cs F) (Za6 Cs H) ((d0::cs).map λd=>some (HM.B.pl d)) (some v0::wv.map some):=by
  have:=Zgq (N:=x::names) sub1 tb1 nt1 (Zt.cons r0' wr) (by rw[ZyI,ZyI]; omega);have e3:HM.ZeI (x::names).length (d0::cs)=(d0::cs).map λd=>some (HM.B.pl d):=by unfold HM.ZeI;rw[ZyI,ZyI,show names.length+1-(cs.length+1)=0 by omega];exact Zy7 _
  have e4:L2.start (x::names) (v0::wv)=some v0::wv.map some:=by unfold L2.start;rw[ZyI,ZyI,show names.length+1-(wv.length+1)=0 by omega];exact Zy7 _
  rw[e3,e4]at this;exact this
 refine PySem.W.kla_codeExpr (ZzJ (hbody qual p (.ref c) clos A outer s (Za6 Cs H) (hr.deeper _) _ _ hap [] _ _ _ (λv' H'=>∃F',Ext (Za6 Cs F) (Za6 Cs H) F' H'/\Rep K F' d v') I ⟨_,_,_,a0,λv' F' H' x' q'=>⟨F',x',q'⟩⟩) (λu' s' hq=>?_) λe s' hq=>Zzw hq);obtain⟨v',H',I',ru',F',x',q'⟩:=hq;have un:Un (frs outer) [] (Za6 Cs H) H' s.heap s'.heap:=I'.base;have nfs:∀a∈Cs,a ∉ frs outer:=λa ha hb=>hCn a ha (e0.frf a hb);have kc:∀a∈Cs,∃o,H a=some (Zbj a o)/\F a=some (Zbj a o)/\s'.heap.get? a=some o/\H' a=none:=λa ha=>by obtain⟨o,v,q1,q2,q3⟩:=hCo a ha;exact⟨o,sub _ _ q1,q1,un.keep a o q3 (ZhH ha) (nfs a ha) (by simp),un.free a o q3 (ZhH ha) (by simp)⟩
 have out:∀{b:Addr} {o:HO},H b=some o->te o=false->b ∉ Cs:=λ{b o} e t hb=>by rw[hCt b hb o e]at t; cases t
 have outN:∀{b:Addr},H b=none->b ∉ Cs:=λ{b} e hb=>hCn b hb e;have outT:∀{b:Addr} {ps:Array Value},H b=some (.tbl ps)->b ∉ Cs:=λ{b ps} e hb=>by obtain⟨o,q,_⟩:=kc b hb;rw[e]at q; cases q
 refine⟨v',Zhm Cs H H',I'.os,I'.bare,⟨λb o e n hb hx=>?_,λb o e n hb hx=>?_,λb o e n hx=>?_,un.there,λb xs e=>?_,λb o u e=>?_,λb ps e=>?_⟩,HOk.put I'.hok (λa ha=>by obtain⟨_,_,_,_,q⟩:=kc a ha; exact q) (λa ha u e=>?_),ru',kk v' (Zhm Cs F F') (Zhm Cs H H') ⟨λb o e=>?_,λb o e=>?_,λb o e=>?_,λb o e=>?_,λt=>?_,λn b o e=>?_⟩ (q'.mono λb o e=>?_)⟩
 ·exact un.keep b o e (none1 b n) hb hx
 ·exact un.slot b o e (none1 b n) hb hx
 ·rw[Zbk (outN n)]; exact un.free b o e (none1 b n) hx
 ·have hb:=out e rfl
  rw[Zbk hb]; exact un.tups b xs (by rw[Zan hb]; exact e)
 ·have hb:=out e rfl
  rw[Zbk hb]; exact un.frzs b o u (by rw[Zan hb]; exact e)
 ·have hb:=outT e
  rw[Zbk hb]; exact un.tbls b ps (by rw[Zan hb]; exact e)
 ·obtain⟨o,q1,_,q3,_⟩:=kc a ha
  rw[q1]at e; cases e;exact⟨o,rfl,q3⟩
 ·by_cases hb:b∈Cs
  ·rw[ZeP hb]; exact e
  ·rw[Zbk hb]; exact x'.ff b o (by rw[Zan hb]; exact e)
 ·by_cases hb:b∈Cs
  ·exact .of (by rw[ZeP hb]; exact e)
  ·exact(x'.hh b o (by rw[Zan hb]; exact e)).cong (Zbk hb)
 ·by_cases hb:b∈Cs
  ·rw[ZeP hb]at e ⊢; exact sub _ _ e
  ·rw[Zbk hb]at e ⊢; exact x'.sub _ _ e
 ·by_cases hb:b∈Cs
  ·rw[ZeP hb]at e; exact .inl e
  ·rw[Zbk hb]at e
   rcases x'.new b o e with q | q
   ·exact .inl (Zif q).2
   ·refine .inr ?_
    unfold Fre at q ⊢;rw[Zan hb]at q;exact q
 ·exact(x'.tab tb1).keep λa o e _=>by rw[Zbk λhb=>by obtain⟨_,_,_,_,q⟩:=kc a hb;rw[e]at q; cases q];exact e
 ·by_cases hb:b∈Cs
  ·rw[ZeP hb]at e; exact n b o e
  ·rw[Zbk hb]at e; exact x'.nts nt1 b o e
 ·rw[Zbk λhb=>by
   obtain⟨_,_,_,_,q⟩:=kc b hb;rw[x'.sub _ _ e]at q; cases q]
  exact e
end
end HP
namespace HP
open PySem PySem.Spec PyProof.Rows L2
variable[FX]
theorem Zrr{a b:Int}{cv:Value}(l:List Value)(h:TriplesOk l):∀(pos:Pos) (c:Value),ZCm pos (l++[rawInt a,rawInt b,cv])=some c->ZCm pos l=some c\/c=cv:=by
 fun_induction TriplesOk l with
 | case1 =>
  intro pos c e;simp only[ZAr,ZCm,rawInt]at e;split at e
  ·cases e; exact .inr rfl
  ·cases e
 | case2 x t y u z rest ih =>
  intro pos c e;simp only[ZCT,ZCm]at e ⊢;split at e
  ·rename_i hq
   rw[if_pos hq];exact .inl e
  ·rename_i hq
   rw[if_neg hq];exact ih h pos c e
 | case3=>exact h.elim
def BMod(base:Heap)(mg:Str->Option Value):Prop:=∃bm o,mg "__builtins__" = some (.ref bm)/\bm≠ZCI/\bm≠Zzd/\base.get? bm=some o/\o.cls=.type "module"/\o.dict=some ZCI/\o.data=.plain
structure Zre(X:Cx)(t:Nat)(params:Arguments)(body:Expr)(scope:Scope)(names:List Str)(is:List Nat):Prop where
 code:∃c P,X.env.code=.ref c/\Zz8 X.K c P=true/\(P,X.env.qual ++ "<lambda>")∈FX.tl/\∀q,(P,q)∈FX.tl->q=X.env.qual ++ "<lambda>"
 bm:BMod X.base X.mg
 dflt:defaultsOf params X.env=([],[])
 len:is.length=names.length
 at_:∀(j i:Nat) (x:Str),is[j]?=some i->names[j]?=some x->X.N[i]?=some x/\X.env.scope.names.lookup x=some .cell
 cells:∀y∈scope.names,y.2=.free->X.env.scope.names.lookup y.1=some .cell
 free:∀x∈names,(x,ZAM)∈scope.names
 own:∀x,X.fn x=true
 good:∀F p cs,Clo X.K F p params body scope names cs->FX.fv t cs F p
section
variable{X:Cx}{t:Nat}{params:Arguments}{body:Expr}{scope:Scope}{names:List Str}{is:List Nat}{pos lpos p:Pos}
structure Made(X:Cx)(params:Arguments)(body:Expr)(scope:Scope)(H H':Hp)(q:Addr)(clos:List (Str × Addr)):Prop where
 ex:∃(pm ctv:Value) (c:Addr) (oc:Obj),H' q=some (Zbj q (ZCb "<lambda>" (X.env.qual ++ "<lambda>") params body scope clos pm c ctv))/\H' c=some (Zbj c oc)/\ZlK oc (X.env.qual ++ "<lambda>")
 hh:ZaB H H'
 tb:Tb H'
theorem Ztl(L:Zre X t params body scope names is){pins:List (Addr × Obj)}{s:Shared}{σ:L2.St}{H:Hp}(I:Inv X pins σ H s)(tb:Tb H){clos:List (Str × Addr)}(hcl:closureFor scope X.env=pure clos) :
  wpAny (model X.prog X.w) X.A (eval (.Lambda params body scope lpos) X.env) (λu s'=>∃q H',u=.ref q/\Inv X pins σ H' s'/\Made X params body scope H H' q clos) X.xe s:=by
 obtain⟨c,P,hc,hh,hm,hu⟩:=L.code;obtain⟨ps,hP,ht,hg⟩:=tb P _ hm;have gP:s.heap.get? P=some (ZBf ps):=I.hok P _ hP;have Ns:=I.mod.glob.keeps I.bk;have CH:PySem.W.CodeHd s.heap c P:=ZDr I.kIn hh;obtain⟨bm,ob,b1,b2,b3,b4,b5,b6,b7⟩:=L.bm;have gb:=I.bk _ _ b4;have hbP:bm≠P:=λz=>by rw[z,gP]at gb; cases gb; cases b5
 have hgP:Zzd≠P:=λz=>by obtain⟨o,es,ep,e,hd,_⟩:=Ns;rw[z,gP]at e; cases e; cases hd
 have BA:s.heap.BuiltinsAt X.mg P:=⟨bm,ob,b1,b2,b3,hbP,gb,b5,b6,b7⟩;refine PySem.W.kla_eval L.dflt ?_;cases hq:ZCm lpos ps.toList with
 | some cv =>
  obtain⟨a,oc,rfl,h1,h2⟩:=hg lpos cv hq;refine PySem.W.kla_makeFunctionHit hcl I.ok.glob Ns hc CH gP ht hq BA λctv h' tk hk hz=>?_;generalize hob:ZCb "<lambda>" (X.env.qual ++ "<lambda>") params body scope clos ((X.mg "__name__").getD .none) a ctv=fo;have hn:H h'.objs.size=none:=I.hok.fresh hz;have hk2:∀b o,s.heap.get? b=some o->(h'.push fo).get? b=some o:=λb o e=>Zyy _ (hk b o e);have gq:(h'.push fo).get? h'.objs.size=some fo:=by rw[<-hob]; exact ZyO _ rfl
  refine⟨h'.objs.size,upd H h'.objs.size (Zbj h'.objs.size fo),rfl,?_,⟨_,ctv,a,oc,by rw[ZC,<-hob],?_,h2⟩,.of (Zkm hn),tb.same (Zkm hn)⟩
  ·subst hob
   exact I.laid (t':=tk) hk2 hz (ZjF gq)
  ·rw[ZA (Zat h1 hn)]; exact h1
 | none =>
  refine PySem.W.kla_makeFunction hcl I.ok.glob Ns hc CH gP ht hq hgP BA λc' ctv h' tk hx hge hlt hrec htab=>?_;generalize hob:ZCb "<lambda>" (X.env.qual ++ "<lambda>") params body scope clos ((X.mg "__name__").getD .none) c' ctv=fo;generalize hps:ps++#[rawInt lpos.line,rawInt lpos.col,Zzj c']=ps2 at htab;obtain⟨c2,oc,vs,tq,e2,goc,d1,d2⟩:=hrec;cases e2;have hcn:H c'=none:=I.hok.fresh hge;have hqn:H h'.objs.size=none:=I.hok.fresh (Zzg hge (ZAp hlt));have hcq:c'≠h'.objs.size:=ZyQ hlt;have hcP:c'≠P:=λz=>by rw[z,hP]at hcn; cases hcn
  have hqP:h'.objs.size≠P:=λz=>by rw[z,hP]at hqn; cases hqn
  have gq:(h'.push fo).get? h'.objs.size=some fo:=by rw[<-hob]; exact ZyO _ rfl
  have gc:(h'.push fo).get? c'=some oc:=Zyy _ goc;have gP2:(h'.push fo).get? P=some (ZBf ps2):=Zyy _ htab;have hk2:∀b o,b≠P->s.heap.get? b=some o->(h'.push fo).get? b=some o:=λb o hb e=>Zyy _ (hx b o hb e);generalize hH':upd (upd (upd H P (.tbl ps2)) c' (Zbj c' oc)) h'.objs.size (Zbj h'.objs.size fo)=H';have aq:H' h'.objs.size=some (Zbj h'.objs.size fo):=by rw[<-hH',ZC]
  have ac:H' c'=some (Zbj c' oc):=by rw[<-hH',ZA hcq,ZC]
  have aP:H' P=some (.tbl ps2):=by rw[<-hH',ZA (Zzu hqP),ZA (Zzu hcP),ZC]
  have ao:∀b,b≠h'.objs.size->b≠c'->b≠P->H' b=H b:=λb n1 n2 n3=>by rw[<-hH',ZA n1,ZA n2,ZA n3]
  have at1:∀b o,H b=some o->b≠P->H' b=some o:=λb o e n=>by rw[ao b (Zat e hqn) (Zat e hcn) n]; exact e
  have nP:∀b o,H b=some o->(∀ps,o≠.tbl ps)->b≠P:=λb o e n z=>by rw[z,hP]at e; cases e; exact n _ rfl
  have old:∀b o,s.heap.get? b=some o->b≠h'.objs.size/\b≠c':=λb o e=>by have hb:=ZyK e;exact⟨ZyQ (ZyX hb (Zzg hge (ZAp hlt))),ZyQ (ZyX hb hge)⟩
  have hokN:HOk X.prog X.w H' (h'.push fo):=λb o e=>by
   by_cases n1:b=h'.objs.size
   ·subst n1; rw[aq]at e; cases e; exact ZjF gq
   ·by_cases n2:b=c'
    ·subst n2; rw[ac]at e; cases e; exact ZjF gc
    ·by_cases n3:b=P
     ·subst n3; rw[aP]at e; cases e; exact gP2
     ·rw[ao b n1 n2 n3]at e
      refine(I.hok b o e).stay (λd u hd z=>hk2 d u (λy=>?_) z) (λd z=>at1 d _ z (nP d _ z λ_ y=>by cases y)) λd xs z=>at1 d _ z (nP d _ z λ_ y=>by cases y);rcases hd with y2 | y2
      ·exact n3 (y2▸y)
      ·exact nP d _ y2 (λ_ q=>by cases q) y
  have un:Un X.fs [] H H' s.heap (h'.push fo):=by
   refine⟨λb o e n hb hx=>?_,λb o e n hb hx=>?_,λb o e n hx=>?_,λb o e hx=>?_,λb xs e=>at1 b _ e (nP b _ e λ_ y=>by cases y),λb o u e=>at1 b _ e (nP b _ e λ_ y=>by cases y),λb pp e=>?_⟩
   ·exact hk2 b o (λz=>by rw[z,hP]at n; cases n) e
   ·exact⟨o.slots,hk2 b o (λz=>by rw[z,hP]at n; cases n) e⟩
   ·obtain⟨n1,n2⟩:=old b o e
    rw[ao b n1 n2 (λz=>by rw[z,hP]at n; cases n)]; exact n
   ·by_cases n3:b=P
    ·exact⟨_,by rw[n3]; exact gP2⟩
    ·exact⟨o,hk2 b o n3 e⟩
   ·by_cases n3:b=P
    ·subst n3
     rw[hP]at e; cases e;exact⟨_,by rw[aP,<-hps]⟩
    ·exact⟨#[],by rw[at1 b _ e n3]; simp⟩
  refine⟨h'.objs.size,H',rfl,?_,⟨_,ctv,c',oc,by rw[aq,<-hob],ac,vs,tq,d1,d2⟩,λb o e=>?_,λT q hT=>?_⟩
  ·exact I.un (t':=tk) un hokN
  ·by_cases n3:b=P
   ·subst n3
    rw[hP]at e; cases e;exact⟨_,aP⟩
   ·exact .of (at1 b o e n3)
  ·by_cases n3:T=P
   ·subst n3
    obtain rfl:=hu q hT;refine⟨ps2,aP,?_,λpos' cc hcc=>?_⟩
    ·rw[<-hps,Array.toList_append]
     exact TriplesOk_snoc _ _ _ _ ht
    ·rw[<-hps,Array.toList_append]at hcc
     rcases Zrr _ ht _ _ hcc with e | e
     ·obtain⟨a,o,q1,q2,q3⟩:=hg pos' cc e
      exact⟨a,o,q1,at1 a _ q2 (nP a _ q2 λ_ y=>by cases y),q3⟩
     ·exact⟨c',oc,e,ac,vs,tq,d1,d2⟩
   ·obtain⟨ps',w1,w2,w3⟩:=tb T q hT
    refine⟨ps',at1 T _ w1 n3,w2,λpos' cc hcc=>?_⟩;obtain⟨a,o,q1,q2,q3⟩:=w3 pos' cc hcc;exact⟨a,o,q1,at1 a _ q2 (nP a _ q2 λ_ y=>by cases y),q3⟩
theorem ZoF{r:HM.Env}:∀{is:List Nat} {cs:List PyData},HM.ZkS is r=some cs->cs.length=is.length/\∀(j i:Nat),is[j]?=some i->∃d,cs[j]?=some d/\r[i]?=some (some (.pl d))
 | [],cs,h=>by cases h; exact⟨rfl,λj i e=>by simp at e⟩
 | i::is,cs,h=>by
  unfold HM.ZkS at h;split at h
  ·rename_i d hd
   obtain⟨cs',h1,h2⟩:=Zyu.mp h;subst h2;obtain⟨l,k⟩:=ZoF h1;refine⟨by rw[ZyI,ZyI,l],λj i' e=>?_⟩;cases j with
   | zero=>cases e; exact⟨d,rfl,hd⟩
   | succ j=>exact k j i' e
  ·cases h
def ZeU(F H:Hp):Hp:=λb=>match H b with
 | some (.ext φ)=>some (.ext φ)
 | _=>F b
theorem Zh3{F H:Hp}{a:Addr}{o:Obj}(h:H a=some (Zbj a o)):ZeU F H a=some (Zbj a o):=by unfold ZeU Zbj at *;rw[h]
theorem Zkq{F H:Hp}{b:Addr}{o:HO}(h:ZeU F H b=some o):(H b=some o/\te o=true)\/F b=some o:=by
 unfold ZeU at h;split at h
 ·rename_i φ e
  cases h;exact .inl ⟨e,rfl⟩
 ·exact .inr h
theorem Zu3{F H:Hp}(s:Zq F H){b:Addr}{o:HO}(h:F b=some o):ZeU F H b=some o:=by have h2:=s b o h;unfold ZeU;rw[h2];cases o<;>first | rfl | exact h
theorem ZqA{k:Nat}{x:Str}{M:List PyData->Option PyData}{e:Expr}{fa:HM.EF}(C:Callee X.prog X.w X.K X.mg X.base k x M)(hr:Zas k X.A)(L:Zre X t params body scope names is)(ha:XE X e fa)(hg:Gl X x:=by rfl)(hdb:(x==("__debug__":Str))=false:=by decide)
  (he:ZyF [e,.Lambda params body scope lpos] X.env=(false,eval e X.env)::ZyF [.Lambda params body scope lpos] X.env:=by rfl) (he2:ZyF [.Lambda params body scope lpos] X.env=[(false,eval (.Lambda params body scope lpos) X.env)]:=by rfl)
  (hpl:(backTo pos (ZyF [.Lambda params body scope lpos] X.env)).any (·.1)=false:=by rfl):XE X (.Call (.Name x p) [e,.Lambda params body scope lpos] [] pos) (HM.ZhZ M t is fa):=by
 intro r d hd;unfold HM.ZhZ at hd;split at hd
 case h_2=>cases hd
 rename_i d1 hd1;split at hd
 case h_2=>cases hd
 rename_i cs hcs;split at hd
 case isFalse=>cases hd
 rename_i hnc;split at hd
 case h_2=>cases hd
 rename_i d' hM;split at hd
 case isFalse=>cases hd
 rename_i hnd;cases hd;obtain⟨fa',fd,ps,hl,FN,hm,hk,hb⟩:=C.ex;intro pins s σ H Q I ⟨F0,H0,F,at_,kk⟩;obtain⟨clos,hcl,hc1,hc2⟩:=Zft (scope:=scope) (env:=X.env) λy hy hf=>I.ok.has _ (.inl (L.cells y hy hf));refine ZAH (ZlT I hg hm ?_ hdb);have lamPE:PE X (.Lambda params body scope lpos) λσ' H' Q'=>Tb H'/\∀q H2,Made X params body scope H' H2 q clos->Q' (.ref q) H2:=λpins' s' σ' H' Q' I' ⟨tb',k'⟩=>thn (Ztl L I' tb' hcl) λu s2 ⟨q,H2,e1,I2,m⟩=>by subst e1; exact⟨.ref q,H2,I2,rfl,k' q H2 m⟩
 refine ZDu (h₀:=X.base) I.ok.mod.kin hk (thn (Zai (ha r d1 hd1) (Zai lamPE ZbH he2) he pos pins s σ H (λvs H2=>∃v1 F1 H1 q,vs=[v1,.ref q]/\Ext F H F1 H1/\Rep X.K F1 d1 v1/\Made X params body scope H1 H2 q clos) I
  ⟨F0,H0,F,at_,λv F1 H1 x1 r1=>⟨at_.tbx x1,λq H2 m=>⟨v,F1,H1,q,rfl,x1,r1,m⟩⟩⟩) λus s2 ⟨vs,H2,I2,rv,v1,F1,H1,q,ev,x1,r1,m⟩=>⟨I2.kIn,?_⟩) he hpl
 subst ev;have at1:=at_.grow x1;have tb1:=at_.tbx x1;have nt1:=at_.ntx x1;generalize hCs:cellsOf clos=Cs;have hCm:∀a,a∈Cs↔∃y,clos.lookup y=some a:=λa=>by rw[<-hCs]; exact Zmc
 have hCc:∀a∈Cs,∃y o v,X.env.cells.lookup y=some a/\s2.heap.get? a=some o/\o.data=.cell v/\H2 a=none:=λa ha=>by obtain⟨y,e⟩:=(hCm a).mp ha;have e1:=hc1 y a e;obtain⟨v,o,h1,h2⟩:=I2.cell y a e1;exact⟨y,o,v,e1,h1,h2,I2.freeC y a e1⟩
 generalize hG:(λa:Addr=>(s2.heap.get? a).map (Zbj a))=G;have hGo:∀{a:Addr} {o:Obj},s2.heap.get? a=some o->G a=some (Zbj a o):=λ{a o} e=>by rw[<-hG]; show ZAi _ _=_; rw[e]; rfl
 generalize hH3:Zhm Cs G H2=H3;have h3in:∀{a:Addr},a∈Cs->∃o v,H3 a=some (Zbj a o)/\s2.heap.get? a=some o/\o.data=.cell v:=λ{a} ha=>by obtain⟨y,o,v,_,g1,g2,_⟩:=hCc a ha;exact⟨o,v,by rw[<-hH3,ZeP ha]; exact hGo g1,g1,g2⟩
 have h3out:∀{a:Addr},a ∉ Cs->H3 a=H2 a:=λ{a} ha=>by rw[<-hH3,Zbk ha]
 have s23:Zq H2 H3:=λb o z=>by rw[h3out λhb=>by obtain⟨_,_,_,_,_,_,g⟩:=hCc b hb;rw[g]at z; cases z];exact z
 have cge:∀a∈Cs,X.s₀.heap.objs.size<=a:=λa ha=>by obtain⟨y,_,_,e1,_⟩:=hCc a ha;exact I.ok.cab y a (L.own y) e1
 have hok3:HOk X.prog X.w H3 s2.heap:=by rw[<-hH3];refine HOk.put I2.hok (λa ha=>by obtain⟨_,_,_,_,_,_,g⟩:=hCc a ha; exact g) λa ha u e=>?_;obtain⟨y,o,v,_,g1,g2,_⟩:=hCc a ha;rw[hGo g1]at e; cases e;exact⟨o,rfl,g1⟩
 have E2:=I2.env0;have cfr:∀b∈frs X.stack,b ∉ Cs:=λb hb hc=>by
  obtain⟨y,o,v,e1,g1,g2,_⟩:=hCc b hc;rcases ZyR.mp (I2.stkSub b hb)with z | z
  ·exact I2.cne y b e1 z
  ·obtain⟨_,o',ho',_⟩:=I.ok.funs.mem z
   exact absurd (ZyX (ZyK ho') (cge b hc)) (ZAh _)
 have E3:ZeR X.prog X.w X.K X.mg X.base X.A X.stack s2 H3:=⟨E2.frames,E2.mod,λb o z=>⟨(E2.bs b o z).1,by rw[h3out λhb=>absurd (ZyX (ZyK z) (Zzg I.ok.bsz (cge b hb))) (ZAh _)];exact(E2.bs b o z).2⟩,E2.bsz,E2.funs,λb hb=>by rw[h3out (cfr b hb)]; exact E2.frf b hb,hok3,E2.bare⟩;have s12:Zq F1 H2:=λb o z=>m.hh.ntb (x1.sub b o z) (nt1 b o z);have s13:Zq F1 H3:=s12.trans s23;have ff:Zq F1 (ZeU F1 H3):=λb o z=>Zu3 s13 z;have s33:Zq (ZeU F1 H3) H3:=λb o z=>by
  rcases Zkq z with⟨w,_⟩ | w
  ·exact w
  ·exact s13 b o w
 have nt3:NoT (ZeU F1 H3):=λb o z=>by
  rcases Zkq z with⟨w1,w2⟩ | w
  ·unfold ZeU at z
   split at z
   ·cases z; rfl
   ·exact nt1 b o z
  ·exact nt1 b o w
 have tb3:Tb H3:=m.tb.same s23;obtain⟨pm,ctv,c,oc,m1,m2,m3⟩:=m.ex;obtain⟨cl1,cl2⟩:=ZoF hcs;have clo:Clo X.K (ZeU F1 H3) q params body scope names cs:=by
  refine⟨_,pm,ctv,c,oc,clos,Zh3 (s23 _ _ m1),Zh3 (s23 _ _ m2),m3,λy z a g1 g2=>I.ok.inj y z a (hc1 y a g1) (hc1 z a g2),hc2,λy a g=>?_,by rw[cl1,L.len],λj y dj g1 g2=>?_⟩
  ·obtain⟨o,v,w1,w2,w3⟩:=h3in ((hCm a).mpr ⟨y,g⟩)
   exact⟨o,v,Zh3 w1,w3⟩
  ·have hj:j<is.length:=by rw[L.len]; exact(ZyG.mp g1).1
   obtain⟨dj',g3,g4⟩:=cl2 j is[j] (ZyH hj);rw[g2]at g3;cases g3;obtain⟨hN,hkind⟩:=L.at_ j is[j] y (ZyH hj) g1;obtain⟨v,w1,w2⟩:=at1.plain g4;obtain⟨mm,_,hloc⟩:=I2.loc;obtain⟨u,ru,lk⟩:=hloc is[j] y v hN w1 (.inr (.inl hkind));have hfr:=hc2 _ (L.free y (ZyW g1)) rfl;obtain⟨a,hal⟩:=Zy4.mp hfr;rcases lk with⟨k1,_⟩ | ⟨_,a',k1,o,k2,k3⟩
   ·rw[show X.env.kindOf y=some .cell from hkind]at k1; cases k1
   ·rw[hc1 y a hal]at k1
    cases k1;obtain⟨o',v',z1,z2,z3⟩:=h3in ((hCm a).mpr ⟨y,hal⟩);rw[k2]at z2;cases z2;refine⟨a,o,u,v,hal,Zh3 z1,k3,ru,Rep.cutF (λb ob z _=>ff b ob z) w2 20 ?_⟩;exact ZyD.mp hnc dj (ZyW g2)
 have fv:=L.good _ _ _ clo;have hlen:=hl _ _ hM;refine wpAny_call (ZAG (FN.run X.A X.stack s2 H3 ⟨us,[]⟩ us [v1,.ref q] (λv H4=>∃F4,Ext (ZeU F1 H3) H3 F4 H4/\Rep X.K F4 d v) E0 hr E3 (by
  have:=hb s2 us I2.kIn (by rw[Zy7,<-rv.length]; exact hlen)
  rwa [Zy7]at this) rv ⟨ZeU F1 H3,_,d,hlen,s33,tb3,nt3,.cons (r1.mono ff) (.one (.fn fv)),hM,λv F4 H4 x4 q4=>⟨F4,x4,q4⟩⟩) λrs s4 hq=>?_)
 cases rs with
 | error e=>exact Zzw hq
 | ok fl =>
  cases fl with
  | next=>exact Zzw hq
  | brk=>exact Zzw hq
  | cont=>exact Zzw hq
  | ret u =>
   obtain⟨v,H4,os,bare,un,hok4,ru,F4,x4,q4⟩:=hq;have c4:∀{a:Addr},a∈Cs->∃o v,H4 a=some (Zbj a o)/\s2.heap.get? a=some o/\s4.heap.get? a=some o/\o.data=.cell v:=λ{a} ha=>by obtain⟨o,v,w1,w2,w3⟩:=h3in ha;have w4:H4 a=some (Zbj a o):=x4.hh.ntb w1 rfl;exact⟨o,v,w4,w2,Zcs (hok4 a _ w4),w3⟩
   have out4:∀{b:Addr} {o:HO},H2 b=some o->b ∉ Cs:=λ{b o} z hb=>by obtain⟨_,_,_,_,_,_,g⟩:=hCc b hb;rw[g]at z; cases z
   generalize hF5:(λb:Addr=>match F4 b with | some o=>if te o=true then F1 b else some o | none=>none)=F5;have f5:∀{b:Addr} {o:HO},F5 b=some o->(F4 b=some o/\te o=false)\/F1 b=some o:=λ{b o} z=>by
    rw[<-hF5]at z;dsimp only at z;split at z
    ·rename_i o' w
     split at z
     ·exact .inr z
     ·rename_i n
      cases z;exact .inl ⟨w,by simpa using n⟩
    ·cases z
   have f5a:∀{b:Addr} {o:HO},F4 b=some o->te o=false->F5 b=some o:=λ{b o} z n=>by rw[<-hF5]; dsimp only; rw[z]; dsimp only; rw[if_neg (by rw[n]; simp)]
   have f5b:∀{b:Addr} {o:HO},F1 b=some o->F5 b=some o:=λ{b o} z=>by
    have w:=x4.ff b o (ff b o z)
    by_cases n:te o=true
    ·rw[<-hF5]; dsimp only; rw[w]; dsimp only; rw[if_pos n]; exact z
    ·exact f5a w (by simpa using n)
   have sub5:Zq F5 (Za6 Cs H4):=λb o z=>by
    rcases f5 z with⟨w,n⟩ | w
    ·rw[Zan λhb=>by
      obtain⟨_,_,g,_⟩:=c4 hb;rw[x4.sub b o w]at g; cases g; cases n]
     exact x4.sub b o w
    ·rw[Zan (out4 (s12 b o w))]
     exact x4.sub b o (x4.ff b o (ff b o w))
   refine I2.after ⟨v,Za6 Cs H4,os,bare,⟨λb o e n hb hx=>?_,λb o e n hb hx=>?_,λb o e n hx=>?_,un.there,λb xs e=>?_,λb o w e=>?_,λb pp e=>?_⟩,HOk.cut hok4 (λa ha o e=>?_),ru,kk v F5 (Za6 Cs H4) (x1.trans ⟨λb o z=>f5b z,λb o z=>?_,sub5,λb o z=>?_,λtb=>?_,λ_ b o z=>?_⟩) ((Rep.cutF (λb o z n=>f5a z n) q4 20 hnd).up)⟩
   ·by_cases hc:b∈Cs
    ·obtain⟨o',_,_,w2,w3,_⟩:=c4 hc
     rw[e]at w2; cases w2; exact w3
    ·exact un.keep b o e (by rw[h3out hc]; exact n) hb hx
   ·exact un.slot b o e (by rw[h3out (cfr b hb)]; exact n) hb hx
   ·by_cases hc:b∈Cs
    ·exact ZhH hc
    ·rw[Zan hc]; exact un.free b o e (by rw[h3out hc]; exact n) hx
   ·rw[Zan (out4 e)]; exact un.tups b xs (s23 _ _ e)
   ·rw[Zan (out4 e)]; exact un.frzs b o w (s23 _ _ e)
   ·rw[Zan (out4 e)]; exact un.tbls b pp (s23 _ _ e)
   ·obtain⟨o',_,g,_⟩:=c4 ha
    rw[g]at e; cases e; rfl
   ·-- tracked things stay
    have z2:=m.hh b o z;have key:∀{u:HO},H2 b=some u->Zdd (Za6 Cs H4) b u:=λ{u} w=>(x4.hh b u (s23 b u w)).cong (Zan (out4 w));cases o<;>first | exact key z2 | (obtain⟨pp,w⟩:=z2; exact(show ∃ps',_ from key w))
   ·rcases f5 z with⟨w,n⟩ | w
    ·rcases x4.new b o w with y | y
     ·rcases Zkq y with⟨_,y2⟩ | y2
      ·rw[n]at y2; cases y2
      ·exact .inl y2
     ·refine .inr ?_
      have hcb:b ∉ Cs:=λhb=>by
       obtain⟨o',_,g,_⟩:=h3in hb;rcases y with y | ⟨xs,_,y⟩
       ·rw[g]at y; cases y
       ·rw[g]at y; cases y
      rcases y with y | ⟨xs,y1,y2⟩
      ·rw[h3out hcb]at y
       exact .inl (m.hh.free y)
      ·rw[h3out hcb]at y2
       cases w1:H1 b with
       | none=>exact .inl w1
       | some u =>
        have:=m.hh.back w1 y2 λ_ q=>by cases q
        subst this;exact .inr ⟨xs,y1,w1⟩
    ·exact .inl w
   ·refine(x4.tab tb3).cut hok4 λa ha=>?_
    obtain⟨o,v',g1,_,_,g4⟩:=c4 ha;exact⟨o,v',g1,g4⟩
   ·rcases f5 z with⟨w,_⟩ | w
    ·exact x4.nts nt3 b o w
    ·exact nt1 b o w
end
end HP
namespace HP
open PySem PySem.Spec PyProof.Rows L2
structure Zrx(K:Zys)(x qual:Str)(st:Stmt)(f:Addr)(fd:FuncData)(c:Addr):Prop where
 ex:∃(oc:Value) (od:Option Addr) (kV doc pm:Value) (an:Option Addr) (ct:Value) (osl:Array (Option Value)),
  fd=ZzM x qual (Zcf st) (ZaT st) (Ze st) .none kV doc pm an (.ref c) ct/\K.lookup f=some ⟨oc,od,.func fd,osl⟩/\ZAA K (.ref c) qual=true
 kp:ZzQ K (.ref f)=true
theorem Zvp{K:Zys}{x qual:Str}{st:Stmt}{f c:Addr}{oc:Value}{od an:Option Addr}{osl:Array (Option Value)}{kV doc pm ct:Value}(l:K.lookup f=some ⟨oc,od,.func (ZzM x qual (Zcf st) (ZaT st) (Ze st) .none kV doc pm an (.ref c) ct),osl⟩)
  (h:ZAA K (.ref c) qual=true) (k:ZzQ K (.ref f)=true):Zrx K x qual st f (ZzM x qual (Zcf st) (ZaT st) (Ze st) .none kV doc pm an (.ref c) ct) c:=⟨⟨oc,od,kV,doc,pm,an,ct,osl,rfl,l,h⟩,k⟩
section
variable[FX]
theorem Zrh{P:Program}{w:World}{K:Zys}{mg:Str->Option Value}{base:Heap}{k:Nat}{x qual:Str}{st:Stmt}{f c:Addr}{fd:FuncData}{N ps:List Str}{g:HM.SF}(Fn:Zrx K x qual st f fd c)(S:Zw N ps (Ze st))(hm:mg x=some (.ref f))(hb:Binds K fd ps [])
  (body:∀(A:Around) (outer:List Env) (s:Shared) (H:Hp) (E:XK),Zas k (A.deeper (envOfC qual (Ze st) s.heap.objs.size f (.ref c)))->XSs (ZgA CX0 P w K mg base N qual (Ze st) f (.ref c) A outer s H E).nox (ZaT st) g) :
  Callee P w K mg base (k+1) x (HM.fnOf ps.length N.length g):=by
 have hpl:ps.length<=N.length:=by have:=congrArg Zzf S.pre; rw[ZzO]at this; omega
 refine⟨f,fd,ps,λds d h=>?_,?_,hm,Fn.kp,hb⟩
 ·unfold HM.fnOf at h
  split at h
  ·assumption
  ·cases h
 ·obtain⟨oc,od,kV,doc,pm,an,ct,osl,rfl,lk,hcd⟩:=Fn.ex
  refine Zus lk hcd S (λvs H Q E h=>by obtain⟨_,_,_,h,_⟩:=h; exact h) λA outer s H vs Q E hr h=>?_;obtain⟨F,ds,d,hl,sub,tb,nt,q,hM,kk⟩:=h;unfold HM.fnOf at hM;split at hM
  ·rename_i hds
   have a0:=Zgq (N:=N) sub tb nt q (by omega);split at hM
   ·rename_i r hr'
    cases hM;exact⟨_,(body A outer s H E hr _ _ hr').nox,F,H,F,a0,λσ F' H' a'=>kk .non F' H' a'.ext .non⟩
   ·rename_i d' hr'
    cases hM;exact⟨_,(body A outer s H E hr _ _ hr').nox,F,H,F,a0,λv F' H' x q=>kk v F' H' x q⟩
   ·cases hM
  ·cases hM
def Zrd(N:List Str)(sc scope:Scope)(names:List Str)(is:List Nat):Bool :=
 decide (is.length=names.length)&&(is.zip names).all (λq=>decide (N[q.1]?=some q.2)&&decide (sc.names.lookup q.2=some .cell))&&scope.names.all (λy=>decide (y.2≠.free)||decide (sc.names.lookup y.1=some .cell))&&names.all λx=>decide ((x,ZAM)∈scope.names)
theorem Zuh{X:Cx}{t:Nat}{params:Arguments}{body:Expr}{scope sc:Scope}{names N:List Str}{is:List Nat}{c T:Addr}{q:Str}(ck:Zrd N sc scope names is=true)(h1:Zz8 X.K c T=true)(h2:(T,q)∈FX.tl)(h3:∀q',(T,q')∈FX.tl->q'=q)(bm:BMod X.base X.mg)
  (good:∀F p cs,Clo X.K F p params body scope names cs->FX.fv t cs F p) (hN:X.N=N:=by rfl) (hs:X.env.scope=sc:=by rfl) (hc:X.env.code=.ref c:=by rfl) (hq:X.env.qual ++ "<lambda>" = q:=by rfl) (hd:defaultsOf params X.env=([],[]):=by rfl) (ho:∀x,X.fn x=true:=by exact λ_=>rfl) :
  Zre X t params body scope names is:=by
 unfold Zrd at ck;rw[ZyN,ZyN,ZyN]at ck;obtain⟨⟨⟨k1,k2⟩,k3⟩,k4⟩:=ck;refine⟨⟨c,T,hc,h1,by rw[hq]; exact h2,λq' z=>by rw[hq]; exact h3 q' z⟩,bm,hd,of_decide_eq_true k1,λj i x e1 e2=>?_,λy hy hf=>?_,λx hx=>?_,ho,good⟩
 ·have:(i,x)∈is.zip names:=ZyW (i:=j) (by rw[List.getElem?_zip_eq_some]; exact⟨e1,e2⟩)
  have:=ZyD.mp k2 _ this;rw[ZyN]at this;rw[hN,hs];exact⟨of_decide_eq_true this.1,of_decide_eq_true this.2⟩
 ·have:=ZyD.mp k3 y hy
  rw[ZAd]at this;rw[hs];rcases this with z | z
  ·exact absurd hf (of_decide_eq_true z)
  ·exact of_decide_eq_true z
 ·exact of_decide_eq_true (ZyD.mp k4 x hx)
theorem Zvl{P:Program}{w:World}{K:Zys}{mg:Str->Option Value}{base:Heap}{x qual:Str}{st:Stmt}{f a:Addr}{fd:FuncData}(Fn:Fun K x qual st f fd)(hm:mg x=some (.ref f))(ha:mg x=some (.ref a)){A:Around}{outer:List Env}{s:Shared}{H:Hp}(e0:ZeR P w K mg base A outer s H):ZDx a s.heap:=by rw[hm]at ha;cases ha;obtain⟨oc,od,kV,doc,pm,an,cdv,ct,osl,rfl,lk,hcd⟩:=Fn.ex;have KX:K.In s.heap:=e0.mod.kin.keeps λb o e=>(e0.bs b o e).1;exact⟨_,_,_,_,KX _ _ lk⟩
theorem ZtA{P:Program}{w:World}{K:Zys}{mg:Str->Option Value}{base:Heap}{k:Nat}{x:Str}{M:List PyData->Option PyData}{a:Addr}(C:Callee P w K mg base k x M)(ha:mg x=some (.ref a)){A:Around}{outer:List Env}{s:Shared}{F H:Hp}(e0:ZeR P w K mg base A outer s H)(sub:Zq F H)
  {us:List Value} {vs:List V} {ds:List PyData} {d:PyData} {Q:VK} (hr:Zas k A) (tb:Tb H) (nt:NoT F) (rv:Vals vs us) (rs:Zt K F ds vs) (hM:M ds=some d) (kk:∀v F' H',Ext F H F' H'->Rep K F' d v->Q v H') :
  codeAny (model P w) A (.call (.ref a) ⟨us,[]⟩) (CR CX0 outer P w H s Q E0) s:=by
 obtain⟨f,fd,ps,hl,FN,hm,hk,hb⟩:=C.ex;rw[hm]at ha;cases ha;have KX:K.In s.heap:=e0.mod.kin.keeps λb o e=>(e0.bs b o e).1;have hlen:vs.length=ps.length:=by rw[<-rs.1]; exact hl _ _ hM
 refine FN.run A outer s H ⟨us,[]⟩ us vs Q E0 hr e0 ?_ rv ⟨F,ds,d,hlen,sub,tb,nt,rs,hM,kk⟩;have:=hb s us KX (by rw[Zy7,<-rv.length]; exact hlen)
 rwa [Zy7]at this
end
def Zm7(tabs:List Addr)(H:Hp):Prop:=(∀b,H b=none\/(∃o xs,H b=some (.frz o (.lst xs)))\/H b=some (.tbl #[]))/\∀T∈tabs,H T=some (.tbl #[])
theorem Zr7{P:Program}{w:World}{K:Zys}{mg mb:Str->Option Value}{k:Nat}{fa a:Addr}{fd:FuncData}{x:Str}{sp:Sp}{s₁:Shared}{vs:List Value}{ns:List Int}{tabs:List (Addr × Addr)}
  (hT:∀q∈tabs,Zz8 K q.1 q.2=true/\K.lookup q.2=none/\s₁.heap.get? q.2=some (ZBf #[]))
  (KX:K.In s₁.heap) (hns:s₁.heap.Ns Zzd mg) (hb:s₁.heap.Ns ZCI mb) (hbb:∀x:Str,x ≠ "__name__"->mb x=Zzt x) (hlim:s₁.heap.NoLimit) (hg:s₁.gens=#[])
  (ha:s₁.heap.get? a=some { cls:=.type "list",data:=.seq vs.toArray }) (hi:IntsAre vs ns) (hl:ns.length<=sizeLine) (hr:Zas k callerA)
  (hbm:PyProof.Rows.BMain s₁.heap mg) (F:∀base:Heap,K.In base->base.Ns Zzd mg->BMod base mg->Zdt P w K mg base CX0 k fa fd [x] sp) (hbind:∀(s:Shared) (u:Value),BindsTo s fd ⟨[u],[]⟩ [(x,u)])
  (hsp:∀H:Hp,Zm7 (tabs.map (·.2)) H->SqL K H a (ns.map V.int)->sp [.ref a] H (λv _=>v=.bl true) λ_ _ _=>False) :
  codeAny (model P w) callerA (.call (.ref fa) ⟨[.ref a],[]⟩) (λr s'=>r=.ok (.ret (.bool true))/\OldK s₁.heap s'.heap/\s'.os=s₁.os/\AllBare s'.gens) s₁:=by
 have rv:=Zmn hi;have lenV:=hi.length;have tne:∀q∈tabs,q.2≠a:=λq hq z=>by have:=(hT q hq).2.2;rw[z,ha]at this; cases this
 have core:∀oS:Option HO,(oS=none\/∃o xs,oS=some (.frz o (.lst xs)))->(∀H:Hp,H a=oS->SqL K H a (ns.map V.int))->(∀H:Hp,∀u,oS=some u->Zab P w H s₁.heap a u)->(oS≠none->K.lookup a=none) ->
   codeAny (model P w) callerA (.call (.ref fa) ⟨[.ref a],[]⟩) (λr s'=>r=.ok (.ret (.bool true))/\OldK s₁.heap s'.heap/\s'.os=s₁.os/\AllBare s'.gens) s₁:=by
  intro oS hO hS hok0 hK;generalize hH:(λb:Addr=>if b=a then oS else if b∈tabs.map (·.2)then some (HO.tbl #[])else none)=H;have Ha:H a=oS:=by rw[<-hH]; exact if_pos rfl
  have Ht:∀T∈tabs.map (·.2),H T=some (.tbl #[]):=λT hT'=>by obtain⟨q,hq,e⟩:=ZyC.mp hT';rw[<-hH];show(if T=a then oS else if T∈tabs.map (·.2)then some (HO.tbl #[])else none)=_;rw[if_neg (by rw[<-e]; exact tne q hq),if_pos hT']
  have Hc:∀b u,H b=some u->(b=a/\oS=some u)\/(b∈tabs.map (·.2)/\u=.tbl #[]):=λb u e=>by
   rw[<-hH]at e;dsimp only at e;split at e
   ·rename_i h; exact .inl ⟨h,e⟩
   ·split at e
    ·rename_i h; cases e; exact .inr ⟨h,rfl⟩
    ·cases e
  have tget:∀T∈tabs.map (·.2),s₁.heap.get? T=some (ZBf #[])/\K.lookup T=none/\∃c,Zz8 K c T=true:=λT hT'=>by obtain⟨q,hq,e⟩:=ZyC.mp hT';subst e;exact⟨(hT q hq).2.2,(hT q hq).2.1,q.1,(hT q hq).1⟩
  have hok:HOk P w H s₁.heap:=λb u e=>by
   rcases Hc b u e with⟨rfl,e'⟩ | ⟨h,rfl⟩
   ·exact hok0 H u e'
   ·exact(tget b h).1
  have base_of:∀{b:Addr} {o:Obj},s₁.heap.get? b=some o->H b=none->(Zhc s₁.heap H).get? b=some o:=λe n=>Ztf e n;have noA:∀{b:Addr} {o:Obj} {es:Array DictEntry} {ep:Nat},s₁.heap.get? b=some o->o.data=.dict es ep->H b=none:=λ{b o es ep} e d=>by
   cases q:H b with
   | none=>rfl
   | some u =>
    rcases Hc b u q with⟨rfl,_⟩ | ⟨h,_⟩
    ·rw[ha]at e; cases e
     have d':Data.seq vs.toArray _=Data.dict es ep:=d;cases d'
    ·rw[(tget b h).1]at e; cases e; cases d
  have nsK:∀{b:Addr} {m:Str->Option Value},s₁.heap.Ns b m->(Zhc s₁.heap H).Ns b m:=λ{b m} ⟨o,es,ep,e,d,r⟩=>⟨o,es,ep,base_of e (noA e d),d,r⟩;have hKb:K.In (Zhc s₁.heap H):=λb o e=>base_of (KX b o e) (by
   cases q:H b with
   | none=>rfl
   | some u =>
    rcases Hc b u q with⟨rfl,e'⟩ | ⟨h,_⟩
    ·rw[hK (by rw[e']; simp)]at e; cases e
    ·rw[(tget b h).2.1]at e; cases e)
  have hM:Mod K mg (Zhc s₁.heap H):=⟨hKb,nsK hns,⟨mb,nsK hb,hbb⟩,let ⟨mc,h1,h2⟩:=hlim; ⟨mc,nsK h1,h2⟩⟩;have e0:ZeR P w K mg (Zhc s₁.heap H) callerA [] s₁ H:=⟨rfl,hM,λb o e=>ZuN e,ZB8 (ZsF _ _),trivial,λb hb=>absurd (show b∈([]:List Addr) from hb) (by simp),hok,.of_eq hg⟩;have hOT:Zm7 (tabs.map (·.2)) H:=⟨λb=>by
   cases q:H b with
   | none=>exact .inl rfl
   | some u =>
    rcases Hc b u q with⟨_,e'⟩ | ⟨_,rfl⟩
    ·rcases hO with z | ⟨o,xs,z⟩
     ·rw[z]at e'; cases e'
     ·rw[z]at e'; cases e'; exact .inr (.inl ⟨o,xs,rfl⟩)
    ·exact .inr (.inr rfl),Ht⟩
  have hBM:BMod (Zhc s₁.heap H) mg:=by
   obtain⟨bm,ob,b1,b2,b3,b4,b5,b6⟩:=hbm;refine⟨bm,ob,b1,b2,λz=>?_,base_of b3 ?_,b4,b5,b6⟩
   ·obtain⟨o,es,ep,e,d,_⟩:=hns
    rw[z,e]at b3; cases b3; rw[b6]at d; cases d
   ·cases q:H bm with
    | none=>rfl
    | some u =>
     rcases Hc bm u q with⟨z,_⟩ | ⟨h,_⟩
     ·rw[z,ha]at b3; cases b3; exact absurd (show(ZBA "list":Value)=.type "module" from b4) (by decide)
     ·rw[(tget bm h).1]at b3; cases b3; cases b4
  refine ZAG ((F _ hKb (nsK hns) hBM).run callerA [] s₁ H ⟨[.ref a],[]⟩ [.ref a] [.ref a] _ _ hr e0 (hbind s₁ (.ref a)) (.cons rfl .nil) (hsp H hOT (hS H Ha))) λr s' h=>?_;cases r with
  | error e=>exact Zzw h
  | ok fl =>
   cases fl with
   | next=>exact Zzw h
   | brk=>exact Zzw h
   | cont=>exact Zzw h
   | ret u =>
    obtain⟨v,H',os,bare,un,hok',r',q⟩:=h;have q':v=.bl true:=q;subst q';obtain rfl:u=Value.bool true:=r';refine⟨rfl,⟨λb o e=>?_,λb o e=>un.there b o e (by simp)⟩,os,bare⟩;cases q:H b with
    | none=>exact .inl (un.keep b o e q (by intro z; exact absurd (show b∈([]:List Addr) from z) (by simp)) (by simp))
    | some u =>
     rcases Hc b u q with⟨rfl,e'⟩ | ⟨h,rfl⟩
     ·rcases hO with z | ⟨ob,xs,z⟩
      ·rw[z]at e'; cases e'
      ·rw[z]at e'; cases e'
       have z2:=un.frzs _ ob _ q;obtain⟨e1,_⟩:=hok _ _ q;obtain⟨e2,_⟩:=hok' _ _ z2;rw[e]at e1; cases e1;exact .inl e2
     ·obtain⟨g1,_,c,g3⟩:=tget b h
      rw[g1]at e; cases e;obtain⟨more,z2⟩:=un.tbls b _ q;have z3:s'.heap.get? b=some { cls:=.none,data:=.fields (#[]++more) }:=hok' b _ z2;refine .inr (.inl ⟨((ZDr KX g3).tab g1).isCodeTable,rfl,#[],more,rfl,z3⟩)
 cases hk:K.lookup a with
 | some o=>have e:=KX a o hk;rw[ha]at e;cases e;exact core none (.inl rfl) (λH _=>.inr ⟨_,vs.toArray,_,hk,rfl,rfl,rfl,by rw[ZyJ,lenV]; exact hl,by simpa using rv⟩) (λH u z=>by cases z) λz=>absurd rfl z
 | none=>refine core (some (.frz { cls:=.type "list",data:=.seq vs.toArray } (.lst (ns.map V.int)))) (.inr ⟨_,_,rfl⟩) (λH e=>.inl (.inr ⟨_,e⟩)) (λH u z=>?_) λ_=>hk;cases z;exact⟨ha,by rw[Zyt]; exact hl,vs,_,rv,ha⟩
theorem Zue{l:ZC5}{n k:Nat}{q:Program}{loose:List Str}{XP:(Str->Option Value)->Heap->Prop}{YP:World->Heap->Prop}{d:DefRec}{K:Params->Zys}{sp:World->Sp}{x:Str}{tabs:List (Addr × Addr)}
  (hn:l.most=some n) (hn2:n<=sizeLine) (hdf:d.params.defaults=[]) (hr:Zas k callerA)
  (hY:∀(w:World) (h:Heap),YP w h->(K w.params).In h) (hYT:∀(w:World) (h:Heap),YP w h->∀q∈tabs,h.get? q.2=some (ZBf #[]))
  (hT:∀(w:World),∀q∈tabs,Zz8 (K w.params) q.1 q.2=true/\(K w.params).lookup q.2=none)
  (F:∀(w:World) (mg:Str->Option Value) (fa:Addr) (h:Heap),(K w.params).In h->h.Ns Zzd mg->mg d.name=some (.ref fa) ->
   ∃fd:FuncData,(∀(s:Shared) (u:Value),BindsTo s fd ⟨[u],[]⟩ [(x,u)]) /\
    ∀base:Heap,(K w.params).In base->base.Ns Zzd mg->BMod base mg->Zdt l.prog w (K w.params) mg base CX0 k fa fd [x] (sp w))
  (hsp:∀(w:World) (H:Hp) (a:Addr) (ns:List Int),ns.length<=n->Zm7 (tabs.map (·.2)) H->SqL (K w.params) H a (ns.map V.int)->sp w [.ref a] H (λv _=>v=.bl true) λ_ _ _=>False) :
  PySem.W.WalkO q loose XP YP l.row.toRowW d [] (λf vs=>PySem.call f vs):=by
 refine Att.ZpP hn hdf λw s₀ s₁ mg mb fa o pm cd doc a vs ns G Y ho hd hcd hmg hobj hints hlen hg=>?_;have KX:=hY w _ Y;obtain⟨fd,hb,hF⟩:=F w mg fa _ KX G.T.g hmg;exact Zr7 (λq hq=>⟨(hT w q hq).1,(hT w q hq).2,hYT w _ Y q hq⟩) KX G.T.g G.T.b G.T.builtins G.T.nolimit hg hobj hints (Zzg hlen hn2) hr G.T.bmain hF hb λH hO hS=>hsp w H a ns hlen hO hS
end HP
namespace HP
open PySem PySem.Spec PyProof.Rows L2
def Zxb:Stmt->Option (Arguments × Expr × Scope)
 | .Return (some (.Call _ [_,.Lambda a b s _] _ _)) _=>some (a,b,s)
 | .Assign _ (.Call _ [_,.Lambda a b s _] _ _) _=>some (a,b,s)
 | _=>none
def ZlV(st:Stmt):Arguments × Expr × Scope:=((ZaT st).findSome? Zxb).getD default
abbrev Zv6(st:Stmt):Arguments:=(ZlV st).1
abbrev ZtK(st:Stmt):Expr:=(ZlV st).2.1
abbrev Zlr(st:Stmt):Scope:=(ZlV st).2.2
theorem Zwx{P:Program}{w:World}{K:Zys}{mg:Str->Option Value}{base:Heap}{A:Around}{outer:List Env}{s:Shared}{F H:Hp}{p:Addr}{params:Arguments}{body:Expr}{scope:Scope}{names:List Str}{cs:List PyData}
  (C:Clo K F p params body scope names cs) (e0:ZeR P w K mg base A outer s H) (sub:Zq F H):ZDx p s.heap:=by
 obtain⟨qual,pm,ctv,c,oc,clos,h1,_⟩:=C.ex;exact⟨_,_,_,_,Zcs (e0.hok p _ (sub _ _ h1))⟩
section
variable[FX]
theorem Zwl{K:Zys}{M:List PyData->Option PyData}{H:Hp}{a:Addr}{ns:List Int}{tabs:List Addr}(hO:Zm7 tabs H)(ht:∀T q,(T,q)∈FX.tl->T∈tabs)(hS:SqL K H a (ns.map V.int))(hM:M [.list (HM.ofInts ns)]=some (.bool true)) :
  spD K 1 M [.ref a] H (λv _=>v=.bl true) λ_ _ _=>False:=by
 refine⟨Zcw H,[.list (HM.ofInts ns)],.bool true,rfl,Zjh,λT q hT=>⟨#[],hO.2 T (ht T q hT),trivial,λpos c hc=>by cases hc⟩,.drop,.one (Rep.drop (.lst hS (Zfd (K:=K) (F:=H) ns).1 (Zfd ns).2)),hM,λv F1 H1 _ r=>r.bool_inv⟩
end
end HP
namespace HM
open PySem
theorem ZbP{α:Type}{c:TF}{e:EF}{r:Env}(g:α->D)(p:α->Bool)(f:α->D):∀(xs:List α),(∀x∈xs,c (some (.pl (g x))::r)=some (p x))->(∀x∈xs,p x=true->e (some (.pl (g x))::r)=some (f x))->ZaG c e r (xs.map g)=some ((xs.filter p).map f)
 | [],_,_=>rfl
 | x::xs,h1,h2=>by
  have ih:=ZbP g p f xs (λy hy=>h1 y (Zyx _ hy)) (λy hy=>h2 y (Zyx _ hy));have hc:=h1 x (Zyw ..);rw[Zyz];unfold ZaG;rw[hc];cases hp:p x with
  | true=>have he:=h2 x (Zyw ..) hp;dsimp only;rw[he];dsimp only;rw[ih,ZA6 hp];rfl
  | false=>dsimp only;rw[ih,ZCY (by simp[hp])]
theorem Zby{α:Type}{e:EF}{r:Env}(g:α->D)(f:α->D)(xs:List α)(h:∀x∈xs,e (some (.pl (g x))::r)=some (f x)):ZaG Zaa e r (xs.map g)=some (xs.map f):=by rw[ZbP g (λ_=>true) f xs (λ_ _=>rfl) λx hx _=>h x hx,ZAf.mpr λ_ _=>rfl]
theorem Zjt{α:Type}{i:Nat}{body:SF}(g:α->D)(P:List α->Env->Prop)(xs:List α)(r:Env)(h0:P [] r)
  (hs:∀pre x post r,xs=pre++x::post->P pre r->∃r',body (r.set i (some (.pl (g x))))=some (.nx r')/\P (pre++[x]) r'):∃r',Z4 i body (xs.map g) r=some (.nx r')/\P xs r':=by
 have key:∀(post pre:List α) (r:Env),xs=pre++post->P pre r->∃r',Z4 i body (post.map g) r=some (.nx r')/\P xs r':=by
  intro post
  induction post with
  | nil=>intro pre r e h; rw[Zy7]at e; subst e; exact⟨r,rfl,h⟩
  | cons x post ih=>intro pre r e h;obtain⟨r1,h1,h2⟩:=hs pre x post r e h;obtain⟨r2,h3,h4⟩:=ih (pre++[x]) r1 (by rw[e,ZzK]; rfl) h2;refine⟨r2,?_,h4⟩;rw[Zyz];unfold Z4;rw[h1];exact h3
 exact key xs [] r rfl h0
def Zv9{α S:Type}(q:S->α->Bool)(step:S->α->S):S->List α->Bool
 | _,[]=>true
 | s,x::xs=>q s x&&Zv9 q step (step s x) xs
abbrev dI(i:Int):D:=Zy6 i
abbrev dN(k:Nat):D:=Zy6 (k:Int)
theorem ZfJ(ns:List Int):ofInts ns=ns.map dI:=rfl
theorem Z5(n:Nat):ZbT 0 n=(ZyA n).map dN:=by unfold ZbT;refine ZzZ λk _=>?_;show Zy6 (0+(k:Int))=Zy6 (k:Int);rw[Int.zero_add]
theorem ZbN(ns:List Int):ZaK (ns.map dI)=some ns:=by
 induction ns with
 | nil=>rfl
 | cons n ns ih=>show(ZaK (ns.map dI)).map (n::·)=_; rw[ih]; rfl
theorem ZfL(bs:List Bool):Ze9 (bs.map λb=>ZzU b)=some bs:=by
 induction bs with
 | nil=>rfl
 | cons b bs ih=>show(Ze9 (bs.map λb=>ZzU b)).map (b::·)=_; rw[ih]; rfl
abbrev tupI(ns:List Int):D:=Zzn (ns.map dI)
theorem ZdF{ds:List D}{j:Nat}{d:D}(h:ds[j]?=some d):atD ds (j:Int)=some d:=by have hj:j<ds.length:=(ZyG.mp h).1;unfold atD ixN;rw[if_pos (by omega),if_pos (by omega)];simpa using h
theorem Zhy{ds:List D}{i:Int}{d:D}(h0:0<=i)(h:ds[i.toNat]?=some d):atD ds i=some d:=by
 have e:i=((i.toNat:Nat):Int):=by omega
 rw[e]; exact ZdF (by simpa using h)
@[simp] theorem Zyl(d:D)(r:List D):atD (d::r) 0=some d:=ZdF (j:=0) rfl
@[simp] theorem Zym(a d:D)(r:List D):atD (a::d::r) 1=some d:=ZdF (j:=1) rfl
@[simp] theorem Zyp(a b d:D)(r:List D):atD (a::b::d::r) 2=some d:=ZdF (j:=2) rfl
@[simp] theorem Zyn(a b c d:D)(r:List D):atD (a::b::c::d::r) 3=some d:=ZdF (j:=3) rfl
@[simp] theorem Zyo(a b c e d:D)(r:List D):atD (a::b::c::e::d::r) 4=some d:=ZdF (j:=4) rfl
theorem Zyd(i j:Int)(h:(Z1 i||Z1 j)=true):Zdb (.int i) (.int j)=some (.int (i*j)):=by show(if Z1 i||Z1 j then some (Zy6 (i*j))else none)=_;rw[if_pos h]
@[simp] theorem ZxM:Z1 7=true:=rfl
@[simp] theorem Zxy:Z1 11=true:=rfl
@[simp] theorem Zxu:Z1 13=true:=rfl
@[simp] theorem ZxE:Z1 17=true:=rfl
@[simp] theorem Zxx:Z1 19=true:=rfl
@[simp] theorem ZxF:Z1 23=true:=rfl
@[simp] theorem ZxK:Z1 29=true:=rfl
@[simp] theorem ZxA:Z1 31=true:=rfl
@[simp] theorem Zxw:Z1 37=true:=rfl
@[simp] theorem ZxG:Z1 41=true:=rfl
@[simp] theorem ZxH:Z1 43=true:=rfl
@[simp] theorem Zxv:Z1 47=true:=rfl
@[simp] theorem ZxD:Z1 53=true:=rfl
@[simp] theorem Zxz:Z1 59=true:=rfl
@[simp] theorem ZxC:Z1 61=true:=rfl
@[simp] theorem ZxJ:Z1 67=true:=rfl
@[simp] theorem ZxB:Z1 71=true:=rfl
@[simp] theorem ZxI:Z1 73=true:=rfl
@[simp] theorem ZwO:Z1 48271=true:=rfl
@[simp] theorem Zyf:Z1 2=true:=rfl
@[simp] theorem Zx2:Z1 3=true:=rfl
@[simp] theorem Zyc:Z1 5=true:=rfl
theorem Zi6{i:Int}(h1:-1000000000<i)(h2:i<1000000000):Z1 i=true:=by
 unfold Z1;have:i.natAbs<18446744073709551616:=by omega
 exact ZBD.mpr this
theorem ZcL{n:Nat}(h:n<1000000):okR (n:Int)=true:=ZBD.mpr (by omega)
@[simp] theorem Zxd(i:Int):ZaA (.int i)=true:=rfl
@[simp] theorem Zw1(i:Bool):ZaA (.bool i)=true:=rfl
@[simp] theorem Zw2:ZaA .none=true:=rfl
@[simp] theorem Zyi(i j:Int):ZzB (.int i) (.int j)=(i==j):=rfl
structure Wk where
 many:Nat
 deeds:List (List (List Int))
 looks:List (List Int)
 beg:List Int
 goal:List Int
def ZN(dd:List (List Int)):D:=.tuple (dd.map tupI)
def Wk.d(w:Wk):D:=.tuple [.int w.many,.tuple (w.deeds.map ZN),.tuple (w.looks.map tupI),tupI w.beg,tupI w.goal]
def Cr(n:Nat)(c:List Int):Prop:=c.Pairwise (· < ·)/\∀x∈c,0<=x/\x<(n:Int)
structure Wk.Ok(w:Wk):Prop where
 m1:2<=w.many
 m2:w.many<=5
 d1:1<=w.deeds.length
 d2:w.deeds.length<=3
 dl:∀dd∈w.deeds,dd.length=w.many
 dc:∀dd∈w.deeds,∀c∈dd,Cr w.many c
 l2:w.looks.length<=3
 ll:∀l∈w.looks,l.length=w.many
 lc:∀l∈w.looks,∀x∈l,0<=x/\x<=9
 b1:w.beg≠[]
 bc:Cr w.many w.beg
 g1:w.goal≠[]
 gc:Cr w.many w.goal
theorem Cr.len{n:Nat}:∀{c:List Int},Cr n c->c.length<=n:=by
 have key:∀(c:List Int) (l:Int),c.Pairwise (· < ·)->(∀x∈c,l<=x/\x<(n:Int))->(c.length:Int)<=max 0 ((n:Int)-l):=by
  intro c
  induction c with
  | nil=>intro l _ _; simp; omega
  | cons x c ih=>intro l hp hb;have h1:=hb x (Zyw ..);have h2:=ih (x+1) (Zzi.mp hp).2 λy hy=>⟨by have:=(Zzi.mp hp).1 y hy; omega,(hb y (Zyx _ hy)).2⟩;rw[ZyI];omega
 intro c h;have:=key c 0 h.1 h.2;omega
theorem sortI_perm(ns:List Int):(sortI ns).Perm ns:=ZBq ns _
theorem Zuc(ns:List Int):(sortI ns).Pairwise (·<=·):=by have h:=ZBJ (le:=λa b:Int=>decide (a<=b)) (λa b c h1 h2=>by simp at *; omega) (λa b=>by simp; omega) ns;exact h.imp λh=>by simpa using h
theorem Zj4:∀{ns:List Int},ns.Pairwise (·<=·)->ns.Nodup->ns.Pairwise (· < ·)
 | [],_,_=>.nil
 | n::ns,h,hn=>by obtain⟨h1,h2⟩:=Zzi.mp h;obtain⟨n1,n2⟩:=Zzq.mp hn;refine Zzi.mpr ⟨λx hx=>?_,Zj4 h2 n2⟩;have:=h1 x hx;have:n≠x:=λe=>n1 (e▸hx);omega
theorem Zim{n:Nat}{ns:List Int}(hn:ns.Nodup)(hb:∀x∈ns,0<=x/\x<(n:Int)):Cr n (sortI ns) :=
 ⟨Zj4 (Zuc ns) ((sortI_perm ns).nodup_iff.mpr hn),λx hx=>hb x ((sortI_perm ns).mem_iff.mp hx)⟩
theorem Zie(ns:List Int)(h:ns.length<64):Ze3 (ns.map dI)=some ((sortI ns).map dI):=by unfold Ze3;rw[if_pos (by rw[Zyt]; exact h),ZbN];rfl
theorem Zfh:∀(ns acc:List Int) (x:Int),x∈dedup acc ns↔x∈acc\/x∈ns
 | [],acc,x=>by simp[dedup]
 | n::ns,acc,x=>by
  unfold dedup;split
  ·rename_i h
   have h':n∈acc:=by simpa using h
   rw[Zfh ns acc x]
   constructor
   ·rintro (h | h)
    ·exact .inl h
    ·exact .inr (Zyx _ h)
   ·rintro (h | h)
    ·exact .inl h
    ·rcases ZyR.mp h with e | e
     ·exact .inl (e▸h')
     ·exact .inr e
  ·rw[Zfh ns _ x,ZyZ,ZyL,ZyR]
   constructor
   ·rintro ((h | h) | h)
    ·exact .inl h
    ·exact .inr (.inl h)
    ·exact .inr (.inr h)
   ·rintro (h | h | h)
    ·exact .inl (.inl h)
    ·exact .inl (.inr h)
    ·exact .inr h
theorem Ze5:∀(ns acc:List Int),acc.Nodup->(dedup acc ns).Nodup
 | [],acc,h=>h
 | n::ns,acc,h=>by
  unfold dedup;split
  ·exact Ze5 ns acc h
  ·rename_i hc
   have hc':n ∉ acc:=by simpa using hc
   refine Ze5 ns _ ?_;rw[ZAP];exact⟨h,by simp,λa ha b hb=>by simp at hb; subst hb; exact λe=>hc' (e▸ha)⟩
end HM
namespace HG
open PySem HM
def ZiA:SF :=
 (Zs (sIf (tOr (tV (ZhW (Zb 0) .bool)) (Zd6 (tV (ZhW (Zb 0) .int)))) (ZG (eC (.bool false))) Zal)
  (ZG (Zk0 gLe gLe (Zb 1) (Zb 0) (Zb 2))))
def Zau:List D->Option D:=fnOf 3 3 ZiA
def Zl2:SF :=
 (ZG (Zib (ZhW (Zb 0) .tuple) (Zk0 gLe gLe (Zb 1) (Zaz (Zo 0)) (Zb 2))))
def ZaW:List D->Option D:=fnOf 3 3 Zl2
def Zav:SF :=
 (Zs (sIf (Zd6 (tV (Zn Zau (Zd (Zb 3) (Zd (Zb 2) (Zd (op2 ZkC (Zb 1) (eC (.int 1))) Zm)))))) (ZG (eC (.bool false))) Zal)
  (Z2 2 (op2 Zbi (Zb 3) (eC (.int 1)))))
def Zeh:SF :=
 (Zs (sIf (Zd6 (tV (ZhW (Zb 0) .tuple))) (ZG (eC (.bool false))) Zal)
  (Zs (Z2 2 (eC (.int 0)))
  (Zs (Zbd 3 (Zaf (bOf (Zb 0))) Zav)
  (ZG (eC (.bool true))))))
def Z8:List D->Option D:=fnOf 2 4 Zeh
def ZhI:SF :=
 (ZG (Zib (Zn ZaW (Zd (Zb 0) (Zd (Zb 1) (Zd (Zb 1) Zm)))) (ZiT (ZQ (Zaf (bOf (Zb 0))) Zaa (Zn Z8 (Zd (Zb 0) (Zd (Zb 2) Zm)))))))
def Zci:List D->Option D:=fnOf 2 2 ZhI
def ZhJ:SF :=
 (ZG (Zib (Zn ZaW (Zd (Zb 0) (Zd (Zb 1) (Zd (Zb 1) Zm)))) (ZiT (ZQ (Zaf (bOf (Zb 0))) Zaa (Zn Zau (Zd (Zb 0) (Zd (eC (.int 0)) (Zd (eC (.int 9)) Zm))))))))
def Zcj:List D->Option D:=fnOf 2 2 ZhJ
def ZiB:SF :=
 (ZG (Zib (Zn ZaW (Zd (Zb 0) (Zd (eC (.int 1)) (Zd (eC (.int 5)) Zm)))) (ZiT (ZQ (Zaf (bOf (Zb 0))) Zaa (Zn Zci (Zd (Zb 0) (Zd (Zb 2) Zm)))))))
def ZcA:List D->Option D:=fnOf 2 2 ZiB
def ZiC:SF :=
 (ZG (Zib (Zn ZaW (Zd (Zb 0) (Zd (eC (.int 0)) (Zd (eC (.int 4)) Zm)))) (ZiT (ZQ (Zaf (bOf (Zb 0))) Zaa (Zn Zcj (Zd (Zb 0) (Zd (Zb 2) Zm)))))))
def ZcB:List D->Option D:=fnOf 2 2 ZiC
def ZjS:SF :=
 (ZG (Zib (Zn Z8 (Zd (Zb 0) (Zd (Zb 1) Zm))) (op2 gGt (Zaz (Zo 0)) (eC (.int 0)))))
def ZbX:List D->Option D:=fnOf 2 2 ZjS
def ZiD:SF :=
 (Zs (sIf (tOr (Zd6 (tV (Zn ZaW (Zd (Zb 0) (Zd (eC (.int 5)) (Zd (eC (.int 5)) Zm)))))) (Zd6 (tV (Zn Zau (Zd (eIx (Zo 0) (eC (.int 0))) (Zd (eC (.int 1)) (Zd (eC (.int 8)) Zm))))))) (ZG (eC (.bool false))) Zal)
  (Zs (Z2 1 (eIx (Zo 0) (eC (.int 0))))
  (Zs (sIf (tOr (Zd6 (tV (Zn ZcA (Zd (eIx (Zo 0) (eC (.int 1))) (Zd (Zb 1) Zm))))) (Zd6 (tV (Zn ZcB (Zd (eIx (Zo 0) (eC (.int 2))) (Zd (Zb 1) Zm)))))) (ZG (eC (.bool false))) Zal)
  (ZG (Zib (Zn ZbX (Zd (eIx (Zo 0) (eC (.int 3))) (Zd (Zb 1) Zm))) (Zn Z8 (Zd (eIx (Zo 0) (eC (.int 4))) (Zd (Zb 1) Zm))))))))
def ZcC:List D->Option D:=fnOf 1 2 ZiD
def ZiE:SF :=
 (ZG (eIx (Zo 0) (eC (.int 0))))
def ZcD:List D->Option D:=fnOf 1 1 ZiE
def ZjT:SF :=
 (ZG (eIx (Zo 0) (eC (.int 1))))
def ZaP:List D->Option D:=fnOf 1 1 ZjT
def ZjU:SF :=
 (ZG (eIx (Zo 0) (eC (.int 2))))
def ZbY:List D->Option D:=fnOf 1 1 ZjU
def ZkF:SF :=
 (Zs (sIf (Zd6 (tV (Zn ZcC (Zd (Zb 0) Zm)))) Zhx Zal)
  (ZG (Zb 0)))
def Zck:List D->Option D:=fnOf 1 1 ZkF
def ZfY:SF :=
 (Zs (sIf (Zd6 (tV (Zn Z8 (Zd (Zb 1) (Zd (Zaz (bOf (Zn ZbY (Zd (Zb 0) Zm)))) Zm))))) Zhx Zal)
  (ZG (Zb 1)))
def Zbu:List D->Option D:=fnOf 2 2 ZfY
def ZfZ:SF :=
 (Zs (sIf (Zd6 (tV (Zn ZbX (Zd (Zb 1) (Zd (Zn ZcD (Zd (Zb 0) Zm)) Zm))))) Zhx Zal)
  (ZG (Zb 1)))
def ZaL:List D->Option D:=fnOf 2 2 ZfZ
def ZkG:SF :=
 (ZG (ZaE (ZQ (Zaf (bOf (Zb 1))) Zaa (eIx (bOf (eIx (bOf (Zn ZbY (Zd (Zb 1) Zm))) (Zb 0))) (Zb 3)))))
def Zdy:List D->Option D:=fnOf 3 3 ZkG
def Zhq:SF :=
 (Zs (Z2 3 (eIx (bOf (Zn ZaP (Zd (Zb 0) Zm))) (Zb 2)))
  (ZG (ZiT (ZQ (Zaf (bOf (Zb 1))) Zaa (op2 gGt (Zaz (bOf (eIx (Zo 4) (Zb 0)))) (eC (.int 0)))))))
def Za8:List D->Option D:=fnOf 3 4 Zhq
def Ziq:SF :=
 (ZG (eOf (ZQ (ZbU (Zaz (bOf (Zn ZaP (Zd (Zb 0) Zm))))) (tV (Zn Za8 (Zd (Zb 1) (Zd (Zb 2) (Zd (Zb 0) Zm))))) (Zb 0))))
def Zbm:List D->Option D:=fnOf 2 2 Ziq
def Zei:SF :=
 (Zhl 4 (Zb 6) (eC (.bool true)))
def Zej:SF :=
 (Zbd 6 (Zaf (bOf (eIx (Zo 3) (Zb 5)))) Zei)
def Zl3:SF :=
 (Zs (Z2 3 (eIx (bOf (Zn ZaP (Zd (Zb 0) Zm))) (Zb 2)))
  (Zs (ZT 4 fDk)
  (Zs (Zbd 5 (Zaf (bOf (Zb 1))) Zej)
  (ZG (ZaE (ZfQ (Zo 4)))))))
def Zcl:List D->Option D:=fnOf 3 7 Zl3
def Zek:SF :=
 (ZoR 3 (Zn Zdy (Zd (Zb 0) (Zd (Zb 1) (Zd (Zb 4) Zm)))) (Zb 4))
def Zl4:SF :=
 (Zs (ZT 3 Zt7)
  (Zs (Zbd 4 (Zaf (bOf (Zb 2))) Zek)
  (ZG (eOf (ZQ (Zaf (bOf (eOf (ZfQ (Zo 3))))) Zaa (ZeA (Zd (Zb 0) (Zd (ZaE (ZoK 4 (Zb 0))) Zm))))))))
def Za9:List D->Option D:=fnOf 3 5 Zl4
def ZgI:SF :=
 (Zs (sIf (Zd6 (tV (Zn Zau (Zd (Zb 2) (Zd (eC (.int 0)) (Zd (op2 ZkC (Zaz (bOf (Zn ZaP (Zd (Zb 0) Zm)))) (eC (.int 1))) Zm)))))) Zhx Zal)
  (Zs (sIf (Zd6 (tV (Zn Za8 (Zd (Zb 0) (Zd (Zb 1) (Zd (Zb 2) Zm)))))) Zhx Zal)
  (ZG (Zb 2))))
def ZbK:List D->Option D:=fnOf 3 3 ZgI
def Zl5:SF :=
 (Zs (Zik (Zn Zck (Zd (Zb 0) Zm)))
  (Zs (Zik (Zn ZaL (Zd (Zb 0) (Zd (Zb 1) Zm))))
  (ZG (Zn Zbm (Zd (Zb 0) (Zd (Zb 1) Zm))))))
def Zdf:List D->Option D:=fnOf 2 2 Zl5
def ZjV:SF :=
 (Zs (sIf (tV (op2 gLt (Zb 1) (Zaz (Zo 0)))) (ZG (eIx (Zo 0) (Zb 1))) Zal)
  (ZG (eC (.int 0))))
def ZL:List D->Option D:=fnOf 2 2 ZjV
def ZkH:SF :=
 (ZG (op2 ZlJ (op2 ZlJ (op2 Zdb (Zb 0) (eC (.int 48271))) (Zb 1)) (Zb 2)))
def ZJ:List D->Option D:=fnOf 3 3 ZkH
def Zf0:SF :=
 (Zs (ZT 3 (ZQ (ZbU (Zb 1)) (tV (op2 gLt (Zn ZJ (Zd (op2 Zbi (op2 Zbi (Zb 1) (op2 Zdb (op2 Zdb (eC (.int 31)) (Zb 0)) (Zb 0))) (op2 Zdb (eC (.int 7)) (Zb 0))) (Zd (eC (.int 9973)) (Zd (eC (.int 5)) Zm)))) (eC (.int 2)))) (Zb 0)))
  (Zs (sIf (tV (op2 gLt (Zaz (Zo 3)) (Zb 2))) (ZT 3 (Zdu (Zd (Zn ZJ (Zd (Zb 0) (Zd (eC (.int 9967)) (Zd (Zb 1) Zm)))) Zm))) Zal)
  (ZG (ZaE (Zo 3)))))
def Zaw:List D->Option D:=fnOf 3 4 Zf0
def Zb3:SF :=
 (Zs (Z2 4 (op2 Zbi (op2 Zbi (Zb 0) (op2 Zdb (op2 Zdb (eC (.int 43)) (Zb 3)) (Zb 3))) (op2 Zdb (eC (.int 11)) (Zb 3))))
  (Zs (Z2 5 (Zn ZJ (Zd (Zb 4) (Zd (eC (.int 9949)) (Zd (eC (.int 10)) Zm)))))
  (Zs (ZT 6 (Zpd (Zn ZJ (Zd (Zb 4) (Zd (eC (.int 9941)) (Zd (Zb 1) Zm)))) (eC (.bool true))))
  (Zs (sIf (tV (op2 gLt (Zb 5) (eC (.int 3)))) (Zhl 6 (Zn ZJ (Zd (Zb 4) (Zd (eC (.int 9931)) (Zd (Zb 1) Zm)))) (eC (.bool true))) Zal)
  (Zs (Zec 2 (ZaE (ZfQ (Zo 6))))
  (sIf (tV (op2 gEq (Zb 5) (eC (.int 9)))) (Zri 2 (eC (.int (-1))) (ZeA Zm)) Zal))))))
def ZjW:SF :=
 (Zs (ZT 2 (Zdu Zm))
  (Zs (Zbd 3 (ZbU (Zb 1)) Zb3)
  (ZG (ZaE (Zo 2)))))
def ZcZ:List D->Option D:=fnOf 2 7 ZjW
def Zdg:SF :=
 (Zs (Z2 5 (op2 ZwB (op2 ZkC (Zb 4) (eC (.int 1))) (eC (.int 0))))
  (Zs (Z2 6 (op2 Zwo (op2 Zbi (Zb 4) (eC (.int 1))) (op2 ZkC (Zb 1) (eC (.int 1)))))
  (Zs (Z2 7 (op2 gEq (Zn ZJ (Zd (op2 Zbi (Zb 0) (op2 Zdb (eC (.int 17)) (Zb 4))) (Zd (eC (.int 9929)) (Zd (eC (.int 6)) Zm)))) (eC (.int 1))))
  (Zs (Zec 2 (ZaE (ZfI (Zls (Zdu (Zd (Zb 5) Zm)) (Ztz (Zdu (Zd (Zb 4) Zm)) (ZoM (Zb 7)))))))
  (Zec 3 (ZeA (Zd (Zb 6) Zm)))))))
def ZjX:SF :=
 (Zs (ZT 2 (Zdu Zm))
  (Zs (ZT 3 (Zdu Zm))
  (Zs (Zbd 4 (ZbU (Zb 1)) Zdg)
  (ZG (ZeA (Zd (ZaE (Zo 2)) (Zd (ZaE (Zo 3)) Zm)))))))
def Zc0:List D->Option D:=fnOf 2 8 ZjX
def ZcW:SF :=
 (Zs (Z2 7 (op2 Zbi (Zn ZL (Zd (Zb 0) (Zd (op2 Zbi (op2 Zbi (Zb 1) (eC (.int 4))) (Zb 5)) Zm))) (op2 Zdb (eC (.int 71)) (Zb 5))))
  (Zs (Z2 8 (op2 Zbi (eC (.int 2)) (Zn ZJ (Zd (Zb 7) (Zd (eC (.int 9883)) (Zd (eC (.int 2)) Zm))))))
  (Zec 6 (ZaE (ZQ (ZbU (Zb 3)) Zaa (Zn ZJ (Zd (op2 Zbi (Zb 8) (op2 Zdb (op2 Zdb (eC (.int 13)) (Zb 0)) (Zb 0))) (Zd (eC (.int 9871)) (Zd (Zb 9) Zm)))))))))
def ZdP:SF :=
 (Zec 4 (Zn ZcZ (Zd (op2 Zbi (Zn ZL (Zd (Zb 0) (Zd (op2 Zbi (op2 Zbi (Zb 1) (eC (.int 1))) (Zb 5)) Zm))) (op2 Zdb (eC (.int 61)) (Zb 5))) (Zd (Zb 3) Zm))))
def Zdh:SF :=
 (Zs (Z2 2 (Zn ZL (Zd (Zb 0) (Zd (Zb 1) Zm))))
  (Zs (Z2 3 (op2 Zbi (eC (.int 2)) (Zn ZJ (Zd (Zb 2) (Zd (eC (.int 9923)) (Zd (eC (.int 4)) Zm))))))
  (Zs (sIf (tV (op2 gGt (Zaz (Zo 0)) (eC (.int 63)))) (Z2 3 (op2 Zbi (eC (.int 2)) (Zn ZJ (Zd (Zb 2) (Zd (eC (.int 9923)) (Zd (eC (.int 6)) Zm)))))) Zal)
  (Zs (ZT 4 (Zdu Zm))
  (Zs (Zbd 5 (ZbU (op2 Zbi (eC (.int 1)) (Zn ZJ (Zd (Zb 2) (Zd (eC (.int 9907)) (Zd (eC (.int 3)) Zm)))))) ZdP)
  (Zs (sIf (tV (op2 gEq (Zn ZJ (Zd (Zb 2) (Zd (eC (.int 9901)) (Zd (eC (.int 3)) Zm)))) (eC (.int 1)))) (ZT 4 (Zls (ZhE (bOf (Zn Zc0 (Zd (Zn ZL (Zd (Zb 0) (Zd (op2 Zbi (Zb 1) (eC (.int 1))) Zm))) (Zd (Zb 3) Zm))))) (Ztm (Zo 4) none (some (eC (.int 1)))))) Zal)
  (Zs (ZT 6 (Zdu Zm))
  (Zs (Zbd 5 (ZbU (Zn ZJ (Zd (Zb 2) (Zd (eC (.int 9887)) (Zd (eC (.int 4)) Zm))))) ZcW)
  (Zs (Z2 9 (Zn Zaw (Zd (Zn ZL (Zd (Zb 0) (Zd (op2 Zbi (Zb 1) (eC (.int 7))) Zm))) (Zd (Zb 3) (Zd (eC (.int 1)) Zm)))))
  (Zs (sIf (tV (op2 gEq (Zn ZJ (Zd (Zb 2) (Zd (eC (.int 9859)) (Zd (eC (.int 3)) Zm)))) (eC (.int 1)))) (Z2 9 (Zkj (ZbU (Zb 3)))) Zal)
  (Zs (Z2 10 (Zn Zaw (Zd (Zn ZL (Zd (Zb 0) (Zd (op2 Zbi (Zb 1) (eC (.int 8))) Zm))) (Zd (Zb 3) (Zd (eC (.int 1)) Zm)))))
  (ZG (ZeA (Zd (Zb 3) (Zd (ZaE (Zo 4)) (Zd (ZaE (Zo 6)) (Zd (Zb 9) (Zd (Zb 10) Zm))))))))))))))))))
def ZaZ:List D->Option D:=fnOf 2 11 Zdh
def ZiF:SF :=
 (ZG (ZaE (ZQ (ZbU (Zaz (bOf (eIx (Zo 0) (eC (.int 2)))))) (tV (op2 gGt (Zn ZJ (Zd (op2 Zbi (Zb 2) (op2 Zdb (eC (.int 19)) (Zb 0))) (Zd (eC (.int 9857)) (Zd (eC (.int 4)) Zm)))) (eC (.int 0)))) (Zb 0))))
def ZcE:List D->Option D:=fnOf 2 2 ZiF
def Za0:SF :=
 (Zs (sIf (tV (op2 gEq (eIx (bOf (eIx (bOf (eIx (Zo 0) (eC (.int 1)))) (Zb 2))) (Zb 4)) (ZeA Zm))) (ZG (eC .none)) Zal)
  (ZT 3 (Zls (Zo 3) (ZhE (bOf (eIx (bOf (eIx (bOf (eIx (Zo 0) (eC (.int 1)))) (Zb 2))) (Zb 4)))))))
def ZhK:SF :=
 (Zs (ZT 3 (Zdu Zm))
  (Zs (Zbd 4 (Zaf (bOf (Zb 1))) Za0)
  (ZG (ZaE (ZfI (Zo 3))))))
def Zaq:List D->Option D:=fnOf 3 5 ZhK
def Zcb:SF :=
 (Zs (Z2 5 (ZaE (ZQ (Zaf (bOf (Zb 1))) Zaa (eIx (bOf (eIx (bOf (eIx (Zo 1) (eC (.int 2)))) (Zb 0))) (Zb 5)))))
  (Zs (sIf (tV (Zk4 (Zb 5) (Zo 3))) (ZlG 3 (Zb 5)) Zal)
  (ZoE 3 (Zb 5) (Zb 4))))
def ZiG:SF :=
 (Zs (ZT 3 Zt7)
  (Zs (Zbd 4 (Zaf (bOf (Zb 2))) Zcb)
  (ZG (eOf (ZQ (Zaf (bOf (eOf (ZfQ (Zo 3))))) Zaa (ZeA (Zd (Zb 0) (Zd (ZaE (ZoK 4 (Zb 0))) Zm))))))))
def Zae:List D->Option D:=fnOf 3 6 ZiG
end HG
namespace HG
open PySem HM
def Zv(ns:List Int)(k:Nat):Int:=if k<ns.length then ns.getD k 0 else 0
theorem ZdH(ns:List Int)(k:Nat):ZL [.list (ns.map dI),.int k]=some (.int (Zv ns k)):=by
 simp[ZL,ZjV,Zv]
 by_cases h:k<ns.length
 ·have h':(k:Int)<(ns.length:Int):=by omega
  have e:atD (ns.map dI) (k:Int)=some (.int ns[k]):=ZdF (by simp[h]);simp[h,h',e]
 ·have h':¬(k:Int)<(ns.length:Int):=by omega
  simp[h,h']
def ZZ(c p m:Int):Int:=c*48271 % p % m
theorem Zcr(c p m:Int)(hp:0<p)(hm:0<m):ZJ [.int c,.int p,.int m]=some (.int (ZZ c p m)):=by simp[ZJ,ZkH,hp,hm,ZZ]
theorem ZaR(c p m:Int)(hm:0<m):0<=ZZ c p m/\ZZ c p m<m:=⟨Int.emod_nonneg _ (by omega),Int.emod_lt_of_pos _ hm⟩
def crP(c:Int)(k:Nat):Bool:=decide (ZZ (c+31*(k:Int)*(k:Int)+7*(k:Int)) 9973 5<2)
def crF(c:Int)(n:Nat):List Int:=((ZyA n).filter (crP c)).map λ(k:Nat)=>(k:Int)
def crV(c:Int)(n:Nat):List Int:=if(crF c n).length<1 then[ZZ c 9967 n]else crF c n
theorem Zh2(n:Nat)(p:Nat->Bool):Cr n (((ZyA n).filter p).map λ(k:Nat)=>(k:Int)):=by
 refine⟨?_,λx hx=>?_⟩
 ·rw[ZCG]
  refine List.Pairwise.imp (λ{a b} h=>?_) (List.Pairwise.filter p ZDb);omega
 ·obtain⟨k,hk,rfl⟩:=ZyC.mp hx
  have:=ZyS.mp (Zy2.mp hk).1;omega
theorem ZnW(c:Int)(n:Nat)(hn:0<n):Cr n (crV c n)/\crV c n≠[]:=by
 unfold crV;split
 ·refine⟨⟨by simp,λx hx=>?_⟩,by simp⟩
  have e:x=ZZ c 9967 n:=by simpa using hx
  rw[e];have:=ZaR c 9967 n (by omega);omega
 ·rename_i h
  exact⟨Zh2 n _,λe=>h (by rw[e]; simp)⟩
theorem Zki(c:Int)(n:Nat)(hn:0<n)(hb:n<1000):Zaw [.int c,.int n,.int 1]=some (tupI (crV c n)):=by
 have hn':(0:Int)<(n:Int):=by omega
 have key:ZaG (tV (op2 gLt (Zn ZJ (Zd (op2 Zbi (op2 Zbi (Zb 1) (op2 Zdb (op2 Zdb (eC (.int 31)) (Zb 0)) (Zb 0))) (op2 Zdb (eC (.int 7)) (Zb 0))) (Zd (eC (.int 9973)) (Zd (eC (.int 5)) Zm)))) (eC (.int 2)))) (Zb 0)
   [some (.pl (.int c)),some (.pl (.int n)),some (.pl (.int 1)),none] (ZbT 0 n)=some ((crF c n).map dI):=by
  rw[Z5];rw[ZbP dN (crP c) dN]
  ·unfold crF
   rw[ZyP];rfl
  ·intro k hk
   have hk':=ZyS.mp hk;have s2:Z1 (31*(k:Int))=true:=Zi6 (by omega) (by omega);simp[Zcr,crP,s2]
  ·intro k hk _
   simp
 have h1:okR (n:Int)=true:=ZcL (by omega);have h2:(ZbT 0 n).length<1000000:=by rw[Z5]; simp; omega
 by_cases hl:(crF c n).length<1
 ·have hl':((crF c n).length:Int)<1:=by omega
  have hm:=Zcr c 9967 n (by decide) hn';simp[Zaw,Zf0,h1,h2,key];simp[hl',crV,hl,hm]
 ·have hl':¬((crF c n).length:Int)<1:=by omega
  simp[Zaw,Zf0,h1,h2,key];simp[hl',crV,hl]
def Zte(c:Int)(n k:Nat):List Int :=
 let s:=c+43*(k:Int)*(k:Int)+11*(k:Int)
 if ZZ s 9949 10<3/\ZZ s 9941 n≠ZZ s 9931 n then[ZZ s 9941 n,ZZ s 9931 n]else[ZZ s 9941 n]
def Zfx(c:Int)(n k:Nat):List Int:=if ZZ (c+43*(k:Int)*(k:Int)+11*(k:Int)) 9949 10=9 then[]else sortI (Zte c n k)
theorem ZuB(c:Int)(n k:Nat)(hn:0<n):Cr n (Zfx c n k):=by
 unfold Zfx;split
 ·exact⟨.nil,λx hx=>by simp at hx⟩
 ·unfold Zte
  dsimp only;have b1:=ZaR (c+43*(k:Int)*(k:Int)+11*(k:Int)) 9941 n (by omega);have b2:=ZaR (c+43*(k:Int)*(k:Int)+11*(k:Int)) 9931 n (by omega);split
  ·rename_i h
   refine Zim (by simp[h.2]) λx hx=>?_;simp at hx;rcases hx with e | e<;>(subst e; assumption)
  ·refine Zim (by simp) λx hx=>?_
   simp at hx;subst hx; assumption
theorem Zt6(n:Nat):ixN (n+1) (-1)=some n:=by unfold ixN;rw[if_neg (by decide),if_pos (by omega)];congr 1;omega
theorem ZrS(c:Int)(n k:Nat)(rows:List D)(o4 o5 o6:Option B)(hn:0<n)(hk:k<1000)(hl:rows.length<1000) :
  ∃r5 r6 r7,Zb3 [some (.pl (.int c)),some (.pl (.int n)),some (.ol rows),some (.pl (dN k)),o4,o5,o6]=some (.nx [some (.pl (.int c)),some (.pl (.int n)),some (.ol (rows++[tupI (Zfx c n k)])),some (.pl (dN k)),r5,r6,r7]):=by
 have hn':(0:Int)<(n:Int):=by omega
 have s2:Z1 (43*(k:Int))=true:=Zi6 (by omega) (by omega);have hl':rows.length<1000000:=by omega
 have m1:=Zcr (c+43*(k:Int)*(k:Int)+11*(k:Int)) 9949 10 (by decide) (by decide);have m2:=Zcr (c+43*(k:Int)*(k:Int)+11*(k:Int)) 9941 n (by decide) hn';have m3:=Zcr (c+43*(k:Int)*(k:Int)+11*(k:Int)) 9931 n (by decide) hn';unfold Zfx Zte;dsimp only;generalize ZZ (c+43*(k:Int)*(k:Int)+11*(k:Int)) 9949 10=wy at *;generalize ZZ (c+43*(k:Int)*(k:Int)+11*(k:Int)) 9941 n=a at *;generalize ZZ (c+43*(k:Int)*(k:Int)+11*(k:Int)) 9931 n=b at *;have t1:Ze3 [Zy6 a]=some ((sortI [a]).map dI):=Zie [a] (by simp);have t2:Ze3 [Zy6 a,Zy6 b]=some ((sortI [a,b]).map dI):=Zie [a,b] (by simp)
 by_cases w3:wy<3
 ·have w9:(wy==9)=false:=by simp; omega
  have w9':¬wy=9:=by omega
  by_cases ab:a=b
  ·subst ab
   simp[Zb3,s2,m1,m2,m3,w3,w9,w9',putD,ZaH,hl',t1]
  ·simp[Zb3,s2,m1,m2,m3,w3,w9,w9',putD,ab,ZaH,hl',t2]
 ·by_cases w9:wy=9
  ·subst w9
   simp[Zb3,s2,m1,m2,putD,ZaH,hl',t1,Zt6]
  ·have w9':(wy==9)=false:=by simp[w9]
   simp[Zb3,s2,m1,m2,w3,w9',w9,putD,ZaH,hl',t1]
theorem Zu8(c:Int)(n:Nat)(hn:0<n)(hb:n<1000):ZcZ [.int c,.int n]=some (ZN ((ZyA n).map λk=>Zfx c n k)):=by
 have h1:okR (n:Int)=true:=ZcL (by omega);have h2:(ZbT 0 n).length<1000000:=by rw[Z5]; simp; omega
 obtain⟨r',e1,o3,o4,o5,o6,p1⟩:=Zjt (i:=3) (body:=Zb3) dN (λ(s:List Nat) r=>∃o3 o4 o5 o6,r=[some (.pl (.int c)),some (.pl (.int n)),some (.ol (s.map λk=>tupI (Zfx c n k))),o3,o4,o5,o6]) (ZyA n)
  [some (.pl (.int c)),some (.pl (.int n)),some (.ol []),none,none,none,none] ⟨none,none,none,none,rfl⟩ (by
   rintro s k post r hxs ⟨o3,o4,o5,o6,rfl⟩
   have hk':k<n:=ZyS.mp (by rw[hxs]; simp);have hs:s.length<n:=by have:=congrArg Zzf hxs; simp at this; omega
   obtain⟨r5,r6,r7,e⟩:=ZrS c n k (s.map λk=>tupI (Zfx c n k)) o4 o5 o6 hn (by omega) (by simp; omega);exact⟨_,e,some (.pl (dN k)),r5,r6,r7,by simp⟩)
 subst p1;have hl:n<1000000:=by omega
 simp[ZcZ,ZjW,h1,Z5,hl,e1,ZN]
end HG
namespace HG
open PySem HM
def ahV(k:Nat):Int:=if(0:Int) > (k:Int)-1 then 0 else(k:Int)-1
def beV(n k:Nat):Int:=if(n:Int)-1<(k:Int)+1 then(n:Int)-1 else(k:Int)+1
def wlV(c:Int)(k:Nat):List Int:=sortI (dedup [] (ahV k::(if ZZ (c+17*(k:Int)) 9929 6=1 then[(k:Int)]else[])))
theorem ZwM(c:Int)(n k:Nat)(hk:k<n):Cr n (wlV c k):=by
 unfold wlV;have ha:0<=ahV k/\ahV k<n:=by unfold ahV; split<;>omega
 refine Zim (Ze5 _ _ (by simp)) λx hx=>?_;rw[Zfh]at hx;rcases hx with h | h
 ·simp at h
 ·rcases ZyR.mp h with e | e
  ·subst e; exact ha
  ·split at e
   ·simp at e; subst e; omega
   ·simp at e
theorem ZvV(n k:Nat)(hk:k<n):Cr n [beV n k]:=by
 have ha:0<=beV n k/\beV n k<n:=by unfold beV; split<;>omega
 exact⟨by simp,λx hx=>by simp at hx; subst hx; exact ha⟩
theorem Zse(c:Int)(n k:Nat)(ls rs:List D)(o4 o5 o6 o7:Option B)(hk:k<8)(h1:ls.length<1000)(h2:rs.length<1000) :
  ∃r4 r5 r6,Zdg [some (.pl (.int c)),some (.pl (.int n)),some (.ol ls),some (.ol rs),some (.pl (dN k)),o5,o6,o7]=some (.nx [some (.pl (.int c)),some (.pl (.int n)),some (.ol (ls++[tupI (wlV c k)])),some (.ol (rs++[tupI [beV n k]])),some (.pl (dN k)),r4,r5,r6]):=by
 have h1':ls.length<1000000:=by omega
 have h2':rs.length<1000000:=by omega
 have m1:=Zcr (c+17*(k:Int)) 9929 6 (by decide) (by decide);have hk8:k=0\/k=1\/k=2\/k=3\/k=4\/k=5\/k=6\/k=7:=by omega
 have l1:Zru [if(k:Int)-1<0 then 0 else(k:Int)-1,(k:Int)]=true:=by rcases hk8 with rfl | rfl | rfl | rfl | rfl | rfl | rfl | rfl<;>rfl
 have l2:Zru [if(k:Int)-1<0 then 0 else(k:Int)-1]=true:=by rcases hk8 with rfl | rfl | rfl | rfl | rfl | rfl | rfl | rfl<;>rfl
 unfold wlV;generalize ZZ (c+17*(k:Int)) 9929 6=a at *
 by_cases e:a=1
 ·subst e
  simp[Zdg,m1,h1',h2',ahV,beV,ZaK,ZfJ,l1]
 ·have e':(a==1)=false:=by simp[e]
  simp[Zdg,m1,h1',h2',ahV,beV,e,e',ZaK,ZfJ,l2]
theorem ZuE(c:Int)(n:Nat)(hb:n<=8):Zc0 [.int c,.int n]=some (.tuple [ZN ((ZyA n).map λk=>wlV c k),ZN ((ZyA n).map λk=>[beV n k])]):=by
 have h1:okR (n:Int)=true:=ZcL (by omega);obtain⟨r',e1,o4,o5,o6,o7,p1⟩:=Zjt (i:=4) (body:=Zdg) dN (λ(s:List Nat) r=>∃o4 o5 o6 o7,r=[some (.pl (.int c)),some (.pl (.int n)),some (.ol (s.map λk=>tupI (wlV c k))),some (.ol (s.map λk=>tupI [beV n k])),o4,o5,o6,o7]) (ZyA n)
  [some (.pl (.int c)),some (.pl (.int n)),some (.ol []),some (.ol []),none,none,none,none] ⟨none,none,none,none,rfl⟩ (by
   rintro s k post r hxs ⟨o4,o5,o6,o7,rfl⟩
   have hk':k<n:=ZyS.mp (by rw[hxs]; simp);have hs:s.length<n:=by have:=congrArg Zzf hxs; simp at this; omega
   obtain⟨r5,r6,r7,e⟩:=Zse c n k (s.map λk=>tupI (wlV c k)) (s.map λk=>tupI [beV n k]) o4 o5 o6 o7 (by omega) (by simp; omega) (by simp; omega);exact⟨_,e,some (.pl (dN k)),r5,r6,r7,by simp⟩)
 subst p1;have hl:n<1000000:=by omega
 simp[Zc0,ZjX,h1,Z5,hl,e1,ZN]
section
variable(ns:List Int)(at_:Nat)
def ZP:Nat:=(2+ZZ (Zv ns at_) 9923 4).toNat
def ZbS:List (List (List Int)):=(ZyA (1+ZZ (Zv ns at_) 9907 3).toNat).map λk=>(ZyA (ZP ns at_)).map λs=>Zfx (Zv ns (at_+1+k)+61*(k:Int)) (ZP ns at_) s
def ZgF:List (List (List Int)) :=
 if ZZ (Zv ns at_) 9901 3=1 then[(ZyA (ZP ns at_)).map λk=>wlV (Zv ns (at_+1)) k,(ZyA (ZP ns at_)).map λk=>[beV (ZP ns at_) k]]++(ZbS ns at_).take 1 else ZbS ns at_
def ZgM(k:Nat):List Int:=(ZyA (ZP ns at_)).map λ(s:Nat)=>ZZ (Zv ns (at_+4+k)+71*(k:Int)+13*(s:Int)*(s:Int)) 9871 (2+ZZ (Zv ns (at_+4+k)+71*(k:Int)) 9883 2)
def ZgD:List (List Int):=(ZyA (ZZ (Zv ns at_) 9887 4).toNat).map (ZgM ns at_)
def Zo0:List Int:=if ZZ (Zv ns at_) 9859 3=1 then(ZyA (ZP ns at_)).map λ(k:Nat)=>(k:Int)else crV (Zv ns (at_+7)) (ZP ns at_)
def Zuq:List Int:=crV (Zv ns (at_+8)) (ZP ns at_)
def wkV:Wk:=⟨ZP ns at_,ZgF ns at_,ZgD ns at_,Zo0 ns at_,Zuq ns at_⟩
theorem Zjx:2<=ZP ns at_/\ZP ns at_<=5:=by have:=ZaR (Zv ns at_) 9923 4 (by decide);unfold ZP; omega
theorem ZuD:((ZP ns at_:Nat):Int)=2+ZZ (Zv ns at_) 9923 4:=by have:=ZaR (Zv ns at_) 9923 4 (by decide);unfold ZP; omega
theorem ZwK:(wkV ns at_).Ok:=by
 have hm:=Zjx ns at_;have hd3:=ZaR (Zv ns at_) 9907 3 (by decide);have dk:∀dd∈ZbS ns at_,dd.length=ZP ns at_/\∀c∈dd,Cr (ZP ns at_) c:=by intro dd h;unfold ZbS at h;obtain⟨k,_,rfl⟩:=ZyC.mp h;refine⟨by simp,λc hc=>?_⟩;obtain⟨s,_,rfl⟩:=ZyC.mp hc;exact ZuB _ _ _ (by omega)
 have dv:∀dd∈ZgF ns at_,dd.length=ZP ns at_/\∀c∈dd,Cr (ZP ns at_) c:=by
  intro dd h;unfold ZgF at h;split at h
  ·rcases ZyZ.mp h with h | h
   ·simp at h
    rcases h with rfl | rfl
    ·refine⟨by simp,λc hc=>?_⟩
     obtain⟨s,hs,rfl⟩:=ZyC.mp hc;exact ZwM _ _ _ (ZyS.mp hs)
    ·refine⟨by simp,λc hc=>?_⟩
     obtain⟨s,hs,rfl⟩:=ZyC.mp hc;exact ZvV _ _ (ZyS.mp hs)
   ·exact dk dd (List.mem_of_mem_take h)
  ·exact dk dd h
 have lk:(ZbS ns at_).length=(1+ZZ (Zv ns at_) 9907 3).toNat:=by unfold ZbS; simp
 have lv:1<=(ZgF ns at_).length/\(ZgF ns at_).length<=3:=by
  unfold ZgF;split
  ·simp; omega
  ·omega
 have hl4:=ZaR (Zv ns at_) 9887 4 (by decide);have lo:∀l∈ZgD ns at_,l.length=ZP ns at_/\∀x∈l,0<=x/\x<=9:=by intro l h;unfold ZgD at h;obtain⟨k,_,rfl⟩:=ZyC.mp h;unfold ZgM;refine⟨by simp,λx hx=>?_⟩;obtain⟨s,_,rfl⟩:=ZyC.mp hx;have h2:=ZaR (Zv ns (at_+4+k)+71*(k:Int)) 9883 2 (by decide);have h3:=ZaR (Zv ns (at_+4+k)+71*(k:Int)+13*(s:Int)*(s:Int)) 9871 (2+ZZ (Zv ns (at_+4+k)+71*(k:Int)) 9883 2) (by omega);omega
 have ll:(ZgD ns at_).length<=3:=by unfold ZgD; simp; omega
 have cb:=ZnW (Zv ns (at_+7)) (ZP ns at_) (by omega);have cg:=ZnW (Zv ns (at_+8)) (ZP ns at_) (by omega);have hb:Zo0 ns at_≠[]/\Cr (ZP ns at_) (Zo0 ns at_):=by
  unfold Zo0;split
  ·refine⟨λe=>?_,?_⟩
   ·have:=congrArg Zzf e
    simp at this;omega
   ·have:=Zh2 (ZP ns at_) λ_=>true
    rwa [ZAf.mpr λ_ _=>rfl]at this
  ·exact⟨cb.2,cb.1⟩
 exact⟨hm.1,hm.2,lv.1,lv.2,λdd h=>(dv dd h).1,λdd h=>(dv dd h).2,ll,λl h=>(lo l h).1,λl h=>(lo l h).2,hb.1,hb.2,cg.2,cg.1⟩
theorem Zx3(k:Int)(h:0<=k):ZL [.list (ns.map dI),.int k]=some (.int (Zv ns k.toNat)):=by
 have:=ZdH ns k.toNat
 rwa [ZCe h]at this
theorem Zrg(k n:Nat)(c:Option B)(ds:List D)(o6 o7 o8 o9 o10:Option B)(hk:k<1000)(h1:ds.length<1000)(hn:0<n)(hb:n<1000) :
  ZdP [some (.pl (.list (ns.map dI))),some (.pl (.int at_)),c,some (.pl (.int n)),some (.ol ds),some (.pl (dN k)),o6,o7,o8,o9,o10] =
   some (.nx [some (.pl (.list (ns.map dI))),some (.pl (.int at_)),c,some (.pl (.int n)),some (.ol (ds++[ZN ((ZyA n).map λs=>Zfx (Zv ns (at_+1+k)+61*(k:Int)) n s)])),some (.pl (dN k)),o6,o7,o8,o9,o10]):=by
 have h1':ds.length<1000000:=by omega
 have hc:=ZdH ns (at_+1+k);have e:((at_+1+k:Nat):Int)=(at_:Int)+1+(k:Int):=by omega
 rw[e]at hc;have hd:=Zu8 (Zv ns (at_+1+k)+61*(k:Int)) n hn hb;simp[ZdP,hc,hd,h1']
theorem Zrw(k n:Nat)(c o4:Option B)(ls:List D)(o7 o8 o9 o10:Option B)(hk:k<1000)(h1:ls.length<1000)(hn:n=ZP ns at_) :
  ∃r7 r8,ZcW [some (.pl (.list (ns.map dI))),some (.pl (.int at_)),c,some (.pl (.int n)),o4,some (.pl (dN k)),some (.ol ls),o7,o8,o9,o10] =
   some (.nx [some (.pl (.list (ns.map dI))),some (.pl (.int at_)),c,some (.pl (.int n)),o4,some (.pl (dN k)),some (.ol (ls++[tupI (ZgM ns at_ k)])),r7,r8,o9,o10]):=by
 have hb:=Zjx ns at_;have h1':ls.length<1000000:=by omega
 have hc:=ZdH ns (at_+4+k);have e:((at_+4+k:Nat):Int)=(at_:Int)+4+(k:Int):=by omega
 rw[e]at hc;have m1:=Zcr (Zv ns (at_+4+k)+71*(k:Int)) 9883 2 (by decide) (by decide);have b1:=ZaR (Zv ns (at_+4+k)+71*(k:Int)) 9883 2 (by decide);have hok:okR (n:Int)=true:=ZcL (by omega);have hl:n<1000000:=by omega
 unfold ZgM;rw[<-hn];generalize ZZ (Zv ns (at_+4+k)+71*(k:Int)) 9883 2=mo at *;generalize Zv ns (at_+4+k)=cc at *;simp[ZcW,hc,m1,hok,h1',Z5,hl];rw[Zby dN λ(s:Nat)=>dI (ZZ (cc+71*(k:Int)+13*(s:Int)*(s:Int)) 9871 (2+mo))]
 ·refine⟨some (.pl (.int (cc+71*(k:Int)))),some (.pl (.int (2+mo))),?_⟩
  simp
 ·intro s hs
  have hs':=ZyS.mp hs;have s2:Z1 (13*(s:Int))=true:=Zi6 (by omega) (by omega);have m2:=Zcr (cc+71*(k:Int)+13*(s:Int)*(s:Int)) 9871 (2+mo) (by decide) (by omega);simp[s2,m2]
theorem ZtM(h:ns.length<=63):ZaZ [.list (ns.map dI),.int at_]=some (wkV ns at_).d:=by
 have hb:=Zjx ns at_;have hmc:=ZuD ns at_;have c0:=ZdH ns at_;have c1:=ZdH ns (at_+1);have c7:=ZdH ns (at_+7);have c8:=ZdH ns (at_+8);have e1:((at_+1:Nat):Int)=(at_:Int)+1:=by omega
 have e7:((at_+7:Nat):Int)=(at_:Int)+7:=by omega
 have e8:((at_+8:Nat):Int)=(at_:Int)+8:=by omega
 rw[e1]at c1;rw[e7]at c7;rw[e8]at c8;have m4:=Zcr (Zv ns at_) 9923 4 (by decide) (by decide);have m3:=Zcr (Zv ns at_) 9907 3 (by decide) (by decide);have b3:=ZaR (Zv ns at_) 9907 3 (by decide);have mw:=Zcr (Zv ns at_) 9901 3 (by decide) (by decide);have ml:=Zcr (Zv ns at_) 9887 4 (by decide) (by decide);have bl:=ZaR (Zv ns at_) 9887 4 (by decide);have mb:=Zcr (Zv ns at_) 9859 3 (by decide) (by decide);have wk:=ZuE (Zv ns (at_+1)) (ZP ns at_) (by omega);have k7:=Zki (Zv ns (at_+7)) (ZP ns at_) (by omega) (by omega);have k8:=Zki (Zv ns (at_+8)) (ZP ns at_) (by omega) (by omega);have hlen:¬(63:Int)<(ns.length:Int):=by omega
 have ok3:okR (1+ZZ (Zv ns at_) 9907 3)=true:=ZBD.mpr (by omega);have okl:okR (ZZ (Zv ns at_) 9887 4)=true:=ZBD.mpr (by omega);have okm:okR ((ZP ns at_:Nat):Int)=true:=ZcL (by omega);obtain⟨r1,f1,o5,q1⟩:=Zjt (i:=5) (body:=ZdP) dN (λ(s:List Nat) r=>∃o5,r=[some (.pl (.list (ns.map dI))),some (.pl (.int at_)),some (.pl (.int (Zv ns at_))),some (.pl (.int (ZP ns at_))),
   some (.ol (s.map λk=>ZN ((ZyA (ZP ns at_)).map λs=>Zfx (Zv ns (at_+1+k)+61*(k:Int)) (ZP ns at_) s))),o5,none,none,none,none,none]) (ZyA (1+ZZ (Zv ns at_) 9907 3).toNat)
  [some (.pl (.list (ns.map dI))),some (.pl (.int at_)),some (.pl (.int (Zv ns at_))),some (.pl (.int (ZP ns at_))),some (.ol []),none,none,none,none,none,none] ⟨none,rfl⟩ (by
   rintro s k post r hxs ⟨o5,rfl⟩
   have hk':=ZyS.mp (show k∈ZyA (1+ZZ (Zv ns at_) 9907 3).toNat by rw[hxs]; simp);have hs:s.length<4:=by have:=congrArg Zzf hxs; simp at this; omega
   have e:=Zrg ns at_ k (ZP ns at_) (some (.pl (.int (Zv ns at_)))) (s.map λk=>ZN ((ZyA (ZP ns at_)).map λs=>Zfx (Zv ns (at_+1+k)+61*(k:Int)) (ZP ns at_) s)) none none none none none (by omega) (by simp; omega) (by omega) (by omega);exact⟨_,e,some (.pl (dN k)),by simp⟩)
 subst q1;have lks:∀(o4 o5:Option B),∃r2,Z4 5 ZcW ((ZyA (ZZ (Zv ns at_) 9887 4).toNat).map dN) [some (.pl (.list (ns.map dI))),some (.pl (.int at_)),some (.pl (.int (Zv ns at_))),some (.pl (.int (ZP ns at_))),o4,o5,some (.ol []),none,none,none,none]=some (.nx r2) /\
   ∃o5 o7 o8,r2=[some (.pl (.list (ns.map dI))),some (.pl (.int at_)),some (.pl (.int (Zv ns at_))),some (.pl (.int (ZP ns at_))),o4,o5,some (.ol ((ZyA (ZZ (Zv ns at_) 9887 4).toNat).map λk=>tupI (ZgM ns at_ k))),o7,o8,none,none]:=by
  intro o4 o5;refine Zjt (i:=5) (body:=ZcW) dN (λ(s:List Nat) r=>∃o5 o7 o8,r=[some (.pl (.list (ns.map dI))),some (.pl (.int at_)),some (.pl (.int (Zv ns at_))),some (.pl (.int (ZP ns at_))),
   o4,o5,some (.ol (s.map λk=>tupI (ZgM ns at_ k))),o7,o8,none,none]) (ZyA (ZZ (Zv ns at_) 9887 4).toNat) _ ⟨o5,none,none,rfl⟩ ?_
  rintro s k post r hxs ⟨o5,o7,o8,rfl⟩
  have hk':=ZyS.mp (show k∈ZyA (ZZ (Zv ns at_) 9887 4).toNat by rw[hxs]; simp);have hs:s.length<4:=by have:=congrArg Zzf hxs; simp at this; omega
  obtain⟨r7,r8,e⟩:=Zrw ns at_ k (ZP ns at_) (some (.pl (.int (Zv ns at_)))) o4 (s.map λk=>tupI (ZgM ns at_ k)) o7 o8 none none (by omega) (by simp; omega) rfl;exact⟨_,e,some (.pl (dN k)),r7,r8,by simp⟩
 have n3:(1+ZZ (Zv ns at_) 9907 3).toNat<1000000:=by omega
 have nl:(ZZ (Zv ns at_) 9887 4).toNat<1000000:=by omega
 have nm:ZP ns at_<1000000:=by omega
 have hdk:((ZyA (1+ZZ (Zv ns at_) 9907 3).toNat).map λk=>ZN ((ZyA (ZP ns at_)).map λs=>Zfx (Zv ns (at_+1+k)+61*(k:Int)) (ZP ns at_) s))=(ZbS ns at_).map ZN:=by unfold ZbS; simp
 have hlk:((ZyA (ZZ (Zv ns at_) 9887 4).toNat).map λk=>tupI (ZgM ns at_ k))=(ZgD ns at_).map tupI:=by unfold ZgD; simp
 rw[hdk]at f1;simp only[hlk]at lks;have dkl:(ZbS ns at_).length<10:=by unfold ZbS; simp; omega
 unfold wkV Wk.d ZgF Zo0 Zuq;simp only
 by_cases w1:ZZ (Zv ns at_) 9901 3=1
 ·have w1':(ZZ (Zv ns at_) 9901 3==1)=true:=by simp[w1]
  have cut:cutD ((ZbS ns at_).map ZN) none (some 1)=((ZbS ns at_).take 1).map ZN:=by unfold cutD sIx;simp
  obtain⟨r2,f2,p5,p7,p8,q2⟩:=lks (some (.ol (ZN ((ZyA (ZP ns at_)).map λk=>wlV (Zv ns (at_+1)) k)::ZN ((ZyA (ZP ns at_)).map λk=>[beV (ZP ns at_) k])::List.take 1 ((ZbS ns at_).map ZN)))) o5;subst q2;have c2:min 1 (ZbS ns at_).length+1+1<1000000:=by omega
  have c3:(2:Nat)+min 1 (ZbS ns at_).length<1000000:=by omega
  by_cases w2:ZZ (Zv ns at_) 9859 3=1
  ·have w2':(ZZ (Zv ns at_) 9859 3==1)=true:=by simp[w2]
   simp[ZaZ,Zdh,c0,m4,<-hmc,hlen,m3,ok3,Z5,n3,f1,mw,w1',c1,wk,cut,w1,ml,okl,nl,f2,c7,k7,mb,w2',okm,nm,c8,k8,w2,c2,c3]
  ·have w2':(ZZ (Zv ns at_) 9859 3==1)=false:=by simp[w2]
   simp[ZaZ,Zdh,c0,m4,<-hmc,hlen,m3,ok3,Z5,n3,f1,mw,w1',c1,wk,cut,w1,ml,okl,nl,f2,c7,k7,mb,w2',okm,nm,c8,k8,w2,c2,c3]
 ·have w1':(ZZ (Zv ns at_) 9901 3==1)=false:=by simp[w1]
  obtain⟨r2,f2,p5,p7,p8,q2⟩:=lks (some (.ol ((ZbS ns at_).map ZN))) o5;subst q2
  by_cases w2:ZZ (Zv ns at_) 9859 3=1
  ·have w2':(ZZ (Zv ns at_) 9859 3==1)=true:=by simp[w2]
   simp[ZaZ,Zdh,c0,m4,<-hmc,hlen,m3,ok3,Z5,n3,f1,mw,w1',w1,ml,okl,nl,f2,c7,k7,mb,w2',okm,nm,c8,k8,w2]
  ·have w2':(ZZ (Zv ns at_) 9859 3==1)=false:=by simp[w2]
   simp[ZaZ,Zdh,c0,m4,<-hmc,hlen,m3,ok3,Z5,n3,f1,mw,w1',w1,ml,okl,nl,f2,c7,k7,mb,w2',okm,nm,c8,k8,w2]
end
end HG
namespace HG
open PySem HM
theorem Zoy{e:EF}{r:HM.Env}{f:D->D}(xs:List D)(h:∀x∈xs,e (some (.pl x)::r)=some (f x)):ZaG Zaa e r xs=some (xs.map f):=by
 have:=Zby (e:=e) (r:=r) id f xs h
 rwa [List.map_id]at this
theorem Zou(xs:List D)(p:D->Bool):Ze9 (xs.map λx=>ZzU (p x))=some (xs.map p):=by
 have:=ZfL (xs.map p)
 rwa [ZyP]at this
def Zfq(d:D)(lo hi:Int):Bool:=match d with
 | .int i=>decide (lo<=i)&&decide (i<=hi)
 | _=>false
def ndD:D->Prop
 | .dict _=>False
 | _=>True
theorem ZeF(d:D)(lo hi:Int)(nd:ndD d:=by trivial):Zau [d,.int lo,.int hi]=some (.bool (Zfq d lo hi)):=by
 cases d<;>first | exact nd.elim | simp[Zau,ZiA,Zfq]
 rename_i i
 by_cases h:lo<=i<;>simp[h]
def ZdJ(d:D)(lo hi:Int):Bool:=match d with
 | .tuple ds=>decide (lo<=(ds.length:Int))&&decide ((ds.length:Int)<=hi)
 | _=>false
theorem Zfg(d:D)(lo hi:Int)(nd:ndD d:=by trivial):ZaW [d,.int lo,.int hi]=some (.bool (ZdJ d lo hi)):=by
 cases d<;>first | exact nd.elim | simp[ZaW,Zl2,ZdJ]
 rename_i ds
 by_cases h:lo<=(ds.length:Int)<;>simp[h]
def Zcp(many:Int):Int->List D->Bool
 | _,[]=>true
 | l,.int i::r=>(decide (l<=i)&&decide (i<=many-1))&&Zcp many (i+1) r
 | _,_::_=>false
def Zjz(d:D)(many:Int):Bool:=match d with
 | .tuple ds=>Zcp many 0 ds
 | _=>false
theorem Zp2(d:D)(many:Int):∀(ds:List D) (l:Int) (o:Option B),(∀x∈ds,ndD x) ->
  (Zcp many l ds=true->∃l' o',Z4 3 Zav ds [some (.pl d),some (.pl (.int many)),some (.pl (.int l)),o]=some (.nx [some (.pl d),some (.pl (.int many)),some (.pl (.int l')),o'])) /\
  (Zcp many l ds=false->Z4 3 Zav ds [some (.pl d),some (.pl (.int many)),some (.pl (.int l)),o]=some (.rt (.bool false)))
 | [],l,o,_=>⟨λ_=>⟨l,o,rfl⟩,λh=>by simp[Zcp]at h⟩
 | x::ds,l,o,nd=>by
  have key:=ZeF x l (many-1) (nd x (Zyw ..));cases hx:Zfq x l (many-1)with
  | false =>
   have e:Zav [some (.pl d),some (.pl (.int many)),some (.pl (.int l)),some (.pl x)]=some (.rt (.bool false)):=by rw[hx]at key;simp[Zav,key]
   have e2:Zcp many l (x::ds)=false:=by cases x<;>simp[Zcp];rename_i i;simp[Zfq]at hx;intro h1 h2;exact absurd (hx h1) (by omega)
   refine⟨λh=>?_,λ_=>?_⟩
   ·rw[e2]at h; cases h
   ·unfold Z4
    show(match Zav [some (.pl d),some (.pl (.int many)),some (.pl (.int l)),some (.pl x)]with | some (.nx r')=>_ | some (.ct r')=>_ | some (.bk r')=>_ | some (.rt d)=>_ | none=>_)=_;rw[e]
  | true =>
   cases x with
   | int i =>
    have e:Zav [some (.pl d),some (.pl (.int many)),some (.pl (.int l)),some (.pl (.int i))]=some (.nx [some (.pl d),some (.pl (.int many)),some (.pl (.int (i+1))),some (.pl (.int i))]):=by rw[hx]at key;simp[Zav,key]
    have e2:Zcp many l (.int i::ds)=Zcp many (i+1) ds:=by have:(decide (l<=i)&&decide (i<=many-1))=true:=hx;simp only[Zcp,this,ZDo]
    obtain⟨a1,a2⟩:=Zp2 d many ds (i+1) (some (.pl (.int i))) λx hx=>nd x (Zyx _ hx);rw[e2];have e3:Z4 3 Zav (.int i::ds) [some (.pl d),some (.pl (.int many)),some (.pl (.int l)),o]=Z4 3 Zav ds [some (.pl d),some (.pl (.int many)),some (.pl (.int (i+1))),some (.pl (.int i))]:=by show(match Zav [some (.pl d),some (.pl (.int many)),some (.pl (.int l)),some (.pl (.int i))]with | some (.nx r')=>_ | some (.ct r')=>_ | some (.bk r')=>_ | some (.rt d)=>_ | none=>_)=_;rw[e]
    rw[e3];exact⟨a1,a2⟩
   | _=>simp[Zfq]at hx
theorem Zi8(d:D)(many:Int)(hl:∀ds,d=.tuple ds->ds.length<1000000/\∀x∈ds,ndD x)(nd:ndD d:=by trivial):Z8 [d,.int many]=some (.bool (Zjz d many)):=by
 cases d with
 | tuple ds =>
  obtain⟨hl,hn⟩:=hl ds rfl;obtain⟨a1,a2⟩:=Zp2 (.tuple ds) many ds 0 none hn;cases h:Zcp many 0 ds with
  | true=>obtain⟨l',o',e⟩:=a1 h;simp[Z8,Zeh,Zjz,h,hl,e]
  | false=>have e:=a2 h;simp[Z8,Zeh,Zjz,h,hl,e]
 | dict _=>exact nd.elim
 | _=>simp[Z8,Zeh,Zjz]
def small:D->Prop
 | .tuple ds=>ds.length<1000000/\∀x∈ds,ndD x
 | .dict _=>False
 | _=>True
theorem ZkX{c:List Int}(h:(c.map dI).length<1000000):small (tupI c):=⟨h,λx hx=>by obtain⟨i,_,rfl⟩:=ZyC.mp hx; trivial⟩
theorem Zot{d:D}(h:small d):ndD d:=by cases d<;>first | exact h.elim | trivial
theorem Zsi{d:D}(h:small d):∀ds,d=.tuple ds->ds.length<1000000/\∀x∈ds,ndD x:=by rintro ds rfl; exact h
def ZiY(d:D)(many:Int):Bool:=ZdJ d many many&&(match d with | .tuple ds=>ds.all λc=>Zjz c many | _=>false)
def ZkQ(d:D):Prop:=match d with | .tuple ds=>ds.length<1000000/\∀x∈ds,small x | .dict _=>False | _=>True
theorem ZtV{d:D}(h:ZkQ d):ndD d:=by cases d<;>first | exact h.elim | trivial
theorem Zq3(d:D)(many:Int)(hs:ZkQ d):Zci [d,.int many]=some (.bool (ZiY d many)):=by
 have h1:=Zfg d many many (ZtV hs);cases hr:ZdJ d many many with
 | false=>rw[hr]at h1; simp[Zci,ZhI,h1,ZiY,hr]
 | true =>
  rw[hr]at h1;cases d with
  | tuple ds =>
   have hs':ds.length<1000000/\∀x∈ds,small x:=hs;simp[Zci,ZhI,h1,ZiY,hr,hs'.1];rw[Zoy (f:=λc=>.bool (Zjz c many))]
   ·simp[Zou]
   ·intro x hx
    simp[Zi8 x many (Zsi (hs'.2 x hx)) (Zot (hs'.2 x hx))]
  | _=>simp[ZdJ]at hr
def ZiW(d:D)(many:Int):Bool:=ZdJ d many many&&(match d with | .tuple ds=>ds.all λc=>Zfq c 0 9 | _=>false)
theorem Zq5(d:D)(many:Int)(hs:small d):Zcj [d,.int many]=some (.bool (ZiW d many)):=by
 have h1:=Zfg d many many (Zot hs);cases hr:ZdJ d many many with
 | false=>rw[hr]at h1; simp[Zcj,ZhJ,h1,ZiW,hr]
 | true =>
  rw[hr]at h1;cases d with
  | tuple ds =>
   have hs':ds.length<1000000:=hs.1;simp[Zcj,ZhJ,h1,ZiW,hr,hs'];rw[Zoy (f:=λc=>.bool (Zfq c 0 9))]
   ·simp[Zou]
   ·intro x hx
    simp[ZeF x 0 9 (hs.2 x hx)]
  | _=>simp[ZdJ]at hr
structure Wk.V(w:Wk):Prop where
 m1:1<=w.many
 m2:w.many<=8
 d1:1<=w.deeds.length
 d2:w.deeds.length<=5
 dl:∀dd∈w.deeds,dd.length=w.many
 dc:∀dd∈w.deeds,∀c∈dd,Cr w.many c
 l2:w.looks.length<=4
 ll:∀l∈w.looks,l.length=w.many
 lc:∀l∈w.looks,∀x∈l,0<=x/\x<=9
 b1:w.beg≠[]
 bc:Cr w.many w.beg
 gc:Cr w.many w.goal
theorem Wk.Ok.v{w:Wk}(h:w.Ok):Wk.V w:=by obtain⟨m1,m2,d1,d2,dl,dc,l2,ll,lc,b1,bc,g1,gc⟩:=h;exact⟨by omega,by omega,d1,by omega,dl,dc,by omega,ll,lc,b1,bc,gc⟩
theorem Zly(n:Nat):∀(c:List Int) (l:Int),c.Pairwise (· < ·)->(∀x∈c,l<=x/\x<(n:Int))->Zcp n l (c.map dI)=true
 | [],_,_,_=>rfl
 | x::c,l,hp,hb=>by have h1:=hb x (Zyw ..);have ih:=Zly n c (x+1) (Zzi.mp hp).2 λy hy=>⟨by have:=(Zzi.mp hp).1 y hy; omega,(hb y (Zyx _ hy)).2⟩;show((decide (l<=x)&&decide (x<=(n:Int)-1))&&Zcp n (x+1) (c.map dI))=true;rw[ih,decide_eq_true h1.1,decide_eq_true (show x<=(n:Int)-1 by omega)];rfl
theorem Zjm{n:Nat}{c:List Int}(h:Cr n c)(hn:n<1000):Z8 [tupI c,.int n]=some (.bool true):=by have hl:=h.len;rw[Zi8 (tupI c) n (by intro ds e; cases e; exact⟨by simp; omega,λx hx=>by obtain⟨i,_,rfl⟩:=ZyC.mp hx; trivial⟩)];show some (ZzU (Zcp n 0 (c.map dI)))=_;rw[Zly n c 0 h.1 h.2]
theorem Zj1{n:Nat}{c:List Int}(h:Cr n c)(h0:c≠[])(hn:n<1000):ZbX [tupI c,.int n]=some (.bool true):=by
 have h1:=Zjm h hn;have h2:(0:Int)<(c.length:Int):=by have:=ZA0.mpr h0;omega
 simp[ZbX,ZjS,h1];exact ZA0.mpr h0
theorem ZuC{w:Wk}(h:Wk.V w){dd:List (List Int)}(hd:dd∈w.deeds):Zci [ZN dd,.int w.many]=some (.bool true):=by
 have hl:=h.dl dd hd;have m2:=h.m2;rw[Zq3 (ZN dd) _ (show(dd.map tupI).length<1000000/\∀x∈dd.map tupI,small x by refine⟨by simp; omega,λx hx=>?_⟩;obtain⟨c,hc,rfl⟩:=ZyC.mp hx;have:=(h.dc dd hd c hc).len;refine ZkX ?_;simp; omega)];have e:ZiY (ZN dd) w.many=true:=by unfold ZiY ZN ZdJ;simp[hl];intro c hc;exact Zly w.many c 0 (h.dc dd hd c hc).1 (h.dc dd hd c hc).2
 rw[e]
theorem Zvc{w:Wk}(h:Wk.V w){l:List Int}(hd:l∈w.looks):Zcj [tupI l,.int w.many]=some (.bool true):=by
 have hl:=h.ll l hd;have m2:=h.m2;rw[Zq5 (tupI l) _ (ZkX (show(l.map dI).length<1000000 by simp; omega))];have e:ZiW (tupI l) w.many=true:=by unfold ZiW ZdJ;simp[hl];intro x hx;have:=h.lc l hd x hx;simp[Zfq];omega
 rw[e]
theorem allTrue(α:Type)(xs:List α):Ze9 (xs.map λ_=>ZzU true)=some (xs.map λ_=>true):=by
 have:=ZfL (xs.map λ_=>true)
 rwa [ZyP]at this
theorem ZoC{w:Wk}(h:Wk.V w):ZcA [.tuple (w.deeds.map ZN),.int w.many]=some (.bool true):=by
 have h1:=Zfg (.tuple (w.deeds.map ZN)) 1 5;have d1:=h.d1;have d2:=h.d2;have e:ZdJ (.tuple (w.deeds.map ZN)) 1 5=true:=by simp[ZdJ]; omega
 rw[e]at h1;have hl:w.deeds.length<1000000:=by omega
 simp[ZcA,ZiB,h1,hl];rw[Zby ZN (λ_=>.bool true)]
 ·simp[allTrue]
 ·intro x hx
  simp[ZuC h hx]
theorem ZoP{w:Wk}(h:Wk.V w):ZcB [.tuple (w.looks.map tupI),.int w.many]=some (.bool true):=by
 have h1:=Zfg (.tuple (w.looks.map tupI)) 0 4;have d2:=h.l2;have e:ZdJ (.tuple (w.looks.map tupI)) 0 4=true:=by simp[ZdJ]; omega
 rw[e]at h1;have hl:w.looks.length<1000000:=by omega
 simp[ZcB,ZiC,h1,hl];rw[Zby tupI (λ_=>.bool true)]
 ·simp[allTrue]
 ·intro x hx
  simp[Zvc h hx]
theorem ZoB{w:Wk}(h:Wk.V w):ZcC [w.d]=some (.bool true):=by
 have h1:=Zfg w.d 5 5;have e:ZdJ w.d 5 5=true:=by simp[ZdJ,Wk.d]
 rw[e]at h1;have h2:=ZeF (.int w.many) 1 8;have m1:=h.m1;have m2:=h.m2;have e2:Zfq (.int w.many) 1 8=true:=by simp[Zfq]; omega
 rw[e2]at h2;have h3:=ZoC h;have h4:=ZoP h;have h5:=Zj1 h.bc h.b1 (by omega);have h6:=Zjm h.gc (by omega);unfold Wk.d at h1 ⊢;simp[ZcC,ZiD,h1,h2,h3,h4,h5,h6]
theorem Zle{w:Wk}(h:Wk.V w):Zck [w.d]=some w.d:=by simp[Zck,ZkF,ZoB h]
theorem Zo7(w:Wk):ZcD [w.d]=some (.int w.many):=by simp[ZcD,ZiE,Wk.d]
theorem Ze6(w:Wk):ZaP [w.d]=some (.tuple (w.deeds.map ZN)):=by simp[ZaP,ZjT,Wk.d]
theorem Zj3(w:Wk):ZbY [w.d]=some (.tuple (w.looks.map tupI)):=by simp[ZbY,ZjU,Wk.d]
theorem Zkx{w:Wk}(h:Wk.V w){ls:List Int}(hl:Cr w.looks.length ls):Zbu [w.d,tupI ls]=some (tupI ls):=by have l2:=h.l2;have h1:=Zjm hl (by omega);simp[Zbu,ZfY,Zj3,h1]
theorem ZgB{w:Wk}(h:Wk.V w){c:List Int}(hc:Cr w.many c)(h0:c≠[]):ZaL [w.d,tupI c]=some (tupI c):=by have m2:=h.m2;have h1:=Zj1 hc h0 (by omega);simp[ZaL,ZfZ,Zo7,h1]
end HG
namespace HG
open PySem HM
def ZbJ(w:Wk)(d s:Int):List Int:=(w.deeds[d.toNat]?.getD [])[s.toNat]?.getD []
def Zk7(w:Wk)(l s:Int):Int:=(w.looks[l.toNat]?.getD [])[s.toNat]?.getD 0
def Z9(w:Wk)(c:List Int)(d:Int):Bool:=c.all λs=>decide (0<(ZbJ w d s).length)
def Za5(w:Wk)(c:List Int)(d:Int):List Int:=c.flatMap λs=>ZbJ w d s
def ZB(w:Wk)(c:List Int)(d:Int):List Int:=sortI (dedup [] (Za5 w c d))
def Zy(w:Wk)(ls:List Int)(s:Int):List Int:=ls.map λl=>Zk7 w l s
theorem Zlv{w:Wk}{d:Int}(h0:0<=d)(h1:d<w.deeds.length):atD (w.deeds.map ZN) d=some (ZN (w.deeds[d.toNat]?.getD [])):=by
 refine Zhy h0 ?_;have h:d.toNat<w.deeds.length:=by omega
 simp[h,ZzX]
theorem ZoV{w:Wk}(hv:Wk.V w){d s:Int}(h0:0<=d)(h1:d<w.deeds.length)(h2:0<=s)(h3:s<w.many):atD ((w.deeds[d.toNat]?.getD []).map tupI) s=some (tupI (ZbJ w d s)):=by
 refine Zhy h2 ?_;have h:d.toNat<w.deeds.length:=by omega
 have hl:(w.deeds[d.toNat]?.getD []).length=w.many:=by
  have:w.deeds[d.toNat]?.getD []=w.deeds[d.toNat]:=by simp[h,ZzX]
  rw[this];exact hv.dl _ (Zz5 h)
 have h':s.toNat<(w.deeds[d.toNat]?.getD []).length:=by omega
 unfold ZbJ;rw[ZyU,ZyH h'];simp[ZzX,h']
theorem Zo4{w:Wk}(hv:Wk.V w){d s:Int}(h0:0<=d)(h1:d<w.deeds.length)(h2:0<=s)(h3:s<w.many):Cr w.many (ZbJ w d s):=by
 have h:d.toNat<w.deeds.length:=by omega
 have e:w.deeds[d.toNat]?.getD []=w.deeds[d.toNat]:=by simp[h,ZzX]
 have hl:=hv.dl _ (Zz5 h);unfold ZbJ;rw[e];have h':s.toNat<(w.deeds[d.toNat]).length:=by omega
 have e2:(w.deeds[d.toNat])[s.toNat]?.getD []=(w.deeds[d.toNat])[s.toNat]:=by simp[h',ZzX]
 rw[e2];exact hv.dc _ (Zz5 h) _ (Zz5 h')
theorem Zp4{w:Wk}{l:Int}(h0:0<=l)(h1:l<w.looks.length):atD (w.looks.map tupI) l=some (tupI (w.looks[l.toNat]?.getD [])):=by
 refine Zhy h0 ?_;have h:l.toNat<w.looks.length:=by omega
 simp[h,ZzX]
theorem Zqf{w:Wk}(hv:Wk.V w){l s:Int}(h0:0<=l)(h1:l<w.looks.length)(h2:0<=s)(h3:s<w.many):atD ((w.looks[l.toNat]?.getD []).map dI) s=some (.int (Zk7 w l s)):=by
 refine Zhy h2 ?_;have h:l.toNat<w.looks.length:=by omega
 have hl:(w.looks[l.toNat]?.getD []).length=w.many:=by
  have:w.looks[l.toNat]?.getD []=w.looks[l.toNat]:=by simp[h,ZzX]
  rw[this];exact hv.ll _ (Zz5 h)
 have h':s.toNat<(w.looks[l.toNat]?.getD []).length:=by omega
 unfold Zk7;rw[ZyU,ZyH h'];simp[ZzX,h']
theorem Zq2{w:Wk}(hv:Wk.V w){ls:List Int}(hl:Cr w.looks.length ls){s:Int}(h2:0<=s)(h3:s<w.many):Zdy [w.d,tupI ls,.int s]=some (tupI (Zy w ls s)):=by
 have l2:=hv.l2;have hlen:=hl.len;have hb:ls.length<1000000:=by omega
 simp[Zdy,ZkG,hb];rw[Zby dI (λl=>dI (Zk7 w l s))]
 ·simp[Zy]
 ·intro l hl'
  have hb:=hl.2 l hl';simp[Zj3,Zp4 hb.1 hb.2,Zqf hv hb.1 hb.2 h2 h3]
theorem ZhB{w:Wk}(hv:Wk.V w){c:List Int}(hc:Cr w.many c){d:Int}(h0:0<=d)(h1:d<w.deeds.length):Za8 [w.d,tupI c,.int d]=some (.bool (Z9 w c d)):=by
 have m2:=hv.m2;have hlen:=hc.len;have hb:c.length<1000000:=by omega
 simp[Za8,Zhq,Ze6,Zlv h0 h1,hb];rw[Zby dI (λs=>.bool (decide (0<(ZbJ w d s).length)))]
 ·have e:=ZfL (c.map λs=>decide (0<(ZbJ w d s).length))
  rw[ZyP]at e;have e':((λb=>ZzU b)∘λs=>decide (0<(ZbJ w d s).length))=λs=>ZzU (decide (0<(ZbJ w d s).length)):=rfl;rw[e']at e;simp[e,Z9]
 ·intro s hs
  have hb:=hc.2 s hs;simp[ZN,ZoV hv h0 h1 hb.1 hb.2]
def doV(w:Wk)(c:List Int):List Int:=((ZyA w.deeds.length).filter λ(d:Nat)=>Z9 w c (d:Int)).map λ(k:Nat)=>(k:Int)
theorem Ziv{w:Wk}(hv:Wk.V w){c:List Int}(hc:Cr w.many c):Zbm [w.d,tupI c]=some (.list ((doV w c).map dI)):=by
 have d2:=hv.d2;have hok:okR (w.deeds.length:Int)=true:=ZcL (by omega);have hb:w.deeds.length<1000000:=by omega
 simp[Zbm,Ziq,Ze6,hok,Z5,hb];rw[ZbP dN (λk:Nat=>Z9 w c k) dN]
 ·simp[doV]
 ·intro k hk
  have hk':=ZyS.mp hk;simp[ZhB hv hc (show(0:Int)<=(k:Int) by omega) (by omega)]
 ·intro k hk _
  simp
theorem ZrM{w:Wk}(hv:Wk.V w){c:List Int}(hc:Cr w.many c)(h0:c≠[]):Zdf [w.d,tupI c]=some (.list ((doV w c).map dI)):=by simp[Zdf,Zl5,Zle hv,ZgB hv hc h0,Ziv hv hc]
def Zcv(acc:List Int)(x:Int):List Int:=if acc.contains x then acc else acc++[x]
theorem ZfM:∀(l acc:List Int),dedup acc l=l.foldl Zcv acc
 | [],acc=>rfl
 | x::l,acc=>by
  unfold dedup;rw[Zzr];unfold Zcv;split
  ·rw[ZfM l acc]; rfl
  ·rw[ZfM l (acc++[x])]; rfl
def tru(acc:List Int):List (Ky × D):=acc.map λi=>(ZAk i,ZzU true)
theorem ZuV(acc:List Int)(x:Int):putD (tru acc) (ZAk x) (ZzU true)=tru (Zcv acc x):=by
 unfold putD Zcv tru
 by_cases h:x∈acc
 ·have e1:((acc.map λi=>((ZAk i:Ky),ZzU true)).any λp=>decide (p.1=ZAk x))=true:=by
   simp; exact h
  have e2:acc.contains x=true:=by simpa using h
  rw[if_pos e1,if_pos e2,ZyP];refine ZzZ λi _=>?_;simp
 ·have e1:¬((acc.map λi=>((ZAk i:Ky),ZzU true)).any λp=>decide (p.1=ZAk x))=true:=by
   simp; exact h
  have e2:¬acc.contains x=true:=by simpa using h
  rw[if_neg e1,if_neg e2];simp
theorem Zmr(acc:List Int)(x:Int):(Zcv acc x).length<=acc.length+1:=by unfold Zcv; split<;>simp
theorem Zop:∀(l acc:List Int),(l.foldl Zcv acc).length<=acc.length+l.length
 | [],acc=>by simp
 | x::l,acc=>by rw[Zzr];have:=Zop l (Zcv acc x);have:=Zmr acc x;simp; omega
theorem ZsO(e0 e1 e2 e3 e5:Option B):∀(l acc:List Int) (o:Option B),acc.length+l.length<1000000 ->
  ∃o',Z4 6 Zei (l.map dI) [e0,e1,e2,e3,some (.ok (tru acc)),e5,o]=some (.nx [e0,e1,e2,e3,some (.ok (tru (l.foldl Zcv acc))),e5,o'])
 | [],acc,o,_=>⟨o,rfl⟩
 | x::l,acc,o,h=>by
  rw[ZyI]at h;have hb:acc.length<1000000:=by omega
  have e:Zei [e0,e1,e2,e3,some (.ok (tru acc)),e5,some (.pl (dI x))]=some (.nx [e0,e1,e2,e3,some (.ok (tru (Zcv acc x))),e5,some (.pl (dI x))]):=by
   have hl:(tru acc).length<1000000:=by unfold tru; simp; exact hb
   simp[Zei,hl,ZuV]
  have hd:=Zmr acc x;obtain⟨o',e'⟩:=ZsO e0 e1 e2 e3 e5 l (Zcv acc x) (some (.pl (dI x))) (by omega);refine⟨o',?_⟩;rw[Zyz,Zzr,<-e'];unfold Z4;show(match Zei [e0,e1,e2,e3,some (.ok (tru acc)),e5,some (.pl (dI x))]with | some (.nx r')=>_ | some (.ct r')=>_ | some (.bk r')=>_ | some (.rt d)=>_ | none=>_)=_;rw[e];cases l<;>rfl
theorem ZsU{w:Wk}(hv:Wk.V w){d:Int}(h0:0<=d)(h1:d<w.deeds.length)(e1 e2:Option B):∀(c acc:List Int) (o5 o6:Option B),(∀s∈c,0<=s/\s<(w.many:Int))->acc.length+c.length*10<100000 ->
  ∃o5' o6',Z4 5 Zej (c.map dI) [some (.pl w.d),e1,e2,some (.pl (ZN (w.deeds[d.toNat]?.getD []))),some (.ok (tru acc)),o5,o6]=some (.nx [some (.pl w.d),e1,e2,some (.pl (ZN (w.deeds[d.toNat]?.getD []))),some (.ok (tru ((Za5 w c d).foldl Zcv acc))),o5',o6'])
 | [],acc,o5,o6,_,_=>⟨o5,o6,rfl⟩
 | s::c,acc,o5,o6,hs,hl=>by
  rw[ZyI]at hl;have hb:=hs s (Zyw ..);have hr:=(Zo4 hv h0 h1 hb.1 hb.2).len;have m2:=hv.m2;have hrl:(ZbJ w d s).length<1000000:=by omega
  obtain⟨o',e⟩:=ZsO (some (.pl w.d)) e1 e2 (some (.pl (ZN (w.deeds[d.toNat]?.getD [])))) (some (.pl (dI s))) (ZbJ w d s) acc o6 (by omega);have e':Zej [some (.pl w.d),e1,e2,some (.pl (ZN (w.deeds[d.toNat]?.getD []))),some (.ok (tru acc)),some (.pl (dI s)),o6]=some (.nx [some (.pl w.d),e1,e2,some (.pl (ZN (w.deeds[d.toNat]?.getD []))),some (.ok (tru ((ZbJ w d s).foldl Zcv acc))),some (.pl (dI s)),o']):=by unfold ZN at e ⊢;simp[Zej,ZoV hv h0 h1 hb.1 hb.2,hrl,e]
  have hf:=Zop (ZbJ w d s) acc;obtain⟨p5,p6,ih⟩:=ZsU hv h0 h1 e1 e2 c ((ZbJ w d s).foldl Zcv acc) (some (.pl (dI s))) o' (λx hx=>hs x (Zyx _ hx)) (by omega);refine⟨p5,p6,?_⟩;have ef:Za5 w (s::c) d=ZbJ w d s++Za5 w c d:=rfl;rw[ef,List.foldl_append,<-ih,Zyz];show(match Zej [some (.pl w.d),e1,e2,some (.pl (ZN (w.deeds[d.toNat]?.getD []))),some (.ok (tru acc)),some (.pl (dI s)),o6]with | some (.nx r')=>_ | some (.ct r')=>_ | some (.bk r')=>_ | some (.rt d)=>_ | none=>_)=_;rw[e']
theorem ZrT{w:Wk}(hv:Wk.V w){c:List Int}(hc:Cr w.many c){d:Int}(h0:0<=d)(h1:d<w.deeds.length):∀x∈Za5 w c d,0<=x/\x<(w.many:Int):=by intro x hx;obtain⟨s,hs,h⟩:=ZAW.mp hx;exact(Zo4 hv h0 h1 (hc.2 s hs).1 (hc.2 s hs).2).2 x h
theorem Zc8{w:Wk}(hv:Wk.V w){c:List Int}(hc:Cr w.many c){d:Int}(h0:0<=d)(h1:d<w.deeds.length):Cr w.many (ZB w c d):=by refine Zim (Ze5 _ _ (by simp)) λx hx=>ZrT hv hc h0 h1 x ?_;rw[Zfh]at hx;simpa using hx
theorem Zmf{w:Wk}(hv:Wk.V w){c:List Int}(hc:Cr w.many c){d:Int}(h0:0<=d)(h1:d<w.deeds.length):Zcl [w.d,tupI c,.int d]=some (tupI (ZB w c d)):=by
 have m2:=hv.m2;have hlen:=hc.len;have hb:c.length<1000000:=by omega
 obtain⟨o5,o6,e⟩:=ZsU hv h0 h1 (some (.pl (tupI c))) (some (.pl (.int d))) c [] none none hc.2 (by simp; omega);have hl:(dedup [] (Za5 w c d)).length<64:=by have h:=(Zc8 hv hc h0 h1).len;have:=(sortI_perm (dedup [] (Za5 w c d))).length_eq;unfold ZB at h;omega
 have hs:=Zie _ hl;rw[ZfM]at hs;have ek:(tru ((Za5 w c d).foldl Zcv [])).map (λp=>ZaH p.1)=((Za5 w c d).foldl Zcv []).map dI:=by unfold tru;rw[ZyP];rfl
 simp[Zcl,Zl3,Ze6,Zlv h0 h1,hb];rw[show some (B.ok [])=some (B.ok (tru [])) from rfl,e];simp[ek,hs,ZB,ZfM]
theorem ZkR{w:Wk}(hv:Wk.V w){c:List Int}(hc:Cr w.many c){d:Int}(h0:0<=d)(h1:d<w.deeds.length)(hd:Z9 w c d=true):ZbK [w.d,tupI c,.int d]=some (.int d):=by
 have h2:=ZeF (.int d) 0 ((w.deeds.length:Int)-1);have e:Zfq (.int d) 0 ((w.deeds.length:Int)-1)=true:=by simp[Zfq]; omega
 rw[e]at h2;have h3:=ZhB hv hc h0 h1;rw[hd]at h3;simp[ZbK,ZgI,Ze6,h2,h3]
end HG
namespace HG
open PySem HM
abbrev Gs:=List (List Int × List Int)
abbrev Zac(k:List Int):List Ky:=k.map ZAk
def ZaI(g:Gs):List (List Ky × List D):=g.map λp=>(Zac p.1,p.2.map dI)
theorem Zgz{a b:List Int}(h:Zac a=Zac b):a=b:=by
 induction a generalizing b with
 | nil=>cases b with
  | nil=>rfl
  | cons _ _=>simp at h
 | cons x a ih=>cases b with
  | nil=>simp at h
  | cons y b=>simp at h;rw[h.1,ih (by simpa using h.2)]
theorem ZlD(a b:List Int):(Zac a=Zac b)↔a=b:=⟨Zgz,λh=>by rw[h]⟩
theorem Zrs(k:List Int):ZlO (k.map dI)=some (Zac k):=by
 induction k with
 | nil=>rfl
 | cons x k ih=>show(ZlO (k.map dI)).map (ZAk x::·)=_;rw[ih];rfl
theorem ZaD(k:List Int):ZaN (tupI k)=some (Zac k):=Zrs k
theorem ZgE(g:Gs)(k:List Int):Zh (ZaI g) (Zac k)=(Zh g k).map λp=>p.map dI:=by
 unfold Zh ZaI;rw[List.find?_map];have e:((λp:List Ky × List D=>decide (p.1=Zac k))∘λp:List Int × List Int=>(Zac p.1,p.2.map dI))=λp=>decide (p.1=k):=by
  funext p
  simp only[ZBW];exact decide_eq_decide.mpr (ZlD p.1 k)
 rw[e];cases g.find? λp=>decide (p.1=k)<;>rfl
theorem Zp6(g:Gs)(k:List Int):ZbI (ZaI g) (Zac k)=ZaI (ZbI g k):=by
 unfold ZbI;rw[ZgE];cases Zh g k with
 | none=>simp[ZaI]
 | some p=>rfl
theorem ZjE(k:List Int)(s:Int):∀(g:Gs),Zdr (ZaI g) (Zac k) (dI s)=ZaI (Zdr g k s)
 | []=>rfl
 | (x,p)::g=>by
  show Zdr ((Zac x,p.map dI)::ZaI g) (Zac k) (dI s)=ZaI (Zdr ((x,p)::g) k s);unfold Zdr
  by_cases h:x=k
  ·rw[if_pos (by rw[h]),if_pos h]
   simp[ZaI]
  ·rw[if_neg (λe=>h (Zgz e)),if_neg h,ZjE k s g]
   rfl
def ZdK(g:Gs)(k:List Int)(s:Int):Gs:=Zdr (ZbI g k) k s
theorem ZeW(k:List Int):Zh ([]:Gs) k=none:=rfl
theorem Zb0(x:List Int)(p:List Int)(g:Gs)(k:List Int):Zh ((x,p)::g) k=if x=k then some p else Zh g k:=by
 unfold Zh;rw[Zzs]
 by_cases h:x=k<;>simp[h]
theorem ZoL(k:List Int)(s:Int)(k':List Int):∀(g:Gs),Zh (Zdr g k s) k'=if k=k' then(Zh g k).map (·++[s])else Zh g k'
 | []=>by simp[Zdr,ZeW]
 | (x,p)::g=>by
  unfold Zdr
  by_cases h:x=k
  ·subst h
   rw[if_pos rfl,Zb0,Zb0,Zb0,if_pos rfl];split<;>rfl
  ·rw[if_neg h,Zb0,ZoL k s k' g,Zb0,Zb0,if_neg h]
   by_cases h2:x=k'
   ·subst h2
    rw[if_pos rfl,if_pos rfl,if_neg (Zzu h)]
   ·rw[if_neg h2,if_neg h2]
theorem Zlb(x:List Int)(p:List Int)(k:List Int):∀(g:Gs),Zh (g++[(x,p)]) k=match Zh g k with | some q=>some q | none=>if x=k then some p else none
 | []=>by simp[ZeW,Zb0]
 | (y,q)::g=>by rw[ZCT,Zb0,Zb0,Zlb x p k g];split<;>rfl
theorem Zid(g:Gs)(k k':List Int):Zh (ZbI g k) k'=if k=k' then some ((Zh g k).getD [])else Zh g k':=by
 unfold ZbI;cases h:Zh g k with
 | some p =>
  by_cases e:k=k'
  ·subst e; rw[if_pos rfl]; exact h
  ·rw[if_neg e]
 | none =>
  show Zh (g++[(k,[])]) k'=_;rw[Zlb]
  by_cases e:k=k'
  ·subst e; rw[if_pos rfl,if_pos rfl,h]; rfl
  ·rw[if_neg e,if_neg e]
   cases Zh g k'<;>rfl
theorem Ztq(g:Gs)(k k':List Int)(s:Int):Zh (ZdK g k s) k'=if k=k' then some ((Zh g k).getD []++[s])else Zh g k':=by
 unfold ZdK;rw[ZoL,Zid,Zid,if_pos rfl]
 by_cases e:k=k'
 ·rw[if_pos e,if_pos e]; rfl
 ·rw[if_neg e,if_neg e,if_neg e]
theorem ZoW(k:List Int)(s:Int):∀(g:Gs),(Zdr g k s).map (·.1)=g.map (·.1)
 | []=>rfl
 | (x,p)::g=>by
  unfold Zdr;split
  ·rfl
  ·rw[Zyz,ZoW k s g]; rfl
theorem Zky(g:Gs)(k:List Int):(Zh g k).isSome=true↔k∈g.map (·.1):=by
 induction g with
 | nil=>simp[ZeW]
 | cons p g ih =>
  obtain⟨x,q⟩:=p;rw[Zb0,Zyz,ZyR]
  by_cases h:x=k
  ·simp[h]
  ·rw[if_neg h,ih]
   constructor
   ·exact .inr
   ·rintro (e | e)
    ·exact absurd e.symm h
    ·exact e
theorem Zuj(g:Gs)(k:List Int):(ZbI g k).map (·.1)=if k∈g.map (·.1)then g.map (·.1)else g.map (·.1)++[k]:=by
 unfold ZbI;cases h:Zh g k with
 | some p=>rw[if_pos ((Zky g k).mp (by rw[h]; rfl))]
 | none=>rw[if_neg (λm=>by have:=(Zky g k).mpr m; rw[h]at this; cases this)];simp
theorem Ztn(g:Gs)(k:List Int)(s:Int):(ZdK g k s).map (·.1)=if k∈g.map (·.1)then g.map (·.1)else g.map (·.1)++[k]:=by unfold ZdK;rw[ZoW,Zuj]
def Zda(f:Int->List Int)(c:List Int):Gs:=c.foldl (λg s=>ZdK g (f s) s) []
structure Grp(f:Int->List Int)(pre:List Int)(g:Gs):Prop where
 nd:(g.map (·.1)).Nodup
 look:∀k,Zh g k=if k∈pre.map f then some (pre.filter λs=>f s==k)else none
theorem Grp.mem{f:Int->List Int}{pre:List Int}{g:Gs}(h:Grp f pre g)(k:List Int):k∈g.map (·.1)↔k∈pre.map f:=by
 rw[<-Zky,h.look];split
 ·rename_i m; exact⟨λ_=>m,λ_=>rfl⟩
 ·rename_i m; exact⟨(λe=>by cases e),λe=>absurd e m⟩
theorem Grp.step{f:Int->List Int}{pre:List Int}{g:Gs}(h:Grp f pre g)(s:Int):Grp f (pre++[s]) (ZdK g (f s) s):=by
 refine⟨?_,λk=>?_⟩
 ·rw[Ztn]
  split
  ·exact h.nd
  ·rename_i m
   rw[ZAP];exact⟨h.nd,by simp,λa ha b hb=>by simp at hb; subst hb; exact λe=>m (e▸ha)⟩
 ·rw[Ztq,h.look,h.look,Zy8,ZCq]
  by_cases e:f s=k
  ·subst e
   have e0:f s∈pre.map f++[s].map f:=by simp
   rw[if_pos rfl,if_pos e0];have e2:[s].filter (λx=>f x==f s)=[s]:=by simp
   rw[e2];split
   ·rfl
   ·rename_i m
    have:pre.filter (λx=>f x==f s)=[]:=by rw[ZBT];intro a ha q;exact m (ZyC.mpr ⟨a,ha,by simpa using q⟩)
    rw[this]; rfl
  ·have e2:[s].filter (λx=>f x==k)=[]:=by simp[e]
   rw[if_neg e,e2,Zy7];have e3:(k∈pre.map f++[s].map f)↔k∈pre.map f:=by
    rw[ZyZ]
    constructor
    ·rintro (q | q)
     ·exact q
     ·simp at q; exact absurd q.symm e
    ·exact .inl
   by_cases q:k∈pre.map f
   ·rw[if_pos q,if_pos (e3.mpr q)]
   ·rw[if_neg q,if_neg (λz=>q (e3.mp z))]
theorem Zp8(f:Int->List Int):∀(c pre:List Int) (g:Gs),Grp f pre g->Grp f (pre++c) (c.foldl (λg s=>ZdK g (f s) s) g)
 | [],pre,g,h=>by rw[Zy7]; exact h
 | s::c,pre,g,h=>by have:=Zp8 f c (pre++[s]) _ (h.step s);rw[ZzK]at this;exact this
theorem ZcM(f:Int->List Int)(c:List Int):Grp f c (Zda f c):=by
 have:=Zp8 f c [] [] ⟨ZAb,λk=>by simp[ZeW]⟩
 rwa [ZAr]at this
def ZH(w:Wk)(ls c:List Int):Gs:=(ZdW ((Zda (Zy w ls) c).map (·.1))).map λk=>(k,c.filter λs=>Zy w ls s==k)
def Z3(p:List Int × List Int):D:=.tuple [tupI p.1,tupI p.2]
theorem Ztt(ks:List (List Int)):Zjv (ks.map tupI)=some ks:=by
 induction ks with
 | nil=>rfl
 | cons k ks ih=>show(match ZaK (k.map dI)with | some ns=>(Zjv (ks.map tupI)).map (ns::·) | none=>none)=_;rw[ZbN,ih];rfl
theorem Zrv(ks:List (List Int))(h:ks.length<64)(hn:ks.length<2\/∀k∈ks,k≠[]):Ze3 (ks.map tupI)=some ((ZdW ks).map tupI):=by
 unfold Ze3;rw[if_pos (by rw[Zyt]; exact h)];cases ks with
 | nil=>simp[ZaK,sortI,ZdW,ofInts]
 | cons k ks =>
  have e:ZaK (ZCg tupI (k::ks))=none:=rfl;rw[e,Ztt];have e2:(decide ((ZCg tupI (k::ks)).length<2)||(k::ks).all λt=>!t.isEmpty)=true:=by
   rw[ZAd,Zyt];rcases hn with q | q
   ·exact .inl (by simpa using q)
   ·refine .inr (ZyD.mpr λt ht=>?_)
    have:=q t ht;cases t with
    | nil=>exact absurd rfl this
    | cons _ _=>rfl
  dsimp only;rw[if_pos e2];unfold Zfc;simp only[ZfJ]
theorem Za3(ks:List (List Int)):(ZdW ks).Perm ks:=ZBq ks _
theorem Zqm(w:Wk)(ls c:List Int)(hc:c.length<60):Ze3 ((ZaI (Zda (Zy w ls) c)).map λp=>Zzn (p.1.map ZaH))=some ((ZdW ((Zda (Zy w ls) c).map (·.1))).map tupI):=by
 have hg:=ZcM (Zy w ls) c;have e:((ZaI (Zda (Zy w ls) c)).map λp=>Zzn (p.1.map ZaH))=((Zda (Zy w ls) c).map (·.1)).map tupI:=by unfold ZaI;rw[ZyP,ZyP];refine ZzZ λp _=>?_;simp only[ZBW];unfold Zac tupI;rw[ZyP];rfl
 rw[e];have hsub:∀k∈(Zda (Zy w ls) c).map (·.1),k∈c.map (Zy w ls):=λk hk=>(hg.mem k).mp hk;refine Zrv _ ?_ ?_
 ·have:(Zda (Zy w ls) c).map (·.1) ⊆ c.map (Zy w ls):=hsub
  have:=(Zz1 hg.nd this);rw[Zyt,Zyt]at this;rw[Zyt];omega
 ·cases ls with
  | nil =>
   left
   have:(Zda (Zy w []) c).map (·.1) ⊆ [[]]:=λk hk=>by obtain⟨s,_,e⟩:=ZyC.mp (hsub k hk);rw[<-e];simp[Zy]
   have:=(Zz1 hg.nd this);simp at this ⊢;omega
  | cons l ls =>
   right
   intro k hk e;obtain⟨s,_,e'⟩:=ZyC.mp (hsub k hk);rw[e]at e';simp[Zy]at e'
theorem Zld(w:Wk)(ls c:List Int)(e:EF)(r:HM.Env)(h:∀k∈(Zda (Zy w ls) c).map (·.1),e (some (.pl (tupI k))::r)=some (.tuple [tupI k,.tuple ((c.filter λs=>Zy w ls s==k).map dI)])) :
  ZaG Zaa e r ((ZdW ((Zda (Zy w ls) c).map (·.1))).map tupI)=some ((ZH w ls c).map Z3):=by
 rw[Zby tupI (λk=>.tuple [tupI k,.tuple ((c.filter λs=>Zy w ls s==k).map dI)])]
 ·unfold ZH
  rw[ZyP];rfl
 ·intro k hk
  exact h k ((Za3 _).mem_iff.mp hk)
theorem ZoT(w:Wk)(ls c:List Int)(k:List Int)(hk:k∈(Zda (Zy w ls) c).map (·.1)):Zh (ZaI (Zda (Zy w ls) c)) (Zac k)=some ((c.filter λs=>Zy w ls s==k).map dI):=by have hg:=ZcM (Zy w ls) c;rw[ZgE,hg.look,if_pos ((hg.mem k).mp hk)];rfl
theorem Zp7(f:Int->List Int)(pre:List Int)(g:Gs)(h:Grp f pre g)(k:List Int)(p:List Int)(e:Zh g k=some p):p.length<=pre.length:=by
 rw[h.look]at e;split at e
 ·cases e; exact Zzm _ _
 ·cases e
theorem ZfE(f:Int->List Int)(pre:List Int)(g:Gs)(h:Grp f pre g):g.length<=pre.length:=by have h2:g.map (·.1) ⊆ pre.map f:=λk hk=>(h.mem k).mp hk;have:=Zz1 h.nd h2;simpa using this
theorem Zl8{w:Wk}(hv:Wk.V w){ls:List Int}(hl:Cr w.looks.length ls)(e2:Option B):∀(c pre:List Int) (g:Gs) (o:Option B),Grp (Zy w ls) pre g->(∀s∈c,0<=s/\s<(w.many:Int))->pre.length+c.length<1000 ->
  ∃o',Z4 4 Zek (c.map dI) [some (.pl w.d),some (.pl (tupI ls)),e2,some (.otl (ZaI g)),o]=some (.nx [some (.pl w.d),some (.pl (tupI ls)),e2,some (.otl (ZaI (c.foldl (λg s=>ZdK g (Zy w ls s) s) g))),o'])
 | [],pre,g,o,_,_,_=>⟨o,rfl⟩
 | s::c,pre,g,o,hg,hb,hn=>by
  rw[ZyI]at hn;have hs:=hb s (Zyw ..);have hlen:(ZaI g).length<1000000:=by have:=ZfE _ _ _ hg;unfold ZaI;rw[Zyt]; omega
  have h1:Zh (ZbI (ZaI g) (Zac (Zy w ls s))) (Zac (Zy w ls s))=some (((Zh g (Zy w ls s)).getD []).map dI):=by rw[Zp6,ZgE,Zid,if_pos rfl]; rfl
  have h2:(((Zh g (Zy w ls s)).getD []).map dI).length<1000000:=by
   rw[Zyt];cases e:Zh g (Zy w ls s)with
   | none=>simp
   | some p=>have:=Zp7 _ _ _ hg _ _ e;simp; omega
  have h2':((Zh g (Zy w ls s)).getD []).length<1000000:=by rwa [Zyt]at h2
  have e:Zek [some (.pl w.d),some (.pl (tupI ls)),e2,some (.otl (ZaI g)),some (.pl (dI s))]=some (.nx [some (.pl w.d),some (.pl (tupI ls)),e2,some (.otl (ZaI (ZdK g (Zy w ls s) s))),some (.pl (dI s))]):=by have ek:=Zq2 hv hl hs.1 hs.2;simp[Zek,ek,ZaD,hlen,h1,h2'];rw[Zp6,ZjE];rfl
  obtain⟨o',ih⟩:=Zl8 hv hl e2 c (pre++[s]) (ZdK g (Zy w ls s) s) (some (.pl (dI s))) (hg.step s) (λx hx=>hb x (Zyx _ hx)) (by simp; omega);refine⟨o',?_⟩;rw[Zyz,Zzr,<-ih];show(match Zek [some (.pl w.d),some (.pl (tupI ls)),e2,some (.otl (ZaI g)),some (.pl (dI s))]with | some (.nx r')=>_ | some (.ct r')=>_ | some (.bk r')=>_ | some (.rt d)=>_ | none=>_)=_;rw[e]
theorem Zi2{w:Wk}(hv:Wk.V w){ls:List Int}(hl:Cr w.looks.length ls){c:List Int}(hc:Cr w.many c):Za9 [w.d,tupI ls,tupI c]=some (.list ((ZH w ls c).map Z3)):=by
 have m2:=hv.m2;have hlen:=hc.len;have hb:c.length<1000000:=by omega
 obtain⟨o',e⟩:=Zl8 hv hl (some (.pl (tupI c))) c [] [] none ⟨ZAb,λk=>by simp[ZeW]⟩ hc.2 (by simp; omega);have hk:=Zqm w ls c (by omega);have hg:c.foldl (λg s=>ZdK g (Zy w ls s) s) []=Zda (Zy w ls) c:=rfl;rw[hg]at e;have hn:(ZdW ((Zda (Zy w ls) c).map (·.1))).length<1000000:=by rw[(Za3 _).length_eq,Zyt];have:=ZfE _ _ _ (ZcM (Zy w ls) c);omega
 simp[Za9,Zl4,hb];rw[show some (B.otl [])=some (B.otl (ZaI [])) from rfl,e];simp[hk,hn];rw[Zld]
 ·simp
 ·intro k hk'
  simp[ZaD,ZoT w ls c k hk']
end HG
namespace HG
open PySem HM
def nbD:Nat->D->Bool
 | _,.none=>true
 | _,.int _=>true
 | _,.str x=>PyData.canLay0 (.str x)
 | 0,_=>false
 | n+1,.list ds=>ds.all (nbD n)
 | n+1,.tuple ds=>ds.all (nbD n)
 | _,_=>false
theorem Zjb{ds:List D}(h:∀d∈ds,d.canLay0=true):ZBa ds=true:=by
 induction ds with
 | nil=>rfl
 | cons d ds ih=>show(d.canLay0&&ZBa ds)=true;rw[h d (Zyw ..),ih λx hx=>h x (Zyx _ hx)];rfl
theorem Zj6{ds:List D}{n:Nat}(h:∀d∈ds,d.depth<=n):ZCc ds<=n:=by
 induction ds with
 | nil=>exact ZzS _
 | cons d ds ih=>show max d.depth (ZCc ds)<=n;have h1:=h d (Zyw ..);have h2:=ih λx hx=>h x (Zyx _ hx);omega
theorem Zji:∀(n:Nat) (d:D),nbD n d=true->d.canLay0=true/\d.depth<=n
 | n,.none,_=>⟨rfl,by show 0<=n; omega⟩
 | n,.int _,_=>⟨rfl,by show 0<=n; omega⟩
 | n,.str x,h=>by refine⟨?_,by show 0<=n; omega⟩;cases n<;>exact h
 | 0,.bool _,h=>by cases h
 | 0,.list _,h=>by cases h
 | 0,.tuple _,h=>by cases h
 | 0,.dict _,h=>by cases h
 | n+1,.bool _,h=>by cases h
 | n+1,.dict _,h=>by cases h
 | n+1,.list ds,h=>by have h':ds.all (nbD n)=true:=h;have hh:=ZyD.mp h';refine⟨Zjb λd hd=>(Zji n d (hh d hd)).1,?_⟩;show ZCc ds+1<=n+1;have:=Zj6 λd hd=>(Zji n d (hh d hd)).2;omega
 | n+1,.tuple ds,h=>by have h':ds.all (nbD n)=true:=h;have hh:=ZyD.mp h';refine⟨Zjb λd hd=>(Zji n d (hh d hd)).1,?_⟩;show ZCc ds+1<=n+1;have:=Zj6 λd hd=>(Zji n d (hh d hd)).2;omega
theorem Zh1{n:Nat}{d:D}(h:nbD n d=true)(hn:n<=60):ZaA d=true:=by obtain⟨h1,h2⟩:=Zji n d h;unfold ZaA;rw[h1,decide_eq_true (show d.depth<=60 by omega)];rfl
theorem Zk5{ds:List D}(ih:∀d∈ds,∀e,(∃m,nbD m e=true)->(ZzB d e=true↔d=e)):∀(es:List D),(∀e∈es,∃m,nbD m e=true)->(ZCx ds es=true↔ds=es):=by
 induction ds with
 | nil =>
  intro es _;cases es with
  | nil=>exact⟨λ_=>rfl,λ_=>rfl⟩
  | cons e es=>exact⟨(λh=>by cases h),(λh=>by cases h)⟩
 | cons d ds ihl =>
  intro es he;cases es with
  | nil=>exact⟨(λh=>by cases h),(λh=>by cases h)⟩
  | cons e es=>show((ZzB d e&&ZCx ds es)=true)↔_;rw[ZyN,ih d (Zyw ..) e (he e (Zyw ..)),ihl (λx hx=>ih x (Zyx _ hx)) es (λx hx=>he x (Zyx _ hx)),List.cons.injEq]
theorem ZuJ{m:Nat}{ds:List D}(h:nbD m (.list ds)=true):∀d∈ds,∃m,nbD m d=true:=by
 cases m with
 | zero=>cases h
 | succ m=>have h':ds.all (nbD m)=true:=h;exact λd hd=>⟨m,ZyD.mp h' d hd⟩
theorem Zub{m:Nat}{ds:List D}(h:nbD m (.tuple ds)=true):∀d∈ds,∃m,nbD m d=true:=by
 cases m with
 | zero=>cases h
 | succ m=>have h':ds.all (nbD m)=true:=h;exact λd hd=>⟨m,ZyD.mp h' d hd⟩
theorem ZeV{m:Nat}{b:Bool}(h:nbD m (.bool b)=true):False:=by cases m<;>cases h
theorem ZeS{m:Nat}{b:List (D × D)}(h:nbD m (.dict b)=true):False:=by cases m<;>cases h
theorem Zlt:∀(n:Nat) (d e:D),nbD n d=true->(∃m,nbD m e=true)->(ZzB d e=true↔d=e):=by
 intro n
 induction n with
 | zero =>
  intro d e hd ⟨m,he⟩;cases d<;>first | cases hd | skip
  all_goals cases e<;>first
   | exact(ZeV he).elim
   | exact(ZeS he).elim
   | exact⟨λ_=>rfl,λ_=>rfl⟩
   | exact⟨(λh=>by cases h),(λh=>by cases h)⟩
   | (rename_i a b; show((a==b)=true)↔_; simp)
 | succ n ih =>
  intro d e hd ⟨m,he⟩;cases d with
  | bool _=>exact(ZeV hd).elim
  | dict _=>exact(ZeS hd).elim
  | list ds =>
   cases e with
   | list es=>show(ZCx ds es=true)↔_;rw[Zk5 (λd h e he=>ih d e (ZyD.mp (show ds.all (nbD n)=true from hd) d h) he) es (ZuJ he)];simp
   | bool _=>exact(ZeV he).elim
   | dict _=>exact(ZeS he).elim
   | _=>exact⟨(λh=>by cases h),(λh=>by cases h)⟩
  | tuple ds =>
   cases e with
   | tuple es=>show(ZCx ds es=true)↔_;rw[Zk5 (λd h e he=>ih d e (ZyD.mp (show ds.all (nbD n)=true from hd) d h) he) es (Zub he)];simp
   | bool _=>exact(ZeV he).elim
   | dict _=>exact(ZeS he).elim
   | _=>exact⟨(λh=>by cases h),(λh=>by cases h)⟩
  | none=>cases e<;>first
   | exact(ZeV he).elim
   | exact(ZeS he).elim
   | exact⟨λ_=>rfl,λ_=>rfl⟩
   | exact⟨(λh=>by cases h),(λh=>by cases h)⟩
  | int i=>cases e<;>first
   | exact(ZeV he).elim
   | exact(ZeS he).elim
   | exact⟨(λh=>by cases h),(λh=>by cases h)⟩
   | (rename_i b; show((i==b)=true)↔_; simp)
  | str i=>cases e<;>first
   | exact(ZeV he).elim
   | exact(ZeS he).elim
   | exact⟨(λh=>by cases h),(λh=>by cases h)⟩
   | (rename_i b; show((i==b)=true)↔_; simp)
theorem Zvs{n m:Nat}{d e:D}(hd:nbD n d=true)(he:nbD m e=true)(hn:n<=60)(hm:m<=60)[Decidable (d=e)]:gEq d e=some (.bool (decide (d=e))):=by
 unfold gEq;rw[Zh1 hd hn,Zh1 he hm,if_pos (by rfl)];congr 2;have h:=Zlt n d e hd ⟨m,he⟩;cases q:ZzB d e with
 | true=>exact(decide_eq_true (h.mp q)).symm
 | false=>exact(decide_eq_false λz=>by rw[h.mpr z]at q; cases q).symm
theorem Zd1{n:Nat}{d:D}(hd:nbD n d=true)(hn:n<=60):gEq d d=some (.bool true):=by unfold gEq;rw[Zh1 hd hn,(Zlt n d d hd ⟨n,hd⟩).mpr rfl];rfl
theorem ZhG{n m:Nat}{d e:D}(hd:nbD n d=true)(he:nbD m e=true)(hn:n<=60)(hm:m<=60)(h:d≠e):gEq d e=some (.bool false):=by have:Decidable (d=e):=isFalse h;rw[Zvs hd he hn hm,decide_eq_false h]
theorem ZdG(n:Nat)(ns:List Int):nbD (n+1) (tupI ns)=true:=by show(ns.map dI).all (nbD n)=true;rw[ZyD];intro d hd;obtain⟨i,_,rfl⟩:=ZyC.mp hd;cases n<;>rfl
theorem Zh6(n:Nat)(ns:List Int):nbD (n+1) (.list (ns.map dI))=true:=ZdG n ns
theorem Zyk{n:Nat}{ds:List D}(h:∀d∈ds,nbD n d=true):nbD (n+1) (.tuple ds)=true:=ZyD.mpr h
theorem ZvJ{n:Nat}{ds:List D}(h:∀d∈ds,nbD n d=true):nbD (n+1) (.list ds)=true:=ZyD.mpr h
theorem Zgs(n:Nat)(i:Int):nbD n (.int i)=true:=by cases n<;>rfl
theorem Zvj(n:Nat):nbD n .none=true:=by cases n<;>rfl
end HG
namespace HG
open PySem HM
def lkV(n:Nat)(c:Int):List Int:=((ZyA n).filter λ(k:Nat)=>decide (0<ZZ (c+19*(k:Int)) 9857 4)).map λ(k:Nat)=>(k:Int)
theorem ZwH(n:Nat)(c:Int):Cr n (lkV n c):=Zh2 n _
theorem Zud{w:Wk}(hv:Wk.V w)(c:Int):ZcE [w.d,.int c]=some (tupI (lkV w.looks.length c)):=by
 have l2:=hv.l2;have hok:okR (w.looks.length:Int)=true:=ZcL (by omega);have hb:w.looks.length<1000000:=by omega
 have e2:atD [Zy6 w.many,.tuple (w.deeds.map ZN),.tuple (w.looks.map tupI),tupI w.beg,tupI w.goal] 2=some (.tuple (w.looks.map tupI)):=by simp
 unfold Wk.d;simp[ZcE,ZiF,hok,Z5,hb];rw[ZbP dN (λk:Nat=>decide (0<ZZ (c+19*(k:Int)) 9857 4)) dN]
 ·simp[lkV]
 ·intro k hk
  have m:=Zcr (c+19*(k:Int)) 9857 4 (by decide) (by decide);simp[m]
 ·intro k hk _
  simp
def ZlQ(w:Wk)(c:List Int)(d:Int):D:=if Z9 w c d then tupI (ZB w c d)else .none
theorem Zk6{w:Wk}(hv:Wk.V w){d:Int}(h0:0<=d)(h1:d<w.deeds.length)(e1:Option B):∀(c acc:List Int) (o:Option B),(∀s∈c,0<=s/\s<(w.many:Int))->acc.length+c.length*10<100000 ->
  (Z9 w c d=true->∃o',Z4 4 Za0 (c.map dI) [some (.pl w.d),e1,some (.pl (.int d)),some (.ol (acc.map dI)),o]=some (.nx [some (.pl w.d),e1,some (.pl (.int d)),some (.ol ((acc++Za5 w c d).map dI)),o'])) /\
  (Z9 w c d=false->Z4 4 Za0 (c.map dI) [some (.pl w.d),e1,some (.pl (.int d)),some (.ol (acc.map dI)),o]=some (.rt .none))
 | [],acc,o,_,_=>⟨λ_=>⟨o,by simp[Za5]; rfl⟩,λh=>by simp[Z9]at h⟩
 | s::c,acc,o,hs,hl=>by
  rw[ZyI]at hl;have hb:=hs s (Zyw ..);have hr:=(Zo4 hv h0 h1 hb.1 hb.2).len;have m2:=hv.m2;have hd:=Zlv h0 h1 (w:=w);have hrow:=ZoV hv h0 h1 hb.1 hb.2;have g1:atD [Zy6 w.many,.tuple (w.deeds.map ZN),.tuple (w.looks.map tupI),tupI w.beg,tupI w.goal] 1=some (.tuple (w.deeds.map ZN)):=by simp
  have ec:Z9 w (s::c) d=(decide (0<(ZbJ w d s).length)&&Z9 w c d):=rfl;have ef:Za5 w (s::c) d=ZbJ w d s++Za5 w c d:=rfl;cases hz:ZbJ w d s with
  | nil =>
   have e:Za0 [some (.pl w.d),e1,some (.pl (.int d)),some (.ol (acc.map dI)),some (.pl (dI s))]=some (.rt .none):=by rw[hz]at hrow;have e3:gEq (tupI []) (.tuple [])=some (.bool true):=Zd1 (ZdG 0 []) (by decide);unfold Wk.d;simp[Za0,hd,ZN,hrow,-gEq];rw[e3]
   have ec':Z9 w (s::c) d=false:=by rw[ec,hz]; rfl
   refine⟨λh=>(by rw[ec']at h; cases h),λ_=>?_⟩;rw[Zyz];show(match Za0 [some (.pl w.d),e1,some (.pl (.int d)),some (.ol (acc.map dI)),some (.pl (dI s))]with | some (.nx r')=>_ | some (.ct r')=>_ | some (.bk r')=>_ | some (.rt d)=>_ | none=>_)=_;rw[e]
  | cons x xs =>
   have hlen:acc.length+(ZbJ w d s).length<1000000:=by omega
   have e:Za0 [some (.pl w.d),e1,some (.pl (.int d)),some (.ol (acc.map dI)),some (.pl (dI s))]=some (.nx [some (.pl w.d),e1,some (.pl (.int d)),some (.ol ((acc++ZbJ w d s).map dI)),some (.pl (dI s))]):=by rw[hz]at hrow hlen;rw[ZyI]at hlen;have e3:gEq (tupI (x::xs)) (.tuple [])=some (.bool false):=ZhG (ZdG 0 (x::xs)) (ZdG 0 []) (by decide) (by decide) (by simp);unfold Wk.d;simp[Za0,hd,ZN,hrow,hz,-gEq];rw[e3];simp[hd,ZN,hrow,hlen]
   have ec':Z9 w (s::c) d=Z9 w c d:=by rw[ec,hz]; rfl
   obtain⟨i1,i2⟩:=Zk6 hv h0 h1 e1 c (acc++ZbJ w d s) (some (.pl (dI s))) (λx hx=>hs x (Zyx _ hx)) (by rw[ZyM]; omega);have e5:Z4 4 Za0 ((s::c).map dI) [some (.pl w.d),e1,some (.pl (.int d)),some (.ol (acc.map dI)),o]=Z4 4 Za0 (c.map dI) [some (.pl w.d),e1,some (.pl (.int d)),some (.ol ((acc++ZbJ w d s).map dI)),some (.pl (dI s))]:=by rw[Zyz];show(match Za0 [some (.pl w.d),e1,some (.pl (.int d)),some (.ol (acc.map dI)),some (.pl (dI s))]with | some (.nx r')=>_ | some (.ct r')=>_ | some (.bk r')=>_ | some (.rt d)=>_ | none=>_)=_;rw[e]
   rw[e5,ec',ef,<-ZzK];exact⟨i1,i2⟩
theorem ZfG{w:Wk}(hv:Wk.V w)(h7:w.many<=7){c:List Int}(hc:Cr w.many c){d:Int}(h0:0<=d)(h1:d<w.deeds.length):Zaq [w.d,tupI c,.int d]=some (ZlQ w c d):=by
 have m2:=hv.m2;have hlen:=hc.len;have hb:c.length<1000000:=by omega
 obtain⟨i1,i2⟩:=Zk6 hv h0 h1 (some (.pl (tupI c))) c [] none hc.2 (by simp; omega);unfold ZlQ;cases h:Z9 w c d with
 | false=>have e:=i2 h;rw[ZAs]at e;simp[Zaq,ZhK,hb,e]
 | true =>
  obtain⟨o',e⟩:=i1 h;rw[ZAs,ZAr]at e;have hf:Zru (Za5 w c d)=true:=ZyD.mpr λx hx=>by have:=ZrT hv hc h0 h1 x hx;rw[ZyN,decide_eq_true_eq,decide_eq_true_eq];omega
  simp[Zaq,ZhK,hb,e,ZbN,hf,ZB,ZfJ]
theorem Zi4{w:Wk}(hv:Wk.V w){ls:List Int}(hl:Cr w.looks.length ls)(e2:Option B):∀(c pre:List Int) (g:Gs) (o o':Option B),Grp (Zy w ls) pre g->(∀s∈c,0<=s/\s<(w.many:Int))->pre.length+c.length<1000 ->
  ∃p p',Z4 4 Zcb (c.map dI) [some (.pl w.d),some (.pl (tupI ls)),e2,some (.otl (ZaI g)),o,o']=some (.nx [some (.pl w.d),some (.pl (tupI ls)),e2,some (.otl (ZaI (c.foldl (λg s=>ZdK g (Zy w ls s) s) g))),p,p'])
 | [],pre,g,o,o',_,_,_=>⟨o,o',rfl⟩
 | s::c,pre,g,o,o',hg,hb,hn=>by
  rw[ZyI]at hn;have hs:=hb s (Zyw ..);have hlen:(ZaI g).length<1000000:=by have:=ZfE _ _ _ hg;unfold ZaI;rw[Zyt]; omega
  have l2:=hv.l2;have hll:=hl.len;have hlb:ls.length<1000000:=by omega
  have ec:ZaG Zaa (eIx (bOf (eIx (bOf (eIx (Zo 1) (eC (.int 2)))) (Zb 0))) (Zb 5)) [some (.pl w.d),some (.pl (tupI ls)),e2,some (.otl (ZaI g)),some (.pl (dI s)),o'] (ls.map dI)=some ((Zy w ls s).map dI):=by
   rw[Zby dI (λl=>dI (Zk7 w l s))]
   ·simp[Zy]
   ·intro l hl'
    have hb:=hl.2 l hl';unfold Wk.d;simp[Zp4 hb.1 hb.2,Zqf hv hb.1 hb.2 hs.1 hs.2]
  have e:Zcb [some (.pl w.d),some (.pl (tupI ls)),e2,some (.otl (ZaI g)),some (.pl (dI s)),o']=some (.nx [some (.pl w.d),some (.pl (tupI ls)),e2,some (.otl (ZaI (ZdK g (Zy w ls s) s))),some (.pl (dI s)),some (.pl (tupI (Zy w ls s)))]):=by
   have ek:=ZgE g (Zy w ls s);have et:=ZaD (Zy w ls s);cases h:Zh g (Zy w ls s)with
   | none =>
    rw[h]at ek;have ea:ZbI g (Zy w ls s)=g++[(Zy w ls s,[])]:=by unfold ZbI; rw[h]
    have eb:ZaI g++[(Zac (Zy w ls s),[])]=ZaI (ZbI g (Zy w ls s)):=by rw[ea]; simp[ZaI]
    have h1:Zh (ZaI (ZbI g (Zy w ls s))) (Zac (Zy w ls s))=some []:=by rw[ZgE,Zid,if_pos rfl,h]; rfl
    simp[Zcb,hlb,ec,et,ek,hlen];rw[eb,h1];simp[ZjE];rfl
   | some p =>
    rw[h]at ek;have ea:ZbI g (Zy w ls s)=g:=by unfold ZbI; rw[h]
    have hp:p.length<1000000:=by have:=Zp7 _ _ _ hg _ _ h; omega
    simp[Zcb,hlb,ec,et,ek,hlen,hp,ZjE];unfold ZdK;rw[ea]
  obtain⟨p,p',ih⟩:=Zi4 hv hl e2 c (pre++[s]) (ZdK g (Zy w ls s) s) (some (.pl (dI s))) (some (.pl (tupI (Zy w ls s)))) (hg.step s) (λx hx=>hb x (Zyx _ hx)) (by simp; omega);refine⟨p,p',?_⟩;rw[Zyz,Zzr,<-ih];show(match Zcb [some (.pl w.d),some (.pl (tupI ls)),e2,some (.otl (ZaI g)),some (.pl (dI s)),o']with | some (.nx r')=>_ | some (.ct r')=>_ | some (.bk r')=>_ | some (.rt d)=>_ | none=>_)=_;rw[e]
theorem Zds{w:Wk}(hv:Wk.V w){ls:List Int}(hl:Cr w.looks.length ls){c:List Int}(hc:Cr w.many c):Zae [w.d,tupI ls,tupI c]=some (.list ((ZH w ls c).map Z3)):=by
 have m2:=hv.m2;have hlen:=hc.len;have hb:c.length<1000000:=by omega
 obtain⟨p,p',e⟩:=Zi4 hv hl (some (.pl (tupI c))) c [] [] none none ⟨ZAb,λk=>by simp[ZeW]⟩ hc.2 (by simp; omega);have hk:=Zqm w ls c (by omega);have hg:c.foldl (λg s=>ZdK g (Zy w ls s) s) []=Zda (Zy w ls) c:=rfl;rw[hg]at e;have hn:(ZdW ((Zda (Zy w ls) c).map (·.1))).length<1000000:=by rw[(Za3 _).length_eq,Zyt];have:=ZfE _ _ _ (ZcM (Zy w ls) c);omega
 simp[Zae,ZiG,hb];rw[show some (B.otl [])=some (B.otl (ZaI [])) from rfl,e];simp[hk,hn];rw[Zld]
 ·simp
 ·intro k hk'
  simp[ZaD,ZoT w ls c k hk']
theorem Zd2{w:Wk}{c:List Int}{d:Int}(h:d∈doV w c):0<=d/\d<w.deeds.length/\Z9 w c d=true:=by unfold doV at h;obtain⟨k,hk,rfl⟩:=ZyC.mp h;obtain⟨h1,h2⟩:=Zy2.mp hk;have:=ZyS.mp h1;exact⟨by omega,by omega,h2⟩
end HG
namespace HG4
open PySem HM HG
end HG4
namespace HM
open PySem
theorem Zeb{α:Type}{c:TF}{e:EF}{r:Env}(a b:α->D)(p:α->Bool)(f:α->D):∀(xs:List α),(∀x∈xs,c (some (.pl (a x))::some (.pl (b x))::r)=some (p x))->(∀x∈xs,p x=true->e (some (.pl (a x))::some (.pl (b x))::r)=some (f x)) ->
  Zch c e r (xs.map λx=>.tuple [a x,b x])=some ((xs.filter p).map f)
 | [],_,_=>rfl
 | x::xs,h1,h2=>by
  have ih:=Zeb a b p f xs (λy hy=>h1 y (Zyx _ hy)) (λy hy=>h2 y (Zyx _ hy));have hc:=h1 x (Zyw ..);rw[Zyz];unfold Zch;rw[hc];cases hp:p x with
  | true=>have he:=h2 x (Zyw ..) hp;dsimp only;rw[he];dsimp only;rw[ih,ZA6 hp];rfl
  | false=>dsimp only;rw[ih,ZCY (by simp[hp])]
theorem ZS{P:Option Out->Prop}{a b:SF}{r r':Env}(h:a r=some (.nx r'))(k:P (b r')):P (Zs a b r):=by show P (match a r with | some (.nx r')=>b r' | some (.rt d)=>some (.rt d) | some (.bk r')=>some (.bk r') | some (.ct r')=>some (.ct r') | none=>none);rw[h];exact k
theorem Zv0{xs:List Int}(h:xs≠[])(i:Int):∃x∈xs,atD (xs.map dI) (i % (xs.length:Int))=some (dI x):=by
 have hp:0<xs.length:=ZA0.mpr h;have h0:0<=i % (xs.length:Int):=Int.emod_nonneg _ (by omega);have h1:i % (xs.length:Int)<(xs.length:Int):=Int.emod_lt_of_pos _ (by omega);have h2:(i % (xs.length:Int)).toNat<xs.length:=by omega
 exact⟨xs[(i % (xs.length:Int)).toNat],Zz5 h2,Zhy h0 (by simp[h2])⟩
end HM
namespace HG4
open PySem HM HG
def ZgQ(w:Wk)(ls c:List Int)(s:Int):List Int:=c.filter λx=>Zy w ls x==Zy w ls s
theorem Zwt{n:Nat}{c:List Int}(p:Int->Bool)(h:Cr n c):Cr n (c.filter p):=⟨h.1.filter p,λx hx=>h.2 x (Zy2.mp hx).1⟩
def alV(w:Wk):List Int:=(ZyA w.looks.length).map λ(k:Nat)=>(k:Int)
theorem Zyj(w:Wk):Cr w.looks.length (alV w):=by
 have:=Zh2 w.looks.length λ_=>true
 rwa [ZAf.mpr λ_ _=>rfl]at this
theorem Zgx{w:Wk}{ls c:List Int}{s x:Int}:x∈ZgQ w ls c s↔x∈c/\Zy w ls x=Zy w ls s:=by unfold ZgQ;rw[Zy2,beq_iff_eq]
theorem Zu5{w:Wk}{c:List Int}{d x:Int}:x∈ZB w c d↔∃s∈c,x∈ZbJ w d s:=by
 unfold ZB;rw[(sortI_perm _).mem_iff,Zfh];unfold Za5;rw[ZAW]
 constructor
 ·rintro (h | h)
  ·cases h
  ·exact h
 ·exact .inr
end HG4
namespace HM
open PySem
def Zar:Option Out->Option D
 | some (.nx _)=>some .none
 | some (.rt d)=>some d
 | _=>none
end HM
namespace HG4
open PySem HM HG
end HG4
namespace HG5
open PySem HM HG HG4
def Zp(w:Wk)(ls c:List Int):List (List Int):=(ZH w ls c).map (·.2)
theorem Zfe{w:Wk}{ls c p:List Int}:p∈Zp w ls c↔∃s∈c,p=ZgQ w ls c s:=by
 unfold Zp ZH;rw[ZyP,ZyC];have hg:=ZcM (Zy w ls) c
 constructor
 ·rintro ⟨k,hk,rfl⟩
  obtain⟨s,hs,e⟩:=ZyC.mp ((hg.mem k).mp ((Za3 _).mem_iff.mp hk));refine⟨s,hs,?_⟩;subst e;rfl
 ·rintro ⟨s,hs,rfl⟩
  exact⟨Zy w ls s,(Za3 _).mem_iff.mpr ((hg.mem _).mpr (ZyC.mpr ⟨s,hs,rfl⟩)),rfl⟩
theorem ZeM{w:Wk}{ls c p:List Int}(hc:Cr w.many c)(h:p∈Zp w ls c):Cr w.many p/\p≠[]/\∀x∈p,x∈c:=by obtain⟨s,hs,rfl⟩:=Zfe.mp h;exact⟨Zwt _ hc,ZCr (Zgx.mpr ⟨hs,rfl⟩),λx hx=>(Zgx.mp hx).1⟩
theorem Zj8(w:Wk)(ls c:List Int):(Zp w ls c).Nodup:=by unfold Zp ZH;rw[ZyP];have hg:=ZcM (Zy w ls) c;have hn:(ZdW ((Zda (Zy w ls) c).map (·.1))).Nodup:=(Za3 _).nodup_iff.mpr hg.nd;rw[ZCy,ZCG];refine List.Pairwise.imp_of_mem (λ{a b} ha hb hne e=>?_) (ZCy.mp hn);obtain⟨s,hs,es⟩:=ZyC.mp ((hg.mem a).mp ((Za3 _).mem_iff.mp ha));have h1:s∈c.filter λs=>Zy w ls s==a:=Zy2.mpr ⟨hs,beq_iff_eq.mpr es⟩;have e':(c.filter λs=>Zy w ls s==a)=c.filter λs=>Zy w ls s==b:=e;rw[e']at h1;have:=beq_iff_eq.mp (Zy2.mp h1).2;exact hne (es.symm.trans this)
theorem Zgt{w:Wk}{ls c:List Int}(h:c≠[]):Zp w ls c≠[]:=by
 cases c with
 | nil=>exact absurd rfl h
 | cons s c=>exact ZCr (Zfe.mpr ⟨s,Zyw ..,rfl⟩)
def Zja:Nat->List (List Int)
 | 0=>[[]]
 | n+1=>Zja n++(Zja n).map (·++[(n:Int)])
theorem ZnR:∀n,(Zja n).length=2 ^ n
 | 0=>rfl
 | n+1=>by show(Zja n++(Zja n).map (·++[(n:Int)])).length=_;rw[ZyM,Zyt,ZnR n,Nat.pow_succ];omega
theorem Zkt:∀(n:Nat) (c:List Int),Cr n c->c∈Zja n
 | 0,c,h=>by
  cases c with
  | nil=>exact ZyL.mpr rfl
  | cons x c=>have:=h.2 x (Zyw ..); omega
 | n+1,c,h=>by
  show c∈Zja n++(Zja n).map (·++[(n:Int)])
  by_cases hm:(n:Int)∈c
  ·-- the last is n
   have key:∀(c:List Int),c.Pairwise (· < ·)->(∀x∈c,0<=x/\x<((n+1:Nat):Int))->(n:Int)∈c->∃c',c=c'++[(n:Int)]/\c'.Pairwise (· < ·)/\∀x∈c',0<=x/\x<(n:Int):=by
    intro c
    induction c with
    | nil=>intro _ _ h; simp at h
    | cons x c ih =>
     intro hp hb hm;obtain⟨p1,p2⟩:=Zzi.mp hp
     by_cases hx:x=(n:Int)
     ·cases c with
      | nil=>exact⟨[],by rw[hx]; rfl,.nil,λy hy=>by simp at hy⟩
      | cons y c=>have h1:=p1 y (Zyw ..);have h2:=hb y (Zyx _ (Zyw ..));omega
     ·have hm':(n:Int)∈c:=by
       rcases ZyR.mp hm with e | e
       ·exact absurd e.symm hx
       ·exact e
      obtain⟨c',e,q1,q2⟩:=ih p2 (λy hy=>hb y (Zyx _ hy)) hm';refine⟨x::c',by rw[e]; rfl,Zzi.mpr ⟨λy hy=>p1 y (by rw[e]; exact Zy9 _ hy),q1⟩,λy hy=>?_⟩;rcases ZyR.mp hy with e' | hy
      ·have h1:=p1 (n:Int) hm'
       have h2:=hb x (Zyw ..);rw[e'];omega
      ·exact q2 y hy
   obtain⟨c',e,q1,q2⟩:=key c h.1 h.2 hm;exact ZyY _ (ZyC.mpr ⟨c',Zkt n c' ⟨q1,q2⟩,e.symm⟩)
  ·refine Zy9 _ (Zkt n c ⟨h.1,λx hx=>?_⟩)
   have h1:=h.2 x hx;have:x≠(n:Int):=λe=>hm (e▸hx);omega
theorem Zk2{n:Nat}{L:List (List Int)}(hn:L.Nodup)(h:∀c∈L,Cr n c):L.length<=2 ^ n:=by rw[<-ZnR n];exact Zz1 hn λc hc=>Zkt n c (h c hc)
def Z0(w:Wk)(c:List Int):Bool:=c.all λs=>w.goal.contains s
def Win(w:Wk)(ls:List Int):Nat->List Int->Bool
 | 0,c=>Z0 w c
 | n+1,c=>Z0 w c||(ZyA w.deeds.length).any λd=>Z9 w c d&&(Zp w ls (ZB w c d)).all λp=>Win w ls n p
theorem ZhX{w:Wk}{ls:List Int}:∀(n:Nat) (c:List Int),Win w ls n c=true->Win w ls (n+1) c=true
 | 0,c,h=>by show(Z0 w c||_)=true;rw[show Z0 w c=true from h];rfl
 | n+1,c,h=>by
  have h':(Z0 w c||(ZyA w.deeds.length).any λd=>Z9 w c d&&(Zp w ls (ZB w c d)).all λp=>Win w ls n p)=true:=h;show(Z0 w c||(ZyA w.deeds.length).any λd=>Z9 w c d&&(Zp w ls (ZB w c d)).all λp=>Win w ls (n+1) p)=true;rw[ZAd]at h' ⊢;rcases h' with h' | h'
  ·exact .inl h'
  ·right
   obtain⟨d,hd,hq⟩:=ZzA.mp h';rw[ZyN]at hq;refine ZzA.mpr ⟨d,hd,?_⟩;rw[ZyN];exact⟨hq.1,ZyD.mpr λp hp=>ZhX n p (ZyD.mp hq.2 p hp)⟩
theorem Zgp{w:Wk}{ls:List Int}{n m:Nat}(h:n<=m){c:List Int}(q:Win w ls n c=true):Win w ls m c=true:=by
 induction h with
 | refl=>exact q
 | step _ ih=>exact ZhX _ _ ih
def Zcq(w:Wk)(ls:List Int)(L:List (List Int)):Prop:=∀c∈L,∀d:Nat,d<w.deeds.length->Z9 w c d=true->∀p∈Zp w ls (ZB w c d),p∈L
theorem Zin{w:Wk}{ls:List Int}{L:List (List Int)}(hL:Zcq w ls L){n:Nat}(h:∀c∈L,Win w ls (n+1) c=true->Win w ls n c=true):∀(m:Nat),∀c∈L,Win w ls m c=true->Win w ls n c=true
 | 0,c,_,q=>Zgp (ZzS n) q
 | m+1,c,hc,q=>by
  refine h c hc ?_;have q':(Z0 w c||(ZyA w.deeds.length).any λd=>Z9 w c d&&(Zp w ls (ZB w c d)).all λp=>Win w ls m p)=true:=q;show(Z0 w c||(ZyA w.deeds.length).any λd=>Z9 w c d&&(Zp w ls (ZB w c d)).all λp=>Win w ls n p)=true;rw[ZAd]at q' ⊢;rcases q' with q' | q'
  ·exact .inl q'
  ·right
   obtain⟨d,hd,hq⟩:=ZzA.mp q';rw[ZyN]at hq;refine ZzA.mpr ⟨d,hd,?_⟩;rw[ZyN];exact⟨hq.1,ZyD.mpr λp hp=>Zin hL h m p (hL c hc d (ZyS.mp hd) hq.1 p hp) (ZyD.mp hq.2 p hp)⟩
theorem ZdV{α:Type}{p q:α->Bool}:∀{L:List α},(∀x∈L,p x=true->q x=true)->(∃x∈L,q x=true/\p x=false)->(L.filter p).length<(L.filter q).length
 | [],_,⟨x,hx,_⟩=>by simp at hx
 | y::L,h,⟨x,hx,h1,h2⟩=>by
  have le:∀{L:List α},(∀x∈L,p x=true->q x=true)->(L.filter p).length<=(L.filter q).length:=by
   intro L
   induction L with
   | nil=>intro _; exact ZyB _
   | cons z L ih =>
    intro h;have:=ih λx hx=>h x (Zyx _ hx);have hz:=h z (Zyw ..);rw[Zz9,Zz9];cases hp:p z with
    | true=>rw[hz hp]; simpa using this
    | false =>
     cases q z
     ·simpa using this
     ·simp; omega
  have hL:=λx hx=>h x (Zyx y hx);have hy:=h y (Zyw ..);rw[Zz9,Zz9];rcases ZyR.mp hx with e | hx
  ·subst e
   rw[h2,h1];have:=le hL;simp; omega
  ·have:=ZdV hL ⟨x,hx,h1,h2⟩
   cases hp:p y with
   | true=>rw[hy hp]; simpa using this
   | false =>
    cases q y
    ·simpa using this
    ·simp; omega
theorem Zp3{w:Wk}{ls:List Int}{L:List (List Int)}(hL:Zcq w ls L){m:Nat}{c:List Int}(hc:c∈L)(q:Win w ls m c=true):Win w ls L.length c=true:=by
 have key:∀t:Nat,(∃n,n<=t/\∀c∈L,Win w ls (n+1) c=true->Win w ls n c=true)\/t+1<=(L.filter λc=>Win w ls (t+1) c).length:=by
  intro t
  induction t with
  | zero =>
   by_cases h:∀c∈L,Win w ls 1 c=true->Win w ls 0 c=true
   ·exact .inl ⟨0,ZyB 0,h⟩
   ·right
    have h':∃c∈L,Win w ls 1 c=true/\Win w ls 0 c=false:=by
     apply ZBt;intro z;apply h;intro c hc h1;cases h0:Win w ls 0 c with
     | true=>rfl
     | false=>exact absurd ⟨c,hc,h1,h0⟩ z
    have:=ZdV (p:=λc=>Win w ls 0 c) (q:=λc=>Win w ls 1 c) (L:=L) (λx _ hx=>ZhX 0 x hx) h';show 1<=(L.filter λc=>Win w ls 1 c).length;omega
  | succ t ih =>
   rcases ih with⟨n,hn,hs⟩ | ih
   ·exact .inl ⟨n,by omega,hs⟩
   ·by_cases h:∀c∈L,Win w ls (t+1+1) c=true->Win w ls (t+1) c=true
    ·exact .inl ⟨t+1,ZyB _,h⟩
    ·right
     have h':∃c∈L,Win w ls (t+1+1) c=true/\Win w ls (t+1) c=false:=by
      apply ZBt;intro z;apply h;intro c hc h1;cases h0:Win w ls (t+1) c with
      | true=>rfl
      | false=>exact absurd ⟨c,hc,h1,h0⟩ z
     have:=ZdV (p:=λc=>Win w ls (t+1) c) (q:=λc=>Win w ls (t+1+1) c) (L:=L) (λx _ hx=>ZhX (t+1) x hx) h';omega
 rcases key L.length with⟨n,hn,hs⟩ | h
 ·exact Zgp hn (Zin hL hs m c hc q)
 ·have:=Zzm (λc=>Win w ls (L.length+1) c) L
  omega
end HG5
namespace HG5
open PySem HM HG
def Zc1:SF :=
 (Zs (Z2 5 (Zn Zaq (Zd (Zb 0) (Zd (eIx (Zo 2) (Zb 3)) (Zd (Zb 4) Zm)))))
  (sIf (tV (op2 ZeD (Zb 5) (eC .none))) (Zs (ZT 6 (ZdO (Zaf (bOf (Zn Zae (Zd (Zb 0) (Zd (Zb 1) (Zd (Zb 5) Zm)))))) Zaa (Zb 1)))
  (ZeG 6 (ZT 2 (Zls (Zo 2) (ZQ (Zaf (bOf (Zb 6))) (tV (ZhA (Zb 0) (Zo 3))) (Zb 0)))))) Zal))
def ZdN:SF :=
 (Zs (Zbd 4 (ZbU (Zaz (bOf (eIx (Zo 0) (eC (.int 1)))))) Zc1)
  (Z2 3 (op2 Zbi (Zb 3) (eC (.int 1)))))
def Zfz:SF :=
 (Zs (ZT 2 (ZdO (Zaf (bOf (Zn Zae (Zd (Zb 0) (Zd (Zb 1) (Zd (eIx (Zo 0) (eC (.int 3))) Zm)))))) Zaa (Zb 1)))
  (Zs (Z2 3 (eC (.int 0)))
  (Zs (Zlg 100000 (tV (op2 gLt (Zb 3) (Zaz (Zo 2)))) ZdN)
  (ZeG 2 (ZG (Zb 2))))))
def Zel:List D->Option D:=fnOf 2 7 Zfz
def ZiH:SF :=
 (ZG (op2 gEq (eOf (ZQ (Zaf (bOf (Zb 1))) (tV (Zhz (Zb 0) (bOf (eIx (Zo 1) (eC (.int 4)))))) (Zb 0))) (eOf (Zdu Zm))))
def ZcF:List D->Option D:=fnOf 2 2 ZiH
def ZR:SF :=
 (Zs (Z2 5 (Zn Zaq (Zd (Zb 0) (Zd (Zb 2) (Zd (Zb 4) Zm)))))
  (sIf (tV (op2 ZeD (Zb 5) (eC .none))) (sIf (tV (op2 gEq (eOf (ZdO (Zaf (bOf (Zn Zae (Zd (Zb 0) (Zd (Zb 1) (Zd (Zb 5) Zm)))))) (tV (Zcg (Zb 1) (Zo 5))) (Zb 1))) (eOf (Zdu Zm)))) (ZG (eC (.bool true))) Zal) Zal))
def Zbl:SF :=
 (Zs (Zbd 4 (ZbU (Zaz (bOf (eIx (Zo 0) (eC (.int 1)))))) ZR)
  (ZG (eC (.bool false))))
def ZbR:List D->Option D:=fnOf 4 6 Zbl
def ZcX:SF :=
 (Zhl 3 (Zb 4) (Zb 5))
def Za2:SF :=
 (sIf (ZoS (tV (Zcg (Zb 4) (Zo 3))) (tV (Zoj ZbR (Zd (Zb 0) (Zd (Zb 1) (Zd (Zb 4) (Zd (Znc (Zo 3)) Zm))))))) (Zec 6 (Zb 4)) Zal)
def Zcc:SF :=
 (Zs (ZT 6 (Zdu Zm))
  (Zs (Zbd 4 (Zaf (bOf (Zb 2))) Za2)
  (ZeG 6 (Zbd 4 (Zaf (bOf (Zb 6))) ZcX))))
def Zbn:SF :=
 (sIf (tV (Zn ZcF (Zd (Zb 0) (Zd (Zb 4) Zm)))) (Zhl 3 (Zb 4) (eC (.int 0))) Zal)
def Zem:SF :=
 (Zs (Z2 2 (Zn Zel (Zd (Zb 0) (Zd (Zb 1) Zm))))
  (Zs (ZT 3 fDt)
  (Zs (Zbd 4 (Zaf (bOf (Zb 2))) Zbn)
  (Zs (Zbd 5 (Zjy (eC (.int 1)) (op2 Zbi (Zaz (Zo 2)) (eC (.int 1)))) Zcc)
  (ZeG 3 (ZG (Zb 3)))))))
def Zdi:List D->Option D:=fnOf 2 7 Zem
def Zfi:SF :=
 (Zs (Z2 2 (Zn Zdi (Zd (Zb 0) (Zd (Zb 1) Zm))))
  (Zs (ZT 3 (ZdO (Zaf (bOf (Zn Zae (Zd (Zb 0) (Zd (Zb 1) (Zd (eIx (Zo 0) (eC (.int 3))) Zm)))))) Zaa (Zjj (Zo 4) (Zb 1) (eC (.int 999)))))
  (Zs (sIf (tV (op2 gEq (Zij (Zo 3)) (eC (.int 999)))) (ZG (eC .none)) Zal)
  (ZG (Zij (Zo 3))))))
def Zbo:List D->Option D:=fnOf 2 4 Zfi
end HG5
namespace HG5
open PySem HM HG HG4
theorem Zt3{a b:List Int}(h:tupI a=tupI b):a=b:=by
 injection h with h
 have:=congrArg ZaK h;rw[ZbN,ZbN]at this;exact Zzp this
theorem Zmk(p:List Int):ZaA (tupI p)=true:=Zh1 (ZdG 0 p) (by decide)
theorem Zvm(a b:List Int):ZzB (tupI a) (tupI b)=(a==b):=by have h:=Zlt 1 (tupI a) (tupI b) (ZdG 0 a) ⟨1,ZdG 0 b⟩;apply ZCa.mpr;rw[h,beq_iff_eq];exact⟨Zt3,λe=>by rw[e]⟩
theorem Zuk(L:List (List Int))(p:List Int):Zpa (L.map tupI) (tupI p)=some (L.contains p):=by
 unfold Zpa;have h1:(L.map tupI).all ZaA=true:=ZyD.mpr λd hd=>by obtain⟨c,_,rfl⟩:=ZyC.mp hd;exact Zmk c
 rw[Zmk,h1,if_pos (by rfl)];congr 1
 induction L with
 | nil=>rfl
 | cons c L ih=>rw[Zyz,ZAa,Zvm,List.contains_cons,ih (by rw[Zyz,ZzL,ZyN]at h1;exact h1.2)];rw[show(c==p)=(p==c) from ZCa.mpr ⟨λh=>beq_iff_eq.mpr (beq_iff_eq.mp h).symm,λh=>beq_iff_eq.mpr (beq_iff_eq.mp h).symm⟩]
inductive Rch(w:Wk)(ls:List Int):List Int->Prop where
 | beg {p:List Int} (h:p∈Zp w ls w.beg):Rch w ls p
 | step {c p:List Int} {d:Nat} (r:Rch w ls c) (hd:d<w.deeds.length) (hc:Z9 w c d=true) (h:p∈Zp w ls (ZB w c d)):Rch w ls p
structure ZeB(w:Wk)(ls:List Int)(L:List (List Int)):Prop where
 nd:L.Nodup
 cr:∀c∈L,Cr w.many c/\c≠[]
 rch:∀c∈L,Rch w ls c
theorem ZeB.len{w:Wk}{ls:List Int}{L:List (List Int)}(I:ZeB w ls L)(h7:w.many<=7):L.length<=128:=by have h1:=Zk2 I.nd λc hc=>(I.cr c hc).1;have h2:2 ^ w.many<=2 ^ 7:=Nat.pow_le_pow_right (by decide) h7;have h3:2 ^ 7=128:=rfl;omega
theorem ZkY{w:Wk}{c:List Int}{d:Int}(h0:c≠[])(hc:Z9 w c d=true):ZB w c d≠[]:=by
 cases c with
 | nil=>exact absurd rfl h0
 | cons s c =>
  unfold Z9 at hc;have h1:=ZyD.mp hc s (Zyw ..);have h2:0<(ZbJ w d s).length:=by simpa using h1
  cases hr:ZbJ w d s with
  | nil=>rw[hr]at h2; simp at h2
  | cons x xs=>exact ZCr (Zu5.mpr ⟨s,Zyw ..,by rw[hr]; exact Zyw ..⟩)
def Zcx(w:Wk)(ls c:List Int)(L:List (List Int))(d:Nat):List (List Int):=if Z9 w c d then L++(Zp w ls (ZB w c d)).filter (λp=>!L.contains p)else L
theorem Zr3{w:Wk}{ls c:List Int}{L:List (List Int)}{d:Nat}:∃M,Zcx w ls c L d=L++M:=by
 unfold Zcx;split
 ·exact⟨_,rfl⟩
 ·exact⟨[],by simp⟩
theorem Zsg{w:Wk}{ls c:List Int}{L:List (List Int)}{d:Nat}(h:Z9 w c d=true){p:List Int}(hp:p∈Zp w ls (ZB w c d)):p∈Zcx w ls c L d:=by
 unfold Zcx;rw[if_pos h]
 by_cases q:p∈L
 ·exact Zy9 _ q
 ·refine ZyY _ (Zy2.mpr ⟨hp,?_⟩)
  simp[q]
theorem ZrV{w:Wk}(hv:Wk.V w){ls c:List Int}{L:List (List Int)}{d:Nat}(I:ZeB w ls L)(hc:c∈L)(hd:d<w.deeds.length):ZeB w ls (Zcx w ls c L d):=by
 unfold Zcx;split
 ·rename_i can
  have hl:=Zc8 hv (I.cr c hc).1 (show(0:Int)<=(d:Int) by omega) (by omega);refine⟨?_,λp hp=>?_,λp hp=>?_⟩
  ·rw[ZAP]
   refine⟨I.nd,(Zj8 w ls _).filter _,λa ha b hb e=>?_⟩;subst e;have:=(Zy2.mp hb).2;simp[ha]at this
  ·rcases ZyZ.mp hp with hp | hp
   ·exact I.cr p hp
   ·have:=ZeM hl (Zy2.mp hp).1
    exact⟨this.1,this.2.1⟩
  ·rcases ZyZ.mp hp with hp | hp
   ·exact I.rch p hp
   ·exact .step (I.rch c hc) hd can (Zy2.mp hp).1
 ·exact I
section
variable{w:Wk}(hv:Wk.V w)(h7:w.many<=7){ls:List Int}(hl:Cr w.looks.length ls)
include hv h7 hl
theorem Zt2{L:List (List Int)}(I:ZeB w ls L){at_:Nat}{c:List Int}(hc:L[at_]?=some c){d:Nat}(hd:d<w.deeds.length)(o5 o6:Option B) :
  ∃p5 p6,Zc1 [some (.pl w.d),some (.pl (tupI ls)),some (.ol (L.map tupI)),some (.pl (dN at_)),some (.pl (dN d)),o5,o6]=some (.nx [some (.pl w.d),some (.pl (tupI ls)),some (.ol ((Zcx w ls c L d).map tupI)),some (.pl (dN at_)),some (.pl (dN d)),p5,p6]):=by
 have hm:c∈L:=ZyW hc;obtain⟨cr,ne⟩:=I.cr c hm;have hat:atD (L.map tupI) (at_:Int)=some (tupI c):=ZdF (by rw[ZyU,hc]; rfl);have hled:=ZfG hv h7 cr (show(0:Int)<=(d:Int) by omega) (by omega);have hlen:=I.len h7;unfold ZlQ at hled;cases can:Z9 w c d with
 | false=>rw[can]at hled;refine⟨some (.pl .none),o6,?_⟩;unfold Zcx;rw[can];simp[Zc1,hat,hled]
 | true =>
  rw[can]at hled;have lc:=Zc8 hv cr (show(0:Int)<=(d:Int) by omega) (by omega);have hs:=Zds hv hl lc;have hsn:(ZH w ls (ZB w c d)).length<=8:=by unfold ZH;rw[Zyt,(Za3 _).length_eq,Zyt];have:=ZfE _ _ _ (ZcM (Zy w ls) (ZB w c d));have:=lc.len;omega
  have hsb:(ZH w ls (ZB w c d)).length<1000000:=by omega
  have hpn:(Zp w ls (ZB w c d)).length<=8:=by unfold Zp; rw[Zyt]; exact hsn
  have e1:∀r:HM.Env,Zch Zaa (Zb 1) r ((ZH w ls (ZB w c d)).map Z3)=some ((Zp w ls (ZB w c d)).map tupI):=λr=>by have e:=Zeb (c:=Zaa) (e:=Zb 1) (r:=r) (λp:List Int × List Int=>tupI p.1) (λp=>tupI p.2) (λ_=>true) (λp=>tupI p.2) (ZH w ls (ZB w c d)) (λp _=>rfl) (λp _ _=>by simp);rw[ZAf.mpr λ_ _=>rfl]at e;unfold Zp;rw[ZyP];exact e
  have e2:∀r:HM.Env,r[2]?=some (some (.ol (L.map tupI)))->ZaG (tV (ZhA (Zb 0) (Zo 3))) (Zb 0) r ((Zp w ls (ZB w c d)).map tupI)=some (((Zp w ls (ZB w c d)).filter λp=>!L.contains p).map tupI):=λr r2=>by
   rw[ZbP tupI (λp=>!L.contains p) tupI]
   ·intro p _
    simp[r2,Zuk,-ZAc]
   ·intro p _ _
    simp
  have hfl:=Zzm (λp=>!L.contains p) (Zp w ls (ZB w c d));have hbig:L.length+((Zp w ls (ZB w c d)).filter λp=>!L.contains p).length<1000000:=by omega
  have hpb:(Zp w ls (ZB w c d)).length<1000000:=by omega
  refine⟨some (.pl (tupI (ZB w c d))),some (.pl (.list ((Zp w ls (ZB w c d)).map tupI))),?_⟩;unfold Zcx;rw[can];simp[Zc1,hat,hled,hs,hsb,e1,hpb,e2,hbig,-ZAc]
theorem Zl9{at_:Nat}{c:List Int}:∀(ds:List Nat) (M:List (List Int)) (o4 o5 o6:Option B),ZeB w ls M->M[at_]?=some c->(∀d∈ds,d<w.deeds.length) ->
  ∃p4 p5 p6,Z4 4 Zc1 (ds.map dN) [some (.pl w.d),some (.pl (tupI ls)),some (.ol (M.map tupI)),some (.pl (dN at_)),o4,o5,o6]=some (.nx [some (.pl w.d),some (.pl (tupI ls)),some (.ol ((ds.foldl (Zcx w ls c) M).map tupI)),some (.pl (dN at_)),p4,p5,p6]) /\
   ZeB w ls (ds.foldl (Zcx w ls c) M)/\(∃N,ds.foldl (Zcx w ls c) M=M++N)/\∀d∈ds,Z9 w c d=true->∀p∈Zp w ls (ZB w c d),p∈ds.foldl (Zcx w ls c) M
 | [],M,o4,o5,o6,I,hc,_=>⟨o4,o5,o6,rfl,I,⟨[],by simp⟩,λd hd=>by simp at hd⟩
 | d::ds,M,o4,o5,o6,I,hc,hds=>by
  have hm:c∈M:=ZyW hc;have hd:=hds d (Zyw ..);obtain⟨p5,p6,e⟩:=Zt2 hv h7 hl I hc hd o5 o6;obtain⟨N1,eN1⟩:=Zr3 (w:=w) (ls:=ls) (c:=c) (L:=M) (d:=d);have hc':(Zcx w ls c M d)[at_]?=some c:=by rw[eN1,Zy3 (ZyG.mp hc).1];exact hc
  obtain⟨q4,q5,q6,f,I',⟨N2,eN2⟩,hall⟩:=Zl9 ds (Zcx w ls c M d) (some (.pl (dN d))) p5 p6 (ZrV hv I hm hd) hc' λx hx=>hds x (Zyx _ hx);refine⟨q4,q5,q6,?_,I',⟨N1++N2,?_⟩,λx hx can p hp=>?_⟩
  ·rw[Zyz,Zzr,<-f]
   show(match Zc1 [some (.pl w.d),some (.pl (tupI ls)),some (.ol (M.map tupI)),some (.pl (dN at_)),some (.pl (dN d)),o5,o6]with | some (.nx r')=>_ | some (.ct r')=>_ | some (.bk r')=>_ | some (.rt d)=>_ | none=>_)=_;rw[e]
  ·rw[Zzr,eN2,eN1,ZzK]
  ·rw[Zzr]
   rcases ZyR.mp hx with e' | hx
   ·subst e'
    rw[eN2];exact Zy9 _ (Zsg can hp)
   ·exact hall x hx can p hp
theorem ZkU:∀(fuel at_:Nat) (L:List (List Int)) (o4 o5 o6:Option B),ZeB w ls L->at_<=L.length->129<=at_+fuel->(∀i c,i<at_->L[i]?=some c->∀d:Nat,d<w.deeds.length->Z9 w c d=true->∀p∈Zp w ls (ZB w c d),p∈L) ->
  ∃L' p3 p4 p5 p6,ZaY (tV (op2 gLt (Zb 3) (Zaz (Zo 2)))) ZdN fuel [some (.pl w.d),some (.pl (tupI ls)),some (.ol (L.map tupI)),some (.pl (dN at_)),o4,o5,o6]=some (.nx [some (.pl w.d),some (.pl (tupI ls)),some (.ol (L'.map tupI)),p3,p4,p5,p6]) /\
   ZeB w ls L'/\(∃N,L'=L++N)/\Zcq w ls L'
 | 0,at_,L,o4,o5,o6,I,h1,h2,_=>by have:=I.len h7;omega
 | fuel+1,at_,L,o4,o5,o6,I,h1,h2,hdone=>by
  by_cases hlt:at_<L.length
  ·have hok:okR (w.deeds.length:Int)=true:=ZcL (by have:=hv.d2; omega)
   have hdb:w.deeds.length<1000000:=by have:=hv.d2; omega
   obtain⟨c,hc⟩:∃c,L[at_]?=some c:=⟨_,ZyH hlt⟩;obtain⟨p4,p5,p6,f,I',⟨N,eN⟩,hall⟩:=Zl9 hv h7 hl (at_:=at_) (c:=c) (ZyA w.deeds.length) L o4 o5 o6 I hc λd hd=>ZyS.mp hd;generalize hM:(ZyA w.deeds.length).foldl (Zcx w ls c) L=M at *;have body:ZdN [some (.pl w.d),some (.pl (tupI ls)),some (.ol (L.map tupI)),some (.pl (dN at_)),o4,o5,o6]=some (.nx [some (.pl w.d),some (.pl (tupI ls)),some (.ol (M.map tupI)),some (.pl (dN (at_+1))),p4,p5,p6]):=by have i0:Zbc (.pl w.d)=some [Zy6 w.many,.tuple (w.deeds.map ZN),.tuple (w.looks.map tupI),tupI w.beg,tupI w.goal]:=rfl;simp[ZdN,i0,hok,Z5,hdb,-Zbc];simp[hok,Z5,hdb,f]
   obtain⟨L',q3,q4,q5,q6,g,J,⟨N',eN'⟩,hcl⟩:=ZkU fuel (at_+1) M p4 p5 p6 I' (by rw[eN,ZyM]; omega) (by omega) (λi c' hi hc' d hd can p hp=>by
    by_cases e:i=at_
    ·subst e
     rw[eN,Zy3 hlt,hc]at hc';cases hc';exact hall d (ZyS.mpr hd) can p hp
    ·have hi':i<at_:=by omega
     rw[eN,Zy3 (by omega)]at hc';rw[eN];exact Zy9 _ (hdone i c' hi' hc' d hd can p hp))
   refine⟨L',q3,q4,q5,q6,?_,J,⟨N++N',by rw[eN',eN,ZzK]⟩,hcl⟩;have ht:(tV (op2 gLt (Zb 3) (Zaz (Zo 2)))) [some (.pl w.d),some (.pl (tupI ls)),some (.ol (L.map tupI)),some (.pl (dN at_)),o4,o5,o6]=some true:=by simp[hlt]
   unfold ZaY;rw[ht];dsimp only;rw[body];exact g
  ·have e:at_=L.length:=by omega
   have ht:(tV (op2 gLt (Zb 3) (Zaz (Zo 2)))) [some (.pl w.d),some (.pl (tupI ls)),some (.ol (L.map tupI)),some (.pl (dN at_)),o4,o5,o6]=some false:=by simp[hlt]
   refine⟨L,some (.pl (dN at_)),o4,o5,o6,?_,I,⟨[],by simp⟩,λc hc d hd can p hp=>?_⟩
   ·unfold ZaY
    rw[ht]
   ·obtain⟨i,hi,hq⟩:=ZAZ hc
    exact hdone i c (by omega) (by rw[ZyH hi,hq]) d hd can p hp
theorem Zq9:∃L,Zel [w.d,tupI ls]=some (.list (L.map tupI))/\ZeB w ls L/\Zcq w ls L/\∀p∈Zp w ls w.beg,p∈L:=by
 have hs:=Zds hv hl hv.bc;have hbl:=hv.bc.len;have hsb:(ZH w ls w.beg).length<1000000:=by unfold ZH;rw[Zyt,(Za3 _).length_eq,Zyt];have:=ZfE _ _ _ (ZcM (Zy w ls) w.beg);omega
 have e1:∀r:HM.Env,Zch Zaa (Zb 1) r ((ZH w ls w.beg).map Z3)=some ((Zp w ls w.beg).map tupI):=λr=>by have e:=Zeb (c:=Zaa) (e:=Zb 1) (r:=r) (λp:List Int × List Int=>tupI p.1) (λp=>tupI p.2) (λ_=>true) (λp=>tupI p.2) (ZH w ls w.beg) (λp _=>rfl) (λp _ _=>by simp);rw[ZAf.mpr λ_ _=>rfl]at e;unfold Zp;rw[ZyP];exact e
 have I0:ZeB w ls (Zp w ls w.beg):=⟨Zj8 w ls w.beg,λc hc=>⟨(ZeM hv.bc hc).1,(ZeM hv.bc hc).2.1⟩,λc hc=>.beg hc⟩;obtain⟨L,p3,p4,p5,p6,g,I,⟨N,eN⟩,hcl⟩:=ZkU hv h7 hl 100000 0 (Zp w ls w.beg) none none none I0 (ZzS _) (by omega) (λi c hi=>by omega);refine⟨L,?_,I,hcl,λp hp=>by rw[eN]; exact Zy9 _ hp⟩;have i0:Zbc (.pl w.d)=some [Zy6 w.many,.tuple (w.deeds.map ZN),.tuple (w.looks.map tupI),tupI w.beg,tupI w.goal]:=rfl;have g':ZaY (tV (op2 gLt (Zb 3) (Zaz (Zo 2)))) ZdN 100000 [some (.pl w.d),some (.pl (tupI ls)),some (.ol ((Zp w ls w.beg).map tupI)),some (.pl (.int 0)),none,none,none]=some (.nx [some (.pl w.d),some (.pl (tupI ls)),some (.ol (L.map tupI)),p3,p4,p5,p6]):=g;show Zar (Zfz [some (.pl w.d),some (.pl (tupI ls)),none,none,none,none,none])=_;have e':Zfz [some (.pl w.d),some (.pl (tupI ls)),none,none,none,none,none]=some (.rt (.list (L.map tupI))):=by unfold Zfz;refine ZS (P:=λq=>q=_) (r':=[some (.pl w.d),some (.pl (tupI ls)),some (.ol ((Zp w ls w.beg).map tupI)),none,none,none,none]) (by simp[i0,hs,hsb,e1,-Zbc]; simp[hs,hsb,e1]) ?_;refine ZS (P:=λq=>q=_) (r':=[some (.pl w.d),some (.pl (tupI ls)),some (.ol ((Zp w ls w.beg).map tupI)),some (.pl (.int 0)),none,none,none]) (by simp) ?_;refine ZS (P:=λq=>q=_) (r':=[some (.pl w.d),some (.pl (tupI ls)),some (.ol (L.map tupI)),p3,p4,p5,p6]) g' ?_;simp
 rw[e'];rfl
end
end HG5
namespace HG5
open PySem HM HG HG4
theorem Zi0{α:Type}(ns:List Int):gEq (.list (ns.map dI)) (.list [])=some (.bool ns.isEmpty):=by
 cases ns with
 | nil=>exact Zd1 (Zh6 0 []) (by decide)
 | cons n ns=>exact ZhG (Zh6 0 (n::ns)) (Zh6 0 []) (by decide) (by decide) (by simp)
theorem ZtN(L:List (List Int)):gEq (.list (L.map tupI)) (.list [])=some (.bool L.isEmpty):=by
 have h:∀L:List (List Int),nbD 2 (.list (L.map tupI))=true:=λL=>ZvJ λd hd=>by obtain⟨c,_,rfl⟩:=ZyC.mp hd;exact ZdG 0 c
 cases L with
 | nil=>exact Zd1 (h []) (by decide)
 | cons c L=>exact ZhG (h (c::L)) (h []) (by decide) (by decide) (by simp)
theorem filter_empty{α:Type}(p:α->Bool)(L:List α):(L.filter λx=>!p x).isEmpty=L.all p:=by
 induction L with
 | nil=>rfl
 | cons x L ih =>
  rw[Zz9,ZzL];cases p x with
  | true=>simpa using ih
  | false=>rfl
theorem Zo1{w:Wk}(hv:Wk.V w){c:List Int}(hc:c.length<1000):ZcF [w.d,tupI c]=some (.bool (Z0 w c)):=by
 have hb:c.length<1000000:=by omega
 have i0:Zbc (.pl w.d)=some [Zy6 w.many,.tuple (w.deeds.map ZN),.tuple (w.looks.map tupI),tupI w.beg,tupI w.goal]:=rfl;have e:∀r:HM.Env,r[0]?=some (some (.pl w.d))->ZaG (tV (Zhz (Zb 0) (bOf (eIx (Zo 1) (eC (.int 4)))))) (Zb 0) r (c.map dI)=some ((c.filter λs=>!w.goal.contains s).map dI):=λr r0=>by
  rw[ZbP dI (λs=>!w.goal.contains s) dI]
  ·intro s _
   simp[r0,i0,Zof,ZbN,-Zbc,-ZAc];simp[Zof,ZbN,-ZAc]
  ·intro s _ _
   simp
 have g:=Zi0 (α:=Int) (c.filter λs=>!w.goal.contains s);rw[filter_empty (λs=>w.goal.contains s) c]at g;simp[ZcF,ZiH,hb,e,g,Z0,-gEq,-ZAc]
abbrev Tb:=List (List Int × Int)
def encM(M:Tb):List (List Ky × D):=M.map λp=>(Zac p.1,dI p.2)
theorem Zco(M:Tb)(k:List Int):Zh (encM M) (Zac k)=(Zh M k).map dI:=by
 unfold Zh encM;rw[List.find?_map];have e:((λp:List Ky × D=>decide (p.1=Zac k))∘λp:List Int × Int=>(Zac p.1,dI p.2))=λp=>decide (p.1=k):=by
  funext p
  simp only[ZBW];exact decide_eq_decide.mpr (ZlD p.1 k)
 rw[e];cases M.find? λp=>decide (p.1=k)<;>rfl
theorem Zh5(M:Tb)(k:List Int)(v:Int):putD (encM M) (Zac k) (dI v)=encM (putD M k v):=by
 unfold putD;have e1:((encM M).any λp=>decide (p.1=Zac k))=M.any λp=>decide (p.1=k):=by
  unfold encM;rw[List.any_map];congr 1
  funext p
  simp only[ZBW];exact decide_eq_decide.mpr (ZlD p.1 k)
 rw[e1];split
 ·unfold encM
  rw[ZyP,ZyP];refine ZzZ λp _=>?_;simp only[ZBW]
  by_cases h:p.1=k
  ·rw[if_pos h,if_pos (by rw[h])]
  ·rw[if_neg h,if_neg (λe=>h (Zgz e))]
 ·unfold encM
  rw[Zy8];rfl
theorem ZiZ(k:List Int):Zh ([]:Tb) k=none:=rfl
theorem ZbW(x:List Int)(v:Int)(M:Tb)(k:List Int):Zh ((x,v)::M) k=if x=k then some v else Zh M k:=by
 unfold Zh;rw[Zzs]
 by_cases h:x=k<;>simp[h]
theorem Zr5(x k:List Int)(v:Int)(M:Tb):Zh (putD M x v) k=if x=k then some v else Zh M k:=by
 have rep:∀M:Tb,Zh (M.map λp=>if p.1=x then(p.1,v)else p) k=if x=k then(Zh M k).map (λ_=>v)else Zh M k:=by
  intro M
  induction M with
  | nil=>rw[ZAs,ZiZ]; split<;>rfl
  | cons p M ih =>
   obtain⟨a,b⟩:=p;rw[Zyz]
   by_cases ha:a=x
   ·rw[if_pos (show(a,b).1=x from ha),ZbW,ZbW,ih]
    show(if a=k then some v else _)=_
    by_cases hk:x=k
    ·rw[if_pos (by rw[ha,hk]),if_pos hk,if_pos (by rw[ha,hk])]; rfl
    ·rw[if_neg (by rw[ha]; exact hk),if_neg hk,if_neg hk,if_neg (by rw[ha]; exact hk)]
   ·rw[if_neg (show ¬(a,b).1=x from ha),ZbW,ZbW,ih]
    by_cases hk:a=k
    ·rw[if_pos hk,if_pos hk]
     have:x≠k:=λe=>ha (hk.trans e.symm);rw[if_neg this]
    ·rw[if_neg hk,if_neg hk]
 have app:∀M:Tb,Zh (M++[(x,v)]) k=match Zh M k with | some u=>some u | none=>if x=k then some v else none:=by
  intro M
  induction M with
  | nil=>rw[ZAr,ZbW,ZiZ]
  | cons p M ih =>
   obtain⟨a,b⟩:=p;rw[ZCT,ZbW,ZbW,ih]
   by_cases hk:a=k
   ·rw[if_pos hk,if_pos hk]
   ·rw[if_neg hk,if_neg hk]
 have has:∀M:Tb,(M.any λp=>decide (p.1=x))=(Zh M x).isSome:=by
  intro M
  induction M with
  | nil=>rfl
  | cons p M ih =>
   obtain⟨a,b⟩:=p;rw[ZAa,ZbW,ih]
   by_cases ha:a=x<;>simp[ha]
 unfold putD;split
 ·rename_i h
  rw[rep]
  by_cases hk:x=k
  ·subst hk
   rw[has]at h;rw[if_pos rfl,if_pos rfl];obtain⟨u,hu⟩:=Zy4.mp h;rw[hu]; rfl
  ·rw[if_neg hk,if_neg hk]
 ·rename_i h
  rw[app]
  by_cases hk:x=k
  ·subst hk
   rw[has]at h;rw[if_pos rfl,if_pos rfl];cases hq:Zh M x with
   | none=>rfl
   | some u=>rw[hq]at h; exact absurd rfl h
  ·rw[if_neg hk,if_neg hk]
   cases Zh M k<;>rfl
theorem ZjB(x:List Int)(v:Int)(M:Tb):(putD M x v).length<=M.length+1:=by
 unfold putD;split
 ·rw[Zyt]; omega
 ·rw[ZyM]; exact ZyB _
def ZD(M:Tb)(p:List Int):Bool:=(Zh M p).isSome
def Zdq(w:Wk)(ls c:List Int)(M:Tb):Bool:=(ZyA w.deeds.length).any λd=>Z9 w c d&&(Zp w ls (ZB w c d)).all λp=>ZD M p
section
variable{w:Wk}(hv:Wk.V w)(h7:w.many<=7){ls:List Int}(hl:Cr w.looks.length ls)
include hv h7 hl
theorem ZpW{c:List Int}(hc:Cr w.many c){M:Tb}{d:Nat}(hd:d<w.deeds.length)(o5:Option B) :
  ((Z9 w c d&&(Zp w ls (ZB w c d)).all λp=>ZD M p)=true->ZR [some (.pl w.d),some (.pl (tupI ls)),some (.pl (tupI c)),some (.pl (.dict (Zj (encM M)))),some (.pl (dN d)),o5]=some (.rt (.bool true))) /\
  ((Z9 w c d&&(Zp w ls (ZB w c d)).all λp=>ZD M p)=false->∃p5,ZR [some (.pl w.d),some (.pl (tupI ls)),some (.pl (tupI c)),some (.pl (.dict (Zj (encM M)))),some (.pl (dN d)),o5]=some (.nx [some (.pl w.d),some (.pl (tupI ls)),some (.pl (tupI c)),some (.pl (.dict (Zj (encM M)))),some (.pl (dN d)),p5])):=by
 have hled:=ZfG hv h7 hc (show(0:Int)<=(d:Int) by omega) (by omega);unfold ZlQ at hled;cases can:Z9 w c d with
 | false=>rw[can]at hled;refine⟨λh=>(by cases h),λ_=>⟨some (.pl .none),?_⟩⟩;simp[ZR,hled]
 | true =>
  rw[can]at hled;have lc:=Zc8 hv hc (show(0:Int)<=(d:Int) by omega) (by omega);have hs:=Zds hv hl lc;have hsb:(ZH w ls (ZB w c d)).length<1000000:=by unfold ZH;rw[Zyt,(Za3 _).length_eq,Zyt];have:=ZfE _ _ _ (ZcM (Zy w ls) (ZB w c d));have:=lc.len;omega
  have e1:∀r:HM.Env,r[3]?=some (some (.pl (.dict (Zj (encM M)))))->Zch (tV (Zcg (Zb 1) (Zo 5))) (Zb 1) r ((ZH w ls (ZB w c d)).map Z3)=some (((Zp w ls (ZB w c d)).filter λp=>!ZD M p).map tupI):=λr r3=>by have e:=Zeb (c:=tV (Zcg (Zb 1) (Zo 5))) (e:=Zb 1) (r:=r) (λp:List Int × List Int=>tupI p.1) (λp=>tupI p.2) (λp=>!ZD M p.2) (λp=>tupI p.2) (ZH w ls (ZB w c d)) (λp _=>by have hk:ZaN (tupI p.2)=some (Zac p.2):=ZaD p.2;simp[r3,dec_enc,hk,Zco,ZD]) (λp _ _=>by simp);have e':((ZH w ls (ZB w c d)).map λp:List Int × List Int=>Zzn [tupI p.1,tupI p.2])=(ZH w ls (ZB w c d)).map Z3:=rfl;rw[<-e',e];unfold Zp;rw[List.filter_map,ZyP];rfl
  have g:=ZtN ((Zp w ls (ZB w c d)).filter λp=>!ZD M p);rw[filter_empty]at g;cases ha:(Zp w ls (ZB w c d)).all λp=>ZD M p with
  | true=>rw[ha]at g;refine⟨λ_=>?_,λh=>(by cases h)⟩;simp[ZR,hled,hs,hsb,e1,g,-gEq]
  | false=>rw[ha]at g;refine⟨λh=>(by cases h),λ_=>⟨some (.pl (tupI (ZB w c d))),?_⟩⟩;simp[ZR,hled,hs,hsb,e1,g,-gEq]
theorem Zma{c:List Int}(hc:Cr w.many c){M:Tb}:∀(ds:List Nat) (o4 o5:Option B),(∀d∈ds,d<w.deeds.length) ->
  ((ds.any λd=>Z9 w c d&&(Zp w ls (ZB w c d)).all λp=>ZD M p)=true->Z4 4 ZR (ds.map dN) [some (.pl w.d),some (.pl (tupI ls)),some (.pl (tupI c)),some (.pl (.dict (Zj (encM M)))),o4,o5]=some (.rt (.bool true))) /\
  ((ds.any λd=>Z9 w c d&&(Zp w ls (ZB w c d)).all λp=>ZD M p)=false->∃p4 p5,Z4 4 ZR (ds.map dN) [some (.pl w.d),some (.pl (tupI ls)),some (.pl (tupI c)),some (.pl (.dict (Zj (encM M)))),o4,o5]=some (.nx [some (.pl w.d),some (.pl (tupI ls)),some (.pl (tupI c)),some (.pl (.dict (Zj (encM M)))),p4,p5]))
 | [],o4,o5,_=>⟨λh=>(by cases h),λ_=>⟨o4,o5,rfl⟩⟩
 | d::ds,o4,o5,hds=>by
  obtain⟨t1,t2⟩:=ZpW hv h7 hl hc (M:=M) (hds d (Zyw ..)) o5;rw[ZAa];cases hq:(Z9 w c d&&(Zp w ls (ZB w c d)).all λp=>ZD M p)with
  | true=>refine⟨λ_=>?_,λh=>(by cases h)⟩;rw[Zyz];show(match ZR [some (.pl w.d),some (.pl (tupI ls)),some (.pl (tupI c)),some (.pl (.dict (Zj (encM M)))),some (.pl (dN d)),o5]with | some (.nx r')=>_ | some (.ct r')=>_ | some (.bk r')=>_ | some (.rt d)=>_ | none=>_)=_;rw[t1 hq]
  | false =>
   obtain⟨p5,e⟩:=t2 hq;obtain⟨i1,i2⟩:=Zma hc ds (some (.pl (dN d))) p5 λx hx=>hds x (Zyx _ hx);have e5:Z4 4 ZR ((d::ds).map dN) [some (.pl w.d),some (.pl (tupI ls)),some (.pl (tupI c)),some (.pl (.dict (Zj (encM M)))),o4,o5]=Z4 4 ZR (ds.map dN) [some (.pl w.d),some (.pl (tupI ls)),some (.pl (tupI c)),some (.pl (.dict (Zj (encM M)))),some (.pl (dN d)),p5]:=by rw[Zyz];show(match ZR [some (.pl w.d),some (.pl (tupI ls)),some (.pl (tupI c)),some (.pl (.dict (Zj (encM M)))),some (.pl (dN d)),o5]with | some (.nx r')=>_ | some (.ct r')=>_ | some (.bk r')=>_ | some (.rt d)=>_ | none=>_)=_;rw[e]
   rw[e5,ZCu];exact⟨i1,i2⟩
theorem Zsd{c:List Int}(hc:Cr w.many c){M:Tb}:ZbR [w.d,tupI ls,tupI c,.dict (Zj (encM M))]=some (.bool (Zdq w ls c M)):=by
 obtain⟨i1,i2⟩:=Zma hv h7 hl hc (M:=M) (ZyA w.deeds.length) none none λd hd=>ZyS.mp hd;have hok:okR (w.deeds.length:Int)=true:=ZcL (by have:=hv.d2; omega);have hdb:w.deeds.length<1000000:=by have:=hv.d2; omega
 have i0:Zbc (.pl w.d)=some [Zy6 w.many,.tuple (w.deeds.map ZN),.tuple (w.looks.map tupI),tupI w.beg,tupI w.goal]:=rfl;show Zar (Zbl [some (.pl w.d),some (.pl (tupI ls)),some (.pl (tupI c)),some (.pl (.dict (Zj (encM M)))),none,none])=_;unfold Zdq;cases h:(ZyA w.deeds.length).any λd=>Z9 w c d&&(Zp w ls (ZB w c d)).all λp=>ZD M p with
 | true =>
  have e:Zbl [some (.pl w.d),some (.pl (tupI ls)),some (.pl (tupI c)),some (.pl (.dict (Zj (encM M)))),none,none]=some (.rt (.bool true)):=by simp[Zbl,i0,-Zbc];simp[hok,Z5,hdb,i1 h]
  rw[e]; rfl
 | false =>
  obtain⟨p4,p5,f⟩:=i2 h;have e:Zbl [some (.pl w.d),some (.pl (tupI ls)),some (.pl (tupI c)),some (.pl (.dict (Zj (encM M)))),none,none]=some (.rt (.bool false)):=by simp[Zbl,i0,-Zbc];simp[hok,Z5,hdb,f]
  rw[e]; rfl
end
end HG5
namespace HG5
open PySem HM HG HG4
def Zcy(w:Wk)(ls:List Int)(t:Nat)(c:List Int):Option Int:=((ZyA (t+1)).find? λn=>Win w ls n c).map λ(n:Nat)=>(n:Int)
theorem Zcn{w:Wk}{ls:List Int}{t:Nat}{c:List Int}:(Zcy w ls t c).isSome=Win w ls t c:=by
 unfold Zcy;rw[ZzW];cases h:Win w ls t c with
 | true=>rw[ZCH]; exact⟨t,ZyS.mpr (by omega),h⟩
 | false =>
  cases q:(ZyA (t+1)).find? λn=>Win w ls n c with
  | none=>rfl
  | some n=>have h1:=List.find?_some q;have h2:=ZyS.mp (ZBu q);rw[Zgp (show n<=t by omega) h1]at h;cases h
theorem Zry{w:Wk}{ls:List Int}{t:Nat}{c:List Int}:Zcy w ls (t+1) c=match Zcy w ls t c with
  | some k=>some k
  | none=>if Win w ls (t+1) c then some ((t+1:Nat):Int)else none:=by
 unfold Zcy;rw[List.range_succ (n:=t+1),ZCD];cases(ZyA (t+1)).find? λn=>Win w ls n c with
 | some n=>rfl
 | none=>show ZAi _ (Option.or none ([t+1].find? λn=>Win w ls n c))=_;rw[Option.none_or,Zzs];cases Win w ls (t+1) c<;>rfl
theorem Zez{w:Wk}{ls:List Int}{t:Nat}{c:List Int}{k:Int}(h:Zcy w ls t c=some k):∃n:Nat,k=(n:Int)/\n<=t/\Win w ls n c=true/\∀m,m<n->Win w ls m c=false:=by
 unfold Zcy at h;obtain⟨n,hn,rfl⟩:=Zyu.mp h;refine⟨n,rfl,?_,List.find?_some (p:=λn=>Win w ls n c) hn,λm hm=>?_⟩
 ·have:=ZyS.mp (ZBu hn)
  omega
 ·cases q:Win w ls m c with
  | false=>rfl
  | true =>
   obtain⟨_,as,bs,e,hno⟩:=List.find?_eq_some_iff_append.mp hn;have hmem:m∈ZyA (t+1):=ZyS.mpr (by have:=ZyS.mp (ZBu hn);omega);have hp:(as++n::bs).Pairwise (· < ·):=by rw[<-e]; exact ZDb
   rw[e]at hmem;rcases ZyZ.mp hmem with h1 | h1
   ·have:=hno m h1
    rw[q]at this;cases this
   ·rcases ZyR.mp h1 with h2 | h2
    ·omega
    ·have:=(Zzi.mp (List.pairwise_append.mp hp).2.1).1 m h2
     omega
structure Zfs(w:Wk)(ls:List Int)(L:List (List Int))(t:Nat)(M:Tb):Prop where
 look:∀c,Zh M c=if c∈L then Zcy w ls t c else none
theorem ZgO(v:Int)(k:List Int):∀(ms:List (List Int)) (M:Tb),Zh (ms.foldl (λM c=>putD M c v) M) k=if k∈ms then some v else Zh M k
 | [],M=>by simp
 | c::ms,M=>by
  rw[Zzr,ZgO v k ms,Zr5]
  by_cases h1:k∈ms
  ·rw[if_pos h1,if_pos (Zyx _ h1)]
  ·rw[if_neg h1]
   by_cases h2:c=k
   ·rw[if_pos h2,if_pos (by rw[h2]; exact Zyw ..)]
   ·rw[if_neg h2,if_neg]
    intro h;rcases ZyR.mp h with e | e
    ·exact h2 e.symm
    ·exact h1 e
theorem ZgU(v:Int):∀(ms:List (List Int)) (M:Tb),(ms.foldl (λM c=>putD M c v) M).length<=M.length+ms.length
 | [],M=>ZyB _
 | c::ms,M=>by rw[Zzr,ZyI];have:=ZgU v ms (putD M c v);have:=ZjB c v M;omega
def ZaX(w:Wk)(ls:List Int)(L:List (List Int))(M:Tb):List (List Int):=L.filter λc=>!ZD M c&&Zdq w ls c M
theorem Zkw{w:Wk}{ls:List Int}{L:List (List Int)}(hL:Zcq w ls L){t:Nat}{M:Tb}(T:Zfs w ls L t M):Zfs w ls L (t+1) ((ZaX w ls L M).foldl (λM c=>putD M c ((t+1:Nat):Int)) M):=by
 have hhas:∀c∈L,ZD M c=Win w ls t c:=λc hc=>by unfold ZD;rw[T.look,if_pos hc,Zcn]
 refine⟨λc=>?_⟩;rw[ZgO,T.look]
 by_cases hc:c∈L
 ·rw[if_pos hc,if_pos hc,Zry]
  have hcan:Zdq w ls c M=(ZyA w.deeds.length).any λd=>Z9 w c d&&(Zp w ls (ZB w c d)).all λp=>Win w ls t p:=by
   unfold Zdq;apply ZCa.mpr;rw[ZzA,ZzA]
   constructor
   ·rintro ⟨d,hd,hq⟩
    rw[ZyN]at hq;refine⟨d,hd,?_⟩;rw[ZyN];refine⟨hq.1,ZyD.mpr λp hp=>?_⟩;rw[<-hhas p (hL c hc d (ZyS.mp hd) hq.1 p hp)];exact ZyD.mp hq.2 p hp
   ·rintro ⟨d,hd,hq⟩
    rw[ZyN]at hq;refine⟨d,hd,?_⟩;rw[ZyN];refine⟨hq.1,ZyD.mpr λp hp=>?_⟩;rw[hhas p (hL c hc d (ZyS.mp hd) hq.1 p hp)];exact ZyD.mp hq.2 p hp
  have hmem:c∈ZaX w ls L M↔(Win w ls t c=false/\Zdq w ls c M=true):=by
   unfold ZaX;rw[Zy2,ZyN,hhas c hc]
   constructor
   ·rintro ⟨_,h1,h2⟩
    exact⟨by simpa using h1,h2⟩
   ·rintro ⟨h1,h2⟩
    exact⟨hc,by simp[h1],h2⟩
  cases hw:Win w ls t c with
  | true =>
   have hs:(Zcy w ls t c).isSome=true:=by rw[Zcn]; exact hw
   obtain⟨k,hk⟩:=Zy4.mp hs;rw[if_neg (λh=>by rw[hw]at hmem; cases(hmem.mp h).1),hk]
  | false =>
   have hs:Zcy w ls t c=none:=by
    have:=Zcn (w:=w) (ls:=ls) (t:=t) (c:=c);rw[hw]at this;cases q:Zcy w ls t c with
    | none=>rfl
    | some k=>rw[q]at this; cases this
   have hth:Z0 w c=false:=by
    cases q:Z0 w c with
    | false=>rfl
    | true=>have:Win w ls t c=true:=Zgp (ZzS t) (show Win w ls 0 c=true from q);rw[hw]at this;cases this
   have hwin:Win w ls (t+1) c=Zdq w ls c M:=by rw[hcan];show(Z0 w c||_)=_;rw[hth,ZCu]
   rw[hs];dsimp only;rw[hwin];cases hcw:Zdq w ls c M with
   | true=>rw[if_pos (hmem.mpr ⟨hw,hcw⟩),if_pos rfl]
   | false=>rw[if_neg (λh=>by have:=(hmem.mp h).2; rw[hcw]at this; cases this)]; rfl
 ·rw[if_neg hc,if_neg hc,if_neg]
  intro h;exact hc (Zy2.mp h).1
def M0(w:Wk)(L:List (List Int)):Tb:=(L.filter λc=>Z0 w c).foldl (λM c=>putD M c 0) []
theorem Zkp{w:Wk}{ls:List Int}{L:List (List Int)}:Zfs w ls L 0 (M0 w L):=by
 refine⟨λc=>?_⟩;unfold M0;rw[ZgO,ZiZ];have e:Zcy w ls 0 c=if Z0 w c then some 0 else none:=by unfold Zcy;show ZAi _ (([0]:List Nat).find? λn=>Win w ls n c)=_;rw[Zzs];show ZAi _ (match Win w ls 0 c with | true=>some 0 | false=>_)=_;have:Win w ls 0 c=Z0 w c:=rfl;rw[this];cases Z0 w c<;>rfl
 rw[e]
 by_cases hc:c∈L
 ·rw[if_pos hc]
  cases ht:Z0 w c with
  | true=>rw[if_pos (Zy2.mpr ⟨hc,ht⟩)]; rfl
  | false=>rw[if_neg (λh=>by have:=(Zy2.mp h).2; rw[ht]at this; cases this)]; rfl
 ·rw[if_neg hc,if_neg λh=>hc (Zy2.mp h).1]
section
variable{w:Wk}(hv:Wk.V w)(h7:w.many<=7){ls:List Int}(hl:Cr w.looks.length ls){L:List (List Int)}(I:ZeB w ls L)
include hv h7 hl I
theorem ZlS(e2 e5 e6:Option B):∀(cs:List (List Int)) (M:Tb) (o4:Option B),(∀c∈cs,c∈L)->M.length+cs.length<100000 ->
  ∃p4,Z4 4 Zbn (cs.map tupI) [some (.pl w.d),some (.pl (tupI ls)),e2,some (.ot (encM M)),o4,e5,e6]=some (.nx [some (.pl w.d),some (.pl (tupI ls)),e2,some (.ot (encM ((cs.filter λc=>Z0 w c).foldl (λM c=>putD M c 0) M))),p4,e5,e6])
 | [],M,o4,_,_=>⟨o4,rfl⟩
 | c::cs,M,o4,hcs,hlen=>by
  rw[ZyI]at hlen;have hc:=(I.cr c (hcs c (Zyw ..))).1;have hcl:=hc.len;have ht:=Zo1 hv (c:=c) (by omega);have hml:(encM M).length<1000000:=by unfold encM; rw[Zyt]; omega
  have hk:ZaN (tupI c)=some (Zac c):=ZaD c;have hput:=Zh5 M c 0;have hpl:=ZjB c 0 M;rw[Zyz,Zz9];cases hth:Z0 w c with
  | true =>
   rw[hth]at ht;have e:Zbn [some (.pl w.d),some (.pl (tupI ls)),e2,some (.ot (encM M)),some (.pl (tupI c)),e5,e6]=some (.nx [some (.pl w.d),some (.pl (tupI ls)),e2,some (.ot (encM (putD M c 0))),some (.pl (tupI c)),e5,e6]):=by rw[<-hput];simp[Zbn,ht,hk,hml]
   obtain⟨p4,ih⟩:=ZlS e2 e5 e6 cs (putD M c 0) (some (.pl (tupI c))) (λx hx=>hcs x (Zyx _ hx)) (by omega);refine⟨p4,?_⟩;rw[if_pos rfl,Zzr,<-ih];show(match Zbn [some (.pl w.d),some (.pl (tupI ls)),e2,some (.ot (encM M)),some (.pl (tupI c)),e5,e6]with | some (.nx r')=>_ | some (.ct r')=>_ | some (.bk r')=>_ | some (.rt d)=>_ | none=>_)=_;rw[e]
  | false =>
   rw[hth]at ht;have e:Zbn [some (.pl w.d),some (.pl (tupI ls)),e2,some (.ot (encM M)),some (.pl (tupI c)),e5,e6]=some (.nx [some (.pl w.d),some (.pl (tupI ls)),e2,some (.ot (encM M)),some (.pl (tupI c)),e5,e6]):=by simp[Zbn,ht]
   obtain⟨p4,ih⟩:=ZlS e2 e5 e6 cs M (some (.pl (tupI c))) (λx hx=>hcs x (Zyx _ hx)) (by omega);refine⟨p4,?_⟩;rw[if_neg (by simp),<-ih];show(match Zbn [some (.pl w.d),some (.pl (tupI ls)),e2,some (.ot (encM M)),some (.pl (tupI c)),e5,e6]with | some (.nx r')=>_ | some (.ct r')=>_ | some (.bk r')=>_ | some (.rt d)=>_ | none=>_)=_;rw[e]
theorem ZlF(e2 e5:Option B)(M:Tb):∀(cs ms:List (List Int)) (o4:Option B),(∀c∈cs,c∈L)->ms.length+cs.length<100000 ->
  ∃p4,Z4 4 Za2 (cs.map tupI) [some (.pl w.d),some (.pl (tupI ls)),e2,some (.ot (encM M)),o4,e5,some (.ol (ms.map tupI))]=some (.nx [some (.pl w.d),some (.pl (tupI ls)),e2,some (.ot (encM M)),p4,e5,some (.ol ((ms++ZaX w ls cs M).map tupI))])
 | [],ms,o4,_,_=>⟨o4,by unfold ZaX; simp[Z4]⟩
 | c::cs,ms,o4,hcs,hlen=>by
  rw[ZyI]at hlen;have hc:=(I.cr c (hcs c (Zyw ..))).1;have hw:=Zsd hv h7 hl hc (M:=M);have hk:ZaN (tupI c)=some (Zac c):=ZaD c;have hlk:=Zco M c;have hmb:ms.length<1000000:=by omega
  have em:ZaX w ls (c::cs) M=if(!ZD M c&&Zdq w ls c M)=true then c::ZaX w ls cs M else ZaX w ls cs M:=by unfold ZaX; rw[Zz9]
  cases hq:(!ZD M c&&Zdq w ls c M)with
  | true =>
   have hq':=hq;rw[ZyN]at hq';have h1:ZD M c=false:=by simpa using hq'.1
   have h1':Zh M c=none:=by
    have h1:(Zh M c).isSome=false:=h1;cases q:Zh M c with
    | none=>rfl
    | some k=>rw[q]at h1; cases h1
   rw[h1']at hlk;have e:Za2 [some (.pl w.d),some (.pl (tupI ls)),e2,some (.ot (encM M)),some (.pl (tupI c)),e5,some (.ol (ms.map tupI))]=some (.nx [some (.pl w.d),some (.pl (tupI ls)),e2,some (.ot (encM M)),some (.pl (tupI c)),e5,some (.ol ((ms++[c]).map tupI))]):=by rw[hq'.2]at hw;simp[Za2,hk,hlk,hw,hmb]
   obtain⟨p4,ih⟩:=ZlF e2 e5 M cs (ms++[c]) (some (.pl (tupI c))) (λx hx=>hcs x (Zyx _ hx)) (by rw[ZyM,Zz2]; omega);refine⟨p4,?_⟩;rw[em,hq,if_pos rfl,show ms++c::ZaX w ls cs M=(ms++[c])++ZaX w ls cs M by simp,<-ih,Zyz];show(match Za2 [some (.pl w.d),some (.pl (tupI ls)),e2,some (.ot (encM M)),some (.pl (tupI c)),e5,some (.ol (ms.map tupI))]with | some (.nx r')=>_ | some (.ct r')=>_ | some (.bk r')=>_ | some (.rt d)=>_ | none=>_)=_;rw[e]
  | false =>
   have e:Za2 [some (.pl w.d),some (.pl (tupI ls)),e2,some (.ot (encM M)),some (.pl (tupI c)),e5,some (.ol (ms.map tupI))]=some (.nx [some (.pl w.d),some (.pl (tupI ls)),e2,some (.ot (encM M)),some (.pl (tupI c)),e5,some (.ol (ms.map tupI))]):=by
    cases h1:Zh M c with
    | some k=>rw[h1]at hlk; simp[Za2,hk,hlk]
    | none =>
     have h2:ZD M c=false:=by unfold ZD; rw[h1]; rfl
     rw[h2]at hq;have h3:Zdq w ls c M=false:=by simpa using hq
     rw[h3]at hw;rw[h1]at hlk;simp[Za2,hk,hlk,hw]
   obtain⟨p4,ih⟩:=ZlF e2 e5 M cs ms (some (.pl (tupI c))) (λx hx=>hcs x (Zyx _ hx)) (by omega);refine⟨p4,?_⟩;rw[em,hq,if_neg (by simp),<-ih,Zyz];show(match Za2 [some (.pl w.d),some (.pl (tupI ls)),e2,some (.ot (encM M)),some (.pl (tupI c)),e5,some (.ol (ms.map tupI))]with | some (.nx r')=>_ | some (.ct r')=>_ | some (.bk r')=>_ | some (.rt d)=>_ | none=>_)=_;rw[e]
end
theorem ZsL(e0 e1 e2 e6:Option B)(v:Int):∀(ms:List (List Int)) (M:Tb) (o4:Option B),M.length+ms.length<100000 ->
  ∃p4,Z4 4 ZcX (ms.map tupI) [e0,e1,e2,some (.ot (encM M)),o4,some (.pl (dI v)),e6]=some (.nx [e0,e1,e2,some (.ot (encM (ms.foldl (λM c=>putD M c v) M))),p4,some (.pl (dI v)),e6])
 | [],M,o4,_=>⟨o4,rfl⟩
 | c::ms,M,o4,hlen=>by
  rw[ZyI]at hlen;have hml:(encM M).length<1000000:=by unfold encM; rw[Zyt]; omega
  have hk:ZaN (tupI c)=some (Zac c):=ZaD c;have hput:=Zh5 M c v;have hpl:=ZjB c v M;have e:ZcX [e0,e1,e2,some (.ot (encM M)),some (.pl (tupI c)),some (.pl (dI v)),e6]=some (.nx [e0,e1,e2,some (.ot (encM (putD M c v))),some (.pl (tupI c)),some (.pl (dI v)),e6]):=by rw[<-hput];simp[ZcX,hk,hml]
  obtain⟨p4,ih⟩:=ZsL e0 e1 e2 e6 v ms (putD M c v) (some (.pl (tupI c))) (by omega);refine⟨p4,?_⟩;rw[Zyz,Zzr,<-ih];show(match ZcX [e0,e1,e2,some (.ot (encM M)),some (.pl (tupI c)),some (.pl (dI v)),e6]with | some (.nx r')=>_ | some (.ct r')=>_ | some (.bk r')=>_ | some (.rt d)=>_ | none=>_)=_;rw[e]
end HG5
namespace HG5
open PySem HM HG HG4
section
variable{w:Wk}(hv:Wk.V w)(h7:w.many<=7){ls:List Int}(hl:Cr w.looks.length ls){L:List (List Int)}(I:ZeB w ls L)
include hv h7 hl I
theorem ZqR{M:Tb}(hM:M.length<50000)(v:Int)(o4 o6:Option B) :
  ∃p4 p6,Zcc [some (.pl w.d),some (.pl (tupI ls)),some (.pl (.list (L.map tupI))),some (.ot (encM M)),o4,some (.pl (dI v)),o6] =
   some (.nx [some (.pl w.d),some (.pl (tupI ls)),some (.pl (.list (L.map tupI))),some (.ot (encM ((ZaX w ls L M).foldl (λM c=>putD M c v) M))),p4,some (.pl (dI v)),p6]):=by
 have hlen:=I.len h7;have hLb:L.length<1000000:=by omega
 obtain⟨p4,e1⟩:=ZlF hv h7 hl I (some (.pl (.list (L.map tupI)))) (some (.pl (dI v))) M L [] o4 (λ_ h=>h) (by simp; omega);have hml:(ZaX w ls L M).length<=L.length:=Zzm _ _;have hmb:(ZaX w ls L M).length<1000000:=by omega
 obtain⟨q4,e2⟩:=ZsL (some (.pl w.d)) (some (.pl (tupI ls))) (some (.pl (.list (L.map tupI)))) (some (.pl (.list ((ZaX w ls L M).map tupI)))) v (ZaX w ls L M) M p4 (by omega);rw[ZAs,ZAr]at e1;refine⟨q4,some (.pl (.list ((ZaX w ls L M).map tupI))),?_⟩;simp[Zcc,hLb,e1,hmb,e2]
theorem Zjg(hL:Zcq w ls L):∀(n t:Nat) (M:Tb) (o4 o5 o6:Option B),Zfs w ls L t M->M.length<=128*(t+1)->t+n<=128 ->
  ∃M' p4 p5 p6,Z4 5 Zcc ((ZCl (t+1) n).map dN) [some (.pl w.d),some (.pl (tupI ls)),some (.pl (.list (L.map tupI))),some (.ot (encM M)),o4,o5,o6] =
   some (.nx [some (.pl w.d),some (.pl (tupI ls)),some (.pl (.list (L.map tupI))),some (.ot (encM M')),p4,p5,p6])/\Zfs w ls L (t+n) M'
 | 0,t,M,o4,o5,o6,T,_,_=>⟨M,o4,o5,o6,rfl,T⟩
 | n+1,t,M,o4,o5,o6,T,hM,ht=>by obtain⟨p4,p6,e⟩:=ZqR hv h7 hl I (M:=M) (by omega) ((t+1:Nat):Int) o4 o6;have T':=Zkw hL T;have hlen:=I.len h7;have hml:(ZaX w ls L M).length<=L.length:=Zzm _ _;have hfl:=ZgU ((t+1:Nat):Int) (ZaX w ls L M) M;have hM1:((ZaX w ls L M).foldl (λM c=>putD M c ((t+1:Nat):Int)) M).length<=128*(t+1+1):=Zzg hfl (by omega);obtain⟨M',q4,q5,q6,f,T''⟩:=Zjg hL n (t+1) _ p4 (some (.pl (dN (t+1)))) p6 T' hM1 (by omega);refine⟨M',q4,q5,q6,?_,by rw[show t+(n+1)=t+1+n by omega]; exact T''⟩;rw[List.range'_succ,Zyz,<-f];show(match Zcc [some (.pl w.d),some (.pl (tupI ls)),some (.pl (.list (L.map tupI))),some (.ot (encM M)),o4,some (.pl (dN (t+1))),o6]with | some (.nx r')=>_ | some (.ct r')=>_ | some (.bk r')=>_ | some (.rt d)=>_ | none=>_)=_;rw[e]
end
theorem Zrq(n:Nat):ZbT 1 n=(ZCl 1 n).map dN:=by unfold ZbT;rw[List.range'_eq_map_range,ZyP];refine ZzZ λk _=>?_;show Zy6 (1+(k:Int))=Zy6 ((1+k:Nat):Int);congr 1
section
variable{w:Wk}(hv:Wk.V w)(h7:w.many<=7){ls:List Int}(hl:Cr w.looks.length ls)
include hv h7 hl
theorem Zo3:∃L M,Zdi [w.d,tupI ls]=some (.dict (Zj (encM M)))/\ZeB w ls L/\Zcq w ls L/\(∀p∈Zp w ls w.beg,p∈L)/\Zfs w ls L L.length M:=by
 obtain⟨L,hall,I,hL,hbeg⟩:=Zq9 hv h7 hl;have hlen:=I.len h7;have hLb:L.length<1000000:=by omega
 obtain⟨p4,e0⟩:=ZlS hv h7 hl I (some (.pl (.list (L.map tupI)))) none none L [] none (λ_ h=>h) (by simp; omega);have hm0:(M0 w L).length<=L.length:=by unfold M0;have h1:=ZgU 0 (L.filter λc=>Z0 w c) [];have h2:=Zzm (λc=>Z0 w c) L;exact Zzg h1 (by rw[ZC0]; omega)
 obtain⟨M,q4,q5,q6,f,T⟩:=Zjg hv h7 hl I hL L.length 0 (M0 w L) p4 none none Zkp (by omega) (by omega);rw[Nat.zero_add]at T;refine⟨L,M,?_,I,hL,hbeg,T⟩;have hok1:okR 1=true:=rfl;have hok:okR ((L.length:Int)+1)=true:=by
  have:=ZcL (n:=L.length+1) (by omega)
  rwa [show((L.length+1:Nat):Int)=(L.length:Int)+1 by omega]at this
 have hr:ZbT 1 ((L.length:Int)+1-1).toNat=(ZCl 1 L.length).map dN:=by rw[show((L.length:Int)+1-1).toNat=L.length by omega,Zrq]
 show Zar (Zem [some (.pl w.d),some (.pl (tupI ls)),none,none,none,none,none])=_;have e:Zem [some (.pl w.d),some (.pl (tupI ls)),none,none,none,none,none]=some (.rt (.dict (Zj (encM M)))):=by
  unfold Zem;refine ZS (P:=λq=>q=_) (r':=[some (.pl w.d),some (.pl (tupI ls)),some (.pl (.list (L.map tupI))),none,none,none,none]) (by simp[hall]) ?_;refine ZS (P:=λq=>q=_) (r':=[some (.pl w.d),some (.pl (tupI ls)),some (.pl (.list (L.map tupI))),some (.ot (encM [])),none,none,none]) (by simp[encM]) ?_;refine ZS (P:=λq=>q=_) (r':=[some (.pl w.d),some (.pl (tupI ls)),some (.pl (.list (L.map tupI))),some (.ot (encM (M0 w L))),p4,none,none]) (by simp[hLb,e0,M0]) ?_;refine ZS (P:=λq=>q=_) (r':=[some (.pl w.d),some (.pl (tupI ls)),some (.pl (.list (L.map tupI))),some (.ot (encM M)),q4,q5,q6]) ?_ (by simp);have f':Z4 5 Zcc ((ZCl 1 L.length).map dN) [some (.pl w.d),some (.pl (tupI ls)),some (.pl (.list (L.map tupI))),some (.ot (encM (M0 w L))),p4,none,none]=some (.nx [some (.pl w.d),some (.pl (tupI ls)),some (.pl (.list (L.map tupI))),some (.ot (encM M)),q4,q5,q6]):=f;have ei:Zjy (eC (.int 1)) (op2 Zbi (Zaz (Zo 2)) (eC (.int 1))) [some (.pl w.d),some (.pl (tupI ls)),some (.pl (.list (L.map tupI))),some (.ot (encM (M0 w L))),p4,none,none]=some ((ZCl 1 L.length).map dN):=by simp[hok1,hok];rw[show((L.length:Int)+1-1).toNat=L.length by omega]at hr;exact hr
  unfold Zbd;rw[ei];dsimp only;rw[if_pos (by rw[Zyt,List.length_range']; exact hLb)];exact f'
 rw[e];rfl
end
def Zoh(w:Wk)(ls:List Int)(n:Nat):Prop:=∀p∈Zp w ls w.beg,Win w ls n p=true
def Few(w:Wk)(ls:List Int)(d:D):Prop:=(∃n:Nat,d=.int n/\Zoh w ls n/\∀m,m<n->¬Zoh w ls m)\/(d=.none/\∀n,¬Zoh w ls n)
section
variable{w:Wk}(hv:Wk.V w)(h7:w.many<=7){ls:List Int}(hl:Cr w.looks.length ls)
include hv h7 hl
theorem ZmW:∃d,Zbo [w.d,tupI ls]=some d/\Few w ls d:=by
 obtain⟨L,M,hco,I,hL,hbeg,T⟩:=Zo3 hv h7 hl;have hlen:=I.len h7;have hs:=Zds hv hl hv.bc;have hbl:=hv.bc.len;have hsb:(ZH w ls w.beg).length<1000000:=by unfold ZH;rw[Zyt,(Za3 _).length_eq,Zyt];have:=ZfE _ _ _ (ZcM (Zy w ls) w.beg);omega
 have hlook:∀p∈Zp w ls w.beg,Zh M p=Zcy w ls L.length p:=λp hp=>by rw[T.look,if_pos (hbeg p hp)]
 have e1:∀r:HM.Env,r[2]?=some (some (.pl (.dict (Zj (encM M)))))->Zch Zaa (Zjj (Zo 4) (Zb 1) (eC (.int 999))) r ((ZH w ls w.beg).map Z3)=some (((Zp w ls w.beg).map λp=>(Zh M p).getD 999).map dI):=λr r2=>by
  have e:=Zeb (c:=Zaa) (e:=Zjj (Zo 4) (Zb 1) (eC (.int 999))) (r:=r) (λp:List Int × List Int=>tupI p.1) (λp=>tupI p.2) (λ_=>true) (λp=>dI ((Zh M p.2).getD 999)) (ZH w ls w.beg) (λp _=>rfl) (λp _ _=>by
   have hk:ZaN (tupI p.2)=some (Zac p.2):=ZaD p.2;have hlk:=Zco M p.2;cases hq:Zh M p.2 with
   | none=>rw[hq]at hlk; simp[r2,dec_enc,hk,hlk]
   | some k=>rw[hq]at hlk; simp[r2,dec_enc,hk,hlk])
  rw[ZAf.mpr λ_ _=>rfl]at e;have e':((ZH w ls w.beg).map λp:List Int × List Int=>Zzn [tupI p.1,tupI p.2])=(ZH w ls w.beg).map Z3:=rfl;rw[<-e',e];unfold Zp;rw[ZyP,ZyP];rfl
 have hne:(Zp w ls w.beg).map (λp=>(Zh M p).getD 999)≠[]:=λe=>Zgt hv.b1 (List.map_eq_nil_iff.mp e);obtain⟨m,hm⟩:∃m,((Zp w ls w.beg).map λp=>(Zh M p).getD 999).max?=some m:=by
  cases q:((Zp w ls w.beg).map λp=>(Zh M p).getD 999).max? with
  | none=>rw[ZB2]at q; exact absurd q hne
  | some m=>exact⟨m,rfl⟩
 obtain⟨m1,m2⟩:=ZBe.mp hm;have i0:Zbc (.pl w.d)=some [Zy6 w.many,.tuple (w.deeds.map ZN),.tuple (w.looks.map tupI),tupI w.beg,tupI w.goal]:=rfl;have ecs:∀tl:Option D,Zfi [some (.pl w.d),some (.pl (tupI ls)),none,none]=(if m=999 then some (.rt .none)else some (.rt (.int m))):=λ_=>by
  unfold Zfi;refine ZS (P:=λq=>q=_) (r':=[some (.pl w.d),some (.pl (tupI ls)),some (.pl (.dict (Zj (encM M)))),none]) (by simp[hco]) ?_;refine ZS (P:=λq=>q=_) (r':=[some (.pl w.d),some (.pl (tupI ls)),some (.pl (.dict (Zj (encM M)))),some (.ol (((Zp w ls w.beg).map λp=>(Zh M p).getD 999).map dI))]) (by simp[i0,hs,hsb,e1,-Zbc]; simp[hs,hsb,e1]) ?_;generalize hcs:(Zp w ls w.beg).map (λp=>(Zh M p).getD 999)=cs at *
  by_cases hq:m=999
  ·rw[if_pos hq]
   subst hq;simp[ZbN,hm]
  ·rw[if_neg hq]
   have hq':(m==999)=false:=by simp[hq]
   simp[ZbN,hm,hq']
 have hend:Zbo [w.d,tupI ls]=Zar (if m=999 then some (.rt .none)else some (.rt (.int m))):=by rw[<-ecs none];rfl
 by_cases hq:m=999
 ·rw[if_pos hq]at hend
  refine⟨.none,hend,.inr ⟨rfl,λn hn=>?_⟩⟩;subst hq;obtain⟨p,hp,e⟩:=ZyC.mp m1;rw[hlook p hp]at e;have hwin:Win w ls L.length p=true:=Zp3 hL (hbeg p hp) (hn p hp);rw[<-Zcn]at hwin;obtain⟨k,hk⟩:=Zy4.mp hwin;obtain⟨j,rfl,hj,_⟩:=Zez hk;rw[hk]at e;have:((j:Nat):Int)=999:=e;omega
 ·rw[if_neg hq]at hend
  have hall:∀p∈Zp w ls w.beg,∃n:Nat,Zh M p=some (n:Int)/\(n:Int)<=m/\Win w ls n p=true/\∀j,j<n->Win w ls j p=false:=λp hp=>by
   have hle:=m2 _ (ZyC.mpr ⟨p,hp,rfl⟩);cases hk:Zh M p with
   | none =>
    rw[hk]at hle;have hle:(999:Int)<=m:=hle;obtain⟨p',hp',e⟩:=ZyC.mp m1;cases hk':Zh M p' with
    | none=>rw[hk']at e; exact absurd e.symm hq
    | some k'=>rw[hk']at e;rw[hlook p' hp']at hk';obtain⟨j,rfl,hj,_⟩:=Zez hk';have:((j:Nat):Int)=m:=e;omega
   | some k=>rw[hk]at hle;have hk0:=hk;rw[hlook p hp]at hk;obtain⟨n,rfl,_,h2,h3⟩:=Zez hk;exact⟨n,rfl,hle,h2,h3⟩
  obtain⟨p,hp,e⟩:=ZyC.mp m1;obtain⟨n,k1,k2,k3,k4⟩:=hall p hp;rw[k1]at e;have e:(n:Int)=m:=e;subst e;refine⟨_,hend,.inl ⟨n,rfl,λq hq'=>?_,λj hj hw=>?_⟩⟩
  ·obtain⟨n',a1,a2,a3,_⟩:=hall q hq'
   exact Zgp (by omega) a3
  ·have:=hw p hp
   rw[k4 j hj]at this;cases this
end
end HG5
namespace HG5
open PySem HM HG
def ZqB:SF :=
 (ZG (eIx (Zo 0) (eC (.int 4))))
def Zdz:List D->Option D:=fnOf 1 1 ZqB
def ZjY:SF :=
 (ZG (ZiT (ZQ (Zaf (bOf (Zb 1))) Zaa (ZoQ (Zb 0) (bOf (Zn Zdz (Zd (Zb 1) Zm)))))))
def ZbB:List D->Option D:=fnOf 2 2 ZjY
def ZiI:SF :=
 (ZG (eOf (ZQ (Zaf (bOf (Zb 0))) Zaa (eIx (Zo 0) (eC (.int 1))))))
def ZO:List D->Option D:=fnOf 1 1 ZiI
def Zb4(ap:AP):SF :=
 (Zjs 3 (Zjo ZO (Zd (eIx (Zo 5) (eC (.int 1))) Zm)))
def Zbv(ap:AP):SF :=
 (Zs (Zul 4 3)
  (sIf (tV (Zcg (Zb 4) (Zo 2))) (Zs (Zhl 2 (Zb 4) (Zgv ap 1 (Zd (Zb 4) Zm)))
  (Zbd 5 (Zaf (bOf (Zbt (Zo 2) (Zb 4)))) (Zb4 ap))) Zal))
def Zdc(ap:AP):SF :=
 (Zs (ZT 2 fDt)
  (Zs (ZT 3 (ZhE (Zo 0)))
  (Zs (Zlg 100000 (tV (op2 gGt (Zaz (Zo 3)) (eC (.int 0)))) (Zbv ap))
  (ZeG 2 (ZG (Zb 2))))))
def ZbL(ap:AP):List D->Option D:=fnOf 2 6 (Zdc ap)
def Zfj(ap:AP):SF :=
 (Zs (ZT 3 (ZQ (Zaf (bOf (Zb 0))) Zaa (Zgv ap 3 (Zd (Zb 0) (Zd (Zb 2) Zm)))))
  (ZeG 3 (ZG (ZfO (ZQ (Zaf (bOf (Zb 3))) (tV (op2 ZeD (Zb 0) (eC .none))) (Zb 0))))))
def ZbM(ap:AP):List D->Option D:=fnOf 3 4 (Zfj ap)
def Z6(ap:AP):SF :=
 (sIf (tV (Zcg (Zb 4) (Zo 1))) (Zs (Z2 5 (Zn (ZbM ap) (Zd (Zbt (Zo 0) (Zb 4)) (Zd (Zb 1) (Zd (Zb 2) Zm)))))
  (sIf (tV (op2 ZeD (Zb 5) (eC .none))) (Zhl 3 (Zb 4) (Zb 5)) Zal)) Zal)
def Zbq(ap:AP):List D->Option (List (List Ky × D)):=newOf 3 6
 (ZkA (ZT 3 fDt)
 (ZkA (Ze4 0 (Zbd 4 (Zbb 0) (Z6 ap)))
 (ZoH 3)))
def Zdj(ap:AP):SF :=
 (Zhl 3 (Zb 6) (Zb 4))
def Zdk(ap:AP):SF :=
 (Zs (ZeG 5 (Zbd 6 (Zaf (bOf (Zb 5))) (Zdj ap)))
  (Zs (ZT 7 (ZiS (Zbq ap) (Zd (Zb 1) (Zd (Znc (Zo 3)) (Zd (Zb 2) Zm)))))
  (Zs (ZeG 7 (Ze4 7 (Z2 4 (ZfO (ZQ (Zbb 7) Zaa (Zbt (Zo 8) (Zb 0)))))))
  (ZeG 7 (Ze4 7 (ZT 5 (ZQ (Zbb 7) (tV (op2 gEq (Zbt (Zo 8) (Zb 0)) (Zb 5))) (Zb 0))))))))
def ZeY(ap:AP):SF :=
 (Zs (ZT 3 fDt)
  (Zs (Z2 4 (eC (.int 0)))
  (Zs (Ze4 1 (ZT 5 (ZQ (Zbb 1) (tV (Zn ZbB (Zd (Zb 1) (Zd (Zb 0) Zm)))) (Zb 0))))
  (Zs (Zlg 100000 (tV (op2 gGt (Zaz (Zo 5)) (eC (.int 0)))) (Zdk ap))
  (ZeG 3 (ZG (Zb 3)))))))
def Zc2(ap:AP):List D->Option D:=fnOf 3 8 (ZeY ap)
def ZdX:SF :=
 (Zs (ZT 2 (ZQ (Zaf (bOf (Zn ZO (Zd (Zb 0) Zm)))) (tV (ZoZ (Zb 0) (Zo 2))) (Zbt (Zo 2) (Zb 0))))
  (ZG (eIf (tV (op2 gEq (Zaz (Zo 2)) (Zaz (Zo 0)))) (Zij (Zo 2)) (eC .none))))
def Zag:List D->Option D:=fnOf 2 3 ZdX
def ZiJ:SF :=
 (ZG (eOf (ZQ (Zaf (bOf (Zn Zbm (Zd (Zb 0) (Zd (Zb 2) Zm))))) Zaa (ZeA (Zd (Zb 0) (Zd (Zn Za9 (Zd (Zb 1) (Zd (Zb 2) (Zd (Zn Zcl (Zd (Zb 1) (Zd (Zb 3) (Zd (Zb 0) Zm)))) Zm)))) Zm))))))
def Za1:List D->Option D:=fnOf 3 3 ZiJ
def ZeJ(ap:AP):SF :=
 (ZG (ZhZ (ZbL ap) 1 [0,1] (Zn ZO (Zd (Zn Za9 (Zd (Zb 0) (Zd (Zb 1) (Zd (Zb 2) Zm)))) Zm))))
def ZcG(ap:AP):List D->Option D:=fnOf 3 3 (ZeJ ap)
def ZgZ:SF :=
 (Zs (Z2 2 (Zn Zag (Zd (eIx (Zo 0) (eC (.int 1))) (Zd (Zb 1) Zm))))
  (ZG (eIf (tV (op2 ZoD (Zb 2) (eC .none))) (eC .none) (op2 Zbi (Zb 2) (eC (.int 1))))))
def Zc3:List D->Option D:=fnOf 2 3 ZgZ
def Zf1(ap:AP):SF :=
 (ZG (Zn (Zc2 ap) (Zd (Zb 0) (Zd (Zb 1) (Zd (eC (fnD 0 [])) Zm)))))
def Zdl(ap:AP):List D->Option D:=fnOf 2 2 (Zf1 ap)
end HG5
namespace HG5
open PySem HM HG HG4
theorem Zx8(w:Wk):Zbc (.pl w.d)=some [Zy6 w.many,.tuple (w.deeds.map ZN),.tuple (w.looks.map tupI),tupI w.beg,tupI w.goal]:=rfl
theorem Zrk(w:Wk):Zdz [w.d]=some (tupI w.goal):=rfl
theorem Ztx{α:Type}(xs:List α)(p:α->Bool):Ze9 (xs.map λx=>ZzU (p x))=some (xs.map p):=by
 have:=ZfL (xs.map p)
 rwa [ZyP]at this
theorem ZpV{w:Wk}{c:List Int}(hc:c.length<1000):ZbB [w.d,tupI c]=some (.bool (Z0 w c)):=by
 have hb:c.length<1000000:=by omega
 have e:∀r:HM.Env,r[0]?=some (some (.pl w.d))->ZaG Zaa (ZoQ (Zb 0) (bOf (Zn Zdz (Zd (Zb 1) Zm)))) r (c.map dI)=some (c.map λs=>ZzU (w.goal.contains s)):=λr r0=>by
  rw[Zby dI (λs=>ZzU (w.goal.contains s))]
  ·intro s _
   simp[r0,Zrk,Zof,ZbN,-ZAc]
 simp[ZbB,ZjY,hb,e,Ztx,Z0,-ZAc]
theorem Zgj(g:Gs)(h:g.length<1000000):ZO [.list (g.map Z3)]=some (.list ((g.map (·.2)).map tupI)):=by
 have e:∀r:HM.Env,ZaG Zaa (eIx (Zo 0) (eC (.int 1))) r (g.map Z3)=some ((g.map (·.2)).map tupI):=λr=>by
  rw[Zby Z3 (λp=>tupI p.2),ZyP]
  ·rfl
  ·intro p _
   rfl
 simp[ZO,ZiI,h,e]
def Zq6(w:Wk)(ls c:List Int)(d:Int):D:=.tuple [dI d,.list ((ZH w ls (ZB w c d)).map Z3)]
def Zm9(w:Wk)(ls c:List Int):D:=.list ((doV w c).map (Zq6 w ls c))
theorem split_len{w:Wk}{ls c:List Int}:(ZH w ls c).length<=c.length:=by unfold ZH;rw[Zyt,(Za3 _).length_eq,Zyt];exact ZfE _ _ _ (ZcM (Zy w ls) c)
theorem ZlX(w:Wk)(c:List Int):(doV w c).length<=w.deeds.length:=by
 unfold doV;rw[Zyt];have:=Zzm (λ(d:Nat)=>Z9 w c (d:Int)) (ZyA w.deeds.length)
 rwa [ZAw]at this
theorem Zqo{w:Wk}{c:List Int}{d:Nat}(hd:d<w.deeds.length)(hc:Z9 w c d=true):(d:Int)∈doV w c:=by unfold doV;exact ZyC.mpr ⟨d,Zy2.mpr ⟨ZyS.mpr hd,hc⟩,rfl⟩
section
variable{w:Wk}(hv:Wk.V w){ls:List Int}(hl:Cr w.looks.length ls)
include hv hl
theorem Zn3{c:List Int}(hc:Cr w.many c):Za1 [w.d,tupI ls,tupI c]=some (Zm9 w ls c):=by
 have hdo:=Ziv hv hc;have hb:(doV w c).length<1000000:=by have:=ZlX w c; have:=hv.d2; omega
 have e:∀r:HM.Env,r[0]?=some (some (.pl w.d))->r[1]?=some (some (.pl (tupI ls)))->r[2]?=some (some (.pl (tupI c))) ->
   ZaG Zaa (ZeA (Zd (Zb 0) (Zd (Zn Za9 (Zd (Zb 1) (Zd (Zb 2) (Zd (Zn Zcl (Zd (Zb 1) (Zd (Zb 3) (Zd (Zb 0) Zm)))) Zm)))) Zm))) r ((doV w c).map dI)=some ((doV w c).map (Zq6 w ls c)):=λr r0 r1 r2=>by
  rw[Zby dI (Zq6 w ls c)];intro d hd;obtain⟨d0,d1,_⟩:=Zd2 hd;have h1:=Zmf hv hc d0 d1;have h2:=Zi2 hv hl (Zc8 hv hc d0 d1);simp[r0,r1,r2,h1,h2,Zq6]
 simp[Za1,ZiJ,hdo,hb,e,Zm9]
end
end HG5
namespace HG5
open PySem HM HG HG4
abbrev Wy:=D × Gs
def wyD(y:Wy):D:=.tuple [y.1,.list (y.2.map Z3)]
def wyP(y:Wy):List (List Int):=y.2.map (·.2)
abbrev Wf:=List Int->List Wy
inductive ZlZ(wf:Wf)(B:List (List Int)):List Int->Prop where
 | beg {p:List Int} (h:p∈B):ZlZ wf B p
 | step {c p:List Int} {y:Wy} (r:ZlZ wf B c) (hy:y∈wf c) (h:p∈wyP y):ZlZ wf B p
structure Zhe(wf:Wf)(Ok:List Int->Prop)(B C W:List (List Int)):Prop where
 nd:C.Nodup
 cr:∀c∈C,Ok c
 wr:∀c∈W,Ok c
 rc:∀c∈C,ZlZ wf B c
 rw:∀c∈W,ZlZ wf B c
 cl:∀c∈C,∀y∈wf c,∀p∈wyP y,p∈C\/p∈W
 bg:∀p∈B,p∈C\/p∈W
def Zx(wf:Wf)(C:List (List Int)):List (List Ky × D):=C.map λc=>(Zac c,.list ((wf c).map wyD))
theorem Zi3(wf:Wf)(C:List (List Int))(k:List Int):Zh (Zx wf C) (Zac k)=if k∈C then some (.list ((wf k).map wyD))else none:=by
 unfold Zh Zx
 induction C with
 | nil=>rfl
 | cons c C ih =>
  rw[Zyz,Zzs]
  by_cases h:c=k
  ·subst h
   rw[if_pos (Zyw ..)];simp
  ·have h':decide ((Zac c,(PyData.list ((wf c).map wyD))).1=Zac k)=false:=decide_eq_false λe=>h (Zgz e)
   rw[h'];dsimp only;rw[ih]
   by_cases q:k∈C
   ·rw[if_pos q,if_pos (Zyx _ q)]
   ·rw[if_neg q,if_neg λz=>by
     rcases ZyR.mp z with e | e
     ·exact h e.symm
     ·exact q e]
theorem ZtH{wf:Wf}{C:List (List Int)}{k:List Int}(h:k ∉ C):putD (Zx wf C) (Zac k) (.list ((wf k).map wyD))=Zx wf (C++[k]):=by
 unfold putD;rw[if_neg]
 ·unfold Zx
  rw[Zy8];rfl
 ·intro z
  obtain⟨p,hp,e⟩:=ZzA.mp z;unfold Zx at hp;obtain⟨c,hc,rfl⟩:=ZyC.mp hp;have e:=Zgz (of_decide_eq_true e);subst e;exact h hc
theorem Zmp(wf:Wf)(L:List (List Int)):((Zx wf L).map λp=>Zzn (p.1.map ZaH))=L.map tupI:=by unfold Zx;rw[ZyP];refine ZzZ λc _=>?_;show Zzn ((c.map ZAk).map ZaH)=Zzn (c.map dI);rw[ZyP];rfl
def ZlC(wf:Wf)(c:List Int):List (List Int):=(wf c).flatMap wyP
theorem Zhe.old{wf:Wf}{Ok:List Int->Prop}{B C V:List (List Int)}{p:List Int}(I:Zhe wf Ok B C (V++[p]))(hp:p∈C):Zhe wf Ok B C V:=by
 have key:∀q,q∈C\/q∈V++[p]->q∈C\/q∈V:=λq h=>by
  rcases h with h | h
  ·exact .inl h
  ·rcases ZyZ.mp h with h | h
   ·exact .inr h
   ·rw[ZyL.mp h]; exact .inl hp
 exact⟨I.nd,I.cr,λc h=>I.wr c (Zy9 _ h),I.rc,λc h=>I.rw c (Zy9 _ h),λc hc y hy q hq=>key q (I.cl c hc y hy q hq),λq hq=>key q (I.bg q hq)⟩
structure ZqX(wf:Wf)(Ok:List Int->Prop):Prop where
 ok:∀c,Ok c->∀y∈wf c,∀p∈wyP y,Ok p
 ys:∀c,Ok c->(wf c).length<=10
 ps:∀c,Ok c->∀y∈wf c,y.2.length<=8
 cs:∀C:List (List Int),C.Nodup->(∀c∈C,Ok c)->C.length<=128
theorem Zhe.new{wf:Wf}{Ok:List Int->Prop}(O:ZqX wf Ok){B C V:List (List Int)}{p:List Int}(I:Zhe wf Ok B C (V++[p]))(hp:p ∉ C):Zhe wf Ok B (C++[p]) (V++ZlC wf p):=by
 have hpc:=I.wr p (ZyY _ (ZyL.mpr rfl));have hpr:=I.rw p (ZyY _ (ZyL.mpr rfl));have key:∀q,q∈C\/q∈V++[p]->q∈C++[p]\/q∈V++ZlC wf p:=λq h=>by
  rcases h with h | h
  ·exact .inl (Zy9 _ h)
  ·rcases ZyZ.mp h with h | h
   ·exact .inr (Zy9 _ h)
   ·exact .inl (ZyY _ h)
 refine⟨?_,λc h=>?_,λc h=>?_,λc h=>?_,λc h=>?_,λc h y hy q hq=>?_,λq hq=>key q (I.bg q hq)⟩
 ·rw[ZAP]
  refine⟨I.nd,by simp,λx hx y hy e=>?_⟩;rw[ZyL.mp hy]at e;exact hp (e▸hx)
 ·rcases ZyZ.mp h with h | h
  ·exact I.cr c h
  ·rw[ZyL.mp h]; exact hpc
 ·rcases ZyZ.mp h with h | h
  ·exact I.wr c (Zy9 _ h)
  ·obtain⟨y,hy,hq⟩:=ZAW.mp h
   exact O.ok p hpc y hy c hq
 ·rcases ZyZ.mp h with h | h
  ·exact I.rc c h
  ·rw[ZyL.mp h]; exact hpr
 ·rcases ZyZ.mp h with h | h
  ·exact I.rw c (Zy9 _ h)
  ·obtain⟨y,hy,hq⟩:=ZAW.mp h
   exact .step hpr hy hq
 ·rcases ZyZ.mp h with h | h
  ·exact key q (I.cl c h y hy q hq)
  ·rw[ZyL.mp h]at hy
   exact .inr (ZyY _ (ZAW.mpr ⟨y,hy,hq⟩))
theorem Ztp{wf:Wf}{Ok:List Int->Prop}(O:ZqX wf Ok){c:List Int}(hc:Ok c):(ZlC wf c).length<=80:=by
 have key:∀ys:List Wy,(∀y∈ys,y∈wf c)->(ys.flatMap wyP).length<=8*ys.length:=by
  intro ys
  induction ys with
  | nil=>intro _; exact ZyB 0
  | cons y ys ih =>
   intro h;rw[List.flatMap_cons,ZyM,ZyI];have h1:=ih λx hx=>h x (Zyx _ hx);have h2:=O.ps c hc y (h y (Zyw ..));have h3:(wyP y).length=y.2.length:=by unfold wyP; rw[Zyt]
   omega
 have h1:=key (wf c) λ_ h=>h;have h2:=O.ys c hc;unfold ZlC;omega
theorem ZsH(ap:AP)(e0 e1 e2 e4:Option B):∀(ys:List Wy) (W:List (List Int)) (o:Option B),(∀y∈ys,y.2.length<=8)->W.length+8*ys.length<900000 ->
  ∃o',Z4 5 (Zb4 ap) (ys.map wyD) [e0,e1,e2,some (.ol (W.map tupI)),e4,o]=some (.nx [e0,e1,e2,some (.ol ((W++ys.flatMap wyP).map tupI)),e4,o'])
 | [],W,o,_,_=>⟨o,by rw[List.flatMap_nil,Zy7]; rfl⟩
 | y::ys,W,o,hds,hlen=>by
  rw[ZyI]at hlen;have hb:=hds y (Zyw ..);have hci:=Zgj y.2 (by omega);have hpl:(wyP y).length<=8:=by unfold wyP; rw[Zyt]; exact hb
  have body:Zb4 ap [e0,e1,e2,some (.ol (W.map tupI)),e4,some (.pl (wyD y))]=some (.nx [e0,e1,e2,some (.ol ((W++wyP y).map tupI)),e4,some (.pl (wyD y))]):=by
   have h1:Zjo ZO (Zd (eIx (Zo 5) (eC (.int 1))) Zm) [e0,e1,e2,some (.ol (W.map tupI)),e4,some (.pl (wyD y))]=some (.ol ((wyP y).map tupI)):=by unfold Zjo;show(match ZO [.list (y.2.map Z3)]with | some (.list ys)=>some (B.ol ys) | _=>none)=_;rw[hci];rfl
   unfold Zb4 Zjs;rw[h1];show(if _ then _ else _)=_;rw[if_pos (by rw[Zyt,Zyt]; show _<1000000; omega),Zy8];rfl
  obtain⟨o',ih⟩:=ZsH ap e0 e1 e2 e4 ys (W++wyP y) (some (.pl (wyD y))) (λx hx=>hds x (Zyx _ hx)) (by rw[ZyM]; omega);refine⟨o',?_⟩;rw[List.flatMap_cons,<-ZzK,<-ih,Zyz];show(match Zb4 ap [e0,e1,e2,some (.ol (W.map tupI)),e4,some (.pl (wyD y))]with | some (.nx r')=>_ | some (.ct r')=>_ | some (.bk r')=>_ | some (.rt d)=>_ | none=>_)=_;rw[body]
theorem Zj7(wf:Wf)(C:List (List Int))(p:List Int)(r:HM.Env)(i j:Nat)(h1:r[i]?=some (some (.pl (tupI p))))(h2:r[j]?=some (some (.ot (Zx wf C)))):tV (Zcg (Zb i) (Zo j)) r=some (!decide (p∈C)):=by
 have hk:ZaN (tupI p)=some (Zac p):=ZaD p;have hlk:=Zi3 wf C p
 by_cases hp:p∈C
 ·rw[if_pos hp]at hlk
  simp[h1,h2,hk,hlk,hp]
 ·rw[if_neg hp]at hlk
  simp[h1,h2,hk,hlk,hp]
theorem Zqv(t:Nat)(cs:List D):ZlY (fnD t cs)=some (t,cs):=rfl
section
variable{ap:AP}{wf:Wf}{Ok:List Int->Prop}(O:ZqX wf Ok){t:Nat}{cs:List D}(ha:∀c,Ok c->ap t cs [tupI c]=some (.list ((wf c).map wyD)))
include O ha
omit ha O in
theorem Zti{C V:List (List Int)}{p:List Int}(e0 e1 o4 o5:Option B)(hp:p∈C) :
  Zbv ap [e0,e1,some (.ot (Zx wf C)),some (.ol ((V++[p]).map tupI)),o4,o5]=some (.nx [e0,e1,some (.ot (Zx wf C)),some (.ol (V.map tupI)),some (.pl (tupI p)),o5]):=by
 unfold Zbv;refine ZS (P:=λq=>q=_) (r':=[e0,e1,some (.ot (Zx wf C)),some (.ol (V.map tupI)),some (.pl (tupI p)),o5]) ?_ ?_
 ·rw[Zy8]
  simp
 ·have ht:=Zj7 wf C p [e0,e1,some (.ot (Zx wf C)),some (.ol (V.map tupI)),some (.pl (tupI p)),o5] 4 2 rfl rfl
  rw[decide_eq_true hp]at ht;unfold sIf;rw[ht];rfl
theorem ZtZ{C V:List (List Int)}{p:List Int}(e0 o4 o5:Option B)(hp:p ∉ C)(hc:Ok p)(hC:C.length<1000)(hV:V.length<100000) :
  ∃o5',Zbv ap [e0,some (.pl (fnD t cs)),some (.ot (Zx wf C)),some (.ol ((V++[p]).map tupI)),o4,o5]=some (.nx [e0,some (.pl (fnD t cs)),some (.ot (Zx wf (C++[p]))),some (.ol ((V++ZlC wf p).map tupI)),some (.pl (tupI p)),o5']):=by
 have hdl:=O.ys p hc;obtain⟨o5',go⟩:=ZsH ap e0 (some (.pl (fnD t cs))) (some (.ot (Zx wf (C++[p])))) (some (.pl (tupI p))) (wf p) V o5 (λy hy=>O.ps p hc y hy) (by omega);refine⟨o5',?_⟩;unfold Zbv;refine ZS (P:=λq=>q=_) (r':=[e0,some (.pl (fnD t cs)),some (.ot (Zx wf C)),some (.ol (V.map tupI)),some (.pl (tupI p)),o5]) ?_ ?_
 ·rw[Zy8]
  simp
 ·have ht:=Zj7 wf C p [e0,some (.pl (fnD t cs)),some (.ot (Zx wf C)),some (.ol (V.map tupI)),some (.pl (tupI p)),o5] 4 2 rfl rfl
  rw[decide_eq_false hp]at ht;unfold sIf;rw[ht];show Zs _ _ _=_;have hk:ZaN (tupI p)=some (Zac p):=ZaD p;have hww:=ha p hc;have hcl:(Zx wf C).length<1000000:=by unfold Zx; rw[Zyt]; omega
  refine ZS (P:=λq=>q=_) (r':=[e0,some (.pl (fnD t cs)),some (.ot (Zx wf (C++[p]))),some (.ol (V.map tupI)),some (.pl (tupI p)),o5]) ?_ ?_
  ·rw[<-ZtH hp]
   have hv:Zgv ap 1 (Zd (Zb 4) Zm) [e0,some (.pl (fnD t cs)),some (.ot (Zx wf C)),some (.ol (V.map tupI)),some (.pl (tupI p)),o5]=some (.list ((wf p).map wyD)):=by unfold Zgv;show(match ZlY (fnD t cs)with | some (t,cs)=>_ | none=>none)=_;rw[Zqv];exact hww
   unfold Zhl;rw[hv];show(match ZaN (tupI p)with | some y=>_ | none=>none)=_;rw[hk];dsimp only;rw[if_pos (show _<big from hcl)];rfl
  ·have hlk:=Zi3 wf (C++[p]) p
   rw[if_pos (ZyY _ (ZyL.mpr rfl))]at hlk;have hi:Zaf (bOf (Zbt (Zo 2) (Zb 4))) [e0,some (.pl (fnD t cs)),some (.ot (Zx wf (C++[p]))),some (.ol (V.map tupI)),some (.pl (tupI p)),o5]=some ((wf p).map wyD):=by simp[hk,hlk]
   unfold Zbd;rw[hi];dsimp only;rw[if_pos (by rw[Zyt]; show _<1000000; omega)];exact go
theorem ZeO(B:List (List Int))(e0:Option HM.B):∀(fuel:Nat) (C W:List (List Int)) (o4 o5:Option HM.B),Zhe wf Ok B C W->(128-C.length)*81+W.length<fuel->(128-C.length)*81+W.length<60000 ->
  ∃C' o4' o5',ZaY (tV (op2 gGt (Zaz (Zo 3)) (eC (.int 0)))) (Zbv ap) fuel [e0,some (.pl (fnD t cs)),some (.ot (Zx wf C)),some (.ol (W.map tupI)),o4,o5]=some (.nx [e0,some (.pl (fnD t cs)),some (.ot (Zx wf C')),some (.ol []),o4',o5'])/\Zhe wf Ok B C' []
 | 0,C,W,o4,o5,I,h,_=>by omega
 | fuel+1,C,W,o4,o5,I,h,hW=>by
  have hlen:=O.cs C I.nd I.cr
  by_cases hw:W=[]
  ·subst hw
   refine⟨C,o4,o5,?_,I⟩;unfold ZaY;have ht:(tV (op2 gGt (Zaz (Zo 3)) (eC (.int 0)))) [e0,some (.pl (fnD t cs)),some (.ot (Zx wf C)),some (.ol (([]:List (List Int)).map tupI)),o4,o5]=some false:=by simp
   rw[ht];rfl
  ·obtain⟨V,p,rfl⟩:∃V p,W=V++[p]:=⟨W.dropLast,W.getLast hw,(List.dropLast_concat_getLast hw).symm⟩
   rw[ZyM,Zz2]at h hW;have ht:(tV (op2 gGt (Zaz (Zo 3)) (eC (.int 0)))) [e0,some (.pl (fnD t cs)),some (.ot (Zx wf C)),some (.ol ((V++[p]).map tupI)),o4,o5]=some true:=by simp
   by_cases hp:p∈C
   ·obtain⟨C',o4',o5',g,J⟩:=ZeO B e0 fuel C V (some (.pl (tupI p))) o5 (I.old hp) (by omega) (by omega)
    refine⟨C',o4',o5',?_,J⟩;unfold ZaY;rw[ht];dsimp only;rw[Zti e0 _ o4 o5 hp];exact g
   ·have hpc:=I.wr p (ZyY _ (ZyL.mpr rfl))
    have J0:=I.new O hp;have hl2:=O.cs _ J0.nd J0.cr;rw[ZyM,Zz2]at hl2;have hbl:=Ztp O hpc;obtain⟨q5,e⟩:=ZtZ O ha (V:=V) e0 o4 o5 hp hpc (by omega) (by omega);obtain⟨C',o4',o5',g,J⟩:=ZeO B e0 fuel (C++[p]) (V++ZlC wf p) (some (.pl (tupI p))) q5 J0 (by rw[ZyM,ZyM,Zz2]; omega) (by rw[ZyM,ZyM,Zz2]; omega);refine⟨C',o4',o5',?_,J⟩;unfold ZaY;rw[ht];dsimp only;rw[e];exact g
theorem ZqZ{B:List (List Int)}(hB:∀c∈B,Ok c)(hl:B.length<=100):∃L,ZbL ap [.list (B.map tupI),fnD t cs]=some (.dict (Zj (Zx wf L)))/\Zhe wf Ok B L []:=by
 have I0:Zhe wf Ok B [] B:=⟨.nil,λc h=>(by simp at h),hB,λc h=>(by simp at h),λc h=>.beg h,λc h=>(by simp at h),λp h=>.inr h⟩;obtain⟨L,o4,o5,g,J⟩:=ZeO O ha B (some (.pl (.list (B.map tupI)))) 100000 [] B none none I0 (by simp; omega) (by simp; omega);refine⟨L,?_,J⟩;show Zar (Zdc ap [some (.pl (.list (B.map tupI))),some (.pl (fnD t cs)),none,none,none,none])=_;have e:Zdc ap [some (.pl (.list (B.map tupI))),some (.pl (fnD t cs)),none,none,none,none]=some (.rt (.dict (Zj (Zx wf L)))):=by unfold Zdc;refine ZS (P:=λq=>q=_) (r':=[some (.pl (.list (B.map tupI))),some (.pl (fnD t cs)),some (.ot (Zx wf [])),none,none,none]) rfl ?_;refine ZS (P:=λq=>q=_) (r':=[some (.pl (.list (B.map tupI))),some (.pl (fnD t cs)),some (.ot (Zx wf [])),some (.ol (B.map tupI)),none,none]) rfl ?_;refine ZS (P:=λq=>q=_) g ?_;simp
 rw[e];rfl
end
theorem Zea(n:Nat)(p:List Int):noF (n+1) (tupI p)=true:=by show(p.map dI).all (noF n)=true;rw[List.all_map];exact ZyD.mpr λx _=>by cases n<;>rfl
theorem ZuW(n:Nat)(i:Int):noF n (.int i)=true:=by cases n<;>rfl
theorem Zed{n:Nat}{ds:List D}(h:∀d∈ds,noF n d=true):noF (n+1) (.tuple ds)=true:=ZyD.mpr h
theorem ZoY{n:Nat}{ds:List D}(h:∀d∈ds,noF n d=true):noF (n+1) (.list ds)=true:=ZyD.mpr h
theorem ZtG(n:Nat)(p:List Int × List Int):noF (n+2) (Z3 p)=true:=Zed λd hd=>by
 rcases ZyR.mp hd with e | hd
 ·subst e; exact Zea n _
 ·rw[ZyL.mp hd]; exact Zea n _
theorem ZwZ{n:Nat}{y:Wy}(h:noF (n+3) y.1=true):noF (n+4) (wyD y)=true:=Zed λd hd=>by
 rcases ZyR.mp hd with e | hd
 ·subst e; exact h
 ·rw[ZyL.mp hd]
  exact ZoY λd hd=>by obtain⟨p,_,rfl⟩:=ZyC.mp hd;exact ZtG n p
theorem Zxs{wf:Wf}{n:Nat}{L:List (List Int)}(h:∀c∈L,∀y∈wf c,noF (n+3) y.1=true):noF (n+6) (.dict (Zj (Zx wf L)))=true:=by show(Zj (Zx wf L)).all _=true;refine ZyD.mpr λp hp=>?_;unfold Zj Zx at hp;rw[ZyP]at hp;obtain⟨c,hc,rfl⟩:=ZyC.mp hp;show noF (n+5) (.list ((wf c).map wyD))=true;exact ZoY λd hd=>by obtain⟨y,hy,rfl⟩:=ZyC.mp hd;exact ZwZ (h c hc y hy)
theorem Zxk(w:Wk):noF 20 w.d=true:=by
 refine Zed λd hd=>?_;have h:∀x:List (List Int),∀d∈x.map tupI,noF 17 d=true:=λx d hd=>by obtain⟨p,_,rfl⟩:=ZyC.mp hd;exact Zea 16 p
 have hd:=ZyR.mp hd;rcases hd with e | hd
 ·subst e; rfl
 rcases ZyR.mp hd with e | hd
 ·subst e
  exact Zed λd hd=>by obtain⟨x,_,rfl⟩:=ZyC.mp hd;exact Zed (h x)
 rcases ZyR.mp hd with e | hd
 ·subst e
  exact Zed λd hd=>by obtain⟨x,_,rfl⟩:=ZyC.mp hd;exact Zea 17 x
 rcases ZyR.mp hd with e | hd
 ·subst e; exact Zea 18 _
 ·rw[ZyL.mp hd]; exact Zea 18 _
end HG5
namespace HG5
open PySem HM HG HG4
def oI:Option Int->D
 | some k=>.int k
 | none=>.none
abbrev Cb:=Wy->Tb->Option Int
def ZcP(cb:Cb)(ys:List Wy)(M:Tb):Option Int:=(ys.filterMap λy=>cb y M).min?
def ZaS(wf:Wf)(cb:Cb)(L:List (List Int))(M:Tb):Tb:=L.filterMap λc=>if ZD M c then none else(ZcP cb (wf c) M).map λk=>(c,k)
def Zb9(T:Tb):Option Int:=(T.map (·.2)).min?
def Zfu(T:Tb):List (List Int):=(T.filter λp=>some p.2==Zb9 T).map (·.1)
def Zbs(found:List (List Int))(k:Int)(M:Tb):Tb:=found.foldl (λM c=>putD M c k) M
inductive Zkk(wf:Wf)(cb:Cb)(L:List (List Int)):Tb->Option Int->List (List Int)->Tb->Prop where
 | done {M:Tb} {k:Option Int}:Zkk wf cb L M k [] M
 | step {M R:Tb} {k:Int} {found:List (List Int)} (hf:found≠[]) (h:Zkk wf cb L (Zbs found k M) (Zb9 (ZaS wf cb L (Zbs found k M))) (Zfu (ZaS wf cb L (Zbs found k M))) R):Zkk wf cb L M (some k) found R
theorem Zn4:∀os:List (Option Int),ZaK ((os.filter ZBn).map oI)=some (os.filterMap id)
 | []=>rfl
 | none::os=>Zn4 os
 | some k::os=>by show(ZaK ((os.filter ZBn).map oI)).map (k::·)=_;rw[Zn4 os];rfl
theorem ZmX{ap:AP}{t:Nat}{cs:List D}{cb:Cb}{ys:List Wy}{M:Tb}(hy:ys.length<1000)(ha:∀y∈ys,ap t cs [wyD y,.dict (Zj (encM M))]=some (oI (cb y M))) :
  ZbM ap [.list (ys.map wyD),.dict (Zj (encM M)),fnD t cs]=some (oI (ZcP cb ys M)):=by
 show Zar (Zfj ap [some (.pl (.list (ys.map wyD))),some (.pl (.dict (Zj (encM M)))),some (.pl (fnD t cs)),none])=_;have hb:ys.length<big:=by show _<1000000; omega
 have e1:ZaG Zaa (Zgv ap 3 (Zd (Zb 0) (Zd (Zb 2) Zm))) [some (.pl (.list (ys.map wyD))),some (.pl (.dict (Zj (encM M)))),some (.pl (fnD t cs)),none] (ys.map wyD)=some ((ys.map λy=>cb y M).map oI):=by
  rw[Zby wyD (λy=>oI (cb y M)),ZyP]
  ·rfl
  ·intro y h
   show(match ZlY (fnD t cs)with | some (t,cs)=>_ | none=>none)=_;rw[Zqv];exact ha y h
 have e2:ZaG (tV (op2 ZeD (Zb 0) (eC .none))) (Zb 0) [some (.pl (.list (ys.map wyD))),some (.pl (.dict (Zj (encM M)))),some (.pl (fnD t cs)),some (.pl (.list ((ys.map λy=>cb y M).map oI)))] ((ys.map λy=>cb y M).map oI)=some (((ys.map λy=>cb y M).filter ZBn).map oI):=by
  rw[ZbP oI ZBn oI]
  ·intro o _
   cases o<;>rfl
  ·intro o _ _
   rfl
 unfold Zfj;refine ZS (P:=λq=>Zar q=_) (r':=[some (.pl (.list (ys.map wyD))),some (.pl (.dict (Zj (encM M)))),some (.pl (fnD t cs)),some (.ol ((ys.map λy=>cb y M).map oI))]) ?_ ?_
 ·unfold ZT ZQ
  show ZAi _ (if(ys.map wyD).length<big then _ else _)=_;rw[if_pos (by rw[Zyt]; exact hb),e1];rfl
 ·show Zar (ZAi Out.rt (ZfO _ [some (.pl (.list (ys.map wyD))),some (.pl (.dict (Zj (encM M)))),some (.pl (fnD t cs)),some (.pl (.list ((ys.map λy=>cb y M).map oI)))]))=_
  have e3:ZQ (Zaf (bOf (Zb 3))) (tV (op2 ZeD (Zb 0) (eC .none))) (Zb 0) [some (.pl (.list (ys.map wyD))),some (.pl (.dict (Zj (encM M)))),some (.pl (fnD t cs)),some (.pl (.list ((ys.map λy=>cb y M).map oI)))]=some (.ol (((ys.map λy=>cb y M).filter ZBn).map oI)):=by unfold ZQ;show(if((ys.map λy=>cb y M).map oI).length<big then _ else none)=_;rw[if_pos (by rw[Zyt,Zyt]; exact hb),e2];rfl
  unfold ZfO;rw[e3];show Zar (ZAi Out.rt (match ZaK (((ys.map λy=>cb y M).filter ZBn).map oI)with | some ns=>some (match ns.min? with | some i=>Zy6 i | none=>.none) | none=>none))=_;rw[Zn4];show some (match((ys.map λy=>cb y M).filterMap id).min? with | some i=>Zy6 i | none=>.none)=_;unfold ZcP;rw[List.filterMap_map];show some (match(ys.filterMap λy=>cb y M).min? with | some i=>Zy6 i | none=>.none)=_;cases(ys.filterMap λy=>cb y M).min?<;>rfl
theorem ZtB{M:Tb}{c:List Int}{k:Int}(h:ZD M c=false):putD M c k=M++[(c,k)]:=by unfold putD;rw[if_neg];intro z;obtain⟨p,hp,e⟩:=ZzA.mp z;have e:=of_decide_eq_true e;unfold ZD Zh at h;rw[ZzW]at h;have:(M.find? λp=>decide (p.1=c)).isSome=true:=ZCH.mpr ⟨p,hp,decide_eq_true e⟩;rw[h]at this;cases this
theorem Zrj(M N:Tb)(c:List Int):ZD (M++N) c=(ZD M c||ZD N c):=by unfold ZD Zh;rw[ZCD,ZzW,ZzW,ZzW,Option.isSome_or]
theorem Zvn{M:Tb}{c:List Int}:ZD M c=true↔∃k,(c,k)∈M:=by
 unfold ZD Zh;rw[ZzW,ZCH]
 constructor
 ·rintro ⟨⟨c',k⟩,h,e⟩
  have e:=of_decide_eq_true e;exact⟨k,by rw[<-e]; exact h⟩
 ·rintro ⟨k,h⟩
  exact⟨_,h,decide_eq_true rfl⟩
theorem Zu1{wf:Wf}{cb:Cb}{L:List (List Int)}{M:Tb}{c:List Int}{k:Int}:(c,k)∈ZaS wf cb L M↔c∈L/\ZD M c=false/\ZcP cb (wf c) M=some k:=by
 unfold ZaS;rw[Zzy]
 constructor
 ·rintro ⟨c',h1,h2⟩
  split at h2
  ·cases h2
  ·rename_i hn
   obtain⟨k',h3,h4⟩:=Zyu.mp h2;cases h4;exact⟨h1,by simpa using hn,h3⟩
 ·rintro ⟨h1,h2,h3⟩
  exact⟨c,h1,by rw[h2,h3]; rfl⟩
section
variable{ap:AP}{wf:Wf}{L:List (List Int)}{t:Nat}{cs:List D}{cb:Cb}(hnd:L.Nodup)(hlen:L.length<=128)(hys:∀c∈L,(wf c).length<1000)(ha:∀c∈L,∀y∈wf c,∀M,ap t cs [wyD y,.dict (Zj (encM M))]=some (oI (cb y M)))
include hys ha
theorem Zqy{M:Tb}:∀(K:List (List Int)) (acc:Tb) (o4 o5:Option B),(∀c∈K,c∈L)->K.Nodup->(∀c∈K,ZD acc c=false)->Zbr o4=false->Zbr o5=false->acc.length+K.length<100000 ->
  ∃p4 p5,Zbr p4=false/\Zbr p5=false/\Z4 4 (Z6 ap) (K.map tupI) [some (.hd (Zj (Zx wf L))),some (.pl (.dict (Zj (encM M)))),some (.pl (fnD t cs)),some (.ot (encM acc)),o4,o5] =
   some (.nx [some (.hd (Zj (Zx wf L))),some (.pl (.dict (Zj (encM M)))),some (.pl (fnD t cs)),some (.ot (encM (acc++ZaS wf cb K M))),p4,p5])
 | [],acc,o4,o5,_,_,_,h4,h5,_=>⟨o4,o5,h4,h5,by show some (Out.nx _)=_; rw[show ZaS wf cb [] M=[] from rfl,Zy7]⟩
 | c::K,acc,o4,o5,hK,hn,hacc,h4,h5,hl=>by
  rw[ZyI]at hl;have hc:=hK c (Zyw ..);have hk:ZaN (tupI c)=some (Zac c):=ZaD c;have hlk:=Zco M c;have hlr:=Zi3 wf L c;rw[if_pos hc]at hlr;have hlc:=ZmX (ap:=ap) (t:=t) (cs:=cs) (cb:=cb) (ys:=wf c) (M:=M) (hys c hc) λy hy=>ha c hc y hy M;have hcons:ZaS wf cb (c::K) M=(if ZD M c then[]else match ZcP cb (wf c) M with | some k=>[(c,k)] | none=>[])++ZaS wf cb K M:=by
   unfold ZaS;rw[ZzI];cases ZD M c with
   | true=>rfl
   | false=>cases ZcP cb (wf c) M<;>rfl
  have step:∀(acc':Tb) (p5:Option B),Zbr p5=false->(∀x∈K,ZD acc' x=false)->acc'.length+K.length<100000->Z6 ap [some (.hd (Zj (Zx wf L))),some (.pl (.dict (Zj (encM M)))),some (.pl (fnD t cs)),some (.ot (encM acc)),some (.pl (tupI c)),o5] =
     some (.nx [some (.hd (Zj (Zx wf L))),some (.pl (.dict (Zj (encM M)))),some (.pl (fnD t cs)),some (.ot (encM acc')),some (.pl (tupI c)),p5])->acc'++ZaS wf cb K M=acc++ZaS wf cb (c::K) M ->
    ∃p4 p5,Zbr p4=false/\Zbr p5=false/\Z4 4 (Z6 ap) ((c::K).map tupI) [some (.hd (Zj (Zx wf L))),some (.pl (.dict (Zj (encM M)))),some (.pl (fnD t cs)),some (.ot (encM acc)),o4,o5] =
     some (.nx [some (.hd (Zj (Zx wf L))),some (.pl (.dict (Zj (encM M)))),some (.pl (fnD t cs)),some (.ot (encM (acc++ZaS wf cb (c::K) M))),p4,p5]):=λacc' p5 hp5 hx hl' e eq=>by
   obtain⟨q4,q5,g4,g5,ih⟩:=Zqy (M:=M) K acc' (some (.pl (tupI c))) p5 (λx hx=>hK x (Zyx _ hx)) (Zzq.mp hn).2 hx rfl hp5 hl';refine⟨q4,q5,g4,g5,?_⟩;rw[<-eq,<-ih,Zyz];show(match Z6 ap [some (.hd (Zj (Zx wf L))),some (.pl (.dict (Zj (encM M)))),some (.pl (fnD t cs)),some (.ot (encM acc)),some (.pl (tupI c)),o5]with | some (.nx r')=>_ | some (.ct r')=>_ | some (.bk r')=>_ | some (.rt d)=>_ | none=>_)=_;rw[e]
  have hKa:∀x∈K,ZD acc x=false:=λx hx=>hacc x (Zyx _ hx);cases hq:Zh M c with
  | some k =>
   have hh:ZD M c=true:=by unfold ZD; rw[hq]; rfl
   rw[hq]at hlk;refine step acc o5 h5 hKa (by omega) ?_ (by rw[hcons,hh]; rfl);have ht:tV (Zcg (Zb 4) (Zo 1)) [some (.hd (Zj (Zx wf L))),some (.pl (.dict (Zj (encM M)))),some (.pl (fnD t cs)),some (.ot (encM acc)),some (.pl (tupI c)),o5]=some false:=by simp[dec_enc,hk,hlk]
   unfold Z6 sIf;rw[ht];rfl
  | none =>
   have hh:ZD M c=false:=by unfold ZD; rw[hq]; rfl
   rw[hq]at hlk;have ht:tV (Zcg (Zb 4) (Zo 1)) [some (.hd (Zj (Zx wf L))),some (.pl (.dict (Zj (encM M)))),some (.pl (fnD t cs)),some (.ot (encM acc)),some (.pl (tupI c)),o5]=some true:=by simp[dec_enc,hk,hlk]
   have hca:Zn (ZbM ap) (Zd (Zbt (Zo 0) (Zb 4)) (Zd (Zb 1) (Zd (Zb 2) Zm))) [some (.hd (Zj (Zx wf L))),some (.pl (.dict (Zj (encM M)))),some (.pl (fnD t cs)),some (.ot (encM acc)),some (.pl (tupI c)),o5]=some (oI (ZcP cb (wf c) M)):=by
    have hg:Zbt (Zo 0) (Zb 4) [some (.hd (Zj (Zx wf L))),some (.pl (.dict (Zj (encM M)))),some (.pl (fnD t cs)),some (.ot (encM acc)),some (.pl (tupI c)),o5]=some (.list ((wf c).map wyD)):=by simp[dec_enc,hk,hlr]
    unfold Zn Zd;rw[hg];exact hlc
   have hs5:Z2 5 (Zn (ZbM ap) (Zd (Zbt (Zo 0) (Zb 4)) (Zd (Zb 1) (Zd (Zb 2) Zm)))) [some (.hd (Zj (Zx wf L))),some (.pl (.dict (Zj (encM M)))),some (.pl (fnD t cs)),some (.ot (encM acc)),some (.pl (tupI c)),o5]=some (.nx [some (.hd (Zj (Zx wf L))),some (.pl (.dict (Zj (encM M)))),some (.pl (fnD t cs)),some (.ot (encM acc)),some (.pl (tupI c)),some (.pl (oI (ZcP cb (wf c) M)))]):=by unfold Z2;rw[hca];rfl
   cases hle:ZcP cb (wf c) M with
   | none=>rw[hle]at hs5;refine step acc (some (.pl .none)) rfl hKa (by omega) ?_ (by rw[hcons,hh,hle]; rfl);unfold Z6 sIf;rw[ht];dsimp only;refine ZS (P:=λq=>q=_) hs5 ?_;rfl
   | some k =>
    rw[hle]at hs5;have hput:=ZtB (k:=k) (hacc c (Zyw ..));have hpe:=Zh5 acc c k;have hal:(encM acc).length<1000000:=by unfold encM; rw[Zyt]; omega
    refine step (acc++[(c,k)]) (some (.pl (.int k))) rfl (λx hx=>?_) (by rw[ZyM,Zz2]; omega) ?_ (by rw[hcons,hh,hle,ZzK]; rfl)
    ·rw[Zrj,hKa x hx,ZCu]
     cases hb:ZD [(c,k)] x with
     | false=>rfl
     | true=>obtain⟨k',hm⟩:=Zvn.mp hb;cases ZyL.mp hm;exact absurd hx (Zzq.mp hn).1
    ·unfold Z6 sIf
     rw[ht];dsimp only;refine ZS (P:=λq=>q=_) hs5 ?_;have h2:tV (op2 ZeD (Zb 5) (eC .none)) [some (.hd (Zj (Zx wf L))),some (.pl (.dict (Zj (encM M)))),some (.pl (fnD t cs)),some (.ot (encM acc)),some (.pl (tupI c)),some (.pl (oI (some k)))]=some true:=rfl;rw[h2,<-hput,<-hpe];show(match ZaN (tupI c)with | some y=>_ | none=>none)=_;rw[hk];show(if(encM acc).length<big then _ else none)=_;rw[if_pos (show _<big from hal)];rfl
include hnd hlen
theorem Zm3(M:Tb):Zbq ap [.dict (Zj (Zx wf L)),.dict (Zj (encM M)),fnD t cs]=some (encM (ZaS wf cb L M)):=by
 obtain⟨p4,p5,g4,g5,go⟩:=Zqy hys ha (M:=M) L [] none none (λ_ h=>h) hnd (λ_ _=>rfl) rfl rfl (by simp; omega);have hw:Zbb 0 [some (.hd (Zj (Zx wf L))),some (.pl (.dict (Zj (encM M)))),some (.pl (fnD t cs)),some (.ot (encM [])),none,none]=some (L.map tupI):=by show(Zfw (Zj (Zx wf L))).map _=_;rw[dec_enc,<-Zmp wf L];rfl
 have hf:Zbd 4 (Zbb 0) (Z6 ap) [some (.hd (Zj (Zx wf L))),some (.pl (.dict (Zj (encM M)))),some (.pl (fnD t cs)),some (.ot (encM [])),none,none]=some (.nx [some (.hd (Zj (Zx wf L))),some (.pl (.dict (Zj (encM M)))),some (.pl (fnD t cs)),some (.ot (encM (ZaS wf cb L M))),p4,p5]):=by unfold Zbd;rw[hw];dsimp only;rw[if_pos (by rw[Zyt]; show _<1000000; omega),go];rfl
 have hh:Ze4 0 (Zbd 4 (Zbb 0) (Z6 ap)) [some (.pl (.dict (Zj (Zx wf L)))),some (.pl (.dict (Zj (encM M)))),some (.pl (fnD t cs)),some (.ot (encM [])),none,none]=some (.nx [some (.pl (.dict (Zj (Zx wf L)))),some (.pl (.dict (Zj (encM M)))),some (.pl (fnD t cs)),some (.ot (encM (ZaS wf cb L M))),p4,p5]):=by
  show(match Zbd 4 (Zbb 0) (Z6 ap) [some (.hd (Zj (Zx wf L))),some (.pl (.dict (Zj (encM M)))),some (.pl (fnD t cs)),some (.ot (encM [])),none,none]with | some (.nx r')=>_ | some (.rt d)=>_ | _=>none)=_;rw[hf];have a2:([none,some (B.pl (.dict (Zj (encM M)))),some (.pl (fnD t cs)),some (.ot (encM (ZaS wf cb L M))),p4,p5]:HM.Env).all (λq=>!Zbr q)=true:=by simp only[ZzL,ZDy,g4,g5];rfl
  show(if([none,some (B.pl (.dict (Zj (encM M)))),some (.pl (fnD t cs)),some (.ot (encM (ZaS wf cb L M))),p4,p5]:HM.Env).all (λq=>!Zbr q)=true then _ else _)=_;rw[if_pos a2];rfl
 unfold Zbq newOf;rw[if_pos (show([PyData.dict (Zj (Zx wf L)),PyData.dict (Zj (encM M)),fnD t cs]:List D).length=3 from rfl)];show(match ZT 3 fDt [some (.pl (.dict (Zj (Zx wf L)))),some (.pl (.dict (Zj (encM M)))),some (.pl (fnD t cs)),none,none,none]with | some (.nx r')=>ZkA (Ze4 0 (Zbd 4 (Zbb 0) (Z6 ap))) (ZoH 3) r' | _=>none)=_;show ZkA (Ze4 0 (Zbd 4 (Zbb 0) (Z6 ap))) (ZoH 3) [some (.pl (.dict (Zj (Zx wf L)))),some (.pl (.dict (Zj (encM M)))),some (.pl (fnD t cs)),some (.ot (encM [])),none,none]=_;unfold ZkA;rw[hh];rfl
end
end HG5
namespace HG5
open PySem HM HG HG4
theorem Zqx(ap:AP)(e0 e1 e2 e5 e7:Option B)(v:Int):∀(ms:List (List Int)) (M:Tb) (o:Option B),M.length+ms.length<100000->Zbr o=false ->
  ∃p,Zbr p=false/\Z4 6 (Zdj ap) (ms.map tupI) [e0,e1,e2,some (.ot (encM M)),some (.pl (dI v)),e5,o,e7]=some (.nx [e0,e1,e2,some (.ot (encM (Zbs ms v M))),some (.pl (dI v)),e5,p,e7])
 | [],M,o,_,h=>⟨o,h,rfl⟩
 | c::ms,M,o,hlen,_=>by
  rw[ZyI]at hlen;have hml:(encM M).length<1000000:=by unfold encM; rw[Zyt]; omega
  have hk:ZaN (tupI c)=some (Zac c):=ZaD c;have hput:=Zh5 M c v;have hpl:=ZjB c v M;have e:Zdj ap [e0,e1,e2,some (.ot (encM M)),some (.pl (dI v)),e5,some (.pl (tupI c)),e7]=some (.nx [e0,e1,e2,some (.ot (encM (putD M c v))),some (.pl (dI v)),e5,some (.pl (tupI c)),e7]):=by rw[<-hput];simp[Zdj,hk,hml]
  obtain⟨p,hp,ih⟩:=Zqx ap e0 e1 e2 e5 e7 v ms (putD M c v) (some (.pl (tupI c))) (by omega) rfl;refine⟨p,hp,?_⟩;show _=some (Out.nx [e0,e1,e2,some (.ot (encM (Zbs ms v (putD M c v)))),some (.pl (dI v)),e5,p,e7]);rw[Zyz,<-ih];show(match Zdj ap [e0,e1,e2,some (.ot (encM M)),some (.pl (dI v)),e5,some (.pl (tupI c)),e7]with | some (.nx r')=>_ | some (.ct r')=>_ | some (.bk r')=>_ | some (.rt d)=>_ | none=>_)=_;rw[e]
theorem Zmh(T:Tb):((encM T).map λp=>Zzn (p.1.map ZaH))=(T.map (·.1)).map tupI:=by unfold encM;rw[ZyP,ZyP];refine ZzZ λp _=>?_;show Zzn ((p.1.map ZAk).map ZaH)=Zzn (p.1.map dI);rw[ZyP];rfl
def NdT(T:Tb):Prop:=(T.map (·.1)).Nodup
theorem Zqe{T:Tb}(h:NdT T){p:List Int × Int}(hp:p∈T):Zh T p.1=some p.2:=by
 induction T with
 | nil=>simp at hp
 | cons q T ih =>
  obtain⟨c,k⟩:=q;rw[ZbW];unfold NdT at h;rw[Zyz,Zzq]at h;rcases ZyR.mp hp with e | e
  ·subst e; rw[if_pos rfl]
  ·rw[if_neg λz=>h.1 (by rw[z]; exact ZyC.mpr ⟨p,e,rfl⟩)]
   exact ih h.2 e
theorem ZwF{wf:Wf}{cb:Cb}{M:Tb}:∀{L:List (List Int)},L.Nodup->NdT (ZaS wf cb L M):=by
 intro L h;unfold NdT;have:((ZaS wf cb L M).map (·.1)).Sublist L:=by
  unfold ZaS;rw[List.map_filterMap]
  clear h
  induction L with
  | nil=>exact .slnil
  | cons c L ih =>
   rw[ZzI];cases ZD M c with
   | true=>exact ih.cons c
   | false=>cases ZcP cb (wf c) M with
    | none=>exact ih.cons c
    | some k=>exact ih.cons₂ c
 exact h.sublist this
theorem Zqc{wf:Wf}{cb:Cb}{L:List (List Int)}{M:Tb}:(ZaS wf cb L M).length<=L.length:=ZCU ..
section
variable{T:Tb}(hT:NdT T)(hl:T.length<100000)
include hT hl
theorem Zss(r:HM.Env)(h7:r[7]?=some (some (.hd (Zj (encM T))))):ZQ (Zbb 7) Zaa (Zbt (Zo 8) (Zb 0)) r=some (.ol ((T.map (·.2)).map dI)):=by
 have hw:Zbb 7 r=some ((T.map (·.1)).map tupI):=by unfold Zbb;rw[h7];show(Zfw (Zj (encM T))).map _=_;rw[dec_enc,<-Zmh T];rfl
 have hg:ZaG Zaa (Zbt (Zo 8) (Zb 0)) r ((T.map (·.1)).map tupI)=some ((T.map (·.2)).map dI):=by rw[ZyP,ZyP];have:=Zby (e:=Zbt (Zo 8) (Zb 0)) (r:=r) (λp:List Int × Int=>tupI p.1) (λp=>dI p.2) T (λp hp=>by have hk:ZaN (tupI p.1)=some (Zac p.1):=ZaD p.1;have hlk:=Zco T p.1;rw[Zqe hT hp]at hlk;simp[h7,dec_enc,hk,hlk]);exact this
 unfold ZQ;rw[hw];dsimp only;rw[if_pos (by rw[Zyt,Zyt]; show _<1000000; omega),hg];rfl
theorem ZrW{k:Option Int}(r:HM.Env)(h7:r[7]?=some (some (.hd (Zj (encM T)))))(h4:r[4]?=some (some (.pl (oI k)))):ZQ (Zbb 7) (tV (op2 gEq (Zbt (Zo 8) (Zb 0)) (Zb 5))) (Zb 0) r=some (.ol (((T.filter λp=>some p.2==k).map (·.1)).map tupI)):=by
 have hw:Zbb 7 r=some ((T.map (·.1)).map tupI):=by unfold Zbb;rw[h7];show(Zfw (Zj (encM T))).map _=_;rw[dec_enc,<-Zmh T];rfl
 have hg:ZaG (tV (op2 gEq (Zbt (Zo 8) (Zb 0)) (Zb 5))) (Zb 0) r ((T.map (·.1)).map tupI)=some (((T.filter λp=>some p.2==k).map (·.1)).map tupI):=by
  rw[ZyP,ZyP];have:=ZbP (c:=tV (op2 gEq (Zbt (Zo 8) (Zb 0)) (Zb 5))) (e:=Zb 0) (r:=r) (λp:List Int × Int=>tupI p.1) (λp=>some p.2==k) (λp=>tupI p.1) T (λp hp=>by
   have hk:ZaN (tupI p.1)=some (Zac p.1):=ZaD p.1;have hlk:=Zco T p.1;rw[Zqe hT hp]at hlk;have h1:Zbt (Zo 8) (Zb 0) (some (.pl (tupI p.1))::r)=some (.int p.2):=by simp[h7,dec_enc,hk,hlk]
   have h2:Zb 5 (some (B.pl (tupI p.1))::r)=some (oI k):=by simp[h4]
   unfold tV op2;rw[h1,h2];cases k with
   | none=>show(match gEq (.int p.2) .none with | some (.bool b)=>some b | _=>none)=_;rw[ZhG (Zgs 1 _) (Zvj 1) (by decide) (by decide) (by simp)];rfl
   | some k =>
    show(match gEq (.int p.2) (.int k)with | some (.bool b)=>some b | _=>none)=_
    by_cases e:p.2=k
    ·rw[e,Zd1 (Zgs 1 _) (by decide)]
     simp
    ·rw[ZhG (Zgs 1 _) (Zgs 1 _) (by decide) (by decide) (by simpa using e)]
     simp[e]) (λp _ _=>by simp)
  exact this
 unfold ZQ;rw[hw];dsimp only;rw[if_pos (by rw[Zyt,Zyt]; show _<1000000; omega),hg];rfl
end
section
variable{w:Wk}(hv:Wk.V w){ap:AP}{wf:Wf}{L:List (List Int)}{t:Nat}{cs:List D}{cb:Cb}(hnd:L.Nodup)(hlen:L.length<=128)(hcr:∀c∈L,Cr w.many c)(hys:∀c∈L,(wf c).length<1000)(ha:∀c∈L,∀y∈wf c,∀M,ap t cs [wyD y,.dict (Zj (encM M))]=some (oI (cb y M)))
include hnd hlen hys ha
theorem Zrz{M:Tb}{k:Int}{found:List (List Int)}{o6 o7:Option B}(h6:Zbr o6=false)(h7:Zbr o7=false)(hf:found.length<=128)(hM:M.length<50000) :
  ∃p6 p7,Zbr p6=false/\Zbr p7=false/\Zdk ap [some (.pl w.d),some (.pl (.dict (Zj (Zx wf L)))),some (.pl (fnD t cs)),some (.ot (encM M)),some (.pl (dI k)),some (.ol (found.map tupI)),o6,o7] =
   some (.nx [some (.pl w.d),some (.pl (.dict (Zj (Zx wf L)))),some (.pl (fnD t cs)),some (.ot (encM (Zbs found k M))),some (.pl (oI (Zb9 (ZaS wf cb L (Zbs found k M))))),some (.ol ((Zfu (ZaS wf cb L (Zbs found k M))).map tupI)),p6,p7]):=by
 obtain⟨p6,hp6,e1⟩:=Zqx ap (some (.pl w.d)) (some (.pl (.dict (Zj (Zx wf L))))) (some (.pl (fnD t cs))) (some (.pl (.list (found.map tupI)))) o7 k found M o6 (by omega) h6;generalize hM':Zbs found k M=M' at *;have hnx:=Zm3 hnd hlen hys ha M';have hT:NdT (ZaS wf cb L M'):=ZwF hnd;have hTl:(ZaS wf cb L M').length<100000:=by have:=Zqc (wf:=wf) (cb:=cb) (L:=L) (M:=M'); omega
 generalize hO:ZaS wf cb L M'=T at *;refine⟨p6,some (.pl (.dict (Zj (encM T)))),hp6,rfl,?_⟩;unfold Zdk;refine ZS (P:=λq=>q=_) (r':=[some (.pl w.d),some (.pl (.dict (Zj (Zx wf L)))),some (.pl (fnD t cs)),some (.ot (encM M')),some (.pl (dI k)),some (.pl (.list (found.map tupI))),p6,o7]) ?_ ?_
 ·unfold ZeG Zk1 Zbd
  have hfb:found.length<1000000:=by omega
  simp[hfb];exact e1
 ·refine ZS (P:=λq=>q=_) (r':=[some (.pl w.d),some (.pl (.dict (Zj (Zx wf L)))),some (.pl (fnD t cs)),some (.ot (encM M')),some (.pl (dI k)),some (.pl (.list (found.map tupI))),p6,some (.ot (encM T))]) ?_ ?_
  ·have hcl:ZiS (Zbq ap) (Zd (Zb 1) (Zd (Znc (Zo 3)) (Zd (Zb 2) Zm))) [some (.pl w.d),some (.pl (.dict (Zj (Zx wf L)))),some (.pl (fnD t cs)),some (.ot (encM M')),some (.pl (dI k)),some (.pl (.list (found.map tupI))),p6,o7]=some (.ot (encM T)):=by
    unfold ZiS;show(match Zbq ap [.dict (Zj (Zx wf L)),.dict (Zj (encM M')),fnD t cs]with | some kvs=>if kvs.all (λp=>Zju p.2)then some (B.ot kvs)else none | none=>none)=_;rw[hnx];have hfl:(encM T).all (λp=>Zju p.2)=true:=by unfold encM;rw[List.all_map];exact ZyD.mpr λp _=>rfl
    dsimp only;rw[if_pos hfl]
   unfold ZT;rw[hcl];rfl
  ·have a1:∀x4 x5:D,([some (B.pl w.d),some (.pl (.dict (Zj (Zx wf L)))),some (.pl (fnD t cs)),some (.ot (encM M')),some (.pl x4),some (.pl x5),p6,some (.pl (.dict (Zj (encM T))))]:HM.Env).all (λq=>!Zbr q)=true:=λx4 x5=>by
    simp only[ZzL,ZDy,hp6];rfl
   have a2:∀x4:D,∀x5:B,Zbr (some x5)=false->([some (B.pl w.d),some (.pl (.dict (Zj (Zx wf L)))),some (.pl (fnD t cs)),some (.ot (encM M')),some (.pl x4),some x5,p6,none]:HM.Env).all (λq=>!Zbr q)=true:=λx4 x5 hx=>by simp only[ZzL,ZDy,hp6,hx];rfl
   have hv1:=Zss hT hTl [some (.pl w.d),some (.pl (.dict (Zj (Zx wf L)))),some (.pl (fnD t cs)),some (.ot (encM M')),some (.pl (dI k)),some (.pl (.list (found.map tupI))),p6,some (.hd (Zj (encM T)))] rfl;have hm1:Z2 4 (ZfO (ZQ (Zbb 7) Zaa (Zbt (Zo 8) (Zb 0)))) [some (.pl w.d),some (.pl (.dict (Zj (Zx wf L)))),some (.pl (fnD t cs)),some (.ot (encM M')),some (.pl (dI k)),some (.pl (.list (found.map tupI))),p6,some (.hd (Zj (encM T)))]=some (.nx [some (.pl w.d),some (.pl (.dict (Zj (Zx wf L)))),some (.pl (fnD t cs)),some (.ot (encM M')),some (.pl (oI (Zb9 T))),some (.pl (.list (found.map tupI))),p6,some (.hd (Zj (encM T)))]):=by
    have:ZfO (ZQ (Zbb 7) Zaa (Zbt (Zo 8) (Zb 0))) [some (.pl w.d),some (.pl (.dict (Zj (Zx wf L)))),some (.pl (fnD t cs)),some (.ot (encM M')),some (.pl (dI k)),some (.pl (.list (found.map tupI))),p6,some (.hd (Zj (encM T)))]=some (oI (Zb9 T)):=by unfold ZfO;rw[hv1];show(match ZaK ((T.map (·.2)).map dI)with | some ns=>some (match ns.min? with | some i=>Zy6 i | none=>.none) | none=>none)=_;rw[ZbN];show some (match(T.map (·.2)).min? with | some i=>Zy6 i | none=>.none)=_;unfold Zb9;cases(T.map (·.2)).min?<;>rfl
    unfold Z2;rw[this];rfl
   refine ZS (P:=λq=>q=_) (r':=[some (.pl w.d),some (.pl (.dict (Zj (Zx wf L)))),some (.pl (fnD t cs)),some (.ot (encM M')),some (.pl (oI (Zb9 T))),some (.pl (.list (found.map tupI))),p6,some (.pl (.dict (Zj (encM T))))]) ?_ ?_
   ·show(if([some (B.pl w.d),some (.pl (.dict (Zj (Zx wf L)))),some (.pl (fnD t cs)),some (.ot (encM M')),some (.pl (dI k)),some (.pl (.list (found.map tupI))),p6,some (.pl (.dict (Zj (encM T))))]:HM.Env).all (λq=>!Zbr q)=true then _ else _)=_
    rw[if_pos (a1 _ _)];show(match Z2 4 _ [some (.pl w.d),some (.pl (.dict (Zj (Zx wf L)))),some (.pl (fnD t cs)),some (.ot (encM M')),some (.pl (dI k)),some (.pl (.list (found.map tupI))),p6,some (.hd (Zj (encM T)))]with | some (.nx r')=>_ | some (.rt d)=>_ | _=>none)=_;rw[hm1];show(if([some (B.pl w.d),some (.pl (.dict (Zj (Zx wf L)))),some (.pl (fnD t cs)),some (.ot (encM M')),some (.pl (oI (Zb9 T))),some (.pl (.list (found.map tupI))),p6,none]:HM.Env).all (λq=>!Zbr q)=true then _ else _)=_;rw[if_pos (a2 _ _ rfl)];rfl
   ·have hk1:=ZrW hT hTl (k:=Zb9 T) [some (.pl w.d),some (.pl (.dict (Zj (Zx wf L)))),some (.pl (fnD t cs)),some (.ot (encM M')),some (.pl (oI (Zb9 T))),some (.pl (.list (found.map tupI))),p6,some (.hd (Zj (encM T)))] rfl rfl
    have hm2:ZT 5 (ZQ (Zbb 7) (tV (op2 gEq (Zbt (Zo 8) (Zb 0)) (Zb 5))) (Zb 0)) [some (.pl w.d),some (.pl (.dict (Zj (Zx wf L)))),some (.pl (fnD t cs)),some (.ot (encM M')),some (.pl (oI (Zb9 T))),some (.pl (.list (found.map tupI))),p6,some (.hd (Zj (encM T)))]=some (.nx [some (.pl w.d),some (.pl (.dict (Zj (Zx wf L)))),some (.pl (fnD t cs)),some (.ot (encM M')),some (.pl (oI (Zb9 T))),some (.ol ((Zfu T).map tupI)),p6,some (.hd (Zj (encM T)))]):=by unfold ZT;rw[hk1];rfl
    show(if([some (B.pl w.d),some (.pl (.dict (Zj (Zx wf L)))),some (.pl (fnD t cs)),some (.ot (encM M')),some (.pl (oI (Zb9 T))),some (.pl (.list (found.map tupI))),p6,some (.pl (.dict (Zj (encM T))))]:HM.Env).all (λq=>!Zbr q)=true then _ else _)=_;rw[if_pos (a1 _ _)];show(match ZT 5 _ [some (.pl w.d),some (.pl (.dict (Zj (Zx wf L)))),some (.pl (fnD t cs)),some (.ot (encM M')),some (.pl (oI (Zb9 T))),some (.pl (.list (found.map tupI))),p6,some (.hd (Zj (encM T)))]with | some (.nx r')=>_ | some (.rt d)=>_ | _=>none)=_;rw[hm2];show(if([some (B.pl w.d),some (.pl (.dict (Zj (Zx wf L)))),some (.pl (fnD t cs)),some (.ot (encM M')),some (.pl (oI (Zb9 T))),some (.ol ((Zfu T).map tupI)),p6,none]:HM.Env).all (λq=>!Zbr q)=true then _ else _)=_;rw[if_pos (a2 _ _ rfl)];rfl
omit hnd hlen hys ha in
theorem ZtO{M:Tb}{c:List Int}(h:c∈Zfu (ZaS wf cb L M)):c∈L/\ZD M c=false:=by obtain⟨⟨c',k⟩,h1,rfl⟩:=ZyC.mp h;have:=Zu1.mp (Zy2.mp h1).1;exact⟨this.1,this.2.1⟩
omit hnd hlen hys ha in
theorem ZsJ{T:Tb}(h:Zfu T≠[]):∃k,Zb9 T=some k:=by
 cases hq:Zb9 T with
 | some k=>exact⟨k,rfl⟩
 | none=>refine absurd ?_ h;unfold Zb9 at hq;rw[ZDk]at hq;have:=List.map_eq_nil_iff.mp hq;subst this;rfl
theorem Zjl:∀(fuel n:Nat) (M:Tb) (k:Option Int) (found:List (List Int)) (o6 o7:Option B),Zbr o6=false->Zbr o7=false->(∀c∈found,c∈L/\ZD M c=false)->found.length<=128->M.length<=128*n->n<=(L.filter λc=>ZD M c).length->130<=n+fuel->(found≠[]->∃i,k=some i) ->
  ∃R p4 p5 p6 p7,ZaY (tV (op2 gGt (Zaz (Zo 5)) (eC (.int 0)))) (Zdk ap) fuel [some (.pl w.d),some (.pl (.dict (Zj (Zx wf L)))),some (.pl (fnD t cs)),some (.ot (encM M)),some (.pl (oI k)),some (.ol (found.map tupI)),o6,o7]=some (.nx [some (.pl w.d),some (.pl (.dict (Zj (Zx wf L)))),some (.pl (fnD t cs)),some (.ot (encM R)),p4,p5,p6,p7])/\Zkk wf cb L M k found R
 | 0,n,M,k,found,o6,o7,_,_,_,_,_,ht,hfu,_=>by have:=Zzm (λc=>ZD M c) L;omega
 | fuel+1,n,M,k,found,o6,o7,h6,h7,hfo,hfl,hM,ht,hfu,hks=>by
  have htl:=Zzm (λc=>ZD M c) L
  by_cases hf:found=[]
  ·subst hf
   refine⟨M,some (.pl (oI k)),some (.ol []),o6,o7,?_,.done⟩;unfold ZaY;have e:(tV (op2 gGt (Zaz (Zo 5)) (eC (.int 0)))) [some (.pl w.d),some (.pl (.dict (Zj (Zx wf L)))),some (.pl (fnD t cs)),some (.ot (encM M)),some (.pl (oI k)),some (.ol (([]:List (List Int)).map tupI)),o6,o7]=some false:=by simp
   rw[e];rfl
  ·obtain⟨i,rfl⟩:=hks hf
   have e:(tV (op2 gGt (Zaz (Zo 5)) (eC (.int 0)))) [some (.pl w.d),some (.pl (.dict (Zj (Zx wf L)))),some (.pl (fnD t cs)),some (.ot (encM M)),some (.pl (oI (some i))),some (.ol (found.map tupI)),o6,o7]=some true:=by have:0<found.length:=ZA0.mpr hf;simp;omega
   obtain⟨p6,p7,g6,g7,ht1⟩:=Zrz hnd hlen hys ha (w:=w) (M:=M) (k:=i) (found:=found) h6 h7 hfl (by omega);have hml:(Zbs found i M).length<=M.length+found.length:=ZgU i found M;have hlk:∀k,Zh (Zbs found i M) k=if k∈found then some i else Zh M k:=λk=>ZgO i k found M
   have hcnt:(L.filter λc=>ZD M c).length<(L.filter λc=>ZD (Zbs found i M) c).length:=by
    refine ZdV (λx _ hx=>?_) ?_
    ·unfold ZD at hx ⊢
     rw[hlk];split
     ·rfl
     ·exact hx
    ·obtain⟨c,cs,rfl⟩:=ZCz hf
     refine⟨c,(hfo c (Zyw ..)).1,?_,(hfo c (Zyw ..)).2⟩;unfold ZD;rw[hlk,if_pos (Zyw ..)];rfl
   have hol:(Zfu (ZaS wf cb L (Zbs found i M))).length<=128:=by
    have h1:(Zfu (ZaS wf cb L (Zbs found i M))).length<=(ZaS wf cb L (Zbs found i M)).length:=by unfold Zfu;rw[Zyt];exact Zzm ..
    have h2:=Zqc (wf:=wf) (cb:=cb) (L:=L) (M:=Zbs found i M);omega
   obtain⟨R,q4,q5,q6,q7,g,J⟩:=Zjl fuel (n+1) (Zbs found i M) (Zb9 (ZaS wf cb L (Zbs found i M))) (Zfu (ZaS wf cb L (Zbs found i M))) p6 p7 g6 g7 (λc hc=>ZtO hc) hol (by omega) (by omega) (by omega) ZsJ;refine⟨R,q4,q5,q6,q7,?_,.step hf J⟩;unfold ZaY;rw[e];dsimp only;show(match Zdk ap [some (.pl w.d),some (.pl (.dict (Zj (Zx wf L)))),some (.pl (fnD t cs)),some (.ot (encM M)),some (.pl (dI i)),some (.ol (found.map tupI)),o6,o7]with | some (.nx r')=>_ | some (.ct r')=>_ | some (.bk r')=>_ | some (.rt d)=>_ | none=>_)=_;rw[ht1];exact g
include hv hcr
theorem ZpL:∃R,Zc2 ap [w.d,.dict (Zj (Zx wf L)),fnD t cs]=some (.dict (Zj (encM R)))/\Zkk wf cb L [] (some 0) (L.filter λc=>Z0 w c) R:=by
 have hlb:L.length<1000000:=by omega
 have hfl:(L.filter λc=>Z0 w c).length<=128:=Zzg (Zzm _ _) hlen;obtain⟨R,p4,p5,p6,p7,g,J⟩:=Zjl hnd hlen hys ha (w:=w) 100000 0 [] (some 0) (L.filter λc=>Z0 w c) none none rfl rfl (λc hc=>⟨(Zy2.mp hc).1,rfl⟩) hfl (by simp) (ZzS _) (by omega) λ_=>⟨0,rfl⟩;refine⟨R,?_,J⟩;have hw:Zbb 1 [some (.pl w.d),some (.hd (Zj (Zx wf L))),some (.pl (fnD t cs)),some (.ot (encM [])),some (.pl (dI 0)),none,none,none]=some (L.map tupI):=by show(Zfw (Zj (Zx wf L))).map _=_;rw[dec_enc,<-Zmp wf L];rfl
 have hgo:∀r:HM.Env,r[0]?=some (some (.pl w.d))->ZaG (tV (Zn ZbB (Zd (Zb 1) (Zd (Zb 0) Zm)))) (Zb 0) r (L.map tupI)=some ((L.filter λc=>Z0 w c).map tupI):=λr r0=>by
  rw[ZbP tupI (λc=>Z0 w c) tupI]
  ·intro c hc
   have:=ZpV (w:=w) (c:=c) (by have:=(hcr c hc).len; have:=hv.m2; omega);simp[r0,this]
  ·intro c _ _
   simp
 have hc:ZQ (Zbb 1) (tV (Zn ZbB (Zd (Zb 1) (Zd (Zb 0) Zm)))) (Zb 0) [some (.pl w.d),some (.hd (Zj (Zx wf L))),some (.pl (fnD t cs)),some (.ot (encM [])),some (.pl (dI 0)),none,none,none]=some (.ol ((L.filter λc=>Z0 w c).map tupI)):=by unfold ZQ;rw[hw];dsimp only;rw[if_pos (by rw[Zyt]; exact hlb),hgo _ rfl];rfl
 have hh:Ze4 1 (ZT 5 (ZQ (Zbb 1) (tV (Zn ZbB (Zd (Zb 1) (Zd (Zb 0) Zm)))) (Zb 0))) [some (.pl w.d),some (.pl (.dict (Zj (Zx wf L)))),some (.pl (fnD t cs)),some (.ot (encM [])),some (.pl (dI 0)),none,none,none]=some (.nx [some (.pl w.d),some (.pl (.dict (Zj (Zx wf L)))),some (.pl (fnD t cs)),some (.ot (encM [])),some (.pl (dI 0)),some (.ol ((L.filter λc=>Z0 w c).map tupI)),none,none]):=by show(match ZT 5 _ [some (.pl w.d),some (.hd (Zj (Zx wf L))),some (.pl (fnD t cs)),some (.ot (encM [])),some (.pl (dI 0)),none,none,none]with | some (.nx r')=>_ | some (.rt d)=>_ | _=>none)=_;unfold ZT;rw[hc];rfl
 show Zar (ZeY ap [some (.pl w.d),some (.pl (.dict (Zj (Zx wf L)))),some (.pl (fnD t cs)),none,none,none,none,none])=_;have e:ZeY ap [some (.pl w.d),some (.pl (.dict (Zj (Zx wf L)))),some (.pl (fnD t cs)),none,none,none,none,none]=some (.rt (.dict (Zj (encM R)))):=by unfold ZeY;refine ZS (P:=λq=>q=_) (r':=[some (.pl w.d),some (.pl (.dict (Zj (Zx wf L)))),some (.pl (fnD t cs)),some (.ot (encM [])),none,none,none,none]) rfl ?_;refine ZS (P:=λq=>q=_) (r':=[some (.pl w.d),some (.pl (.dict (Zj (Zx wf L)))),some (.pl (fnD t cs)),some (.ot (encM [])),some (.pl (dI 0)),none,none,none]) rfl ?_;refine ZS (P:=λq=>q=_) hh ?_;refine ZS (P:=λq=>q=_) g ?_;simp
 rw[e];rfl
end
end HG5
namespace HG5
open PySem HM HG
def ap:AP:=λt cs ds=>match t with
 | 0=>if cs.isEmpty then Zc3 ds else none
 | 1=>ZkP 1 2 (Zn Za1 (Zd (Zb 1) (Zd (Zb 2) (Zd (Zb 0) Zm)))) cs ds
 | _=>none
end HG5
namespace HG5
open PySem HM HG HG4
inductive Zor(w:Wk)(ls b:List Int):List Int->Prop where
 | beg {p:List Int} (h:p∈Zp w ls b):Zor w ls b p
 | step {c p:List Int} {d:Nat} (r:Zor w ls b c) (hd:d<w.deeds.length) (hc:Z9 w c d=true) (h:p∈Zp w ls (ZB w c d)):Zor w ls b p
def Zl1(w:Wk)(ls c:List Int)(d:Int):Wy:=(dI d,ZH w ls (ZB w c d))
def wfV(w:Wk)(ls:List Int):Wf:=λc=>(doV w c).map (Zl1 w ls c)
abbrev Zrl(w:Wk)(ls:List Int)(L:List (List Int)):List (List Ky × D):=Zx (wfV w ls) L
theorem Zsz(w:Wk)(ls c:List Int):Zm9 w ls c=.list ((wfV w ls c).map wyD):=by unfold Zm9 wfV;rw[ZyP];rfl
theorem Zyh(w:Wk)(ls c:List Int)(d:Int):wyP (Zl1 w ls c d)=Zp w ls (ZB w c d):=rfl
abbrev OkC(w:Wk)(c:List Int):Prop:=Cr w.many c/\c≠[]
structure ApD(ap:AP):Prop where
 d0:∀ds,ap 0 [] ds=Zc3 ds
 l1:∀cs ds,ap 1 cs ds=ZkP 1 2 (Zn Za1 (Zd (Zb 1) (Zd (Zb 2) (Zd (Zb 0) Zm)))) cs ds
section
variable{w:Wk}(hv:Wk.V w)(h7:w.many<=7){ls:List Int}(hl:Cr w.looks.length ls)
include hv h7
theorem Zxm:ZqX (wfV w ls) (OkC w):=by
 refine⟨λc hc y hy p hp=>?_,λc hc=>?_,λc hc y hy=>?_,λC hn hC=>?_⟩
 ·obtain⟨d,hd,rfl⟩:=ZyC.mp hy
  obtain⟨d0,d1,_⟩:=Zd2 hd;have:=ZeM (Zc8 hv hc.1 d0 d1) (show p∈Zp w ls (ZB w c d) from hp);exact⟨this.1,this.2.1⟩
 ·unfold wfV
  rw[Zyt];have:=ZlX w c;have:=hv.d2;omega
 ·obtain⟨d,hd,rfl⟩:=ZyC.mp hy
  obtain⟨d0,d1,_⟩:=Zd2 hd;have:=split_len (w:=w) (ls:=ls) (c:=ZB w c d);have:=(Zc8 hv hc.1 d0 d1).len;show(ZH w ls (ZB w c d)).length<=8;omega
 ·have h1:=Zk2 hn λc hc=>(hC c hc).1
  have h2:2 ^ w.many<=2 ^ 7:=Nat.pow_le_pow_right (by decide) h7;have h3:2 ^ 7=128:=rfl;omega
omit hv h7 in
theorem ZvK{b c:List Int}(r:ZlZ (wfV w ls) (Zp w ls b) c):Zor w ls b c:=by
 induction r with
 | beg h=>exact .beg h
 | @step c p y _ hy hp ih=>obtain⟨d,hd,rfl⟩:=ZyC.mp hy;obtain⟨d0,d1,d2⟩:=Zd2 hd;have e:((d.toNat:Nat):Int)=d:=ZCe d0;exact .step (d:=d.toNat) ih (by omega) (by rw[e]; exact d2) (by rw[e]; exact hp)
include hl
theorem Zlz{ap:AP}(A:ApD ap){b:List Int}(hb:Cr w.many b):∃L,ZcG ap [w.d,tupI ls,tupI b]=some (.dict (Zj (Zrl w ls L)))/\L.Nodup/\L.length<=128/\(∀c∈L,Cr w.many c/\c≠[])/\(∀c∈L,Zor w ls b c)/\Zcq w ls L/\∀p∈Zp w ls b,p∈L:=by
 have hp:=Zi2 hv hl hb;have hsl:=split_len (w:=w) (ls:=ls) (c:=b);have hbl:=hb.len;have hci:=Zgj (ZH w ls b) (by omega);have hpl:(Zp w ls b).length<=100:=by unfold Zp; rw[Zyt]; omega
 have O:=Zxm hv h7 (ls:=ls);have ha:∀c,OkC w c->ap 1 [w.d,tupI ls] [tupI c]=some (.list ((wfV w ls c).map wyD)):=λc hc=>by rw[A.l1,<-Zsz];unfold ZkP;rw[if_pos ⟨rfl,rfl,by rw[ZzL,Zea 19]; rfl⟩];exact Zn3 hv hl hc.1
 obtain⟨L,e,J⟩:=ZqZ O ha (B:=Zp w ls b) (λc h=>⟨(ZeM hb h).1,(ZeM hb h).2.1⟩) hpl;refine⟨L,?_,J.nd,O.cs L J.nd J.cr,J.cr,λc hc=>ZvK (J.rc c hc),λc hc d hd can p hp=>?_,λp hp=>?_⟩
 ·show Zar (ZeJ ap [some (.pl w.d),some (.pl (tupI ls)),some (.pl (tupI b))])=_
  have h1:Zn ZO (Zd (Zn Za9 (Zd (Zb 0) (Zd (Zb 1) (Zd (Zb 2) Zm)))) Zm) [some (.pl w.d),some (.pl (tupI ls)),some (.pl (tupI b))]=some (.list ((Zp w ls b).map tupI)):=by unfold Zn Zd;show(match(match Za9 [w.d,tupI ls,tupI b]with | some x=>(Zm _).map (x::·) | none=>none)with | some ds=>ZO ds | none=>none)=_;rw[hp];exact hci
  have hn1:[w.d,tupI ls].all (noF 20)=true:=by rw[ZzL,ZzL,Zxk,Zea 19];rfl
  have hn2:noF 20 (.dict (Zj (Zrl w ls L)))=true:=Zxs (n:=14) λc _ y hy=>by obtain⟨d,_,rfl⟩:=ZyC.mp hy;exact ZuW _ _
  unfold ZeJ ZG ZhZ;rw[h1];show Zar (ZAi Out.rt (if[w.d,tupI ls].all (noF 20)=true then(match ZbL ap [.list ((Zp w ls b).map tupI),fnD 1 [w.d,tupI ls]]with | some d=>if noF 20 d=true then some d else none | none=>none)else none))=_;rw[if_pos hn1,e];dsimp only;rw[if_pos hn2];rfl
 ·rcases J.cl c hc (Zl1 w ls c d) (ZyC.mpr ⟨(d:Int),Zqo hd can,rfl⟩) p hp with h | h
  ·exact h
  ·simp at h
 ·rcases J.bg p hp with h | h
  ·exact h
  ·simp at h
end
def ZcN(ps:List (List Int))(M:Tb):Option Int:=if ps.all (ZD M)then(ps.filterMap λp=>Zh M p).max? else none
def cbD:Cb:=λy M=>(ZcN (wyP y) M).map (·+1)
theorem Ziw{α β:Type}{f:α->Option β}:∀{xs:List α},((xs.filterMap f).length=xs.length↔xs.all (λx=>(f x).isSome)=true)
 | []=>by simp
 | x::xs=>by
  have ih:=Ziw (f:=f) (xs:=xs);have hl:(xs.filterMap f).length<=xs.length:=ZCU f xs;rw[ZzI,ZzL];cases h:f x with
  | none=>simp; omega
  | some y=>simpa using ih
theorem Zgn{g:Gs}(hg:g.length<1000)(h0:g≠[]){M:Tb}:Zag [.list (g.map Z3),.dict (Zj (encM M))]=some (oI (ZcN (g.map (·.2)) M)):=by
 have hci:=Zgj g (by omega);have hlen:((g.map (·.2)).map tupI).length<big:=by rw[Zyt,Zyt]; show _<1000000; omega
 have h1:Zaf (bOf (Zn ZO (Zd (Zb 0) Zm))) [some (.pl (.list (g.map Z3))),some (.pl (.dict (Zj (encM M)))),none]=some ((g.map (·.2)).map tupI):=by unfold Zaf bOf;show(match ZAi B.pl (ZO [.list (g.map Z3)])with | some x=>Zbc x | none=>none)=_;rw[hci];rfl
 have h2:ZaG (tV (ZoZ (Zb 0) (Zo 2))) (Zbt (Zo 2) (Zb 0)) [some (.pl (.list (g.map Z3))),some (.pl (.dict (Zj (encM M)))),none] ((g.map (·.2)).map tupI)=some (((g.map (·.2)).filterMap λp=>Zh M p).map dI):=by
  rw[ZbP tupI (ZD M) (λp=>dI ((Zh M p).getD 0))]
  ·congr 1
   generalize g.map (·.2)=ps
   induction ps with
   | nil=>rfl
   | cons p ps ih =>
    rw[Zz9,ZzI];unfold ZD at ih ⊢;cases hq:Zh M p with
    | none=>rw[if_neg (by simp)]; exact ih
    | some k=>rw[if_pos (by rfl),Zyz,Zyz,ih,hq]; rfl
  ·intro p _
   have hk:ZaN (tupI p)=some (Zac p):=ZaD p;simp[dec_enc,hk,Zco,ZD]
  ·intro p _ hp
   have hk:ZaN (tupI p)=some (Zac p):=ZaD p;unfold ZD at hp;obtain⟨k,hk'⟩:=Zy4.mp hp;have hlk:=Zco M p;rw[hk']at hlk;simp[dec_enc,hk,hlk,hk']
 have hfl:=Ziw (f:=λp=>Zh M p) (xs:=g.map (·.2));rw[Zyt]at hfl;have hall:(g.map (·.2)).all (λx=>(Zh M x).isSome)=(g.map (·.2)).all (ZD M):=rfl;rw[hall]at hfl;generalize hN:(g.map (·.2)).filterMap (λp=>Zh M p)=ns at *;show Zar (ZdX [some (.pl (.list (g.map Z3))),some (.pl (.dict (Zj (encM M)))),none])=_;unfold ZdX;refine ZS (P:=λq=>Zar q=_) (r':=[some (.pl (.list (g.map Z3))),some (.pl (.dict (Zj (encM M)))),some (.ol (ns.map dI))]) ?_ ?_
 ·unfold ZT ZQ
  rw[h1];dsimp only;rw[if_pos hlen,h2];rfl
 ·have h3:op2 gEq (Zaz (Zo 2)) (Zaz (Zo 0)) [some (.pl (.list (g.map Z3))),some (.pl (.dict (Zj (encM M)))),some (.ol (ns.map dI))]=some (.bool (decide (ns.length=g.length))):=by
   show gEq (.int ((ns.map dI).length:Int)) (.int ((g.map Z3).length:Int))=_;rw[Zyt,Zyt]
   by_cases e:ns.length=g.length
   ·rw[e,Zd1 (Zgs 1 _) (by decide)]
    simp
   ·rw[ZhG (Zgs 1 _) (Zgs 1 _) (by decide) (by decide) (λz=>e (by injection z with z; omega))]
    simp[e]
  have h4:Zij (Zo 2) [some (.pl (.list (g.map Z3))),some (.pl (.dict (Zj (encM M)))),some (.ol (ns.map dI))]=ns.max?.map λi=>Zy6 i:=by show(match ZaK (ns.map dI)with | some ns=>ns.max?.map λi=>Zy6 i | none=>none)=_;rw[ZbN]
  unfold ZG eIf tV;rw[h3];unfold ZcN;rw[hN]
  by_cases e:ns.length=g.length
  ·rw[if_pos (hfl.mp e),decide_eq_true e]
   show Zar (ZAi Out.rt (Zij (Zo 2) _))=_;rw[h4];have hne:ns≠[]:=λz=>by rw[z]at e;exact h0 (Zz3 e.symm)
   cases hq:ns.max? with
   | none=>rw[ZB2]at hq; exact absurd hq hne
   | some m=>rfl
  ·rw[if_neg λz=>e (hfl.mpr z),decide_eq_false e]
   rfl
theorem ZpQ{y:Wy}(hy:y.2.length<1000)(h0:y.2≠[])(M:Tb):Zc3 [wyD y,.dict (Zj (encM M))]=some (oI (cbD y M)):=by
 have h:=Zgn hy h0 (M:=M);have h':Zag [.list (y.2.map Z3),.dict (Zj (encM M))]=some (oI (ZcN (wyP y) M)):=h;show Zar (ZgZ [some (.pl (wyD y)),some (.pl (.dict (Zj (encM M)))),none])=_;unfold ZgZ cbD;refine ZS (P:=λq=>Zar q=_) (r':=[some (.pl (wyD y)),some (.pl (.dict (Zj (encM M)))),some (.pl (oI (ZcN (wyP y) M)))]) ?_ ?_
 ·unfold Z2 Zn
  show ZAi _ (Zag [.list (y.2.map Z3),.dict (Zj (encM M))])=_;rw[h'];rfl
 ·cases ZcN (wyP y) M<;>rfl
def Zhb(w:Wk)(ls:List Int)(L:List (List Int))(M:Tb):Prop:=∃t,Zfs w ls L t M/\ZaX w ls L M=[]
theorem Zq4{ps:List (List Int)}{M:Tb}{m:Int}(h:ZcN ps M=some m):(∀p∈ps,∃k,Zh M p=some k/\k<=m)/\∃p∈ps,Zh M p=some m:=by
 unfold ZcN at h;split at h
 ·rename_i ha
  obtain⟨m1,m2⟩:=ZBe.mp h;refine⟨λp hp=>?_,?_⟩
  ·have hh:=ZyD.mp ha p hp
   unfold ZD at hh;obtain⟨k,hk⟩:=Zy4.mp hh;exact⟨k,hk,m2 _ (Zzy.mpr ⟨p,hp,hk⟩)⟩
  ·obtain⟨p,hp,e⟩:=Zzy.mp m1
   exact⟨p,hp,e⟩
 ·cases h
theorem Zq8{ps:List (List Int)}{M:Tb}(h0:ps≠[])(h:ZcN ps M=none):ps.all (ZD M)=false:=by
 cases hq:ps.all (ZD M)with
 | false=>rfl
 | true=>unfold ZcN at h;rw[hq,if_pos rfl,ZB2]at h;obtain⟨p,r,rfl⟩:=ZCz h0;have hh:=ZyD.mp hq p (Zyw ..);unfold ZD at hh;obtain⟨k,hk⟩:=Zy4.mp hh;rw[ZzI,hk]at h;cases h
section
variable{w:Wk}{ls:List Int}{L:List (List Int)}(hL:Zcq w ls L)(hne:∀c∈L,c≠[])
include hL hne
theorem Zrp{t:Nat}{M:Tb}(T:Zfs w ls L t M){c:List Int}(hc:c∈L)(hn:ZD M c=false):ZcP cbD (wfV w ls c) M=if Zdq w ls c M then some ((t+1:Nat):Int)else none:=by
 have known:∀{p:List Int} {k:Int},Zh M p=some k->∃n:Nat,k=(n:Int)/\n<=t/\Win w ls n p=true:=λ{p k} h=>by
  rw[T.look]at h;split at h
  ·obtain⟨n,h1,h2,h3,_⟩:=Zez h
   exact⟨n,h1,h2,h3⟩
  ·cases h
 have val:∀y∈wfV w ls c,∀k,cbD y M=some k->k=((t+1:Nat):Int)/\Zdq w ls c M=true:=λy hy k hk=>by
  obtain⟨d,hd,rfl⟩:=ZyC.mp hy;obtain⟨d0,d1,d2⟩:=Zd2 hd;have e:((d.toNat:Nat):Int)=d:=ZCe d0;obtain⟨m,h1,h2⟩:=Zyu.mp hk;have h1:ZcN (Zp w ls (ZB w c d)) M=some m:=h1;obtain⟨w1,p,hp,w2⟩:=Zq4 h1;obtain⟨n,rfl,hnt,_⟩:=known w2;refine⟨?_,ZzA.mpr ⟨d.toNat,ZyS.mpr (by omega),?_⟩⟩
  ·subst h2
   by_cases hlt:n<t
   ·-- then the crowd would be known already
    have hw:Win w ls (n+1) c=true:=by show(Z0 w c||_)=true;rw[ZAd];refine .inr (ZzA.mpr ⟨d.toNat,ZyS.mpr (by omega),?_⟩);rw[e,d2,ZDo];refine ZyD.mpr λq hq=>?_;obtain⟨k,k1,k2⟩:=w1 q hq;obtain⟨n',rfl,_,hw'⟩:=known k1;exact Zgp (by omega) hw'
    have:ZD M c=true:=by unfold ZD;rw[T.look,if_pos hc,Zcn];exact Zgp (by omega) hw
    rw[hn]at this;cases this
   ·show(n:Int)+1=_
    omega
  ·rw[e,d2,ZDo]
   refine ZyD.mpr λq hq=>?_;obtain⟨k,k1,_⟩:=w1 q hq;unfold ZD;rw[k1];rfl
 have all_eq:∀k∈(wfV w ls c).filterMap (λy=>cbD y M),k=((t+1:Nat):Int)/\Zdq w ls c M=true:=λk hk=>by obtain⟨y,hy,e⟩:=Zzy.mp hk;exact val y hy k e
 unfold ZcP;cases hcan:Zdq w ls c M with
 | false =>
  have:(wfV w ls c).filterMap (λy=>cbD y M)=[]:=List.eq_nil_iff_forall_not_mem.mpr λk hk=>by have:=(all_eq k hk).2;rw[hcan]at this;cases this
  rw[this];rfl
 | true =>
  obtain⟨d,hd,hq⟩:=ZzA.mp hcan;rw[ZyN]at hq;have hd':=ZyS.mp hd;have hy:Zl1 w ls c (d:Int)∈wfV w ls c:=ZyC.mpr ⟨(d:Int),Zqo hd' hq.1,rfl⟩;have hpn:Zp w ls (ZB w c d)≠[]:=Zgt (ZkY (hne c hc) hq.1);have hk:∃k,cbD (Zl1 w ls c d) M=some k:=by
   unfold cbD;cases hw:ZcN (wyP (Zl1 w ls c d)) M with
   | none=>have:=Zq8 hpn hw;rw[show(Zp w ls (ZB w c d)).all (ZD M)=true from hq.2]at this;cases this
   | some m=>exact⟨m+1,rfl⟩
  obtain⟨k,hk⟩:=hk;have hm:k∈(wfV w ls c).filterMap (λy=>cbD y M):=Zzy.mpr ⟨_,hy,hk⟩;cases hmin:((wfV w ls c).filterMap λy=>cbD y M).min? with
  | none=>rw[ZDk]at hmin; rw[hmin]at hm; simp at hm
  | some m=>have:=(ZB1.mp hmin).1;rw[(all_eq m this).1];rfl
theorem ZtW{t:Nat}{M:Tb}(T:Zfs w ls L t M):ZaS (wfV w ls) cbD L M=(ZaX w ls L M).map λc=>(c,((t+1:Nat):Int)):=by
 unfold ZaS ZaX;have key:∀K:List (List Int),(∀c∈K,c∈L)->(K.filterMap λc=>if ZD M c then none else(ZcP cbD (wfV w ls c) M).map λk=>(c,k))=(K.filter λc=>!ZD M c&&Zdq w ls c M).map λc=>(c,((t+1:Nat):Int)):=by
  intro K
  induction K with
  | nil=>intro _; rfl
  | cons c K ih =>
   intro hK;have ih:=ih λx hx=>hK x (Zyx _ hx);rw[ZzI,Zz9];cases hh:ZD M c with
   | true=>simpa using ih
   | false =>
    have hle:=Zrp hL hne T (hK c (Zyw ..)) hh;rw[hle];cases hcan:Zdq w ls c M with
    | false=>simpa [hcan]using ih
    | true=>simpa [hcan]using ih
 exact key L λ_ h=>h
theorem ZuT{M R:Tb}{k:Option Int}{found:List (List Int)}(r:Zkk (wfV w ls) cbD L M k found R):∀t:Nat,(found=[]->Zfs w ls L t M/\ZaX w ls L M=[])->(found≠[]->k=some (t:Int)/\Zfs w ls L t (Zbs found t M))->Zhb w ls L R:=by
 induction r with
 | done=>intro t h _; exact⟨t,h rfl⟩
 | @step M R k found hf _ ih =>
  intro t _ h;obtain⟨hk,T⟩:=h hf;cases hk;have ho:=ZtW hL hne T;have hmin:∀ms:List (List Int),Zfu (ms.map λc=>(c,((t+1:Nat):Int)))=ms/\(ms≠[]->Zb9 (ms.map λc=>(c,((t+1:Nat):Int)))=some ((t+1:Nat):Int)):=λms=>by
   cases ms with
   | nil=>exact⟨rfl,λz=>absurd rfl z⟩
   | cons c ms =>
    have hO:Zb9 ((c::ms).map λc=>(c,((t+1:Nat):Int)))=some ((t+1:Nat):Int):=by unfold Zb9;rw[ZyP];refine ZB1.mpr ⟨ZyC.mpr ⟨c,Zyw ..,rfl⟩,λb hb=>?_⟩;obtain⟨c',_,rfl⟩:=ZyC.mp hb;exact ZDc _
    refine⟨?_,λ_=>hO⟩;unfold Zfu;rw[hO];have:∀xs:List (List Int),((xs.map λc=>(c,((t+1:Nat):Int))).filter λp=>some p.2==some ((t+1:Nat):Int)).map (·.1)=xs:=by
     intro xs
     induction xs with
     | nil=>rfl
     | cons x xs ih=>simp at ih ⊢; exact ih
    exact this _
  obtain⟨m1,m2⟩:=hmin (ZaX w ls L (Zbs found t M));rw[ho,m1]at ih;refine ih (if ZaX w ls L (Zbs found t M)=[]then t else t+1) (λe=>?_) λe=>?_
  ·rw[if_pos e]
   exact⟨T,e⟩
  ·rw[if_neg e]
   exact⟨m2 e,Zkw hL T⟩
theorem Zts(hv:Wk.V w){R:Tb}(r:Zkk (wfV w ls) cbD L [] (some 0) (L.filter λc=>Z0 w c) R):Zhb w ls L R:=by
 refine ZuT hL hne r 0 (λe=>?_) λ_=>⟨rfl,Zkp⟩;have T:Zfs w ls L 0 (M0 w L):=Zkp;have e0:M0 w L=[]:=by unfold M0; rw[e]; rfl
 rw[e0]at T;refine⟨T,ZBT.mpr λc hc h=>?_⟩;rw[ZyN]at h;obtain⟨d,hd,hq⟩:=ZzA.mp h.2;rw[ZyN]at hq;obtain⟨p,hp⟩:=List.exists_mem_of_ne_nil _ (Zgt (w:=w) (ls:=ls) (ZkY (hne c hc) hq.1));have:=ZyD.mp hq.2 p hp;cases this
end
theorem Zox{w:Wk}(hv:Wk.V w){ap:AP}(A:ApD ap){ls:List Int}{L:List (List Int)}(hnd:L.Nodup)(hcr:∀c∈L,Cr w.many c/\c≠[])(hlen:L.length<=128)(hL:Zcq w ls L):∃M,Zdl ap [w.d,.dict (Zj (Zrl w ls L))]=some (.dict (Zj (encM M)))/\Zhb w ls L M:=by
 have hys:∀c∈L,(wfV w ls c).length<1000:=λc hc=>by unfold wfV;rw[Zyt];have:=ZlX w c;have:=hv.d2;omega
 obtain⟨R,e,r⟩:=ZpL hv (ap:=ap) (wf:=wfV w ls) (t:=0) (cs:=[]) (cb:=cbD) hnd hlen (λc hc=>(hcr c hc).1) hys λc hc y hy M=>by
  rw[A.d0];obtain⟨d,hd,rfl⟩:=ZyC.mp hy;obtain⟨d0,d1,d2⟩:=Zd2 hd;refine ZpQ ?_ ?_ M
  ·have:=split_len (w:=w) (ls:=ls) (c:=ZB w c d)
   have:=(Zc8 hv (hcr c hc).1 d0 d1).len;have:=hv.m2;show(ZH w ls (ZB w c d)).length<1000;omega
  ·exact λz=>Zgt (w:=w) (ls:=ls) (ZkY (hcr c hc).2 d2) (by unfold Zp; rw[show ZH w ls (ZB w c d)=[] from z]; rfl)
 refine⟨R,?_,Zts hL (λc hc=>(hcr c hc).2) hv r⟩;show Zar (Zf1 ap [some (.pl w.d),some (.pl (.dict (Zj (Zrl w ls L))))])=_;unfold Zf1 ZG Zn;show Zar (ZAi Out.rt (Zc2 ap [w.d,.dict (Zj (Zx (wfV w ls) L)),fnD 0 []]))=_;rw[e];rfl
end HG5
namespace HG5
open PySem HM HG HG4
theorem Zhb.cost{w:Wk}{ls:List Int}{L:List (List Int)}{M:Tb}(F:Zhb w ls L M){c:List Int}{k:Int}(h:Zh M c=some k):c∈L/\∃n:Nat,k=(n:Int)/\Win w ls n c=true/\∀m,m<n->Win w ls m c=false:=by
 obtain⟨t,T,_⟩:=F;rw[T.look]at h;split at h
 ·rename_i hc
  obtain⟨n,h1,_,h2,h3⟩:=Zez h;exact⟨hc,n,h1,h2,h3⟩
 ·cases h
theorem Zhb.all{w:Wk}{ls:List Int}{L:List (List Int)}(hL:Zcq w ls L){M:Tb}(F:Zhb w ls L M){c:List Int}(hc:c∈L){n:Nat}(h:Win w ls n c=true):ZD M c=true:=by
 obtain⟨t,T,hm⟩:=F;have T':=Zkw hL T;rw[hm]at T';have st:∀c∈L,Win w ls (t+1) c=true->Win w ls t c=true:=λc hc q=>by have e1:=T.look c;have e2:=T'.look c;rw[if_pos hc]at e1 e2;have e3:Zcy w ls t c=Zcy w ls (t+1) c:=e1.symm.trans e2;rw[<-Zcn,e3,Zcn];exact q
 have:=Zin hL st n c hc h;unfold ZD;rw[T.look,if_pos hc,Zcn];exact this
def Zyq(w:Wk)(ls:List Int)(P:List (List Int))(d:D):Prop:=(∃n:Nat,d=.int n/\(∀p∈P,Win w ls n p=true)/\∀m,m<n->¬∀p∈P,Win w ls m p=true)\/(d=.none/\∀n,¬∀p∈P,Win w ls n p=true)
theorem Zwy:ApD ap:=⟨λ_=>rfl,λ_ _=>rfl⟩
end HG5
namespace HGT
open PySem HM
open HG
open HG5
end HGT
namespace HG14
open PySem HM
open HG
open HG5
open HGT
def Zfk(ap:AP):SF :=
 (Zs (Zik (Zn Zck (Zd (Zb 0) Zm)))
  (Zs (Zik (Zn Zbu (Zd (Zb 0) (Zd (Zb 1) Zm))))
  (Zs (Zik (Zn ZaL (Zd (Zb 0) (Zd (Zb 2) Zm))))
  (Zs (Zik (Zn ZbK (Zd (Zb 0) (Zd (Zb 2) (Zd (Zb 3) Zm)))))
  (Zs (Z2 4 (Zn Zcl (Zd (Zb 0) (Zd (Zb 2) (Zd (Zb 3) Zm)))))
  (Zs (Z2 5 (Zn (Zdl ap) (Zd (Zb 0) (Zd (Zn (ZcG ap) (Zd (Zb 0) (Zd (Zb 1) (Zd (Zb 4) Zm)))) Zm))))
  (Zs (Z2 6 (Zn Za9 (Zd (Zb 0) (Zd (Zb 1) (Zd (Zb 4) Zm)))))
  (Zs (Z2 7 (Zn Zag (Zd (Zb 6) (Zd (Zb 5) Zm))))
  (ZG (eIx (ZdO (Zaf (bOf (Zb 6))) (tV (op2 gEq (Zhw (Zo 7) (Zb 1)) (Zb 9))) (Zb 0)) (eC (.int 0))))))))))))
def Zcd(ap:AP):List D->Option D:=fnOf 4 8 (Zfk ap)
def Zhr(ap:AP):SF :=
 (Zs (Z2 9 (Zn Zbo (Zd (ZgL (ZgL (ZgS (Zb 1) none (some (eC (.int 3)))) (ZeA (Zd (Zb 8) Zm))) (ZgS (Zb 1) (some (eC (.int 4))) none)) (Zd (Zb 2) Zm))))
  (Zs (sIf (tV (op2 ZoD (Zb 9) (eC .none))) (Z2 9 (eC (.int 999))) Zal)
  (sIf (tOr (tV (op2 ZoD (Zb 6) (eC .none))) (tV (op2 gGt (Zb 9) (eIx (Zo 6) (eC (.int 0)))))) (Z2 6 (ZeA (Zd (Zb 9) (Zd (Zb 7) Zm)))) Zal)))
def Zno(ap:AP):SF :=
 (Zs (Z2 1 (Zn ZaZ (Zd (Zb 0) (Zd (eC (.int 2)) Zm))))
  (Zs (Z2 2 (Zn ZcE (Zd (Zb 1) (Zd (Zn ZL (Zd (Zb 0) (Zd (eC (.int 0)) Zm))) Zm))))
  (Zs (Z2 3 (Zn Zaw (Zd (Zn ZL (Zd (Zb 0) (Zd (eC (.int 1)) Zm))) (Zd (eIx (Zo 1) (eC (.int 0))) (Zd (eC (.int 1)) Zm)))))
  (Zs (ZT 4 (ZQ (ZbU (Zaz (bOf (eIx (Zo 1) (eC (.int 1)))))) (tV (op2 ZeD (Zn Zaq (Zd (Zb 2) (Zd (Zb 4) (Zd (Zb 0) Zm)))) (eC .none))) (Zb 0)))
  (Zs (ZeG 4 (sIf (tV (op2 gEq (Zb 4) (eOf (Zdu Zm)))) (ZG (op2 gEq (Zn Zdf (Zd (Zb 1) (Zd (Zb 3) Zm))) (eOf (Zdu Zm)))) Zal))
  (Zs (Z2 5 (eIx (Zo 4) (op2 ZlJ (Zn ZL (Zd (Zb 0) (Zd (eC (.int 1)) Zm))) (Zaz (Zo 4)))))
  (Zs (Z2 6 (eC .none))
  (Zs (Znh 7 8 (Zaf (bOf (Zn Zae (Zd (Zb 1) (Zd (Zb 2) (Zd (Zn Zaq (Zd (Zb 1) (Zd (Zb 3) (Zd (Zb 5) Zm)))) Zm)))))) (Zhr ap))
  (ZG (op2 gEq (Zn (Zcd ap) (Zd (Zb 1) (Zd (Zb 2) (Zd (Zb 3) (Zd (Zb 5) Zm))))) (eIx (Zo 6) (eC (.int 1)))))))))))))
def Zf2(ap:AP):List D->Option D:=fnOf 1 10 (Zno ap)
end HG14
namespace HG14
open PySem HM HG4
open HG
open HG5
abbrev wB(w:Wk)(p:List Int):Wk:=⟨w.many,w.deeds,w.looks,p,w.goal⟩
theorem ZnX{w:Wk}{p ls:List Int}:∀(n:Nat) (c:List Int),Win (wB w p) ls n c=Win w ls n c
 | 0,c=>rfl
 | n+1,c=>by
  show(Z0 (wB w p) c||(ZyA (wB w p).deeds.length).any λd=>Z9 (wB w p) c d&&(Zp (wB w p) ls (ZB (wB w p) c d)).all λq=>Win (wB w p) ls n q)=(Z0 w c||(ZyA w.deeds.length).any λd=>Z9 w c d&&(Zp w ls (ZB w c d)).all λq=>Win w ls n q);have e:(λq=>Win (wB w p) ls n q)=λq=>Win w ls n q:=by
   funext q
   exact ZnX n q
  rw[e];rfl
theorem Zx7{w:Wk}(hv:Wk.V w){p:List Int}(hp:Cr w.many p)(h0:p≠[]):Wk.V (wB w p):=⟨hv.m1,hv.m2,hv.d1,hv.d2,hv.dl,hv.dc,hv.l2,hv.ll,hv.lc,h0,hp,hv.gc⟩
theorem Zk3{w:Wk}{ls b p:List Int}(h:p∈Zp w ls b):∀q,q∈Zp w ls p↔q=p:=by
 obtain⟨s,hs,rfl⟩:=Zfe.mp h;have key:∀x∈ZgQ w ls b s,ZgQ w ls (ZgQ w ls b s) x=ZgQ w ls b s:=λx hx=>by refine ZAf.mpr λy hy=>?_;rw[beq_iff_eq];exact(Zgx.mp hy).2.trans (Zgx.mp hx).2.symm
 intro q
 constructor
 ·intro hq
  obtain⟨x,hx,e⟩:=Zfe.mp hq;rw[e,key x hx]
 ·intro e
  rw[e];have hm:s∈ZgQ w ls b s:=Zgx.mpr ⟨hs,rfl⟩;exact Zfe.mpr ⟨s,hm,(key s hm).symm⟩
def mV(M:Tb)(p:List Int):Int:=(Zh M p).getD 999
section
variable{w:Wk}(hv:Wk.V w)(h7:w.many<=7){ls:List Int}(hl:Cr w.looks.length ls){L:List (List Int)}{M:Tb}(hL:Zcq w ls L)(hlen:L.length<=128)(F:Zhb w ls L M)
include hL hlen F
theorem Zqa{p:List Int}{k:Int}(h:Zh M p=some k):0<=k/\k<999:=by
 obtain⟨hc,n,rfl,h1,h2⟩:=F.cost h;have:=Zp3 hL hc h1
 by_cases hn:n<=L.length
 ·omega
 ·rw[h2 L.length (by omega)]at this
  cases this
include hv h7 hl
theorem ZsG{b p:List Int}(hb:Cr w.many b)(hp:p∈Zp w ls b)(hpl:p∈L):∃d,Zbo [(wB w p).d,tupI ls]=some d/\((d=.none/\Zh M p=none)\/∃k,d=.int k/\Zh M p=some k):=by
 obtain⟨hpc,hpn,_⟩:=ZeM hb hp;obtain⟨d,e,f⟩:=ZmW (Zx7 hv hpc hpn) h7 (ls:=ls) hl;refine⟨d,e,?_⟩;have hwb:∀n,Zoh (wB w p) ls n↔Win w ls n p=true:=λn=>by
  unfold Zoh
  constructor
  ·intro h
   have:=h p ((Zk3 hp p).mpr rfl)
   rwa [ZnX]at this
  ·intro h q hq
   rw[ZnX,(Zk3 hp q).mp hq];exact h
 rcases f with⟨n,rfl,f1,f2⟩ | ⟨rfl,f1⟩
 ·right
  have h1:=(hwb n).mp f1;have h2:=F.all hL hpl h1;unfold ZD at h2;obtain⟨k,hk⟩:=Zy4.mp h2;obtain⟨_,m,rfl,g1,g2⟩:=F.cost hk;have:m=n:=by
   rcases Nat.lt_trichotomy m n with h | h | h
   ·exact absurd ((hwb m).mpr g1) (f2 m h)
   ·exact h
   ·rw[g2 n h]at h1; cases h1
  subst this;exact⟨_,rfl,hk⟩
 ·left
  refine⟨rfl,?_⟩;cases hk:Zh M p with
  | none=>rfl
  | some k=>obtain⟨_,m,_,g1,_⟩:=F.cost hk;exact absurd ((hwb m).mpr g1) (f1 m)
end
def Ze2(M:Tb)(b:Option (Int × List Int))(x:List Int × List Int):Option (Int × List Int):=match b with
 | none=>some (mV M x.2,x.1)
 | some (m,k)=>if m<mV M x.2 then some (mV M x.2,x.1)else some (m,k)
def ZcU:Option (Int × List Int)->D
 | none=>.none
 | some (m,k)=>.tuple [.int m,tupI k]
structure Zpf(M:Tb)(pre:Gs)(m:Int)(k:List Int):Prop where
 hd:∃p ps,pre.filter (λx=>mV M x.2==m)=(k,p)::ps
 le:∀x∈pre,mV M x.2<=m
theorem ZoG(M:Tb):∀(g pre:Gs) (b:Option (Int × List Int)),(b=none/\pre=[]\/∃m k,b=some (m,k)/\Zpf M pre m k)->(b=none->g≠[])->∃m k,g.foldl (Ze2 M) b=some (m,k)/\Zpf M (pre++g) m k
 | [],pre,b,h,hne=>by
  rcases h with⟨h1,_⟩ | ⟨m,k,h1,h2⟩
  ·exact absurd rfl (hne h1)
  ·exact⟨m,k,h1,by rw[Zy7]; exact h2⟩
 | x::g,pre,b,h,hne=>by
  rw[Zzr,show pre++x::g=(pre++[x])++g by simp];refine ZoG M g (pre++[x]) (Ze2 M b x) (.inr ?_) λz=>?_
  ·rcases h with⟨rfl,rfl⟩ | ⟨m,k,rfl,hb⟩
   ·refine⟨mV M x.2,x.1,rfl,⟨x.2,[],?_⟩,λy hy=>?_⟩
    ·rw[ZAr,ZA6 (by simp)]
     rfl
    ·rw[ZyL.mp hy]
     exact ZDc _
   ·unfold Ze2
    by_cases hlt:m<mV M x.2
    ·dsimp only
     rw[if_pos hlt];refine⟨_,_,rfl,⟨x.2,[],?_⟩,λy hy=>?_⟩
     ·rw[ZCq,ZBT.mpr λy hy q=>?_,ZA6 (by simp)]
      ·rfl
      ·have:=hb.le y hy
       have:=beq_iff_eq.mp q;omega
     ·rcases ZyZ.mp hy with hy | hy
      ·have:=hb.le y hy
       omega
      ·rw[ZyL.mp hy]
       exact ZDc _
    ·dsimp only
     rw[if_neg hlt];obtain⟨p,ps,e⟩:=hb.hd;refine⟨_,_,rfl,⟨p,ps++[x].filter (λx=>mV M x.2==m),?_⟩,λy hy=>?_⟩
     ·rw[ZCq,e]
      rfl
     ·rcases ZyZ.mp hy with hy | hy
      ·exact hb.le y hy
      ·rw[ZyL.mp hy]
       omega
  ·exfalso
   unfold Ze2 at z;cases b with
   | none=>cases z
   | some y=>obtain⟨m,k⟩:=y;dsimp only at z;split at z<;>cases z
theorem Zpf.of{M:Tb}{g:Gs}(hg:g≠[]):∃m k,g.foldl (Ze2 M) none=some (m,k)/\Zpf M g m k:=by
 have:=ZoG M g [] none (.inl ⟨rfl,rfl⟩) λ_=>hg
 rwa [ZAr]at this
section
variable{w:Wk}(hv:Wk.V w)(h7:w.many<=7){ls:List Int}(hl:Cr w.looks.length ls)
include hv h7 hl
theorem ZsD{L:List (List Int)}{M:Tb}(hL:Zcq w ls L)(hlen:L.length<=128)(F:Zhb w ls L M){b:List Int}(hb:Cr w.many b)(q0 q3 q4 q5:Option B):∀(g:Gs) (z:Option (Int × List Int)) (q7 q8 q9:Option B),(∀x∈g,x.2∈Zp w ls b/\x.2∈L) ->
  ∃p7 p8 p9,Zfa 7 8 (Zhr ap) (g.map Z3) [q0,some (.pl w.d),some (.pl (tupI ls)),q3,q4,q5,some (.pl (ZcU z)),q7,q8,q9]=some (.nx [q0,some (.pl w.d),some (.pl (tupI ls)),q3,q4,q5,some (.pl (ZcU (g.foldl (Ze2 M) z))),p7,p8,p9])
 | [],z,q7,q8,q9,_=>⟨q7,q8,q9,rfl⟩
 | (k,p)::g,z,q7,q8,q9,h=>by
  obtain⟨h1,h2⟩:=h (k,p) (Zyw ..);obtain⟨d,e,hd⟩:=ZsG hv h7 hl hL hlen F hb h1 h2;have hcat:ZgL (ZgL (ZgS (Zb 1) none (some (eC (.int 3)))) (ZeA (Zd (Zb 8) Zm))) (ZgS (Zb 1) (some (eC (.int 4))) none) [q0,some (.pl w.d),some (.pl (tupI ls)),q3,q4,q5,some (.pl (ZcU z)),some (.pl (tupI k)),some (.pl (tupI p)),q9]=some (wB w p).d:=rfl;have body:(Zhr ap) [q0,some (.pl w.d),some (.pl (tupI ls)),q3,q4,q5,some (.pl (ZcU z)),some (.pl (tupI k)),some (.pl (tupI p)),q9]=some (.nx [q0,some (.pl w.d),some (.pl (tupI ls)),q3,q4,q5,some (.pl (ZcU (Ze2 M z (k,p)))),some (.pl (tupI k)),some (.pl (tupI p)),some (.pl (.int (mV M p)))]):=by
   unfold Zhr;refine ZS (P:=λq=>q=_) (r':=[q0,some (.pl w.d),some (.pl (tupI ls)),q3,q4,q5,some (.pl (ZcU z)),some (.pl (tupI k)),some (.pl (tupI p)),some (.pl d)]) ?_ ?_
   ·have hc:Zn Zbo (Zd (ZgL (ZgL (ZgS (Zb 1) none (some (eC (.int 3)))) (ZeA (Zd (Zb 8) Zm))) (ZgS (Zb 1) (some (eC (.int 4))) none)) (Zd (Zb 2) Zm)) [q0,some (.pl w.d),some (.pl (tupI ls)),q3,q4,q5,some (.pl (ZcU z)),some (.pl (tupI k)),some (.pl (tupI p)),q9]=some d:=e
    unfold Z2;rw[hc];rfl
   refine ZS (P:=λq=>q=_) (r':=[q0,some (.pl w.d),some (.pl (tupI ls)),q3,q4,q5,some (.pl (ZcU z)),some (.pl (tupI k)),some (.pl (tupI p)),some (.pl (.int (mV M p)))]) ?_ ?_
   ·unfold mV
    rcases hd with⟨rfl,hk⟩ | ⟨n,rfl,hk⟩
    ·rw[hk]; rfl
    ·rw[hk]; rfl
   ·cases z with
    | none=>rfl
    | some y =>
     obtain⟨m,k'⟩:=y;unfold Ze2;dsimp only
     by_cases hlt:m<mV M p
     ·rw[if_pos (show m<mV M (k,p).2 from hlt)]
      simp[ZcU,hlt]
     ·rw[if_neg (show ¬m<mV M (k,p).2 from hlt)]
      simp[ZcU,hlt]
  obtain⟨p7,p8,p9,ih⟩:=ZsD hL hlen F hb q0 q3 q4 q5 g (Ze2 M z (k,p)) (some (.pl (tupI k))) (some (.pl (tupI p))) (some (.pl (.int (mV M p)))) λx hx=>h x (Zyx _ hx);refine⟨p7,p8,p9,?_⟩;rw[Zzr,<-ih,Zyz];show(match(Zhr ap) [q0,some (.pl w.d),some (.pl (tupI ls)),q3,q4,q5,some (.pl (ZcU z)),some (.pl (tupI k)),some (.pl (tupI p)),q9]with | some (.nx r')=>_ | some (.ct r')=>_ | some (.bk r')=>_ | some (.rt d)=>_ | none=>_)=_;rw[body]
theorem Zm4{c:List Int}(hc:Cr w.many c)(h0:c≠[]){d:Int}(hd0:0<=d)(hd1:d<w.deeds.length)(hcan:Z9 w c d=true):∃L M m k,(∀x∈ZH w ls (ZB w c d),x.2∈Zp w ls (ZB w c d)/\x.2∈L)/\Zcq w ls L/\L.length<=128/\Zhb w ls L M /\
  (ZH w ls (ZB w c d)).foldl (Ze2 M) none=some (m,k)/\Zcd ap [w.d,tupI ls,tupI c,.int d]=some (tupI k):=by
 have hb:=Zc8 hv hc hd0 hd1;have hbn:=ZkY h0 hcan;obtain⟨L,hco,hnd,hlen,hcr,hrc,hL,hbg⟩:=Zlz hv h7 hl Zwy hb;obtain⟨M,hde,F⟩:=Zox hv Zwy hnd hcr hlen hL;have hpa:=Zi2 hv hl hb;have hsl:=split_len (w:=w) (ls:=ls) (c:=ZB w c d);have hbl:=hb.len;have hsn:ZH w ls (ZB w c d)≠[]:=λe=>Zgt (w:=w) (ls:=ls) hbn (by unfold Zp; rw[e]; rfl);have hmd:=Zgn (g:=ZH w ls (ZB w c d)) (by omega) hsn (M:=M);obtain⟨m,k,hf,hB⟩:=Zpf.of (M:=M) hsn;have hall:∀x∈ZH w ls (ZB w c d),x.2∈Zp w ls (ZB w c d)/\x.2∈L:=λx hx=>by have:x.2∈Zp w ls (ZB w c d):=ZyC.mpr ⟨x,hx,rfl⟩;exact⟨this,hbg _ this⟩
 refine⟨L,M,m,k,hall,hL,hlen,F,hf,?_⟩;have hc1:=Zle hv;have hc2:=Zkx hv hl;have hc3:=ZgB hv hc h0;have hc4:=ZkR hv hc hd0 hd1 hcan;have hld:=Zmf hv hc hd0 hd1;generalize ZB w c d=b at *;generalize ZH w ls b=g at *;obtain⟨p,ps,hhd⟩:=hB.hd;have key:∃md,Zag [.list (g.map Z3),.dict (Zj (encM M))]=some md/\∀x∈g,gEq ((Zh M x.2).map dI |>.getD .none) md=some (.bool (mV M x.2==m)):=by
  have hin:(k,p)∈g:=by
   have:(k,p)∈g.filter λx=>mV M x.2==m:=by rw[hhd]; exact Zyw ..
   exact(Zy2.mp this).1
  have hmk:mV M p=m:=by
   have:(k,p)∈g.filter λx=>mV M x.2==m:=by rw[hhd]; exact Zyw ..
   exact beq_iff_eq.mp (Zy2.mp this).2
  rw[hmd];unfold ZcN;cases hq:(g.map (·.2)).all (ZD M)with
  | false =>
   have hm9:m=999:=by
    obtain⟨y,hy,hyn⟩:∃y∈g,Zh M y.2=none:=by
     apply ZBt;intro z;have:(g.map (·.2)).all (ZD M)=true:=ZyD.mpr λq hq'=>by
      obtain⟨y,hy,rfl⟩:=ZyC.mp hq';unfold ZD;cases hk:Zh M y.2 with
      | some _=>rfl
      | none=>exact absurd ⟨y,hy,hk⟩ z
     rw[hq]at this;cases this
    have h1:=hB.le y hy;have h2:mV M y.2=999:=by unfold mV; rw[hyn]; rfl
    have h3:m<=999:=by
     rw[<-hmk];unfold mV;cases hk:Zh M p with
     | none=>exact ZDc _
     | some v=>have:=Zqa hL hlen F hk; show v<=999; omega
    omega
   refine⟨.none,rfl,λx hx=>?_⟩;subst hm9;unfold mV;cases hk:Zh M x.2 with
   | none=>rfl
   | some v =>
    have:=Zqa hL hlen F hk;have hne:(v==(999:Int))=false:=by rw[beq_eq_false_iff_ne]; omega
    show gEq (dI v) .none=some (.bool (v==999));rw[hne];rfl
  | true =>
   have hhas:∀x∈g,∃v,Zh M x.2=some v:=λx hx=>by have:=ZyD.mp hq x.2 (ZyC.mpr ⟨x,hx,rfl⟩);exact Zy4.mp this
   have hmax:((g.map (·.2)).filterMap λp=>Zh M p).max?=some m:=by
    rw[ZBe]
    constructor
    ·obtain⟨v,hv'⟩:=hhas _ hin
     refine Zzy.mpr ⟨p,ZyC.mpr ⟨_,hin,rfl⟩,?_⟩;rw[<-hmk];unfold mV;rw[hv'];rfl
    ·intro v hvm
     obtain⟨q,hq1,hq2⟩:=Zzy.mp hvm;obtain⟨y,hy,rfl⟩:=ZyC.mp hq1;have:=hB.le y hy;unfold mV at this;rw[hq2]at this;exact this
   rw[if_pos rfl,hmax];refine⟨.int m,rfl,λx hx=>?_⟩;obtain⟨v,hv'⟩:=hhas x hx;unfold mV;rw[hv'];show gEq (.int v) (.int m)=some (.bool (v==m));simp
 obtain⟨md,hmd',hcmp⟩:=key;have hgl:g.length<1000000:=by omega
 have hfil:Zch (tV (op2 gEq (Zhw (Zo 7) (Zb 1)) (Zb 9))) (Zb 0) [some (.pl w.d),some (.pl (tupI ls)),some (.pl (tupI c)),some (.pl (.int d)),some (.pl (tupI b)),some (.pl (.dict (Zj (encM M)))),some (.pl (.list (g.map Z3))),some (.pl md)] (g.map Z3)=some ((g.filter λx=>mV M x.2==m).map λx=>tupI x.1):=by
  have e:=Zeb (c:=tV (op2 gEq (Zhw (Zo 7) (Zb 1)) (Zb 9))) (e:=Zb 0) (r:=[some (.pl w.d),some (.pl (tupI ls)),some (.pl (tupI c)),some (.pl (.int d)),some (.pl (tupI b)),some (.pl (.dict (Zj (encM M)))),some (.pl (.list (g.map Z3))),some (.pl md)]) (λp:List Int × List Int=>tupI p.1) (λp=>tupI p.2) (λx=>mV M x.2==m) (λx=>tupI x.1) g (λx hx=>by
   have hk:ZaN (tupI x.2)=some (Zac x.2):=ZaD x.2;have hlk:=Zco M x.2;have hgx:=hcmp x hx;have h1:Zhw (Zo 7) (Zb 1) (some (.pl (tupI x.1))::some (.pl (tupI x.2))::[some (.pl w.d),some (.pl (tupI ls)),some (.pl (tupI c)),some (.pl (.int d)),some (.pl (tupI b)),some (.pl (.dict (Zj (encM M)))),some (.pl (.list (g.map Z3))),some (.pl md)])=some (((Zh M x.2).map dI).getD .none):=by simp[dec_enc,hk,hlk]
   have h2:Zb 9 (some (.pl (tupI x.1))::some (.pl (tupI x.2))::[some (.pl w.d),some (.pl (tupI ls)),some (.pl (tupI c)),some (.pl (.int d)),some (.pl (tupI b)),some (.pl (.dict (Zj (encM M)))),some (.pl (.list (g.map Z3))),some (.pl md)])=some md:=rfl;unfold tV op2;rw[h1,h2];dsimp only;rw[hgx]) (λx _ _=>by simp)
  exact e
 show Zar (Zfk ap [some (.pl w.d),some (.pl (tupI ls)),some (.pl (tupI c)),some (.pl (.int d)),none,none,none,none])=_;unfold Zfk;refine ZS (P:=λq=>Zar q=_) (r':=[some (.pl w.d),some (.pl (tupI ls)),some (.pl (tupI c)),some (.pl (.int d)),none,none,none,none]) (by simp[hc1]) ?_;refine ZS (P:=λq=>Zar q=_) (r':=[some (.pl w.d),some (.pl (tupI ls)),some (.pl (tupI c)),some (.pl (.int d)),none,none,none,none]) (by simp[hc2]) ?_;refine ZS (P:=λq=>Zar q=_) (r':=[some (.pl w.d),some (.pl (tupI ls)),some (.pl (tupI c)),some (.pl (.int d)),none,none,none,none]) (by simp[hc3]) ?_;refine ZS (P:=λq=>Zar q=_) (r':=[some (.pl w.d),some (.pl (tupI ls)),some (.pl (tupI c)),some (.pl (.int d)),none,none,none,none]) (by simp[hc4]) ?_;refine ZS (P:=λq=>Zar q=_) (r':=[some (.pl w.d),some (.pl (tupI ls)),some (.pl (tupI c)),some (.pl (.int d)),some (.pl (tupI b)),none,none,none]) (by simp[hld]) ?_;refine ZS (P:=λq=>Zar q=_) (r':=[some (.pl w.d),some (.pl (tupI ls)),some (.pl (tupI c)),some (.pl (.int d)),some (.pl (tupI b)),some (.pl (.dict (Zj (encM M)))),none,none]) (by simp[hco,hde]) ?_;refine ZS (P:=λq=>Zar q=_) (r':=[some (.pl w.d),some (.pl (tupI ls)),some (.pl (tupI c)),some (.pl (.int d)),some (.pl (tupI b)),some (.pl (.dict (Zj (encM M)))),some (.pl (.list (g.map Z3))),none]) (by simp[hpa]) ?_;refine ZS (P:=λq=>Zar q=_) (r':=[some (.pl w.d),some (.pl (tupI ls)),some (.pl (tupI c)),some (.pl (.int d)),some (.pl (tupI b)),some (.pl (.dict (Zj (encM M)))),some (.pl (.list (g.map Z3))),some (.pl md)]) (by simp[hmd']) ?_;have hi:Zaf (bOf (Zb 6)) [some (.pl w.d),some (.pl (tupI ls)),some (.pl (tupI c)),some (.pl (.int d)),some (.pl (tupI b)),some (.pl (.dict (Zj (encM M)))),some (.pl (.list (g.map Z3))),some (.pl md)]=some (g.map Z3):=rfl;have hat:atD (((k,p)::ps).map λx=>tupI x.1) ((0:Nat):Int)=some (tupI k):=ZdF rfl;unfold ZG eIx ZdO;rw[hi];dsimp only;rw[if_pos (show(g.map Z3).length<big by rw[Zyt]; exact hgl),hfil,hhd];show Zar (ZAi Out.rt (atD (((k,p)::ps).map λx=>tupI x.1) ((0:Nat):Int)))=_;rw[hat];rfl
end
theorem Zkv(ns:List Int)(h:ns.length<=63):Zf2 ap [.list (ns.map dI)]=some (.bool true):=by
 have hv:=Wk.Ok.v (ZwK ns 2);have h5:(wkV ns 2).many<=5:=(Zjx ns 2).2;have hw:=ZtM ns 2 h;have hc0:=ZdH ns 0;have hc1:=ZdH ns 1;have hlk:=Zud hv (Zv ns 0);have hl:=ZwH (wkV ns 2).looks.length (Zv ns 0);generalize wkV ns 2=w at *;generalize lkV w.looks.length (Zv ns 0)=ls at *;have h7:w.many<=7:=by omega
 have hm1:=hv.m1;have hcw:=Zki (Zv ns 1) w.many (by omega) (by omega);obtain⟨hcr,hcn⟩:=ZnW (Zv ns 1) w.many (by omega);generalize crV (Zv ns 1) w.many=c at *;have hw':ZaZ [.list (ns.map dI),.int 2]=some w.d:=hw;have hc0':ZL [.list (ns.map dI),.int 0]=some (.int (Zv ns 0)):=hc0;have hc1':ZL [.list (ns.map dI),.int 1]=some (.int (Zv ns 1)):=hc1;have hix0:∀q2 q3 q4 q5 q6 q7 q8 q9,eIx (Zo 1) (eC (.int 0)) [some (.pl (.list (ns.map dI))),some (.pl w.d),q2,q3,q4,q5,q6,q7,q8,q9]=some (.int w.many):=λ_ _ _ _ _ _ _ _=>rfl;have hok:okR (w.deeds.length:Int)=true:=ZcL (by have:=hv.d2; omega);have hdb:w.deeds.length<1000000:=by have:=hv.d2; omega
 have hsome:ZaG (tV (op2 ZeD (Zn Zaq (Zd (Zb 2) (Zd (Zb 4) (Zd (Zb 0) Zm)))) (eC .none))) (Zb 0) [some (.pl (.list (ns.map dI))),some (.pl w.d),some (.pl (tupI ls)),some (.pl (tupI c)),none,none,none,none,none,none] ((ZyA w.deeds.length).map dN)=some ((doV w c).map dI):=by
  rw[ZbP dN (λd:Nat=>Z9 w c d) dN]
  ·unfold doV
   rw[ZyP];rfl
  ·intro d hd
   have hled:=ZfG hv h7 hcr (show(0:Int)<=(d:Int) by omega) (by have:=ZyS.mp hd; omega);unfold ZlQ at hled;cases can:Z9 w c d with
   | false=>rw[can]at hled; simp[hled]
   | true=>rw[can]at hled; simp[hled]
  ·intro d _ _
   simp
 show Zar (Zno ap [some (.pl (.list (ns.map dI))),none,none,none,none,none,none,none,none,none])=_;unfold Zno;refine ZS (P:=λq=>Zar q=_) (r':=[some (.pl (.list (ns.map dI))),some (.pl w.d),none,none,none,none,none,none,none,none]) (by simp[hw']) ?_;refine ZS (P:=λq=>Zar q=_) (r':=[some (.pl (.list (ns.map dI))),some (.pl w.d),some (.pl (tupI ls)),none,none,none,none,none,none,none]) (by simp[hc0',hlk]) ?_;refine ZS (P:=λq=>Zar q=_) (r':=[some (.pl (.list (ns.map dI))),some (.pl w.d),some (.pl (tupI ls)),some (.pl (tupI c)),none,none,none,none,none,none]) ?_ ?_
 ·have:Zn Zaw (Zd (Zn ZL (Zd (Zb 0) (Zd (eC (.int 1)) Zm))) (Zd (eIx (Zo 1) (eC (.int 0))) (Zd (eC (.int 1)) Zm))) [some (.pl (.list (ns.map dI))),some (.pl w.d),some (.pl (tupI ls)),none,none,none,none,none,none,none]=some (tupI c):=by
   unfold Zn Zd;rw[hix0];show(match(match ZL [.list (ns.map dI),.int 1]with | some x=>_ | none=>none)with | some ds=>Zaw ds | none=>none)=_;rw[hc1'];exact hcw
  unfold Z2;rw[this];rfl
 refine ZS (P:=λq=>Zar q=_) (r':=[some (.pl (.list (ns.map dI))),some (.pl w.d),some (.pl (tupI ls)),some (.pl (tupI c)),some (.ol ((doV w c).map dI)),none,none,none,none,none]) ?_ ?_
 ·have hi:ZbU (Zaz (bOf (eIx (Zo 1) (eC (.int 1))))) [some (.pl (.list (ns.map dI))),some (.pl w.d),some (.pl (tupI ls)),some (.pl (tupI c)),none,none,none,none,none,none]=some ((ZyA w.deeds.length).map dN):=by
   have i0:=Zx8 w;simp[i0,-Zbc];simp[hok,Z5]
  unfold ZT ZQ;rw[hi];dsimp only;rw[if_pos (by rw[Zyt,ZAw]; exact hdb),hsome];rfl
 by_cases hdo:doV w c=[]
 ·have hg:gEq (.list ((doV w c).map dI)) (.list [])=some (.bool true):=by rw[hdo]; exact Zd1 (Zh6 0 []) (by decide)
  have hdb':=ZrM hv hcr hcn;unfold Zs;have:ZeG 4 (sIf (tV (op2 gEq (Zb 4) (eOf (Zdu Zm)))) (ZG (op2 gEq (Zn Zdf (Zd (Zb 1) (Zd (Zb 3) Zm))) (eOf (Zdu Zm)))) Zal) [some (.pl (.list (ns.map dI))),some (.pl w.d),some (.pl (tupI ls)),some (.pl (tupI c)),some (.ol ((doV w c).map dI)),none,none,none,none,none]=some (.rt (.bool true)):=by simp[hg,hdb',-gEq]
  rw[this];rfl
 ·have hg:gEq (.list ((doV w c).map dI)) (.list [])=some (.bool false):=by
   rw[Zi0 (α:=Int)];cases hq:doV w c with
   | nil=>exact absurd hq hdo
   | cons _ _=>rfl
  obtain⟨d,hdm,hat⟩:=Zv0 hdo (Zv ns 1);obtain⟨d0,d1,d2⟩:=Zd2 hdm;obtain⟨L,M,m,k,hall,hL,hlen,F,hf,hans⟩:=Zm4 hv h7 hl hcr hcn d0 d1 d2;have hb:=Zc8 hv hcr d0 d1;have hled:=ZfG hv h7 hcr d0 d1;unfold ZlQ at hled;rw[if_pos d2]at hled;have hs:=Zds hv hl hb;have hsl:=split_len (w:=w) (ls:=ls) (c:=ZB w c d);have hbl:=hb.len;have hlen0:0<(doV w c).length:=ZA0.mpr hdo;obtain⟨p7,p8,p9,hgo⟩:=ZsD hv h7 hl hL hlen F hb (some (.pl (.list (ns.map dI)))) (some (.pl (tupI c))) (some (.pl (.list ((doV w c).map dI)))) (some (.pl (dI d))) (ZH w ls (ZB w c d)) none none none none hall;rw[hf]at hgo;refine ZS (P:=λq=>Zar q=_) (r':=[some (.pl (.list (ns.map dI))),some (.pl w.d),some (.pl (tupI ls)),some (.pl (tupI c)),some (.pl (.list ((doV w c).map dI))),none,none,none,none,none]) (by simp[hg,-gEq]) ?_;refine ZS (P:=λq=>Zar q=_) (r':=[some (.pl (.list (ns.map dI))),some (.pl w.d),some (.pl (tupI ls)),some (.pl (tupI c)),some (.pl (.list ((doV w c).map dI))),some (.pl (dI d)),none,none,none,none]) ?_ ?_
  ·have hp:(0:Int)<((doV w c).length:Int):=by omega
   have hgm:op2 ZlJ (Zn ZL (Zd (Zb 0) (Zd (eC (.int 1)) Zm))) (Zaz (Zo 4)) [some (.pl (.list (ns.map dI))),some (.pl w.d),some (.pl (tupI ls)),some (.pl (tupI c)),some (.pl (.list ((doV w c).map dI))),none,none,none,none,none]=some (.int (Zv ns 1 % ((doV w c).length:Int))):=by simp[hc1',hlen0]
   have hix:eIx (Zo 4) (op2 ZlJ (Zn ZL (Zd (Zb 0) (Zd (eC (.int 1)) Zm))) (Zaz (Zo 4))) [some (.pl (.list (ns.map dI))),some (.pl w.d),some (.pl (tupI ls)),some (.pl (tupI c)),some (.pl (.list ((doV w c).map dI))),none,none,none,none,none]=some (dI d):=by unfold eIx;rw[hgm];exact hat
   unfold Z2;rw[hix];rfl
  refine ZS (P:=λq=>Zar q=_) (r':=[some (.pl (.list (ns.map dI))),some (.pl w.d),some (.pl (tupI ls)),some (.pl (tupI c)),some (.pl (.list ((doV w c).map dI))),some (.pl (dI d)),some (.pl (ZcU none)),none,none,none]) rfl ?_;refine ZS (P:=λq=>Zar q=_) (r':=[some (.pl (.list (ns.map dI))),some (.pl w.d),some (.pl (tupI ls)),some (.pl (tupI c)),some (.pl (.list ((doV w c).map dI))),some (.pl (dI d)),some (.pl (ZcU (some (m,k)))),p7,p8,p9]) ?_ ?_
  ·have hled':Zaq [w.d,tupI c,dI d]=some (tupI (ZB w c d)):=hled
   have hi:Zaf (bOf (Zn Zae (Zd (Zb 1) (Zd (Zb 2) (Zd (Zn Zaq (Zd (Zb 1) (Zd (Zb 3) (Zd (Zb 5) Zm)))) Zm))))) [some (.pl (.list (ns.map dI))),some (.pl w.d),some (.pl (tupI ls)),some (.pl (tupI c)),some (.pl (.list ((doV w c).map dI))),some (.pl (dI d)),some (.pl (ZcU none)),none,none,none]=some ((ZH w ls (ZB w c d)).map Z3):=by simp[hled',hs]
   unfold Znh;rw[hi];dsimp only;rw[if_pos (by rw[Zyt]; show _<1000000; omega)];exact hgo
  ·have hans':Zcd ap [w.d,tupI ls,tupI c,dI d]=some (tupI k):=hans
   have hgk:gEq (tupI k) (tupI k)=some (.bool true):=Zd1 (ZdG 0 k) (by decide);simp[hans',ZcU,hgk,Zar,-gEq]
end HG14
namespace HT
open PySem PySem.Spec PyProof.Rows L2 HP HM
open HG
open HG4
open HG5
open HG14
def top(i:Nat):Stmt:=PySem.Challenge.pw_halfseen_k14_a_foe_answers.main.body.getD i (.Pass ⟨0,0,0,0⟩)
abbrev Zf3:Stmt:=top 11
abbrev ZiK:Stmt:=top 12
abbrev Zf4:Stmt:=top 13
abbrev ZfA:Stmt:=top 14
abbrev ZfB:Stmt:=top 15
abbrev Zen:Stmt:=top 16
abbrev Zeo:Stmt:=top 17
abbrev Zg0:Stmt:=top 18
abbrev Zf5:Stmt:=top 19
abbrev Zf6:Stmt:=top 20
abbrev Zg1:Stmt:=top 21
abbrev Zg2:Stmt:=top 22
abbrev ZhL:Stmt:=top 23
abbrev ZhM:Stmt:=top 24
abbrev ZdY:Stmt:=top 25
abbrev ZdZ:Stmt:=top 26
abbrev ZfC:Stmt:=top 27
abbrev ZdA:Stmt:=top 29
abbrev ZdQ:Stmt:=top 30
abbrev ZiL:Stmt:=top 31
abbrev ZgJ:Stmt:=top 32
abbrev ZeZ:Stmt:=top 33
abbrev Zep:Stmt:=top 34
abbrev ZiM:Stmt:=top 35
abbrev ZcH:Stmt:=top 37
abbrev Zeq:Stmt:=top 38
abbrev ZcY:Stmt:=top 39
abbrev Zfl:Stmt:=top 40
abbrev Zc4:Stmt:=top 41
abbrev ZcT:Stmt:=top 42
abbrev Zer:Stmt:=top 43
abbrev ZX:Stmt:=top 44
abbrev Ze0:Stmt:=top 45
abbrev Zf7:Stmt:=top 46
abbrev ZdR:Stmt:=top 48
abbrev Zg3:Stmt:=top 50
abbrev ZhN:Stmt:=top 51
abbrev Zes:Stmt:=top 52
abbrev Zg4:Stmt:=top 53
abbrev Zg5:Stmt:=top 54
abbrev Zet:Stmt:=top 55
abbrev Zeu:Stmt:=top 56
abbrev ZhO:Stmt:=top 57
abbrev Zdm:Stmt:=top 58
abbrev ZdB:Stmt:=top 59
abbrev Zev:Stmt:=top 60
abbrev Zf8:Stmt:=top 61
abbrev Zcu:Stmt:=top 62
abbrev ZdS:Stmt:=top 63
abbrev Ze7:Stmt:=top 64
structure Txt(K:Zys)(mg:Str->Option Value):Prop where
 n_len:mg "len" = none
 n_tuple:mg "tuple" = none
 n_list:mg "list" = none
 n_set:mg "set" = none
 n_sorted:mg "sorted" = none
 n_range:mg "range" = none
 n_all:mg "all" = none
 n_isinstance:mg "isinstance" = none
 n_int:mg "int" = none
 n_bool:mg "bool" = none
 n_max:mg "max" = none
 n_min:mg "min" = none
 c_MOST_STATES:∃t,mg "MOST_STATES" = some (.int 8 t)
 c_MOST_DEEDS:∃t,mg "MOST_DEEDS" = some (.int 5 t)
 c_MOST_LOOKS:∃t,mg "MOST_LOOKS" = some (.int 4 t)
 c_MOST_SEEN:∃t,mg "MOST_SEEN" = some (.int 9 t)
section
variable[FX]{P:Program}{w:World}{K:Zys}{mg:Str->Option Value}{base:Heap}{k:Nat}
theorem Znp:Zw ["_law_script","_law_k"] ["_law_script","_law_k"] (Ze Zg3):=⟨rfl,rfl,rfl,by decide +kernel,rfl,by decide +kernel,by decide +kernel⟩
theorem Znq(T:Txt K mg){f:Addr}{fd:FuncData}(Fn:Fun K "_law_cell" "_law_cell" Zg3 f fd)(hm:mg "_law_cell" = some (.ref f))(hb:Binds K fd ["_law_script","_law_k"] []):Callee P w K mg base (k+1) "_law_cell" ZL :=
 Zu Fn Znp hm hb λcdv A outer s H E hr=>by
  have hu:=ZI hr;exact(Zf (Zap (Zaj cLt (Za 1) (Za7 T.n_len (Zr 0))) (Zk (Zz (ZY (Zr 0) (Za 1)))) ZW)
  (Zk (Zz Zi)))
theorem Zpn:Zw ["_law_cell_here","_law_prime","_law_many"] ["_law_cell_here","_law_prime","_law_many"] (Ze ZhN):=⟨rfl,rfl,rfl,by decide +kernel,rfl,by decide +kernel,by decide +kernel⟩
theorem Zpo(T:Txt K mg){f:Addr}{fd:FuncData}(Fn:Fun K "_law_mix" "_law_mix" ZhN f fd)(hm:mg "_law_mix" = some (.ref f))(hb:Binds K fd ["_law_cell_here","_law_prime","_law_many"] []):Callee P w K mg base (k+1) "_law_mix" ZJ :=
 Zu Fn Zpn hm hb λcdv A outer s H E hr=>by have hu:=ZI hr;exact(Zk (Zz (ZF oMod (ZF oMod (ZF ZeT (Za 0) Zi) (Za 1)) (Za 2))))
theorem Zfm:Zw ["_law_cell_here","_law_many","_law_least","_law_found"] ["_law_cell_here","_law_many","_law_least"] (Ze Zes):=⟨rfl,rfl,rfl,by decide +kernel,rfl,by decide +kernel,by decide +kernel⟩
theorem Zmt(T:Txt K mg)(ZK:Callee P w K mg base k "_law_mix" ZJ){f:Addr}{fd:FuncData}(Fn:Fun K "_law_crowd" "_law_crowd" Zes f fd)(hm:mg "_law_crowd" = some (.ref f))(hb:Binds K fd ["_law_cell_here","_law_many","_law_least"] []):Callee P w K mg base (k+1) "_law_crowd" Zaw :=
 Zu Fn Zfm hm hb λcdv A outer s H E hr=>by
  have hu:=ZI hr;exact(Zf (Zdx 3 Zfm.nd rfl rfl (N:=["_law_state","_law_cell_here","_law_many","_law_least","_law_found"]) (ZE (sc:=Ze Zes) (XN:=["_law_cell_here","_law_many","_law_least","_law_found"])) (ZbE T.n_range (Za 1)) (λ_ _ _ _ _=>(Zca (Zaj cLt (Zl ZK hr (Zc (ZF ZbO (ZF ZbO (Za 1) (ZF ZeT (ZF ZeT Zi (Za 0)) (Za 0))) (ZF ZeT Zi (Za 0))) (Zc Zi (Zc Zi Zg)))) Zi))) (λ_ _ _ _ _=>(Za 0)))
  (Zf (Zap (Zaj cLt (Za7 T.n_len (Zr 3)) (Za 2)) (Zk (Zao 3 Zfm.nd (ZbQ (Zc (Zl ZK hr (Zc (Za 0) (Zc Zi (Zc (Za 1) Zg)))) Zg)))) ZW)
  (Zk (Zz (Zak T.n_tuple (Zr 3))))))
theorem ZcI:Zw ["_law_cell_here","_law_many","_law_found","_law_state","_law_seed","_law_way","_law_row"] ["_law_cell_here","_law_many"] (Ze Zg4):=⟨rfl,rfl,rfl,by decide +kernel,rfl,by decide +kernel,by decide +kernel⟩
theorem Znr(T:Txt K mg)(ZK:Callee P w K mg base k "_law_mix" ZJ){f:Addr}{fd:FuncData}(Fn:Fun K "_law_deed" "_law_deed" Zg4 f fd)(hm:mg "_law_deed" = some (.ref f))(hb:Binds K fd ["_law_cell_here","_law_many"] []):Callee P w K mg base (k+1) "_law_deed" ZcZ :=
 Zu Fn ZcI hm hb λcdv A outer s H E hr=>by
  have hu:=ZI hr;exact(Zf (Zao 2 ZcI.nd (ZbQ Zg))
  (Zf (Zbf 3 ZcI.nd rfl rfl (ZbE T.n_range (Za 1)) (Zf (ZM 4 ZcI.nd (ZF ZbO (ZF ZbO (Za 0) (ZF ZeT (ZF ZeT Zi (Za 3)) (Za 3))) (ZF ZeT Zi (Za 3))))
  (Zf (ZM 5 ZcI.nd (Zl ZK hr (Zc (Za 4) (Zc Zi (Zc Zi Zg)))))
  (Zf (Zao 6 ZcI.nd (Zs2 (Zl ZK hr (Zc (Za 4) (Zc Zi (Zc (Za 1) Zg)))) Zcz))
  (Zf (Zap (Zaj cLt (Za 5) Zi) (Zk (ZfW hu 6 (Zl ZK hr (Zc (Za 4) (Zc Zi (Zc (Za 1) Zg)))) Zcz)) ZW)
  (Zf (Zd7 2 (Zak T.n_tuple (ZaV (ZgG T.n_sorted rfl (Zr 6)))))
  (Zk (Zap (Zaj (cEq hr) (Za 5) Zi) (Zk (Zuy 2 Zvu (ZdM Zg))) ZW))))))))
  (Zk (Zz (Zak T.n_tuple (Zr 2))))))
theorem Zb5:Zw ["_law_cell_here","_law_many","_law_left","_law_right","_law_state","_law_ahead","_law_behind","_law_slips"] ["_law_cell_here","_law_many"] (Ze Zg5):=⟨rfl,rfl,rfl,by decide +kernel,rfl,by decide +kernel,by decide +kernel⟩
theorem Zns(T:Txt K mg)(ZK:Callee P w K mg base k "_law_mix" ZJ){f:Addr}{fd:FuncData}(Fn:Fun K "_law_walk" "_law_walk" Zg5 f fd)(hm:mg "_law_walk" = some (.ref f))(hb:Binds K fd ["_law_cell_here","_law_many"] []):Callee P w K mg base (k+1) "_law_walk" Zc0 :=
 Zu Fn Zb5 hm hb λcdv A outer s H E hr=>by
  have hu:=ZI hr;exact(Zf (Zao 2 Zb5.nd (ZbQ Zg))
  (Zf (Zao 3 Zb5.nd (ZbQ Zg))
  (Zf (Zbf 4 Zb5.nd rfl rfl (ZbE T.n_range (Za 1)) (Zf (ZM 5 Zb5.nd (Zvw T.n_max rfl (ZF Zrc (Za 4) Zi) Zi))
  (Zf (ZM 6 Zb5.nd (Zvx T.n_min rfl (ZF ZbO (Za 4) Zi) (ZF Zrc (Za 1) Zi)))
  (Zf (ZM 7 Zb5.nd (Zhn (cEq hr) (Zl ZK hr (Zc (ZF ZbO (Za 0) (ZF ZeT Zi (Za 4))) (Zc Zi (Zc Zi Zg)))) Zi))
  (Zf (Zd7 2 (Zak T.n_tuple (ZaV (Ziz T.n_sorted T.n_set rfl (ZaV (ZkE (ZaV (ZbQ (Zc (Za 5) Zg))) (ZaV (Zvy (ZaV (ZbQ (Zc (Za 4) Zg))) (Zs1 T.n_int (Za 7))))))))))
  (Zk (Zd7 3 (ZdM (Zc (Za 6) Zg)))))))))
  (Zk (Zz (ZdM (Zc (Zak T.n_tuple (Zr 2)) (Zc (Zak T.n_tuple (Zr 3)) Zg))))))))
theorem Z7:Zw ["_law_script","_law_at","_law_cell_here","_law_many","_law_deeds","_law_k","_law_looks_here","_law_seed","_law_most","_law_begin","_law_goal"] ["_law_script","_law_at"] (Ze Zet):=⟨rfl,rfl,rfl,by decide +kernel,rfl,by decide +kernel,by decide +kernel⟩
theorem Zmu(T:Txt K mg)(ZaC:Callee P w K mg base k "_law_cell" ZL)(Zb6:Callee P w K mg base k "_law_crowd" Zaw)(ZK:Callee P w K mg base k "_law_mix" ZJ)(Zg6:Callee P w K mg base k "_law_deed" ZcZ)(Zg7:Callee P w K mg base k "_law_walk" Zc0){f:Addr}{fd:FuncData}(Fn:Fun K "_law_works" "_law_works" Zet f fd)(hm:mg "_law_works" = some (.ref f))(hb:Binds K fd ["_law_script","_law_at"] []):Callee P w K mg base (k+1) "_law_works" ZaZ :=
 Zu Fn Z7 hm hb λcdv A outer s H E hr=>by
  have hu:=ZI hr;exact(Zf (ZM 2 Z7.nd (Zl ZaC hr (Zc (Za 0) (Zc (Za 1) Zg))))
  (Zf (ZM 3 Z7.nd (ZF ZbO Zi (Zl ZK hr (Zc (Za 2) (Zc Zi (Zc Zi Zg))))))
  (Zf (Zap (Zaj cGt (Za7 T.n_len (Zr 0)) Zi) (Zk (ZM 3 Z7.nd (ZF ZbO Zi (Zl ZK hr (Zc (Za 2) (Zc Zi (Zc Zi Zg))))))) ZW)
  (Zf (Zao 4 Z7.nd (ZbQ Zg))
  (Zf (Zbf 5 Z7.nd rfl rfl (ZbE T.n_range (ZF ZbO Zi (Zl ZK hr (Zc (Za 2) (Zc Zi (Zc Zi Zg)))))) (Zk (Zd7 4 (Zl Zg6 hr (Zc (ZF ZbO (Zl ZaC hr (Zc (Za 0) (Zc (ZF ZbO (ZF ZbO (Za 1) Zi) (Za 5)) Zg))) (ZF ZeT Zi (Za 5))) (Zc (Za 3) Zg))))))
  (Zf (Zap (Zaj (cEq hr) (Zl ZK hr (Zc (Za 2) (Zc Zi (Zc Zi Zg)))) Zi) (Zk (Zao 4 Z7.nd (ZkE (ZaV (Zix T.n_list (ZaU (Zl Zg7 hr (Zc (Zl ZaC hr (Zc (Za 0) (Zc (ZF ZbO (Za 1) Zi) Zg))) (Zc (Za 3) Zg)))))) (ZaV (Zvz (Zr 4) ZlI (ZlP Zi)))))) ZW)
  (Zf (Zao 6 Z7.nd (ZbQ Zg))
  (Zf (Zbf 5 Z7.nd rfl rfl (ZbE T.n_range (Zl ZK hr (Zc (Za 2) (Zc Zi (Zc Zi Zg))))) (Zf (ZM 7 Z7.nd (ZF ZbO (Zl ZaC hr (Zc (Za 0) (Zc (ZF ZbO (ZF ZbO (Za 1) Zi) (Za 5)) Zg))) (ZF ZeT Zi (Za 5))))
  (Zf (ZM 8 Z7.nd (ZF ZbO Zi (Zl ZK hr (Zc (Za 7) (Zc Zi (Zc Zi Zg))))))
  (Zk (Zd7 6 (Zak T.n_tuple (ZaV (ZaJ rfl rfl (N:=["_law_state","_law_script","_law_at","_law_cell_here","_law_many","_law_deeds","_law_k","_law_looks_here","_law_seed","_law_most","_law_begin","_law_goal"]) (ZE (sc:=Ze Zet) (XN:=["_law_script","_law_at","_law_cell_here","_law_many","_law_deeds","_law_k","_law_looks_here","_law_seed","_law_most","_law_begin","_law_goal"])) (ZbE T.n_range (Za 3)) (λ_ _ _ _ _=>Zbg) (λ_ _ _ _ _=>(Zl ZK hr (Zc (ZF ZbO (Za 8) (ZF ZeT (ZF ZeT Zi (Za 0)) (Za 0))) (Zc Zi (Zc (Za 9) Zg)))))))))))))
  (Zf (ZM 9 Z7.nd (Zl Zb6 hr (Zc (Zl ZaC hr (Zc (Za 0) (Zc (ZF ZbO (Za 1) Zi) Zg))) (Zc (Za 3) (Zc Zi Zg)))))
  (Zf (Zap (Zaj (cEq hr) (Zl ZK hr (Zc (Za 2) (Zc Zi (Zc Zi Zg)))) Zi) (Zk (ZM 9 Z7.nd (Zpm T.n_tuple T.n_range rfl (Za 3)))) ZW)
  (Zf (ZM 10 Z7.nd (Zl Zb6 hr (Zc (Zl ZaC hr (Zc (Za 0) (Zc (ZF ZbO (Za 1) Zi) Zg))) (Zc (Za 3) (Zc Zi Zg)))))
  (Zk (Zz (ZdM (Zc (Za 3) (Zc (Zak T.n_tuple (Zr 4)) (Zc (Zak T.n_tuple (Zr 6)) (Zc (Za 9) (Zc (Za 10) Zg)))))))))))))))))))
theorem Zmv:Zw ["_law_works_here","_law_cell_here"] ["_law_works_here","_law_cell_here"] (Ze Zeu):=⟨rfl,rfl,rfl,by decide +kernel,rfl,by decide +kernel,by decide +kernel⟩
theorem Zmw(T:Txt K mg)(ZK:Callee P w K mg base k "_law_mix" ZJ){f:Addr}{fd:FuncData}(Fn:Fun K "_law_looks" "_law_looks" Zeu f fd)(hm:mg "_law_looks" = some (.ref f))(hb:Binds K fd ["_law_works_here","_law_cell_here"] []):Callee P w K mg base (k+1) "_law_looks" ZcE :=
 Zu Fn Zmv hm hb λcdv A outer s H E hr=>by have hu:=ZI hr;exact(Zk (Zz (Zak T.n_tuple (ZaV (ZaJ rfl rfl (N:=["_law_look","_law_works_here","_law_cell_here"]) (ZE (sc:=Ze Zeu) (XN:=["_law_works_here","_law_cell_here"])) (ZbE T.n_range (Za7 T.n_len (ZaU (ZY (Zr 0) Zi)))) (λ_ _ _ _ _=>(Zca (Zaj cGt (Zl ZK hr (Zc (ZF ZbO (Za 2) (ZF ZeT Zi (Za 0))) (Zc Zi (Zc Zi Zg)))) Zi))) (λ_ _ _ _ _=>(Za 0)))))))
theorem ZdT:Zw ["_law_works_here","_law_looks_here","_law_crowd_here","_law_found","_law_state","_law_seen"] ["_law_works_here","_law_looks_here","_law_crowd_here"] (Ze Zdm):=⟨rfl,rfl,rfl,by decide +kernel,rfl,by decide +kernel,by decide +kernel⟩
theorem Zmx(T:Txt K mg){f:Addr}{fd:FuncData}(Fn:Fun K "_law_split" "_law_split" Zdm f fd)(hm:mg "_law_split" = some (.ref f))(hb:Binds K fd ["_law_works_here","_law_looks_here","_law_crowd_here"] []):Callee P w K mg base (k+1) "_law_split" Zae :=
 Zu Fn ZdT hm hb λcdv A outer s H E hr=>by
  have hu:=ZI hr;exact(Zf (Zao 3 ZdT.nd ZrB)
  (Zf (Zbf 4 ZdT.nd rfl rfl (ZU (Za 2)) (Zf (ZM 5 ZdT.nd (Zak T.n_tuple (ZaV (ZaJ rfl rfl (N:=["_law_look","_law_works_here","_law_looks_here","_law_crowd_here","_law_found","_law_state","_law_seen"]) (ZE (sc:=Ze Zdm) (XN:=["_law_works_here","_law_looks_here","_law_crowd_here","_law_found","_law_state","_law_seen"])) (ZU (Za 1)) (λ_ _ _ _ _=>Zbg) (λ_ _ _ _ _=>(ZY (ZaU (ZY (ZaU (ZY (Zr 1) Zi)) (Za 0))) (Za 5)))))))
  (Zf (Zap (Zs3 hu (Za 5) (Zr 3)) (Zk (ZrD hu 3 (Za 5))) ZW)
  (Zk (Zs4 hu 3 (Za 5) (Za 4))))))
  (Zk (Zz (Zdw (ZaJ rfl rfl (N:=["_law_seen","_law_works_here","_law_looks_here","_law_crowd_here","_law_found","_law_state"," "]) (ZE (sc:=Ze Zdm) (XN:=["_law_works_here","_law_looks_here","_law_crowd_here","_law_found","_law_state","_law_seen"])) (ZU (Zdw (ZgG T.n_sorted rfl (Zr 3)))) (λ_ _ _ _ _=>Zbg) (λ_ _ _ _ _=>(ZdM (Zc (Za 0) (Zc (Zak T.n_tuple (ZrC hu 4 (Za 0))) Zg))))))))))
theorem Ze1:Zw ["_law_works_here","_law_crowd_here","_law_deed_here","_law_found","_law_state"] ["_law_works_here","_law_crowd_here","_law_deed_here"] (Ze ZhO):=⟨rfl,rfl,rfl,by decide +kernel,rfl,by decide +kernel,by decide +kernel⟩
theorem Zpp(T:Txt K mg){f:Addr}{fd:FuncData}(Fn:Fun K "_law_led" "_law_led" ZhO f fd)(hm:mg "_law_led" = some (.ref f))(hb:Binds K fd ["_law_works_here","_law_crowd_here","_law_deed_here"] []):Callee P w K mg base (k+1) "_law_led" Zaq :=
 Zu Fn Ze1 hm hb λcdv A outer s H E hr=>by
  have hu:=ZI hr;exact(Zf (Zao 3 Ze1.nd (ZbQ Zg))
  (Zf (Zbf 4 Ze1.nd rfl rfl (ZU (Za 1)) (Zf (Zap (Zaj (cEq hr) (ZY (ZaU (ZY (ZaU (ZY (Zr 0) Zi)) (Za 2))) (Za 4)) (ZdM Zg)) (Zk (Zz Zb1)) ZW)
  (Zk (Zao 3 Ze1.nd (ZkE (Zr 3) (ZaV (Zix T.n_list (ZaU (ZY (ZaU (ZY (ZaU (ZY (Zr 0) Zi)) (Za 2))) (Za 4))))))))))
  (Zk (Zz (Zak T.n_tuple (ZaV (Ziz T.n_sorted T.n_set rfl (Zr 3))))))))
theorem ZbZ:Zw ["_law_works_here","_law_looks_here","_law_found","_law_at","_law_deed_here","_law_other","_law_some"] ["_law_works_here","_law_looks_here"] (Ze ZdB):=⟨rfl,rfl,rfl,by decide +kernel,rfl,by decide +kernel,by decide +kernel⟩
theorem Zpq(T:Txt K mg)(Zam:Callee P w K mg base k "_law_split" Zae)(ZbC:Callee P w K mg base k "_law_led" Zaq){f:Addr}{fd:FuncData}(Fn:Fun K "_law_all" "_law_all" ZdB f fd)(hm:mg "_law_all" = some (.ref f))(hb:Binds K fd ["_law_works_here","_law_looks_here"] []):Callee P w K mg base (k+1) "_law_all" Zel :=
 Zu Fn ZbZ hm hb λcdv A outer s H E hr=>by
  have hu:=ZI hr;exact(Zf (Zao 2 ZbZ.nd (Zka rfl rfl (N:=["_law_seen","_law_part","_law_works_here","_law_looks_here","_law_found","_law_at","_law_deed_here","_law_other","_law_some"]) (ZE (sc:=Ze ZdB) (XN:=["_law_works_here","_law_looks_here","_law_found","_law_at","_law_deed_here","_law_other","_law_some"])) (ZU (Zl Zam hr (Zc (Za 0) (Zc (Za 1) (Zc (ZY (Zr 0) Zi) Zg))))) (λ_ _ _ _ _=>Zbg) (λ_ _ _ _ _=>(Za 1))))
  (Zf (ZM 3 ZbZ.nd Zi)
  (Zf (Zkb 100000 rfl (Zaj cLt (Za 3) (Za7 T.n_len (Zr 2))) (Zf (Zbf 4 ZbZ.nd rfl rfl (ZbE T.n_range (Za7 T.n_len (ZaU (ZY (Zr 0) Zi)))) (Zf (ZM 5 ZbZ.nd (Zl ZbC hr (Zc (Za 0) (Zc (ZY (Zr 2) (Za 3)) (Zc (Za 4) Zg)))))
  (Zk (Zap (Zaj ZkV (Za 5) Zb1) (Zf (ZjR 6 ZbZ.nd rfl rfl (N:=["_law_seen","_law_part","_law_works_here","_law_looks_here","_law_found","_law_at","_law_deed_here","_law_other","_law_some"]) (ZE (sc:=Ze ZdB) (XN:=["_law_works_here","_law_looks_here","_law_found","_law_at","_law_deed_here","_law_other","_law_some"])) (ZU (Zl Zam hr (Zc (Za 0) (Zc (Za 1) (Zc (Za 5) Zg))))) (λ_ _ _ _ _=>Zbg) (λ_ _ _ _ _=>(Za 1)))
  (Zk (Zde 6 (Zao 2 ZbZ.nd (ZkE (Zr 2) (ZaV (ZaJ rfl rfl (N:=["_law_part","_law_works_here","_law_looks_here","_law_found","_law_at","_law_deed_here","_law_other","_law_some"]) (ZE (sc:=Ze ZdB) (XN:=["_law_works_here","_law_looks_here","_law_found","_law_at","_law_deed_here","_law_other","_law_some"])) (ZU (Za 6)) (λ_ _ _ _ _=>(Zca (ZrF hr (Za 0) (Zr 3)))) (λ_ _ _ _ _=>(Za 0))))))))) ZW))))
  (Zk (ZM 3 ZbZ.nd (ZF ZbO (Za 3) Zi)))))
  (Zk (Zde 2 (Zz (Za 2)))))))
theorem Zmy:Zw ["_law_works_here","_law_crowd_here"] ["_law_works_here","_law_crowd_here"] (Ze Zev):=⟨rfl,rfl,rfl,by decide +kernel,rfl,by decide +kernel,by decide +kernel⟩
theorem Zmz(T:Txt K mg){f:Addr}{fd:FuncData}(Fn:Fun K "_law_there" "_law_there" Zev f fd)(hm:mg "_law_there" = some (.ref f))(hb:Binds K fd ["_law_works_here","_law_crowd_here"] []):Callee P w K mg base (k+1) "_law_there" ZcF :=
 Zu Fn Zmy hm hb λcdv A outer s H E hr=>by have hu:=ZI hr;exact(Zk (Zz (Zhn (cEq hr) (Zdw (ZaJ rfl rfl (N:=["_law_state","_law_works_here","_law_crowd_here"]) (ZE (sc:=Ze Zev) (XN:=["_law_works_here","_law_crowd_here"])) (ZU (Za 1)) (λ_ _ _ _ _=>(Zca (ZrE (Za 0) (ZaU (ZY (Zr 1) Zi))))) (λ_ _ _ _ _=>(Za 0)))) (Zdw (ZbQ Zg)))))
theorem Zdn:Zw ["_law_works_here","_law_looks_here","_law_crowd_here","_law_costs_here","_law_deed_here","_law_other"] ["_law_works_here","_law_looks_here","_law_crowd_here","_law_costs_here"] (Ze Zcu):=⟨rfl,rfl,rfl,by decide +kernel,rfl,by decide +kernel,by decide +kernel⟩
theorem ZiN(T:Txt K mg)(ZbC:Callee P w K mg base k "_law_led" Zaq)(Zam:Callee P w K mg base k "_law_split" Zae){f:Addr}{fd:FuncData}(Fn:Fun K "_law_can_within" "_law_can_within" Zcu f fd)(hm:mg "_law_can_within" = some (.ref f))(hb:Binds K fd ["_law_works_here","_law_looks_here","_law_crowd_here","_law_costs_here"] []):Callee P w K mg base (k+1) "_law_can_within" ZbR :=
 Zu Fn Zdn hm hb λcdv A outer s H E hr=>by
  have hu:=ZI hr;exact(Zf (Zbf 4 Zdn.nd rfl rfl (ZbE T.n_range (Za7 T.n_len (ZaU (ZY (Zr 0) Zi)))) (Zf (ZM 5 Zdn.nd (Zl ZbC hr (Zc (Za 0) (Zc (Za 2) (Zc (Za 4) Zg)))))
  (Zk (Zap (Zaj ZkV (Za 5) Zb1) (Zk (Zap (Zaj (cEq hr) (Zdw (Zka rfl rfl (N:=["_law_seen","_law_part","_law_works_here","_law_looks_here","_law_crowd_here","_law_costs_here","_law_deed_here","_law_other"]) (ZE (sc:=Ze Zcu) (XN:=["_law_works_here","_law_looks_here","_law_crowd_here","_law_costs_here","_law_deed_here","_law_other"])) (ZU (Zl Zam hr (Zc (Za 0) (Zc (Za 1) (Zc (Za 5) Zg))))) (λ_ _ _ _ _=>(Zca (ZgH hu (Za 1) (Zr 5)))) (λ_ _ _ _ _=>(Za 1)))) (Zdw (ZbQ Zg))) (Zk (Zz Zcz)) ZW)) ZW))))
  (Zk (Zz Zcz)))
theorem Zbp:Zw ["_law_works_here","_law_looks_here","_law_crowds","_law_costs_here","_law_crowd_here","_law_turn","_law_more"] ["_law_works_here","_law_looks_here"] (Ze Zf8):=⟨rfl,rfl,rfl,by decide +kernel,rfl,by decide +kernel,by decide +kernel⟩
theorem ZmA(T:Txt K mg)(ZhP:Callee P w K mg base k "_law_all" Zel)(Zf9:Callee P w K mg base k "_law_there" ZcF)(ZdI:Callee P w K mg base k "_law_can_within" ZbR){f:Addr}{fd:FuncData}(Fn:Fun K "_law_costs" "_law_costs" Zf8 f fd)(hm:mg "_law_costs" = some (.ref f))(hb:Binds K fd ["_law_works_here","_law_looks_here"] []):Callee P w K mg base (k+1) "_law_costs" Zdi :=
 Zu Fn Zbp hm hb λcdv A outer s H E hr=>by
  have hu:=ZI hr;exact(Zf (ZM 2 Zbp.nd (Zl ZhP hr (Zc (Za 0) (Zc (Za 1) Zg))))
  (Zf (Zao 3 Zbp.nd Zm6)
  (Zf (Zbf 4 Zbp.nd rfl rfl (ZU (Za 2)) (Zk (Zap (ZbD (Zl Zf9 hr (Zc (Za 0) (Zc (Za 4) Zg)))) (Zk (ZfW hu 3 (Za 4) Zi)) ZW)))
  (Zf (Zbf 5 Zbp.nd rfl rfl (ZrA T.n_range Zi (ZF ZbO (Za7 T.n_len (Zr 2)) Zi)) (Zf (Zao 6 Zbp.nd (ZbQ Zg))
  (Zf (Zbf 4 Zbp.nd rfl rfl (ZU (Za 2)) (Zk (Zap (Zni (Zvv (ZgH hu (Za 4) (Zr 3)) (Zux (ZbD (Zs7 ZdI hr (ZfX (Za 0) (ZfX (Za 1) (ZfX (Za 4) (Znm (Zr 3) (ZrG Zg)))))))))) (Zk (Zd7 6 (Za 4))) ZW)))
  (Zk (Zde 6 (Zbf 4 Zbp.nd rfl rfl (ZU (Za 6)) (Zk (ZfW hu 3 (Za 4) (Za 5)))))))))
  (Zk (Zde 3 (Zz (Za 3))))))))
theorem ZeK:Zw ["_law_works_here","_law_looks_here","_law_costs_here","_law_some"] ["_law_works_here","_law_looks_here"] (Ze ZdS):=⟨rfl,rfl,rfl,by decide +kernel,rfl,by decide +kernel,by decide +kernel⟩
theorem Zli(T:Txt K mg)(Zga:Callee P w K mg base k "_law_costs" Zdi)(Zam:Callee P w K mg base k "_law_split" Zae){f:Addr}{fd:FuncData}(Fn:Fun K "_law_fewest" "_law_fewest" ZdS f fd)(hm:mg "_law_fewest" = some (.ref f))(hb:Binds K fd ["_law_works_here","_law_looks_here"] []):Callee P w K mg base (k+1) "_law_fewest" Zbo :=
 Zu Fn ZeK hm hb λcdv A outer s H E hr=>by
  have hu:=ZI hr;exact(Zf (ZM 2 ZeK.nd (Zl Zga hr (Zc (Za 0) (Zc (Za 1) Zg))))
  (Zf (ZjR 3 ZeK.nd rfl rfl (N:=["_law_seen","_law_part","_law_works_here","_law_looks_here","_law_costs_here","_law_some"]) (ZE (sc:=Ze ZdS) (XN:=["_law_works_here","_law_looks_here","_law_costs_here","_law_some"])) (ZU (Zl Zam hr (Zc (Za 0) (Zc (Za 1) (Zc (ZY (Zr 0) Zi) Zg))))) (λ_ _ _ _ _=>Zbg) (λ_ _ _ _ _=>(Zs6 hu (Zr 4) (Za 1) Zi ⟨rfl,rfl,rfl,rfl⟩)))
  (Zf (Zap (Zaj (cEq hr) (Zlh T.n_max rfl (Zr 3)) Zi) (Zk (Zz Zb1)) ZW)
  (Zk (Zz (Zlh T.n_max rfl (Zr 3)))))))
theorem ZmB:Zw ["thing","least","most"] ["thing","least","most"] (Ze Zf3):=⟨rfl,rfl,rfl,by decide +kernel,rfl,by decide +kernel,by decide +kernel⟩
theorem ZmC(T:Txt K mg){f:Addr}{fd:FuncData}(Fn:Fun K "is_number" "is_number" Zf3 f fd)(hm:mg "is_number" = some (.ref f))(hb:Binds K fd ["thing","least","most"] []):Callee P w K mg base (k+1) "is_number" Zau :=
 Zu Fn ZmB hm hb λcdv A outer s H E hr=>by
  have hu:=ZI hr;exact(Zf (Zap (Zni (Zm5 (ZbD (Zpl T.n_isinstance T.n_bool (Za 0))) (ZkD (ZcV (ZbD (Zqz T.n_isinstance T.n_int (Za 0))))))) (Zk (Zz Zcz)) ZW)
  (Zk (Zz (Znj cLe cLe (Za 1) (Za 0) (Za 2)))))
theorem ZdU:Zw ["thing","many","least","number"] ["thing","many"] (Ze Zf4):=⟨rfl,rfl,rfl,by decide +kernel,rfl,by decide +kernel,by decide +kernel⟩
theorem ZmD(T:Txt K mg)(Zax:Callee P w K mg base k "is_number" Zau){f:Addr}{fd:FuncData}(Fn:Fun K "is_rising" "is_rising" Zf4 f fd)(hm:mg "is_rising" = some (.ref f))(hb:Binds K fd ["thing","many"] []):Callee P w K mg base (k+1) "is_rising" Z8 :=
 Zu Fn ZdU hm hb λcdv A outer s H E hr=>by
  have hu:=ZI hr;exact(Zf (Zap (ZcV (ZbD (Ziy T.n_isinstance T.n_tuple (Za 0)))) (Zk (Zz Zcz)) ZW)
  (Zf (ZM 2 ZdU.nd Zi)
  (Zf (Zbf 3 ZdU.nd rfl rfl (ZU (Za 0)) (Zf (Zap (ZcV (ZbD (Zl Zax hr (Zc (Za 3) (Zc (Za 2) (Zc (ZF Zrc (Za 1) Zi) Zg)))))) (Zk (Zz Zcz)) ZW)
  (Zk (ZM 2 ZdU.nd (ZF ZbO (Za 3) Zi)))))
  (Zk (Zz Zcz)))))
theorem Znt:Zw ["thing","many"] ["thing","many"] (Ze Zg0):=⟨rfl,rfl,rfl,by decide +kernel,rfl,by decide +kernel,by decide +kernel⟩
theorem Znu(T:Txt K mg)(Zay:Callee P w K mg base k "is_rising" Z8){f:Addr}{fd:FuncData}(Fn:Fun K "is_crowd" "is_crowd" Zg0 f fd)(hm:mg "is_crowd" = some (.ref f))(hb:Binds K fd ["thing","many"] []):Callee P w K mg base (k+1) "is_crowd" ZbX :=
 Zu Fn Znt hm hb λcdv A outer s H E hr=>by have hu:=ZI hr;exact(Zk (Zz (ZfU (Zl Zay hr (Zc (Za 0) (Zc (Za 1) Zg))) (ZfT (Zhn cGt (Za7 T.n_len (Zr 0)) Zi)))))
theorem ZqC:Zw ["thing","least","most"] ["thing","least","most"] (Ze ZiK):=⟨rfl,rfl,rfl,by decide +kernel,rfl,by decide +kernel,by decide +kernel⟩
theorem ZqD(T:Txt K mg){f:Addr}{fd:FuncData}(Fn:Fun K "is_row" "is_row" ZiK f fd)(hm:mg "is_row" = some (.ref f))(hb:Binds K fd ["thing","least","most"] []):Callee P w K mg base (k+1) "is_row" ZaW :=
 Zu Fn ZqC hm hb λcdv A outer s H E hr=>by have hu:=ZI hr;exact(Zk (Zz (ZfU (Ziy T.n_isinstance T.n_tuple (Za 0)) (ZfT (Znj cLe cLe (Za 1) (Za7 T.n_len (Zr 0)) (Za 2))))))
theorem Zpr:Zw ["thing","many"] ["thing","many"] (Ze ZfA):=⟨rfl,rfl,rfl,by decide +kernel,rfl,by decide +kernel,by decide +kernel⟩
theorem Zps(T:Txt K mg)(ZaM:Callee P w K mg base k "is_row" ZaW)(Zay:Callee P w K mg base k "is_rising" Z8){f:Addr}{fd:FuncData}(Fn:Fun K "is_deed" "is_deed" ZfA f fd)(hm:mg "is_deed" = some (.ref f))(hb:Binds K fd ["thing","many"] []):Callee P w K mg base (k+1) "is_deed" Zci :=
 Zu Fn Zpr hm hb λcdv A outer s H E hr=>by have hu:=ZI hr;exact(Zk (Zz (ZfU (Zl ZaM hr (Zc (Za 0) (Zc (Za 1) (Zc (Za 1) Zg)))) (ZfT (Zho T.n_all rfl (ZaV (ZaJ rfl rfl (N:=["crowd","thing","many"]) (ZE (sc:=Ze ZfA) (XN:=["thing","many"])) (ZU (Za 0)) (λ_ _ _ _ _=>Zbg) (λ_ _ _ _ _=>(Zl Zay hr (Zc (Za 0) (Zc (Za 2) Zg)))))))))))
theorem ZmE:Zw ["thing","many"] ["thing","many"] (Ze Zen):=⟨rfl,rfl,rfl,by decide +kernel,rfl,by decide +kernel,by decide +kernel⟩
theorem ZmF(T:Txt K mg)(ZaM:Callee P w K mg base k "is_row" ZaW)(ZhQ:Callee P w K mg base k "is_deed" Zci){f:Addr}{fd:FuncData}(Fn:Fun K "are_deeds" "are_deeds" Zen f fd)(hm:mg "are_deeds" = some (.ref f))(hb:Binds K fd ["thing","many"] []):Callee P w K mg base (k+1) "are_deeds" ZcA :=
 Zu Fn ZmE hm hb λcdv A outer s H E hr=>by have hu:=ZI hr;exact(Zk (Zz (ZfU (Zl ZaM hr (Zc (Za 0) (Zc Zi (Zc (Zjp T.c_MOST_DEEDS) Zg)))) (ZfT (Zho T.n_all rfl (ZaV (ZaJ rfl rfl (N:=["deed","thing","many"]) (ZE (sc:=Ze Zen) (XN:=["thing","many"])) (ZU (Za 0)) (λ_ _ _ _ _=>Zbg) (λ_ _ _ _ _=>(Zl ZhQ hr (Zc (Za 0) (Zc (Za 2) Zg)))))))))))
theorem Zpt:Zw ["thing","many"] ["thing","many"] (Ze ZfB):=⟨rfl,rfl,rfl,by decide +kernel,rfl,by decide +kernel,by decide +kernel⟩
theorem Zpu(T:Txt K mg)(ZaM:Callee P w K mg base k "is_row" ZaW)(Zax:Callee P w K mg base k "is_number" Zau){f:Addr}{fd:FuncData}(Fn:Fun K "is_look" "is_look" ZfB f fd)(hm:mg "is_look" = some (.ref f))(hb:Binds K fd ["thing","many"] []):Callee P w K mg base (k+1) "is_look" Zcj :=
 Zu Fn Zpt hm hb λcdv A outer s H E hr=>by have hu:=ZI hr;exact(Zk (Zz (ZfU (Zl ZaM hr (Zc (Za 0) (Zc (Za 1) (Zc (Za 1) Zg)))) (ZfT (Zho T.n_all rfl (ZaV (ZaJ rfl rfl (N:=["told","thing","many"]) (ZE (sc:=Ze ZfB) (XN:=["thing","many"])) (ZU (Za 0)) (λ_ _ _ _ _=>Zbg) (λ_ _ _ _ _=>(Zl Zax hr (Zc (Za 0) (Zc Zi (Zc (Zjp T.c_MOST_SEEN) Zg))))))))))))
theorem ZmG:Zw ["thing","many"] ["thing","many"] (Ze Zeo):=⟨rfl,rfl,rfl,by decide +kernel,rfl,by decide +kernel,by decide +kernel⟩
theorem ZmH(T:Txt K mg)(ZaM:Callee P w K mg base k "is_row" ZaW)(ZhR:Callee P w K mg base k "is_look" Zcj){f:Addr}{fd:FuncData}(Fn:Fun K "are_looks" "are_looks" Zeo f fd)(hm:mg "are_looks" = some (.ref f))(hb:Binds K fd ["thing","many"] []):Callee P w K mg base (k+1) "are_looks" ZcB :=
 Zu Fn ZmG hm hb λcdv A outer s H E hr=>by have hu:=ZI hr;exact(Zk (Zz (ZfU (Zl ZaM hr (Zc (Za 0) (Zc Zi (Zc (Zjp T.c_MOST_LOOKS) Zg)))) (ZfT (Zho T.n_all rfl (ZaV (ZaJ rfl rfl (N:=["look","thing","many"]) (ZE (sc:=Ze Zeo) (XN:=["thing","many"])) (ZU (Za 0)) (λ_ _ _ _ _=>Zbg) (λ_ _ _ _ _=>(Zl ZhR hr (Zc (Za 0) (Zc (Za 2) Zg)))))))))))
theorem Zir:Zw ["thing","many"] ["thing"] (Ze Zf5):=⟨rfl,rfl,rfl,by decide +kernel,rfl,by decide +kernel,by decide +kernel⟩
theorem ZmI(T:Txt K mg)(Zc5:Callee P w K mg base k "is_crowd" ZbX)(Zay:Callee P w K mg base k "is_rising" Z8)(ZaM:Callee P w K mg base k "is_row" ZaW)(Zax:Callee P w K mg base k "is_number" Zau)(Zgb:Callee P w K mg base k "are_deeds" ZcA)(Zgc:Callee P w K mg base k "are_looks" ZcB){f:Addr}{fd:FuncData}(Fn:Fun K "are_works" "are_works" Zf5 f fd)(hm:mg "are_works" = some (.ref f))(hb:Binds K fd ["thing"] []):Callee P w K mg base (k+1) "are_works" ZcC :=
 Zu Fn Zir hm hb λcdv A outer s H E hr=>by
  have hu:=ZI hr;exact(Zf (Zap (Zni (Zm5 (ZcV (ZbD (Zl ZaM hr (Zc (Za 0) (Zc Zi (Zc Zi Zg)))))) (ZkD (ZcV (ZbD (Zl Zax hr (Zc (ZY (Zr 0) Zi) (Zc Zi (Zc (Zjp T.c_MOST_STATES) Zg))))))))) (Zk (Zz Zcz)) ZW)
  (Zf (ZM 1 Zir.nd (ZY (Zr 0) Zi))
  (Zf (Zap (Zni (Zm5 (ZcV (ZbD (Zl Zgb hr (Zc (ZY (Zr 0) Zi) (Zc (Za 1) Zg))))) (ZkD (ZcV (ZbD (Zl Zgc hr (Zc (ZY (Zr 0) Zi) (Zc (Za 1) Zg)))))))) (Zk (Zz Zcz)) ZW)
  (Zk (Zz (ZfU (Zl Zc5 hr (Zc (ZY (Zr 0) Zi) (Zc (Za 1) Zg))) (ZfT (Zl Zay hr (Zc (ZY (Zr 0) Zi) (Zc (Za 1) Zg))))))))))
theorem Zpv:Zw ["works"] ["works"] (Ze ZhM):=⟨rfl,rfl,rfl,by decide +kernel,rfl,by decide +kernel,by decide +kernel⟩
theorem Zpw(T:Txt K mg)(Zgd:Callee P w K mg base k "are_works" ZcC){f:Addr}{fd:FuncData}(Fn:Fun K "checked" "checked" ZhM f fd)(hm:mg "checked" = some (.ref f))(hb:Binds K fd ["works"] []):Callee P w K mg base (k+1) "checked" Zck :=
 Zu Fn Zpv hm hb λcdv A outer s H E hr=>by
  have hu:=ZI hr;exact(Zf (Zap (ZcV (ZbD (Zl Zgd hr (Zc (Za 0) Zg)))) (Zk ZfV) ZW)
  (Zk (Zz (Za 0))))
theorem Znv:Zw ["works"] ["works"] (Ze Zg2):=⟨rfl,rfl,rfl,by decide +kernel,rfl,by decide +kernel,by decide +kernel⟩
theorem Znw(T:Txt K mg){f:Addr}{fd:FuncData}(Fn:Fun K "looks_of" "looks_of" Zg2 f fd)(hm:mg "looks_of" = some (.ref f))(hb:Binds K fd ["works"] []):Callee P w K mg base (k+1) "looks_of" ZbY :=
 Zu Fn Znv hm hb λcdv A outer s H E hr=>by have hu:=ZI hr;exact(Zk (Zz (ZY (Zr 0) Zi)))
theorem ZjH:Zw ["works","looks"] ["works","looks"] (Ze ZdY):=⟨rfl,rfl,rfl,by decide +kernel,rfl,by decide +kernel,by decide +kernel⟩
theorem ZjI(T:Txt K mg)(Zay:Callee P w K mg base k "is_rising" Z8)(Zc6:Callee P w K mg base k "looks_of" ZbY){f:Addr}{fd:FuncData}(Fn:Fun K "checked_looks" "checked_looks" ZdY f fd)(hm:mg "checked_looks" = some (.ref f))(hb:Binds K fd ["works","looks"] []):Callee P w K mg base (k+1) "checked_looks" Zbu :=
 Zu Fn ZjH hm hb λcdv A outer s H E hr=>by
  have hu:=ZI hr;exact(Zf (Zap (ZcV (ZbD (Zl Zay hr (Zc (Za 1) (Zc (Za7 T.n_len (ZaU (Zl Zc6 hr (Zc (Za 0) Zg)))) Zg))))) (Zk ZfV) ZW)
  (Zk (Zz (Za 1))))
theorem ZmJ:Zw ["works"] ["works"] (Ze Zf6):=⟨rfl,rfl,rfl,by decide +kernel,rfl,by decide +kernel,by decide +kernel⟩
theorem ZmK(T:Txt K mg){f:Addr}{fd:FuncData}(Fn:Fun K "states_of" "states_of" Zf6 f fd)(hm:mg "states_of" = some (.ref f))(hb:Binds K fd ["works"] []):Callee P w K mg base (k+1) "states_of" ZcD :=
 Zu Fn ZmJ hm hb λcdv A outer s H E hr=>by have hu:=ZI hr;exact(Zk (Zz (ZY (Zr 0) Zi)))
theorem ZjJ:Zw ["works","crowd"] ["works","crowd"] (Ze ZdZ):=⟨rfl,rfl,rfl,by decide +kernel,rfl,by decide +kernel,by decide +kernel⟩
theorem ZjK(T:Txt K mg)(Zc5:Callee P w K mg base k "is_crowd" ZbX)(Zge:Callee P w K mg base k "states_of" ZcD){f:Addr}{fd:FuncData}(Fn:Fun K "checked_crowd" "checked_crowd" ZdZ f fd)(hm:mg "checked_crowd" = some (.ref f))(hb:Binds K fd ["works","crowd"] []):Callee P w K mg base (k+1) "checked_crowd" ZaL :=
 Zu Fn ZjJ hm hb λcdv A outer s H E hr=>by
  have hu:=ZI hr;exact(Zf (Zap (ZcV (ZbD (Zl Zc5 hr (Zc (Za 1) (Zc (Zl Zge hr (Zc (Za 0) Zg)) Zg))))) (Zk ZfV) ZW)
  (Zk (Zz (Za 1))))
theorem Znx:Zw ["works"] ["works"] (Ze Zg1):=⟨rfl,rfl,rfl,by decide +kernel,rfl,by decide +kernel,by decide +kernel⟩
theorem Zny(T:Txt K mg){f:Addr}{fd:FuncData}(Fn:Fun K "deeds_of" "deeds_of" Zg1 f fd)(hm:mg "deeds_of" = some (.ref f))(hb:Binds K fd ["works"] []):Callee P w K mg base (k+1) "deeds_of" ZaP :=
 Zu Fn Znx hm hb λcdv A outer s H E hr=>by have hu:=ZI hr;exact(Zk (Zz (ZY (Zr 0) Zi)))
theorem ZgK:Zw ["works","crowd","deed","leads"] ["works","crowd","deed"] (Ze ZdA):=⟨rfl,rfl,rfl,by decide +kernel,rfl,by decide +kernel,by decide +kernel⟩
theorem ZkI(T:Txt K mg)(ZaQ:Callee P w K mg base k "deeds_of" ZaP){f:Addr}{fd:FuncData}(Fn:Fun K "can_be_done" "can_be_done" ZdA f fd)(hm:mg "can_be_done" = some (.ref f))(hb:Binds K fd ["works","crowd","deed"] []):Callee P w K mg base (k+1) "can_be_done" Za8 :=
 Zu Fn ZgK hm hb λcdv A outer s H E hr=>by
  have hu:=ZI hr;exact(Zf (ZM 3 ZgK.nd (ZY (ZaU (Zl ZaQ hr (Zc (Za 0) Zg))) (Za 2)))
  (Zk (Zz (Zho T.n_all rfl (ZaV (ZaJ rfl rfl (N:=["state","works","crowd","deed","leads"]) (ZE (sc:=Ze ZdA) (XN:=["works","crowd","deed","leads"])) (ZU (Za 1)) (λ_ _ _ _ _=>Zbg) (λ_ _ _ _ _=>(Zhn cGt (Za7 T.n_len (ZaU (ZY (Zr 4) (Za 0)))) Zi))))))))
theorem Zkc:Zw ["works","crowd","deed"] ["works","crowd","deed"] (Ze Zep):=⟨rfl,rfl,rfl,by decide +kernel,rfl,by decide +kernel,by decide +kernel⟩
theorem Zkd(T:Txt K mg)(Zax:Callee P w K mg base k "is_number" Zau)(Zb2:Callee P w K mg base k "can_be_done" Za8)(ZaQ:Callee P w K mg base k "deeds_of" ZaP){f:Addr}{fd:FuncData}(Fn:Fun K "checked_deed" "checked_deed" Zep f fd)(hm:mg "checked_deed" = some (.ref f))(hb:Binds K fd ["works","crowd","deed"] []):Callee P w K mg base (k+1) "checked_deed" ZbK :=
 Zu Fn Zkc hm hb λcdv A outer s H E hr=>by
  have hu:=ZI hr;exact(Zf (Zap (ZcV (ZbD (Zl Zax hr (Zc (Za 2) (Zc Zi (Zc (ZF Zrc (Za7 T.n_len (ZaU (Zl ZaQ hr (Zc (Za 0) Zg)))) Zi) Zg)))))) (Zk ZfV) ZW)
  (Zf (Zap (ZcV (ZbD (Zl Zb2 hr (Zc (Za 0) (Zc (Za 1) (Zc (Za 2) Zg)))))) (Zk ZfV) ZW)
  (Zk (Zz (Za 2)))))
theorem Zew:Zw ["works","crowd","deed","leads","found","state","target"] ["works","crowd","deed"] (Ze ZiL):=⟨rfl,rfl,rfl,by decide +kernel,rfl,by decide +kernel,by decide +kernel⟩
theorem ZqE(T:Txt K mg)(ZaQ:Callee P w K mg base k "deeds_of" ZaP){f:Addr}{fd:FuncData}(Fn:Fun K "led_to" "led_to" ZiL f fd)(hm:mg "led_to" = some (.ref f))(hb:Binds K fd ["works","crowd","deed"] []):Callee P w K mg base (k+1) "led_to" Zcl :=
 Zu Fn Zew hm hb λcdv A outer s H E hr=>by
  have hu:=ZI hr;exact(Zf (ZM 3 Zew.nd (ZY (ZaU (Zl ZaQ hr (Zc (Za 0) Zg))) (Za 2)))
  (Zf (Zao 4 Zew.nd Zw3)
  (Zf (Zbf 5 Zew.nd rfl rfl (ZU (Za 1)) (Zk (Zbf 6 Zew.nd rfl rfl (ZU (ZY (Zr 3) (Za 5))) (Zk (ZfW hu 4 (Za 6) Zcz)))))
  (Zk (Zz (Zak T.n_tuple (ZaV (ZgG T.n_sorted rfl (Zr 4)))))))))
theorem Zis:Zw ["rows"] ["rows"] (Ze ZcH):=⟨rfl,rfl,rfl,by decide +kernel,rfl,by decide +kernel,by decide +kernel⟩
theorem Zlj(T:Txt K mg){f:Addr}{fd:FuncData}(Fn:Fun K "crowds_in" "crowds_in" ZcH f fd)(hm:mg "crowds_in" = some (.ref f))(hb:Binds K fd ["rows"] []):Zee P w K mg base (k+1) "crowds_in" ZO :=
 ZqS Fn Zis hm hb rfl (λr b h=>Zug _ _ _ r b h) λcdv A outer s H E hr=>by have hu:=ZI hr;exact(ZaJ rfl rfl (N:=["row","rows"]) (ZE (sc:=Ze ZcH) (XN:=["rows"])) (ZU (Za 0)) (λ_ _ _ _ _=>Zbg) (λ_ _ _ _ _=>(ZY (Zr 0) Zi)))
theorem ZmL(T:Txt K mg){f:Addr}{fd:FuncData}(Fn:Fun K "crowds_in" "crowds_in" ZcH f fd)(hm:mg "crowds_in" = some (.ref f))(hb:Binds K fd ["rows"] []):Callee P w K mg base (k+1) "crowds_in" ZO :=
 Zu Fn Zis hm hb λcdv A outer s H E hr=>by have hu:=ZI hr;exact(Zk (Zz (Zdw (ZaJ rfl rfl (N:=["row","rows"]) (ZE (sc:=Ze ZcH) (XN:=["rows"])) (ZU (Za 0)) (λ_ _ _ _ _=>Zbg) (λ_ _ _ _ _=>(ZY (Zr 0) Zi))))))
theorem Zfy:Zw ["rows","costs","known"] ["rows","costs"] (Ze ZcT):=⟨rfl,rfl,rfl,by decide +kernel,rfl,by decide +kernel,by decide +kernel⟩
theorem ZjL(T:Txt K mg)(ZbF:Callee P w K mg base k "crowds_in" ZO){f:Addr}{fd:FuncData}(Fn:Fun K "cost_at_worst" "cost_at_worst" ZcT f fd)(hm:mg "cost_at_worst" = some (.ref f))(hb:Binds K fd ["rows","costs"] []):Callee P w K mg base (k+1) "cost_at_worst" Zag :=
 Zu Fn Zfy hm hb λcdv A outer s H E hr=>by
  have hu:=ZI hr;exact(Zf (Zdx 2 Zfy.nd rfl rfl (N:=["part","rows","costs","known"]) (ZE (sc:=Ze ZcT) (XN:=["rows","costs","known"])) (ZU (Zl ZbF hr (Zc (Za 0) Zg))) (λ_ _ _ _ _=>(Zca (ZvB hu (Za 0) (Zr 2)))) (λ_ _ _ _ _=>(Zhp hu (Zr 2) (Za 0))))
  (Zk (Zz (Zun (Zaj (cEq hr) (Za7 T.n_len (Zr 2)) (Za7 T.n_len (Zr 0))) (Zlh T.n_max rfl (Zr 2)) Zb1))))
theorem ZiO:Zw ["way","depths","most"] ["way","depths"] (Ze Ze0):=⟨rfl,rfl,rfl,by decide +kernel,rfl,by decide +kernel,by decide +kernel⟩
theorem Znz(T:Txt K mg)(Zbw:Callee P w K mg base k "cost_at_worst" Zag){f:Addr}{fd:FuncData}(Fn:Fun K "deeds_by" "deeds_by" Ze0 f fd)(hm:mg "deeds_by" = some (.ref f))(hb:Binds K fd ["way","depths"] []):Callee P w K mg base (k+1) "deeds_by" Zc3 :=
 Zu Fn ZiO hm hb λcdv A outer s H E hr=>by
  have hu:=ZI hr;exact(Zf (ZM 2 ZiO.nd (Zl Zbw hr (Zc (ZY (Zr 0) Zi) (Zc (Za 1) Zg))))
  (Zk (Zz (Zun (Zaj Zt4 (Za 2) Zb1) Zb1 (ZF ZbO (Za 2) Zi)))))
theorem Zpx:Zw ["works","looks","state"] ["works","looks","state"] (Ze ZfC):=⟨rfl,rfl,rfl,by decide +kernel,rfl,by decide +kernel,by decide +kernel⟩
theorem Zpy(T:Txt K mg)(Zc6:Callee P w K mg base k "looks_of" ZbY){f:Addr}{fd:FuncData}(Fn:Fun K "seen_in" "seen_in" ZfC f fd)(hm:mg "seen_in" = some (.ref f))(hb:Binds K fd ["works","looks","state"] []):Callee P w K mg base (k+1) "seen_in" Zdy :=
 Zu Fn Zpx hm hb λcdv A outer s H E hr=>by have hu:=ZI hr;exact(Zk (Zz (Zak T.n_tuple (ZaV (ZaJ rfl rfl (N:=["look","works","looks","state"]) (ZE (sc:=Ze ZfC) (XN:=["works","looks","state"])) (ZU (Za 1)) (λ_ _ _ _ _=>Zbg) (λ_ _ _ _ _=>(ZY (ZaU (ZY (ZaU (Zl Zc6 hr (Zc (Za 1) Zg))) (Za 0))) (Za 3))))))))
theorem ZhS:Zw ["works","looks","crowd","found","state"] ["works","looks","crowd"] (Ze ZgJ):=⟨rfl,rfl,rfl,by decide +kernel,rfl,by decide +kernel,by decide +kernel⟩
theorem ZqF(T:Txt K mg)(ZhT:Callee P w K mg base k "seen_in" Zdy){f:Addr}{fd:FuncData}(Fn:Fun K "parted" "parted" ZgJ f fd)(hm:mg "parted" = some (.ref f))(hb:Binds K fd ["works","looks","crowd"] []):Callee P w K mg base (k+1) "parted" Za9 :=
 Zu Fn ZhS hm hb λcdv A outer s H E hr=>by
  have hu:=ZI hr;exact(Zf (Zao 3 ZhS.nd ZrB)
  (Zf (Zbf 4 ZhS.nd rfl rfl (ZU (Za 2)) (Zk (Zs5 hu 3 (Zl ZhT hr (Zc (Za 0) (Zc (Za 1) (Zc (Za 4) Zg)))) (Za 4) ⟨rfl,rfl,rfl,rfl⟩)))
  (Zk (Zz (Zdw (ZaJ rfl rfl (N:=["seen","works","looks","crowd","found","state"]) (ZE (sc:=Ze ZgJ) (XN:=["works","looks","crowd","found","state"])) (ZU (Zdw (ZgG T.n_sorted rfl (Zr 3)))) (λ_ _ _ _ _=>Zbg) (λ_ _ _ _ _=>(ZdM (Zc (Za 0) (Zc (Zak T.n_tuple (ZrC hu 4 (Za 0))) Zg))))))))))
theorem Zlk:Zw ["works","crowd"] ["works","crowd"] (Ze ZdQ):=⟨rfl,rfl,rfl,by decide +kernel,rfl,by decide +kernel,by decide +kernel⟩
theorem Zll(T:Txt K mg)(Zb2:Callee P w K mg base k "can_be_done" Za8)(ZaQ:Callee P w K mg base k "deeds_of" ZaP){f:Addr}{fd:FuncData}(Fn:Fun K "deeds_with" "deeds_with" ZdQ f fd)(hm:mg "deeds_with" = some (.ref f))(hb:Binds K fd ["works","crowd"] []):Callee P w K mg base (k+1) "deeds_with" Zbm :=
 Zu Fn Zlk hm hb λcdv A outer s H E hr=>by have hu:=ZI hr;exact(Zk (Zz (Zdw (ZaJ rfl rfl (N:=["deed","works","crowd"]) (ZE (sc:=Ze ZdQ) (XN:=["works","crowd"])) (ZbE T.n_range (Za7 T.n_len (ZaU (Zl ZaQ hr (Zc (Za 0) Zg))))) (λ_ _ _ _ _=>(Zca (ZbD (Zl Zb2 hr (Zc (Za 1) (Zc (Za 2) (Zc (Za 0) Zg))))))) (λ_ _ _ _ _=>(Za 0))))))
theorem ZmM:Zw ["works","looks","crowd"] ["works","looks","crowd"] (Ze Zer):=⟨rfl,rfl,rfl,by decide +kernel,rfl,by decide +kernel,by decide +kernel⟩
theorem ZmN(T:Txt K mg)(Zcm:Callee P w K mg base k "parted" Za9)(Zce:Callee P w K mg base k "deeds_with" Zbm)(Zd8:Callee P w K mg base k "led_to" Zcl){f:Addr}{fd:FuncData}(Fn:Fun K "ways_with" "ways_with" Zer f fd)(hm:mg "ways_with" = some (.ref f))(hb:Binds K fd ["works","looks","crowd"] []):Callee P w K mg base (k+1) "ways_with" Za1 :=
 Zu Fn ZmM hm hb λcdv A outer s H E hr=>by have hu:=ZI hr;exact(Zk (Zz (Zdw (ZaJ rfl rfl (N:=["deed","works","looks","crowd"]) (ZE (sc:=Ze Zer) (XN:=["works","looks","crowd"])) (ZU (Zl Zce hr (Zc (Za 0) (Zc (Za 2) Zg)))) (λ_ _ _ _ _=>Zbg) (λ_ _ _ _ _=>(ZdM (Zc (Za 0) (Zc (Zl Zcm hr (Zc (Za 1) (Zc (Za 2) (Zc (Zl Zd8 hr (Zc (Za 1) (Zc (Za 3) (Zc (Za 0) Zg)))) Zg)))) Zg))))))))
theorem Zhs:Zw ["ways","costs","cost_by","told"] ["ways","costs","cost_by"] (Ze ZcY):=⟨rfl,rfl,rfl,by decide +kernel,rfl,by decide +kernel,by decide +kernel⟩
theorem Zlm(T:Txt K mg)(CV:Zef P w K mg base k ap){f:Addr}{fd:FuncData}(Fn:Fun K "least_cost" "least_cost" ZcY f fd)(hm:mg "least_cost" = some (.ref f))(hb:Binds K fd ["ways","costs","cost_by"] []):Callee P w K mg base (k+1) "least_cost" (ZbM ap) :=
 Zu Fn Zhs hm hb λcdv A outer s H E hr=>by
  have hu:=ZI hr;exact(Zf (Zdx 3 Zhs.nd rfl rfl (N:=["way","ways","costs","cost_by","told"]) (ZE (sc:=Ze ZcY) (XN:=["ways","costs","cost_by","told"])) (ZU (Za 0)) (λ_ _ _ _ _=>Zbg) (λ_ _ _ _ _=>(Znn CV hr 3 (Zc (Za 0) (Zc (Za 2) Zg)))))
  (Zk (Zde 3 (Zz (Zp0 T.n_min rfl (ZaV (ZaJ rfl rfl (N:=["cost","ways","costs","cost_by","told"]) (ZE (sc:=Ze ZcY) (XN:=["ways","costs","cost_by","told"])) (ZU (Za 3)) (λ_ _ _ _ _=>(Zca (Zaj ZkV (Za 0) Zb1))) (λ_ _ _ _ _=>(Za 0)))))))))
theorem ZdC:Zw ["reach","costs","cost_by","found","crowd","cost"] ["reach","costs","cost_by"] (Ze Zfl):=⟨rfl,rfl,rfl,by decide +kernel,rfl,by decide +kernel,by decide +kernel⟩
theorem ZkN(T:Txt K mg)(Zfn:Callee P w K mg base k "least_cost" (ZbM ap)){f:Addr}{fd:FuncData}(Fn:Fun K "next_costs" "next_costs" Zfl f fd)(hm:mg "next_costs" = some (.ref f))(hb:Binds K fd ["reach","costs","cost_by"] []):Zeg P w K mg base (k+1) "next_costs" (Zbq ap) :=
 Zrf Fn ZdC hm hb λcdv A outer s H E hr=>by
  have hu:=ZI hr;exact(Zos (Zao 3 ZdC.nd Zm6)
  (Zos (Zjq 0 (Zbf 4 ZdC.nd rfl rfl (Zjr 0) (Zk (Zap (ZgH hu (Za 4) (Zr 1)) (Zf (ZM 5 ZdC.nd (Zl Zfn hr (Zc (Zhp hu (Zr 0) (Za 4)) (Zc (Za 1) (Zc (Za 2) Zg)))))
  (Zk (Zap (Zaj ZkV (Za 5) Zb1) (Zk (ZfW hu 3 (Za 4) (Za 5))) ZW))) ZW))))
  (ZuY 3)))
theorem Zpz:Zw ["works"] ["works"] (Ze ZhL):=⟨rfl,rfl,rfl,by decide +kernel,rfl,by decide +kernel,by decide +kernel⟩
theorem ZpA(T:Txt K mg){f:Addr}{fd:FuncData}(Fn:Fun K "goal_of" "goal_of" ZhL f fd)(hm:mg "goal_of" = some (.ref f))(hb:Binds K fd ["works"] []):Callee P w K mg base (k+1) "goal_of" Zdz :=
 Zu Fn Zpz hm hb λcdv A outer s H E hr=>by have hu:=ZI hr;exact(Zk (Zz (ZY (Zr 0) Zi)))
theorem ZnA:Zw ["works","crowd"] ["works","crowd"] (Ze ZeZ):=⟨rfl,rfl,rfl,by decide +kernel,rfl,by decide +kernel,by decide +kernel⟩
theorem ZnB(T:Txt K mg)(ZhU:Callee P w K mg base k "goal_of" Zdz){f:Addr}{fd:FuncData}(Fn:Fun K "is_there" "is_there" ZeZ f fd)(hm:mg "is_there" = some (.ref f))(hb:Binds K fd ["works","crowd"] []):Callee P w K mg base (k+1) "is_there" ZbB :=
 Zu Fn ZnA hm hb λcdv A outer s H E hr=>by have hu:=ZI hr;exact(Zk (Zz (Zho T.n_all rfl (ZaV (ZaJ rfl rfl (N:=["state","works","crowd"]) (ZE (sc:=Ze ZeZ) (XN:=["works","crowd"])) (ZU (Za 1)) (λ_ _ _ _ _=>Zbg) (λ_ _ _ _ _=>(ZvA (Za 0) (ZaU (Zl ZhU hr (Zc (Za 1) Zg))))))))))
theorem ZbG:Zw ["works","reach","cost_by","costs","cost","found","crowd","offered"] ["works","reach","cost_by"] (Ze Zc4):=⟨rfl,rfl,rfl,by decide +kernel,rfl,by decide +kernel,by decide +kernel⟩
theorem ZnC(T:Txt K mg)(Zg8:Callee P w K mg base k "is_there" ZbB)(Gf_next_costs:Zeg P w K mg base k "next_costs" (Zbq ap)){f:Addr}{fd:FuncData}(Fn:Fun K "costs_of" "costs_of" Zc4 f fd)(hm:mg "costs_of" = some (.ref f))(hb:Binds K fd ["works","reach","cost_by"] []):Callee P w K mg base (k+1) "costs_of" (Zc2 ap) :=
 Zu Fn ZbG hm hb λcdv A outer s H E hr=>by
  have hu:=ZI hr;exact(Zf (Zao 3 ZbG.nd Zm6)
  (Zf (ZM 4 ZbG.nd Zi)
  (Zf (Zjq 1 (Zdx 5 ZbG.nd rfl rfl (N:=["crowd","works","reach","cost_by","costs","cost","found"," ","offered"]) (ZE (sc:=Ze Zc4) (XN:=["works","reach","cost_by","costs","cost","found","crowd","offered"])) (Zjr 1) (λ_ _ _ _ _=>(Zca (ZbD (Zl Zg8 hr (Zc (Za 1) (Zc (Za 0) Zg)))))) (λ_ _ _ _ _=>(Za 0))))
  (Zf (Zkb 100000 rfl (Zaj cGt (Za7 T.n_len (Zr 5)) Zi) (Zf (Zde 5 (Zbf 6 ZbG.nd rfl rfl (ZU (Za 5)) (Zk (ZfW hu 3 (Za 6) (Za 4)))))
  (Zf (Zao 7 ZbG.nd (Zta Gf_next_costs hr (ZfX (Za 1) (Znm (Zr 3) (ZfX (Za 2) (ZrG Zg))))))
  (Zf (Zde 7 (Zjq 7 (ZM 4 ZbG.nd (Zp0 T.n_min rfl (ZaV (ZaJ rfl rfl (N:=["crowd","works","reach","cost_by","costs","cost","found"," ","offered"]) (ZE (sc:=Ze Zc4) (XN:=["works","reach","cost_by","costs","cost","found","crowd","offered"])) (Zjr 7) (λ_ _ _ _ _=>Zbg) (λ_ _ _ _ _=>(Zhp hu (Zr 8) (Za 0)))))))))
  (Zk (Zde 7 (Zjq 7 (Zdx 5 ZbG.nd rfl rfl (N:=["crowd","works","reach","cost_by","costs","cost","found"," ","offered"]) (ZE (sc:=Ze Zc4) (XN:=["works","reach","cost_by","costs","cost","found","crowd","offered"])) (Zjr 7) (λ_ _ _ _ _=>(Zca (Zaj (cEq hr) (Zhp hu (Zr 8) (Za 0)) (Za 5)))) (λ_ _ _ _ _=>(Za 0))))))))))
  (Zk (Zde 3 (Zz (Za 3))))))))
theorem ZmO:Zw ["works","coming"] ["works","coming"] (Ze Zf7):=⟨rfl,rfl,rfl,by decide +kernel,rfl,by decide +kernel,by decide +kernel⟩
theorem ZmP(T:Txt K mg)(Zg9:Callee P w K mg base k "costs_of" (Zc2 ap))(Vff_deeds_by:GFn mg "deeds_by" 0){f:Addr}{fd:FuncData}(Fn:Fun K "depths_of" "depths_of" Zf7 f fd)(hm:mg "depths_of" = some (.ref f))(hb:Binds K fd ["works","coming"] []):Callee P w K mg base (k+1) "depths_of" (Zdl ap) :=
 Zu Fn ZmO hm hb λcdv A outer s H E hr=>by have hu:=ZI hr;exact(Zk (Zz (Zl Zg9 hr (Zc (Za 0) (Zc (Za 1) (Zc (ZvD Vff_deeds_by) Zg))))))
theorem Zb7:Zw ["crowds","ways_for","reach","waiting","crowd","way"] ["crowds","ways_for"] (Ze Zeq):=⟨rfl,rfl,rfl,by decide +kernel,rfl,by decide +kernel,by decide +kernel⟩
theorem Zke(T:Txt K mg)(ZbF:Callee P w K mg base k "crowds_in" ZO)(Zgf:Zee P w K mg base k "crowds_in" ZO)(CV:Zef P w K mg base k ap){f:Addr}{fd:FuncData}(Fn:Fun K "reached_from" "reached_from" Zeq f fd)(hm:mg "reached_from" = some (.ref f))(hb:Binds K fd ["crowds","ways_for"] []):Callee P w K mg base (k+1) "reached_from" (ZbL ap) :=
 Zu Fn Zb7 hm hb λcdv A outer s H E hr=>by
  have hu:=ZI hr;exact(Zf (Zao 2 Zb7.nd Zm6)
  (Zf (Zao 3 Zb7.nd (Zix T.n_list (Zr 0)))
  (Zf (Zkb 100000 rfl (Zaj cGt (Za7 T.n_len (Zr 3)) Zi) (Zf (ZvC 4 3 Zb7.nd)
  (Zk (Zap (ZgH hu (Za 4) (Zr 2)) (Zf (ZfW hu 2 (Za 4) (Znn CV hr 1 (Zc (Za 4) Zg)))
  (Zk (Zbf 5 Zb7.nd rfl rfl (ZU (Zhp hu (Zr 2) (Za 4))) (Zk (ZrH 3 (ZaV (Zs8 Zgf hr (Zc (ZY (Zr 5) Zi) Zg)))))))) ZW))))
  (Zk (Zde 2 (Zz (Za 2)))))))
theorem ZkJ:Zw ["works","looks","crowd"] ["works","looks","crowd"] (Ze ZX):=⟨rfl,rfl,rfl,by decide +kernel,rfl,by decide +kernel,by decide +kernel⟩
theorem ZwP:Zrd ["works","looks","crowd"] (Ze ZX) (Zlr ZX) ["works","looks"] [0,1]=true:=by decide +kernel
theorem ZkK(T:Txt K mg)(Zex:Callee P w K mg base k "reached_from" (ZbL ap))(ZbF:Callee P w K mg base k "crowds_in" ZO)(Zcm:Callee P w K mg base k "parted" Za9)(Zdo:Callee P w K mg base k "ways_with" Za1){c Tl:Addr}(hc:Zz8 K c Tl=true)(ht:(Tl,("coming_from.<locals>.<lambda>":Str))∈FX.tl)(hq:∀q,(Tl,q)∈FX.tl->q=("coming_from.<locals>.<lambda>":Str))(bm:BMod base mg)(good:∀F p cs,Clo K F p (Zv6 ZX) (ZtK ZX) (Zlr ZX) ["works","looks"] cs->FX.fv 1 cs F p){f:Addr}{fd:FuncData}(Fn:Zrx K "coming_from" "coming_from" ZX f fd c)(hm:mg "coming_from" = some (.ref f))(hb:Binds K fd ["works","looks","crowd"] []):Callee P w K mg base (k+1) "coming_from" (ZcG ap) :=
 Zrh Fn ZkJ hm hb λA outer s H E hr=>by have hu:=ZI hr;exact(Zk (Zz (ZqA Zex hr (Zuh ZwP hc ht hq bm good) (Zl ZbF hr (Zc (Zl Zcm hr (Zc (Za 0) (Zc (Za 1) (Zc (Za 2) Zg)))) Zg)))))
theorem ZcJ:Zw ["works","looks","crowd","deed","behind","depths","rows","most"] ["works","looks","crowd","deed"] (Ze ZdR):=⟨rfl,rfl,rfl,by decide +kernel,rfl,by decide +kernel,by decide +kernel⟩
theorem Zln(T:Txt K mg)(ZdD:Callee P w K mg base k "checked" Zck)(Zd0:Callee P w K mg base k "checked_looks" Zbu)(Zbx:Callee P w K mg base k "checked_crowd" ZaL)(Zey:Callee P w K mg base k "checked_deed" ZbK)(Zd8:Callee P w K mg base k "led_to" Zcl)(Zgg:Callee P w K mg base k "depths_of" (Zdl ap))(Zcm:Callee P w K mg base k "parted" Za9)(Zbw:Callee P w K mg base k "cost_at_worst" Zag)(ZeL:Callee P w K mg base k "coming_from" (ZcG ap)){f:Addr}{fd:FuncData}(Fn:Fun K "foe_answer" "foe_answer" ZdR f fd)(hm:mg "foe_answer" = some (.ref f))(hb:Binds K fd ["works","looks","crowd","deed"] []):Callee P w K mg base (k+1) "foe_answer" (Zcd ap) :=
 Zu Fn ZcJ hm hb λcdv A outer s H E hr=>by
  have hu:=ZI hr;exact(Zf (ZfP (Zl ZdD hr (Zc (Za 0) Zg)))
  (Zf (ZfP (Zl Zd0 hr (Zc (Za 0) (Zc (Za 1) Zg))))
  (Zf (ZfP (Zl Zbx hr (Zc (Za 0) (Zc (Za 2) Zg))))
  (Zf (ZfP (Zl Zey hr (Zc (Za 0) (Zc (Za 2) (Zc (Za 3) Zg)))))
  (Zf (ZM 4 ZcJ.nd (Zl Zd8 hr (Zc (Za 0) (Zc (Za 2) (Zc (Za 3) Zg)))))
  (Zf (ZM 5 ZcJ.nd (Zl Zgg hr (Zc (Za 0) (Zc (Zl ZeL hr (Zc (Za 0) (Zc (Za 1) (Zc (Za 4) Zg)))) Zg))))
  (Zf (ZM 6 ZcJ.nd (Zl Zcm hr (Zc (Za 0) (Zc (Za 1) (Zc (Za 4) Zg)))))
  (Zf (ZM 7 ZcJ.nd (Zl Zbw hr (Zc (Za 6) (Zc (Za 5) Zg))))
  (Zk (Zz (ZY (ZaV (Zka rfl rfl (N:=["seen","part","works","looks","crowd","deed","behind","depths","rows","most"]) (ZE (sc:=Ze ZdR) (XN:=["works","looks","crowd","deed","behind","depths","rows","most"])) (ZU (Za 6)) (λ_ _ _ _ _=>(Zca (Zaj (cEq hr) (Zs9 hu (Zr 7) (Za 1) ⟨rfl,rfl,rfl,rfl⟩) (Za 9)))) (λ_ _ _ _ _=>(Za 0)))) Zi)))))))))))
theorem ZqG:Zw ["works","crowd"] ["works","crowd"] (Ze ZiM):=⟨rfl,rfl,rfl,by decide +kernel,rfl,by decide +kernel,by decide +kernel⟩
theorem ZqH(T:Txt K mg)(ZdD:Callee P w K mg base k "checked" Zck)(Zbx:Callee P w K mg base k "checked_crowd" ZaL)(Zce:Callee P w K mg base k "deeds_with" Zbm){f:Addr}{fd:FuncData}(Fn:Fun K "doable" "doable" ZiM f fd)(hm:mg "doable" = some (.ref f))(hb:Binds K fd ["works","crowd"] []):Callee P w K mg base (k+1) "doable" Zdf :=
 Zu Fn ZqG hm hb λcdv A outer s H E hr=>by
  have hu:=ZI hr;exact(Zf (ZfP (Zl ZdD hr (Zc (Za 0) Zg)))
  (Zf (ZfP (Zl Zbx hr (Zc (Za 0) (Zc (Za 1) Zg))))
  (Zk (Zz (Zl Zce hr (Zc (Za 0) (Zc (Za 1) Zg)))))))
theorem ZcK:Zw ["_law_script","_law_works_here","_law_looks_here","_law_crowd_here","_law_some","_law_deed_here","_law_best","_law_seen","_law_part","_law_many"] ["_law_script"] (Ze Ze7):=⟨rfl,rfl,rfl,by decide +kernel,rfl,by decide +kernel,by decide +kernel⟩
theorem ZuA(T:Txt K mg)(Zgh:Callee P w K mg base k "_law_works" ZaZ)(Zgi:Callee P w K mg base k "_law_looks" ZcE)(Zb6:Callee P w K mg base k "_law_crowd" Zaw)(Zam:Callee P w K mg base k "_law_split" Zae)(ZaC:Callee P w K mg base k "_law_cell" ZL)(ZbC:Callee P w K mg base k "_law_led" Zaq)(Zfo:Callee P w K mg base k "_law_fewest" Zbo)(Zfp:Callee P w K mg base k "foe_answer" (Zcd ap))(ZiP:Callee P w K mg base k "doable" Zdf){f:Addr}{fd:FuncData}(Fn:Fun K "law" "law" Ze7 f fd):Zdt P w K mg base CX0 (k+1) f fd ["_law_script"] (spD K 1 (Zf2 ap)) :=
 Zqu Fn ZcK λcdv A outer s H E hr=>by
  have hu:=ZI hr;exact(Zf (ZM 1 ZcK.nd (Zl Zgh hr (Zc (Za 0) (Zc Zi Zg))))
  (Zf (ZM 2 ZcK.nd (Zl Zgi hr (Zc (Za 1) (Zc (Zl ZaC hr (Zc (Za 0) (Zc Zi Zg))) Zg))))
  (Zf (ZM 3 ZcK.nd (Zl Zb6 hr (Zc (Zl ZaC hr (Zc (Za 0) (Zc Zi Zg))) (Zc (ZY (Zr 1) Zi) (Zc Zi Zg)))))
  (Zf (Zdx 4 ZcK.nd rfl rfl (N:=["_law_deed_here","_law_script","_law_works_here","_law_looks_here","_law_crowd_here","_law_some"," ","_law_best","_law_seen","_law_part","_law_many"]) (ZE (sc:=Ze Ze7) (XN:=["_law_script","_law_works_here","_law_looks_here","_law_crowd_here","_law_some","_law_deed_here","_law_best","_law_seen","_law_part","_law_many"])) (ZbE T.n_range (Za7 T.n_len (ZaU (ZY (Zr 1) Zi)))) (λ_ _ _ _ _=>(Zca (Zaj ZkV (Zl ZbC hr (Zc (Za 2) (Zc (Za 4) (Zc (Za 0) Zg)))) Zb1))) (λ_ _ _ _ _=>(Za 0)))
  (Zf (Zde 4 (Zap (Zaj (cEq hr) (Za 4) (Zdw (ZbQ Zg))) (Zk (Zz (Zhn (cEq hr) (Zl ZiP hr (Zc (Za 1) (Zc (Za 3) Zg))) (Zdw (ZbQ Zg))))) ZW))
  (Zf (ZM 5 ZcK.nd (ZY (Zr 4) (ZF oMod (Zl ZaC hr (Zc (Za 0) (Zc Zi Zg))) (Za7 T.n_len (Zr 4)))))
  (Zf (ZM 6 ZcK.nd Zb1)
  (Zf (Zuz 7 8 ZcK.nd rfl rfl (ZU (Zl Zam hr (Zc (Za 1) (Zc (Za 2) (Zc (Zl ZbC hr (Zc (Za 1) (Zc (Za 3) (Zc (Za 5) Zg)))) Zg))))) (Zf (ZM 9 ZcK.nd (Zl Zfo hr (Zc (ZpZ (ZpZ (ZpY (Za 1) ZlI (ZlP Zi)) (ZdM (Zc (Za 8) Zg))) (ZpY (Za 1) (ZlP Zi) ZlI)) (Zc (Za 2) Zg))))
  (Zf (Zap (Zaj Zt4 (Za 9) Zb1) (Zk (ZM 9 ZcK.nd Zi)) ZW)
  (Zk (Zap (Zni (Zm5 (Zaj Zt4 (Za 6) Zb1) (ZkD (Zaj cGt (Za 9) (ZY (Zr 6) Zi))))) (Zk (ZM 6 ZcK.nd (ZdM (Zc (Za 9) (Zc (Za 7) Zg))))) ZW)))))
  (Zk (Zz (Zhn (cEq hr) (Zl Zfp hr (Zc (Za 1) (Zc (Za 2) (Zc (Za 3) (Zc (Za 5) Zg))))) (ZY (Zr 6) Zi))))))))))))
def FvI(K:Zys)(t:Nat)(cs:List PyData)(F:Hp)(a:Addr):Prop :=
 (t=0/\cs=[]/\ZAY K Zzd "deeds_by" = some (some (.ref a)))\/(t=1/\Clo K F a (Zv6 ZX) (ZtK ZX) (Zlr ZX) ["works","looks"] cs)
theorem ZwU:ZkB (Zlr ZX) "part" ["works","looks"]:=⟨rfl,rfl,rfl,by decide +kernel,rfl,by decide +kernel,by decide +kernel⟩
theorem Zv5(T:Txt K mg)(Zdo:Callee P w K mg base k "ways_with" Za1)(qual:Str)(f:Addr)(cd:Value)(clos:List (Str × Addr))(A:Around)(outer:List PySem.Env)(s:Shared)(H:Hp)(hr:Zas k (A.deeper (ZBz qual (Zlr ZX) s.heap.objs.size f cd clos))) :
  XE (Zne P w K mg base ["part","works","looks"] qual (Zlr ZX) f cd clos A outer s H) (ZtK ZX) (Zn Za1 (Zd (Zb 1) (Zd (Zb 2) (Zd (Zb 0) Zm)))):=by
 have hu:=ZI hr;exact(Zl Zdo hr (Zc (Za 1) (Zc (Za 2) (Zc (Za 0) Zg))))
theorem Zxr(T:Txt K mg)(V:∀t cs F a,FX.fv t cs F a->FvI K t cs F a){f0:Addr}{fd0:FuncData}(Fn0:Fun K "deeds_by" "deeds_by" Ze0 f0 fd0)(hm0:mg "deeds_by" = some (.ref f0))(hn0:∀a,ZAY K Zzd "deeds_by" = some (some (.ref a))->mg "deeds_by" = some (.ref a))(Zha:Callee P w K mg base (k+1) "deeds_by" Zc3)(Lf_ways_with:Callee P w K mg base k "ways_with" Za1):Zef P w K mg base (k+1) ap:=by
 constructor
 ·intro t cs F a h A outer s H e0 sub
  rcases V t cs F a h with⟨rfl,rfl,hn⟩ | ⟨rfl,hC⟩
  ·exact Zvl Fn0 hm0 (hn0 a hn) e0
  ·exact Zwx hC e0 sub
 ·intro t cs F a h A outer s H e0 sub us vs ds d Q hr tb nt rv rs hap kk
  rcases V t cs F a h with⟨rfl,rfl,hn⟩ | ⟨rfl,hC⟩
  ·exact ZtA Zha (hn0 a hn) e0 sub hr tb nt rv rs hap kk
  ·exact Zvg ZwU (λ_ _ _ _ _ _=>rfl) (Zv5 T Lf_ways_with) hC e0 sub hr tb nt rv rs hap kk
def tlI:List (Addr × Str):=[(266,"coming_from.<locals>.<lambda>")]
@[reducible] def fxI(K:Zys):FX where
 tl:=tlI
 fv:=FvI K
 sw:=λhF hob h=>by
  rcases h with h | h
  ·exact Zzo (h)
  ·exact Zy5 ((⟨h.1,h.2.sw hF hob⟩))
 drop:=λh=>by
  rcases h with h | h
  ·exact Zzo (h)
  ·exact Zy5 ((⟨h.1,h.2.drop⟩))
 mono:=λh s=>by
  rcases h with h | h
  ·exact Zzo (h)
  ·exact Zy5 ((⟨h.1,h.2.mono s⟩))
structure Def(K:Zys)(mg:Str->Option Value)(x:Str)(st:Stmt)(ps:List Str):Prop where
 ex:∃f fd,Fun K x x st f fd/\mg x=some (.ref f)/\Binds K fd ps []
theorem Zwe{h:Heap}{x:Str}{st:Stmt}{ps:List Str}{f:Addr}{oc:Value}{od an:Option Addr}{osl:Array (Option Value)}{kV doc pm cdv ct:Value}(X:K.In h)(G:h.Ns Zzd mg)(a:ZAY K Zzd x=some (some (.ref f)))
  (l:K.lookup f=some ⟨oc,od,.func (ZzM x x (Zcf st) (ZaT st) (Ze st) .none kV doc pm an cdv ct),osl⟩) (c:ZAA K cdv x=true) (kp:ZzQ K (.ref f)=true)
  (b:∀(kV doc pm:Value) (an:Option Addr) (cdv ct:Value) (us:List Value),us.length=ps.length->bindArgs (ZzM x x (Zcf st) (ZaT st) (Ze st) .none kV doc pm an cdv ct) ⟨us,[]⟩=pure (ps.zip us)):Def K mg x st ps :=
 ⟨f,_,Zn6 l c kp,ZBX X G a,(Zn6 l c kp).binds b⟩
structure ZvP(K:Zys)(mg:Str->Option Value)(x:Str)(st:Stmt)(ps:List Str)(c T:Addr):Prop where
 ex:∃f fd,Zrx K x x st f fd c/\mg x=some (.ref f)/\Binds K fd ps []/\Zz8 K c T=true
theorem Zva{h:Heap}{x:Str}{st:Stmt}{ps:List Str}{f c T:Addr}{oc:Value}{od an:Option Addr}{osl:Array (Option Value)}{kV doc pm cdv ct:Value}(X:K.In h)(G:h.Ns Zzd mg)(a:ZAY K Zzd x=some (some (.ref f)))
  (l:K.lookup f=some ⟨oc,od,.func (ZzM x x (Zcf st) (ZaT st) (Ze st) .none kV doc pm an cdv ct),osl⟩) (cc:ZAA K cdv x=true) (kp:ZzQ K (.ref f)=true)
  (b:∀(kV doc pm:Value) (an:Option Addr) (cdv ct:Value) (us:List Value),us.length=ps.length->bindArgs (ZzM x x (Zcf st) (ZaT st) (Ze st) .none kV doc pm an cdv ct) ⟨us,[]⟩=pure (ps.zip us)) (e:cdv=.ref c) (hc:Zz8 K c T=true):ZvP K mg x st ps c T:=by
 subst e;exact⟨f,_,Zvp l cc kp,ZBX X G a,.all (b kV doc pm an _ ct),hc⟩
def NsV(K:Zys)(mg:Str->Option Value)(x:Str):Prop:=(∀a,ZAY K Zzd x=some (some (.ref a))->mg x=some (.ref a))/\∃f,ZAY K Zzd x=some (some (.ref f))
theorem ZwG{h:Heap}{x:Str}{f:Addr}(X:K.In h)(G:h.Ns Zzd mg)(a:ZAY K Zzd x=some (some (.ref f))):NsV K mg x:=⟨λ_ e=>ZBX X G e,f,a⟩
end
structure Ds(K:Zys)(mg:Str->Option Value):Prop where
 ZpB:Def K mg "_law_cell" Zg3 ["_law_script","_law_k"]
 ZqI:Def K mg "_law_mix" ZhN ["_law_cell_here","_law_prime","_law_many"]
 ZnD:Def K mg "_law_crowd" Zes ["_law_cell_here","_law_many","_law_least"]
 ZpC:Def K mg "_law_deed" Zg4 ["_law_cell_here","_law_many"]
 ZpD:Def K mg "_law_walk" Zg5 ["_law_cell_here","_law_many"]
 ZnE:Def K mg "_law_works" Zet ["_law_script","_law_at"]
 ZnF:Def K mg "_law_looks" Zeu ["_law_works_here","_law_cell_here"]
 ZnG:Def K mg "_law_split" Zdm ["_law_works_here","_law_looks_here","_law_crowd_here"]
 ZqJ:Def K mg "_law_led" ZhO ["_law_works_here","_law_crowd_here","_law_deed_here"]
 ZqK:Def K mg "_law_all" ZdB ["_law_works_here","_law_looks_here"]
 ZnH:Def K mg "_law_there" Zev ["_law_works_here","_law_crowd_here"]
 ZjM:Def K mg "_law_can_within" Zcu ["_law_works_here","_law_looks_here","_law_crowd_here","_law_costs_here"]
 ZnI:Def K mg "_law_costs" Zf8 ["_law_works_here","_law_looks_here"]
 ZmQ:Def K mg "_law_fewest" ZdS ["_law_works_here","_law_looks_here"]
 ZnJ:Def K mg "is_number" Zf3 ["thing","least","most"]
 ZnK:Def K mg "is_rising" Zf4 ["thing","many"]
 ZpE:Def K mg "is_crowd" Zg0 ["thing","many"]
 ZrI:Def K mg "is_row" ZiK ["thing","least","most"]
 ZqL:Def K mg "is_deed" ZfA ["thing","many"]
 ZnL:Def K mg "are_deeds" Zen ["thing","many"]
 ZqM:Def K mg "is_look" ZfB ["thing","many"]
 ZnM:Def K mg "are_looks" Zeo ["thing","many"]
 ZnN:Def K mg "are_works" Zf5 ["thing"]
 ZqN:Def K mg "checked" ZhM ["works"]
 ZpF:Def K mg "looks_of" Zg2 ["works"]
 Zkf:Def K mg "checked_looks" ZdY ["works","looks"]
 ZnO:Def K mg "states_of" Zf6 ["works"]
 Zkg:Def K mg "checked_crowd" ZdZ ["works","crowd"]
 ZpG:Def K mg "deeds_of" Zg1 ["works"]
 Zlo:Def K mg "can_be_done" ZdA ["works","crowd","deed"]
 ZkL:Def K mg "checked_deed" Zep ["works","crowd","deed"]
 ZrJ:Def K mg "led_to" ZiL ["works","crowd","deed"]
 ZiQ:Def K mg "crowds_in" ZcH ["rows"]
 Zkh:Def K mg "cost_at_worst" ZcT ["rows","costs"]
 ZjZ:Def K mg "deeds_by" Ze0 ["way","depths"]
 ZqO:Def K mg "seen_in" ZfC ["works","looks","state"]
 ZrK:Def K mg "parted" ZgJ ["works","looks","crowd"]
 ZmR:Def K mg "deeds_with" ZdQ ["works","crowd"]
 ZnP:Def K mg "ways_with" Zer ["works","looks","crowd"]
 ZmS:Def K mg "least_cost" ZcY ["ways","costs","cost_by"]
 ZmT:Def K mg "next_costs" Zfl ["reach","costs","cost_by"]
 ZqP:Def K mg "goal_of" ZhL ["works"]
 ZpH:Def K mg "is_there" ZeZ ["works","crowd"]
 ZpI:Def K mg "costs_of" Zc4 ["works","reach","cost_by"]
 ZnQ:Def K mg "depths_of" Zf7 ["works","coming"]
 ZkM:Def K mg "reached_from" Zeq ["crowds","ways_for"]
 Zlp:ZvP K mg "coming_from" ZX ["works","looks","crowd"] 270 266
 ZmU:Def K mg "foe_answer" ZdR ["works","looks","crowd","deed"]
 ZrL:Def K mg "doable" ZiM ["works","crowd"]
 Nf_deeds_by:NsV K mg "deeds_by"
section
variable[FX]{P:Program}{w:World}{K:Zys}{mg:Str->Option Value}{base:Heap}{k:Nat}
theorem ZvU(T:Txt K mg)(hV:∀t cs F a,FX.fv t cs F a↔FvI K t cs F a)(hTL:FX.tl=tlI)(Dd:Ds K mg)(bm:BMod base mg){f:Addr}{fd:FuncData}(Fn:Fun K "law" "law" Ze7 f fd):Zdt P w K mg base CX0 11 f fd ["_law_script"] (spD K 1 (Zf2 ap)):=by
 have Vff_deeds_by:GFn mg "deeds_by" 0:=by obtain⟨h1,g,h2⟩:=Dd.Nf_deeds_by;exact⟨g,h1 g h2,λF=>(hV _ _ _ _).mpr (Zzo (⟨rfl,rfl,h2⟩))⟩
 have ZaC:Callee P w K mg base 1 "_law_cell" ZL:=by obtain⟨f,fd,F,m,b⟩:=Dd.ZpB.ex;exact Znq T  F m b
 have ZK:Callee P w K mg base 1 "_law_mix" ZJ:=by obtain⟨f,fd,F,m,b⟩:=Dd.ZqI.ex;exact Zpo T  F m b
 have Zb6:Callee P w K mg base 2 "_law_crowd" Zaw:=by obtain⟨f,fd,F,m,b⟩:=Dd.ZnD.ex;exact Zmt T (ZK.mono (by decide)) F m b
 have Zg6:Callee P w K mg base 2 "_law_deed" ZcZ:=by obtain⟨f,fd,F,m,b⟩:=Dd.ZpC.ex;exact Znr T (ZK.mono (by decide)) F m b
 have Zg7:Callee P w K mg base 2 "_law_walk" Zc0:=by obtain⟨f,fd,F,m,b⟩:=Dd.ZpD.ex;exact Zns T (ZK.mono (by decide)) F m b
 have Zgh:Callee P w K mg base 3 "_law_works" ZaZ:=by obtain⟨f,fd,F,m,b⟩:=Dd.ZnE.ex;exact Zmu T (ZaC.mono (by decide)) (Zb6.mono (by decide)) (ZK.mono (by decide)) (Zg6.mono (by decide)) (Zg7.mono (by decide)) F m b
 have Zgi:Callee P w K mg base 2 "_law_looks" ZcE:=by obtain⟨f,fd,F,m,b⟩:=Dd.ZnF.ex;exact Zmw T (ZK.mono (by decide)) F m b
 have Zam:Callee P w K mg base 1 "_law_split" Zae:=by obtain⟨f,fd,F,m,b⟩:=Dd.ZnG.ex;exact Zmx T  F m b
 have ZbC:Callee P w K mg base 1 "_law_led" Zaq:=by obtain⟨f,fd,F,m,b⟩:=Dd.ZqJ.ex;exact Zpp T  F m b
 have ZhP:Callee P w K mg base 2 "_law_all" Zel:=by obtain⟨f,fd,F,m,b⟩:=Dd.ZqK.ex;exact Zpq T (Zam.mono (by decide)) (ZbC.mono (by decide)) F m b
 have Zf9:Callee P w K mg base 1 "_law_there" ZcF:=by obtain⟨f,fd,F,m,b⟩:=Dd.ZnH.ex;exact Zmz T  F m b
 have ZdI:Callee P w K mg base 2 "_law_can_within" ZbR:=by obtain⟨f,fd,F,m,b⟩:=Dd.ZjM.ex;exact ZiN T (ZbC.mono (by decide)) (Zam.mono (by decide)) F m b
 have Zga:Callee P w K mg base 3 "_law_costs" Zdi:=by obtain⟨f,fd,F,m,b⟩:=Dd.ZnI.ex;exact ZmA T (ZhP.mono (by decide)) (Zf9.mono (by decide)) (ZdI.mono (by decide)) F m b
 have Zfo:Callee P w K mg base 4 "_law_fewest" Zbo:=by obtain⟨f,fd,F,m,b⟩:=Dd.ZmQ.ex;exact Zli T (Zga.mono (by decide)) (Zam.mono (by decide)) F m b
 have Zax:Callee P w K mg base 1 "is_number" Zau:=by obtain⟨f,fd,F,m,b⟩:=Dd.ZnJ.ex;exact ZmC T  F m b
 have Zay:Callee P w K mg base 2 "is_rising" Z8:=by obtain⟨f,fd,F,m,b⟩:=Dd.ZnK.ex;exact ZmD T (Zax.mono (by decide)) F m b
 have Zc5:Callee P w K mg base 3 "is_crowd" ZbX:=by obtain⟨f,fd,F,m,b⟩:=Dd.ZpE.ex;exact Znu T (Zay.mono (by decide)) F m b
 have ZaM:Callee P w K mg base 1 "is_row" ZaW:=by obtain⟨f,fd,F,m,b⟩:=Dd.ZrI.ex;exact ZqD T  F m b
 have ZhQ:Callee P w K mg base 3 "is_deed" Zci:=by obtain⟨f,fd,F,m,b⟩:=Dd.ZqL.ex;exact Zps T (ZaM.mono (by decide)) (Zay.mono (by decide)) F m b
 have Zgb:Callee P w K mg base 4 "are_deeds" ZcA:=by obtain⟨f,fd,F,m,b⟩:=Dd.ZnL.ex;exact ZmF T (ZaM.mono (by decide)) (ZhQ.mono (by decide)) F m b
 have ZhR:Callee P w K mg base 2 "is_look" Zcj:=by obtain⟨f,fd,F,m,b⟩:=Dd.ZqM.ex;exact Zpu T (ZaM.mono (by decide)) (Zax.mono (by decide)) F m b
 have Zgc:Callee P w K mg base 3 "are_looks" ZcB:=by obtain⟨f,fd,F,m,b⟩:=Dd.ZnM.ex;exact ZmH T (ZaM.mono (by decide)) (ZhR.mono (by decide)) F m b
 have Zgd:Callee P w K mg base 5 "are_works" ZcC:=by obtain⟨f,fd,F,m,b⟩:=Dd.ZnN.ex;exact ZmI T (Zc5.mono (by decide)) (Zay.mono (by decide)) (ZaM.mono (by decide)) (Zax.mono (by decide)) (Zgb.mono (by decide)) (Zgc.mono (by decide)) F m b
 have ZdD:Callee P w K mg base 6 "checked" Zck:=by obtain⟨f,fd,F,m,b⟩:=Dd.ZqN.ex;exact Zpw T (Zgd.mono (by decide)) F m b
 have Zc6:Callee P w K mg base 1 "looks_of" ZbY:=by obtain⟨f,fd,F,m,b⟩:=Dd.ZpF.ex;exact Znw T  F m b
 have Zd0:Callee P w K mg base 3 "checked_looks" Zbu:=by obtain⟨f,fd,F,m,b⟩:=Dd.Zkf.ex;exact ZjI T (Zay.mono (by decide)) (Zc6.mono (by decide)) F m b
 have Zge:Callee P w K mg base 1 "states_of" ZcD:=by obtain⟨f,fd,F,m,b⟩:=Dd.ZnO.ex;exact ZmK T  F m b
 have Zbx:Callee P w K mg base 4 "checked_crowd" ZaL:=by obtain⟨f,fd,F,m,b⟩:=Dd.Zkg.ex;exact ZjK T (Zc5.mono (by decide)) (Zge.mono (by decide)) F m b
 have ZaQ:Callee P w K mg base 1 "deeds_of" ZaP:=by obtain⟨f,fd,F,m,b⟩:=Dd.ZpG.ex;exact Zny T  F m b
 have Zb2:Callee P w K mg base 2 "can_be_done" Za8:=by obtain⟨f,fd,F,m,b⟩:=Dd.Zlo.ex;exact ZkI T (ZaQ.mono (by decide)) F m b
 have Zey:Callee P w K mg base 3 "checked_deed" ZbK:=by obtain⟨f,fd,F,m,b⟩:=Dd.ZkL.ex;exact Zkd T (Zax.mono (by decide)) (Zb2.mono (by decide)) (ZaQ.mono (by decide)) F m b
 have Zd8:Callee P w K mg base 2 "led_to" Zcl:=by obtain⟨f,fd,F,m,b⟩:=Dd.ZrJ.ex;exact ZqE T (ZaQ.mono (by decide)) F m b
 have ZbF:Callee P w K mg base 1 "crowds_in" ZO:=by obtain⟨f,fd,F,m,b⟩:=Dd.ZiQ.ex;exact ZmL T  F m b
 have Zgf:Zee P w K mg base 1 "crowds_in" ZO:=by obtain⟨f,fd,F,m,b⟩:=Dd.ZiQ.ex;exact Zlj T  F m b
 have Zbw:Callee P w K mg base 2 "cost_at_worst" Zag:=by obtain⟨f,fd,F,m,b⟩:=Dd.Zkh.ex;exact ZjL T (ZbF.mono (by decide)) F m b
 have Zha:Callee P w K mg base 3 "deeds_by" Zc3:=by obtain⟨f,fd,F,m,b⟩:=Dd.ZjZ.ex;exact Znz T (Zbw.mono (by decide)) F m b
 have ZhT:Callee P w K mg base 2 "seen_in" Zdy:=by obtain⟨f,fd,F,m,b⟩:=Dd.ZqO.ex;exact Zpy T (Zc6.mono (by decide)) F m b
 have Zcm:Callee P w K mg base 3 "parted" Za9:=by obtain⟨f,fd,F,m,b⟩:=Dd.ZrK.ex;exact ZqF T (ZhT.mono (by decide)) F m b
 have Zce:Callee P w K mg base 3 "deeds_with" Zbm:=by obtain⟨f,fd,F,m,b⟩:=Dd.ZmR.ex;exact Zll T (Zb2.mono (by decide)) (ZaQ.mono (by decide)) F m b
 have Zdo:Callee P w K mg base 4 "ways_with" Za1:=by obtain⟨f,fd,F,m,b⟩:=Dd.ZnP.ex;exact ZmN T (Zcm.mono (by decide)) (Zce.mono (by decide)) (Zd8.mono (by decide)) F m b
 obtain⟨f0,fd0,F0,m0,b0⟩:=Dd.ZjZ.ex;have CV:Zef P w K mg base 5 ap:=Zxr (k:=4) T (λt cs F a h=>(hV t cs F a).mp h) F0 m0 Dd.Nf_deeds_by.1 (Zha.mono (by decide)) (Zdo.mono (by decide));have Zfn:Callee P w K mg base 6 "least_cost" (ZbM ap):=by obtain⟨f,fd,F,m,b⟩:=Dd.ZmS.ex;exact Zlm T  (CV.mono (by decide)) F m b
 have Gf_next_costs:Zeg P w K mg base 7 "next_costs" (Zbq ap):=by obtain⟨f,fd,F,m,b⟩:=Dd.ZmT.ex;exact ZkN T (Zfn.mono (by decide)) F m b
 have ZhU:Callee P w K mg base 1 "goal_of" Zdz:=by obtain⟨f,fd,F,m,b⟩:=Dd.ZqP.ex;exact ZpA T  F m b
 have Zg8:Callee P w K mg base 2 "is_there" ZbB:=by obtain⟨f,fd,F,m,b⟩:=Dd.ZpH.ex;exact ZnB T (ZhU.mono (by decide)) F m b
 have Zg9:Callee P w K mg base 8 "costs_of" (Zc2 ap):=by obtain⟨f,fd,F,m,b⟩:=Dd.ZpI.ex;exact ZnC T (Zg8.mono (by decide)) (Gf_next_costs.mono (by decide)) F m b
 have Zgg:Callee P w K mg base 9 "depths_of" (Zdl ap):=by obtain⟨f,fd,F,m,b⟩:=Dd.ZnQ.ex;exact ZmP T (Zg9.mono (by decide)) Vff_deeds_by F m b
 have Zex:Callee P w K mg base 6 "reached_from" (ZbL ap):=by obtain⟨f,fd,F,m,b⟩:=Dd.ZkM.ex;exact Zke T (ZbF.mono (by decide)) (Zgf.mono (by decide)) (CV.mono (by decide)) F m b
 have ZeL:Callee P w K mg base 7 "coming_from" (ZcG ap):=by obtain⟨f,fd,F,m,b,hc⟩:=Dd.Zlp.ex;exact ZkK T (Zex.mono (by decide)) (ZbF.mono (by decide)) (Zcm.mono (by decide)) (Zdo.mono (by decide)) hc (by rw[hTL]; decide) (by rw[hTL]; intro q h; simpa [tlI]using h) bm (λF p cs h=>(hV _ _ _ _).mpr (Zy5 ((⟨rfl,h⟩)))) F m b
 have Zfp:Callee P w K mg base 10 "foe_answer" (Zcd ap):=by obtain⟨f,fd,F,m,b⟩:=Dd.ZmU.ex;exact Zln T (ZdD.mono (by decide)) (Zd0.mono (by decide)) (Zbx.mono (by decide)) (Zey.mono (by decide)) (Zd8.mono (by decide)) (Zgg.mono (by decide)) (Zcm.mono (by decide)) (Zbw.mono (by decide)) (ZeL.mono (by decide)) F m b
 have ZiP:Callee P w K mg base 7 "doable" Zdf:=by obtain⟨f,fd,F,m,b⟩:=Dd.ZrL.ex;exact ZqH T (ZdD.mono (by decide)) (Zbx.mono (by decide)) (Zce.mono (by decide)) F m b
 exact ZuA (k:=10) T (Zgh.mono (by decide)) (Zgi.mono (by decide)) (Zb6.mono (by decide)) (Zam.mono (by decide)) (ZaC.mono (by decide)) (ZbC.mono (by decide)) (Zfo.mono (by decide)) (Zfp.mono (by decide)) (ZiP.mono (by decide)) Fn
end
theorem all_mk{l:ZC5}{w:World}{K:Zys}{h:Heap}{mg:Str->Option Value}{fa f4:Addr}{od4 an4:Option Addr}{sl4:Array (Option Value)}{oc4 kV4 dc4 pm4 cd4 ct4:Value}(X:K.In h)(G:h.Ns Zzd mg)(hfa:mg "law" = some (.ref fa))
  (T:Txt K mg) (Dd:Ds K mg) (a4:ZAY K Zzd "law" = some (some (.ref f4)))
  (l4:K.lookup f4=some ⟨oc4,od4,.func (ZzM "law" "law" (Zcf Ze7) (ZaT Ze7) (Ze Ze7) .none kV4 dc4 pm4 an4 cd4 ct4),sl4⟩) (c4:ZAA K cd4 "law" = true) (k4:ZzQ K (.ref f4)=true) :
  ∃fd:FuncData,(∀(s:Shared) (v:Value),BindsTo s fd ⟨[v],[]⟩ [("_law_script",v)])/\∀base:Heap,K.In base->base.Ns Zzd mg->BMod base mg->Zdt l.prog w K mg base CX0 11 fa fd ["_law_script"] (@spD (fxI K) K 1 (Zf2 ap)):=by
 have e:=hfa.symm.trans (ZBX X G a4);cases e;have fx0:FX:=FX0;exact⟨_,λs v=>.of_eq rfl,λbase _ _ bm=>@ZvU (fxI K) _ _ _ _ _ T (λ_ _ _ _=>Iff.rfl) rfl Dd bm _ _ (Zn6 (st:=Ze7) l4 c4 k4)⟩
theorem walk{l:ZC5}{q:Program}{loose:List Str}{XP:(Str->Option Value)->Heap->Prop}{YP:World->Heap->Prop}{d:DefRec}{K:Params->Zys}(hn:l.most=some 63)(hdf:d.params.defaults=[])
  (Zkv:∀ns:List Int,ns.length<=63->(Zf2 ap) [.list (HM.ofInts ns)]=some (.bool true)) (hY:∀(w:World) (h:Heap),YP w h->(K w.params).In h) (hYT:∀(w:World) (h:Heap),YP w h->∀q∈([(270,266)]:List (Addr × Addr)),h.get? q.2=some (ZBf #[]))
  (hT:∀(w:World),∀q∈([(270,266)]:List (Addr × Addr)),Zz8 (K w.params) q.1 q.2=true/\(K w.params).lookup q.2=none)
  (F:∀(w:World) (mg:Str->Option Value) (fa:Addr) (h:Heap),(K w.params).In h->h.Ns Zzd mg->mg d.name=some (.ref fa) ->
   ∃fd:FuncData,(∀(s:Shared) (u:Value),BindsTo s fd ⟨[u],[]⟩ [("_law_script",u)])/\∀base:Heap,(K w.params).In base->base.Ns Zzd mg->BMod base mg->Zdt l.prog w (K w.params) mg base CX0 11 fa fd ["_law_script"] (@spD (fxI (K w.params)) (K w.params) 1 (Zf2 ap))) :
  PySem.W.WalkO q loose XP YP l.row.toRowW d [] (λf vs=>PySem.call f vs) :=
 Zue (n:=63) (k:=11) (x:="_law_script") (sp:=λw=>@spD (fxI (K w.params)) (K w.params) 1 (Zf2 ap)) (tabs:=[(270,266)]) hn (by decide) hdf ⟨rfl,by decide,by decide⟩ hY hYT hT F λw H a ns hl hO hS=>@Zwl (fxI (K w.params)) _ _ _ _ _ _ hO (λT q h=>by
  have:∀p∈tlI,p.1∈([(270,266)]:List (Addr × Addr)).map (·.2):=by decide
  exact this _ h) hS (Zkv ns hl)
section
variable{P:Program}{w:World}{K:Zys}{mg:Str->Option Value}{base:Heap}{k:Nat}
abbrev ZxU{K:Zys}{h:Heap}(_:K.In h)(mg:Str->Option Value):Prop:=Ds K mg
abbrev Zxn{K:Zys}{h:Heap}(_:K.In h)(mg:Str->Option Value):Prop:=Txt K mg
theorem int_mk{mg:Str->Option Value}{n:Str}{v:Value}{k:Int}(h:mg n=some v)(e:∃t,v=.int k t):∃t,mg n=some (.int k t):=by obtain⟨t,rfl⟩:=e;exact⟨t,h⟩
end
end HT
namespace PySem.W.Fast
theorem tw1093120200355634183:True:=⟨⟩
theorem tw11491202115742643187:True:=⟨⟩
theorem tw11496809213263602303:True:=⟨⟩
theorem tw11631805302056183422:True:=⟨⟩
theorem tw11847580024673557588:True:=⟨⟩
theorem tw13739220846062116714:True:=⟨⟩
theorem tw13805638105331978349:True:=⟨⟩
theorem tw13857661892940561639:True:=⟨⟩
theorem tw14737945751187068031:True:=⟨⟩
theorem tw17487185012455580779:True:=⟨⟩
theorem tw17622547716093989460:True:=⟨⟩
theorem tw1980316348106691276:True:=⟨⟩
theorem tw2222178526974972841:True:=⟨⟩
theorem tw283901912958759087:True:=⟨⟩
theorem tw2990960741482134505:True:=⟨⟩
theorem tw4070603794328260494:True:=⟨⟩
theorem tw4139434672159361071:True:=⟨⟩
theorem tw4471602571076979181:True:=⟨⟩
theorem tw4667627489497130551:True:=⟨⟩
theorem tw4936326532068279640:True:=⟨⟩
theorem tw5108126542843372897:True:=⟨⟩
theorem tw60762577385119910:True:=⟨⟩
theorem tw6249831053210089459:True:=⟨⟩
theorem tw7244748052096216373:True:=⟨⟩
theorem tw7756341169575162772:True:=⟨⟩
theorem tw8579985855919856193:True:=⟨⟩
theorem tw8824374429645693105:True:=⟨⟩
theorem tw8843364704957378667:True:=⟨⟩
theorem tw8982363730349712027:True:=⟨⟩
theorem tw9190482076304654114:True:=⟨⟩
theorem tw9458507296917692015:True:=⟨⟩
end PySem.W.Fast
open PySem PySem.W PyProof.Rows
set_option maxRecDepth 100000 in
set_option maxHeartbeats 0 in
theorem PySem.Challenge.cw_halfseen_k14_a_foe_answers_holds : PySem.Challenge.rw_halfseen_k14_a_foe_answers.Holds := by
 w_on; o_law; k_head; (case hw=>w_witness2)
 k_fill
 refine HT.walk (l:=PySem.Challenge.rw_halfseen_k14_a_foe_answers) rfl rfl HG14.Zkv (λw h Y=>PySem.W.km_in_of Y) (λw h Y q hq=>PySem.W.km_tabs_of Y _ (by clear Y; revert q; decide)) ?Tab ?F
 case Tab=>intro w q hq;cases ZyL.mp hq;exact⟨by kernel_rfl,by kernel_rfl⟩
 case F =>
  intro w mg fa h KX G hmg;have fx0:HP.FX:=HP.FX0;have T:HT.Zxn KX mg:=by
   refine⟨?_,?_,?_,?_,?_,?_,?_,?_,?_,?_,?_,?_,?_,?_,?_,?_⟩
   all_goals first
    | (refine PySem.W.mg_none_of KX G ?z; (case z=>k_is))
    | (refine' HT.int_mk (ZBX KX G ?z) ?e; (case z=>k_is); (case e=>exact⟨_,rfl⟩))
  have Dd:HT.ZxU KX mg:=by
   refine⟨?_,?_,?_,?_,?_,?_,?_,?_,?_,?_,?_,?_,?_,?_,?_,?_,?_,?_,?_,?_,?_,?_,?_,?_,?_,?_,?_,?_,?_,?_,?_,?_,?_,?_,?_,?_,?_,?_,?_,?_,?_,?_,?_,?_,?_,?_,?_,?_,?_,?_⟩
   all_goals first
    | (refine' HT.Zwe KX G ?a ?l ?c ?k ?b; (case a=>k_is); (case l=>k_is); (case c=>k_is); (case k=>k_is); (case b=>first | exact λ_ _ _ _ _ _ us hl=>(match us,hl with | [_],_=>rfl) | exact λ_ _ _ _ _ _ us hl=>(match us,hl with | [_,_],_=>rfl) | exact λ_ _ _ _ _ _ us hl=>(match us,hl with | [_,_,_],_=>rfl) | exact λ_ _ _ _ _ _ us hl=>(match us,hl with | [_,_,_,_],_=>rfl)))
    | (refine' HT.Zva KX G ?a ?l ?c ?k ?b ?e ?h; (case a=>k_is); (case l=>k_is); (case c=>k_is); (case k=>k_is); (case h=>kernel_rfl); (case e=>exact rfl); (case b=>first | exact λ_ _ _ _ _ _ us hl=>(match us,hl with | [_],_=>rfl) | exact λ_ _ _ _ _ _ us hl=>(match us,hl with | [_,_],_=>rfl) | exact λ_ _ _ _ _ _ us hl=>(match us,hl with | [_,_,_],_=>rfl) | exact λ_ _ _ _ _ _ us hl=>(match us,hl with | [_,_,_,_],_=>rfl)))
    | (refine' HT.ZwG KX G ?z; (case z=>k_is))
  refine' HT.all_mk KX G hmg T Dd ?a4 ?l4 ?c4 ?k4
  (case a4=>k_is); (case l4=>k_is); (case c4=>k_is); (case k4=>k_is)