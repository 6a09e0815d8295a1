import PyProof.Rows.All
import Wide.All
import OpenK.AllK
import Wide.FinOn
import Lean
import PyProof.EqAt
import PyProof.EqKinds
import PyProof.TupleCall
import PyProof.P3Statements
import PyProof.P3Eq
import PyProof.NeData
import PyProof.IsiPairs
import PyProof.IsiHeapPairs
import KE.LcSums
import PyProof.IsiNone
import PyProof.DictRoadsH
import PyProof.Rows.SetFrom
import PyProof.DictWalks
import PyProof.Rows.MinMaxN
import PyProof.Rows.SumAny
import PyProof.WalkInts
import PySem.Challenge.RW_halfseen_k15_needless_looks
set_option Elab.async false
set_option linter.all false
set_option maxRecDepth 100000
open PySem renaming wpAny_bind->Zyy,wpAny_pure->ZyC,starEach->ZyK,wpAny_newObj_type->Zzi,mainGlobals->Zzk,bootBuiltins->Zzz,wpAny_holding->ZzF,compareOp->ZzJ,behindInMarks->ZzL,wpAny_call_entry->ZzP,wpAny_mono->ZzS,codeAny_builtin->ZzX,sizeLine_eq->ZzZ,mem_of_lookup->Zz8,sysModules->ZAb,wpAny_truthy_bool->ZAl,foldedSetIterable->ZAm,lookup_relabel_local->ZAC,wpAny_typeNameOfWhole_keyiter->ZAE,swapsWith->ZAI,codeAny_mono->ZAJ,wpAny_Call_Name_kw->ZAK,tupleKind_room_in1->ZAM,wpAny_passesOwn->ZAN,wpAny_ite_split->ZAO,attributeBase->ZAQ,plainId_quiet->ZAS,wpAny_typeNameOf_keyiter->ZA1,binaryOp->ZBc,wpAny_askSetting->ZBm,sliceBounds->ZBo,tupleKind->ZBt,assignEach->ZBB,wpAny_setField->ZBG,wpAny_tryCatch->ZBH,wpAny_dictEntries->ZBL,wpAny_setState_of->ZBN,keywordEach->ZBR,wpAny_execs_nil->ZB5,letOwnedTupleGo->ZB6,wpAny_newFunctionEnv->ZCb,wpAny_setEntries_of->ZCf,wpAny_fieldsOf->ZCl,firstArgMember->ZCm,codeAmong->ZCp,wpAny_attempt->ZCx,wpAny_pyIter_list->ZCE,wpAny_pyIter_slot->ZCG,builtinsNs->ZCK,call_meets->ZCL,intKind_is->ZCN,noFill_tuple_add->ZCS,backToKw->ZCT,wpAny_isInstance->ZCV,pickOrder->ZC5,wpAny_dictEpoch->ZC6,wpAny_updateSeq->ZC8,subscripted->ZDb,wpAny_of_eq->ZDd,wpAny_letGo->ZDe
open PySem.W renaming Frag->Zyz,fnOf->ZzV,keepIn->Zz0,codeHdIn->ZAh,codeIn->ZAG,nsIn->ZA2,tabObj->ZBi,envX->ZBz,mg_of->ZBX,kla_obj->ZCd,methodObj->ZCC,OpenLaw->ZC9,cellsFrom_some->ZDa,codeHd_of_K->ZDw,callWith_K->ZDz,FnAt->ZDC
open List renaming length_map->ZyA,mem_cons_of_mem->ZyD,mem_cons_self->ZyE,range->ZyF,map_cons->ZyH,all_eq_true->ZyL,getElem?_eq_some_iff->ZyM,mem_map->ZyN,getElem?_eq_getElem->ZyO,length_cons->ZyP,size_toArray->ZyQ,length_append->ZyS,map_map->ZyV,mem_singleton->ZyW,mem_cons->ZyY,mem_range->ZyZ,getElem?_map->Zy1,mem_of_getElem?->Zy3,mem_append_right->Zy5,mem_append->Zy6,getElem?_set_ne->Zy7,replicate->Zy8,getElem?_append_left->Zy9,mem_filter->Zza,append_nil->Zzb,map_append->Zzd,mem_append_left->Zzg,getElem?_cons_succ->Zzh,getElem?_append_right->Zzn,length->Zzo,length_replicate->Zzp,pairwise_cons->Zzq,getElem?_set_self->Zzs,length_filter_le->Zzu,nodup_cons->Zzx,find?_cons->Zzy,foldl_cons->ZzG,any_eq_true->ZzH,length_set->ZzM,length_take->ZzO,filter_cons->ZzQ,filterMap_cons->ZzR,append_assoc->ZzT,all_cons->ZzU,length_singleton->ZzW,mem_filterMap->ZzY,length_range->Zz6,getD->Zz7,map_congr_left->Zz9,filter_eq_self->ZAa,eq_nil_of_length_eq_zero->ZAd,any_cons->ZAi,nodup_nil->ZAj,contains_eq_mem->ZAk,replicate_succ->ZAo,length_drop->ZAr,lookup_cons->ZAs,getElem_mem->ZAt,nil_append->ZAz,map_nil->ZAA,flatten_cons->ZAT,nodup_append->ZAU,mem_flatMap->ZA0,getElem_of_mem->ZA3,getElem?_replicate->ZA6,getElem?_cons_zero->ZA7,set_getElem_self->ZBg,mergeSort_perm->ZBp,drop_eq_getElem_cons->ZBr,mem_of_find?_eq_some->ZBs,pairwise_mergeSort->ZBK,max?_eq_some_iff->ZB2,min?_eq_some_iff->ZB3,max?_eq_none_iff->ZB4,set_set->ZB8,length_pos_iff->ZCh,map_eq_nil_iff->ZCi,map->ZCj,range'->ZCo,ne_nil_of_mem->ZCt,nodup_iff_pairwise_ne->ZCA,exists_cons_of_ne_nil->ZCB,find?_append->ZCF,pairwise_map->ZCI,find?_isSome->ZCJ,pairwise_iff_getElem->ZCM,getElem?_take_of_lt->ZCR,set_eq_of_length_le->ZCU,cons_append->ZCW,length_filterMap_le->ZCX,filter_cons_of_pos->ZC0,filter_cons_of_neg->ZC1,of_mem_zip->ZC2,length_nil->ZC3,pairwise_lt_range->ZDf,filter_eq_nil_iff->ZDg,getElem?_eq_none->ZDh,dropLast_eq_take->ZDm,min?_eq_none_iff->ZDn,map_take->ZDq,map_drop->ZDr,all_nil->ZDD
open Option renaming map_eq_some_iff->ZyB,isSome_iff_exists->Zzm,map->ZzN,isSome_map->Zz5,isSome->ZBn,bind_eq_some_iff->ZBJ
open PySem.Heap renaming get?_push_of_some->ZyG,lt_size->ZyR,get?_push_size->ZyU,get?_update_self->ZzK,get?_update_other->Zz1,SameBut->ZAy,size_push->ZBh,get?_push_ne->ZBP,size_update->ZBZ
open Nat renaming le_refl->ZyI,ne_of_lt->ZyX,lt_of_lt_of_le->Zy4,le_trans->Zzl,zero_le->Zz2,lt_irrefl->ZAq,le_of_lt->ZAx,lt_trans->ZAB,lt_succ_self->ZAZ,lt_succ_of_lt->ZBf,le_of_not_lt->ZBk,ne_of_gt->ZBu,blt_eq->ZBE,le_of_eq->ZCa,min_le_left->ZC4
open PySem.SetTable renaming below->ZyJ,insertAt->Zy2,insertAt_perm->ZAp,tooFull->ZBl,toList_insertAt->ZBy,fits->ZBU,fill->ZBV,turns->ZDi,bits->ZDp
open Bool renaming and_eq_true->ZyT,false_ne_true->Zzj,or_eq_true->ZAn,false_eq_true->ZAw,eq_iff_iff->ZCc,false_or->ZCw,true_and->ZDt
open Array renaming length_toList->Zy0,getElem?_toList->Zzt,getD->ZAH,toList_push->ZAV,getElem?_eq_getElem->ZAX,getElem?_eq_none->ZBS,perm_iff_toList_perm->ZCy
open Or renaming inr->Zzc,inl->ZzA
open PySem.PyData renaming int->Zze,tuple->Zzf,eqv->Zzv,bool->Zz4,canLayAll0->ZBe,depthAll->ZCe,eqvAll->ZCz
open PySem.Value renaming ref->Zzr,none->ZzC,int->ZAv,type->ZBA
open Option.some renaming inj->Zzw
open Ne renaming symm->ZzB
open False renaming elim->ZzD
open PySem.Around renaming under_plainId->ZzE,frames_deeper->ZDo
open PySem.Heap.SameBut renaming update->ZzI,refl->ZDE
open PySem.F renaming plain_min_loop->Zz3,called_set->ZAf,plainAttrs_list->ZAF,plain_list_iadd->ZA8,args_tuple_add_2->ZBv,slot_list_append->ZBw,type_list_append->ZBx,entry_tuple_add->ZBI,slot_tuple_add->ZBQ,entry_min_loop->ZBT,slot_dict_get->ZB0,slot_dict_setdefault->ZCk,plain_proto_collect->ZCr,args_dict_get_3->ZCY,plainAttrs_dict->ZCZ,entry_dict_get->ZDc,plain_set_new->ZDj,slot_set_iter->ZDk
open List.Nodup renaming length_le_of_subset->ZAc
open PySem.Builtin.Tuple renaming tupleExact->ZAe
open PySem.Obj renaming data_mapFields->ZAg,mapSeq->ZBC,putSet->ZBF,isFreed_of_fields->ZB1,cls_mapFields->ZCH,mapFields->ZDs
open Sum renaming inl->ZAu,inr->ZCQ
open Int renaming toNat_natCast->ZAD,toNat_of_nonneg->ZCg
open PySem.Str renaming ofString->ZAL
open PyProof.Rows.KeyOrd renaming kle_of_not_klt->ZAP,kle_refl->ZBb,kle_of_klt->ZBO,kle_trans->ZBY,kle_antisymm->ZDu
open PySem.NameKind renaming free->ZAR
open PySem.Builtin.Slice renaming slicePlaces->ZAW,sliceAdjust->ZBq,sliceApplied->ZCv
open PySem.Builtin.List renaming listTooLong->ZAY,listLengthHint->ZCq,listExtendWith->ZCs
open PyProof.Rows renaming slot_tuple_getitem->ZA4,callWith_type1->ZBj,entry_list_sort->ZC7
open PySem.Builtin.Range renaming rangeSize->ZA5,small->ZDv
open PySem.Paired renaming length->ZA9
open PySem.Calls renaming spliced_cons->ZBa,callWith_builtin->ZBd,evalArgs_plain->ZB7,Name_function_global->ZCu,spliced_nil->ZCD,call_function_entry->ZCO
open True renaming intro->ZBD
open PySem.SetTable.below renaming go->ZBM
open Function renaming comp->ZBW
open ForInStep renaming yield->ZB9
open PySem.Builtin.Dict_items renaming ownsTuple->ZCn
open Classical renaming byContradiction->ZCP
open PySem.Builtin.Dict renaming showsAll->ZDl
open PySem.SeqAt.EqAt renaming int_str->ZDx,str_int->ZDy
open PyProof.Rows.IsTup renaming new->ZDA
open PySem.Expr renaming Call->ZDB
namespace L2
open PySem PySem.Spec PyProof.Rows
abbrev Key:=Sum Int Str
def ZhV:Key->Value->Bool
 | .inl k,v=>Value.isInt k v
 | .inr x,v=>Value.isStrOf x v
def ZxS(w:World):Key->Int
 | .inl k=>hashInt k
 | .inr x=>hashStr w x
theorem Zbh:∀{k:Key} {v:Value},ZhV k v=true->(∃i t,k=ZAu i/\v=ZAv i t)\/(∃x t,k=ZCQ x/\v=Value.str x t)
 | .inl i,v,h=>by obtain⟨t,e⟩:=Value.isInt_shape (k:=i) (v:=v) h;exact .inl ⟨i,t,rfl,e⟩
 | .inr x,v,h=>by obtain⟨t,e⟩:=Value.isStrOf_shape (x:=x) (v:=v) h;exact .inr ⟨x,t,rfl,e⟩
theorem ZsK(i:Int)(t:Tok):ZhV (.inl i) (.int i t)=true:=by simp[ZhV,Value.isInt]
theorem ZsG(x:Str)(t:Tok):ZhV (.inr x) (.str x t)=true:=by simp[ZhV,Value.isStrOf]
theorem Zww(a b:Int):decide ((ZAu a:Key)=ZAu b)=(a==b):=by
 by_cases e:a=b
 ·subst e; simp
 ·have h:¬(ZAu a:Key)=ZAu b:=λq=>e (Sum.inl.inj q)
  rw[decide_eq_false h];exact(beq_eq_false_iff_ne.mpr e).symm
theorem ZwH(a b:Str):decide ((ZCQ a:Key)=ZCQ b)=decide (a=b):=by
 by_cases e:a=b
 ·subst e; simp
 ·have h:¬(ZCQ a:Key)=ZCQ b:=λq=>e (Sum.inr.inj q)
  rw[decide_eq_false h,decide_eq_false e]
theorem ZwW(a:Int)(b:Str):decide ((ZAu a:Key)=ZCQ b)=false:=decide_eq_false (λq=>nomatch q)
theorem Zwe(a:Str)(b:Int):decide ((ZCQ a:Key)=ZAu b)=false:=decide_eq_false (λq=>nomatch q)
def Zao(prog:Program)(w:World):PySem.KeyKind prog w Key where
 is:=ZhV
 hash:=ZxS w
 inj:=λv a b ha hb=>by
  rcases Zbh ha with⟨i,t,rfl,rfl⟩ | ⟨x,t,rfl,rfl⟩
  ·rcases Zbh hb with⟨j,u,rfl,e⟩ | ⟨y,u,rfl,e⟩
   ·injection e with e1 _; rw[e1]
   ·exact nomatch e
  ·rcases Zbh hb with⟨j,u,rfl,e⟩ | ⟨y,u,rfl,e⟩
   ·exact nomatch e
   ·injection e with e1 _; rw[e1]
 byValue:=λk v h=>by rcases Zbh h with⟨i,t,rfl,rfl⟩ | ⟨x,t,rfl,rfl⟩<;>rfl
 pyHash:=λhv h=>by
  rcases Zbh hv with⟨i,t,rfl,rfl⟩ | ⟨x,t,rfl,rfl⟩
  ·exact wpAny_pyHash_int h
  ·exact wpAny_pyHash_str h
 eqBool:=λhu hv h=>by
  rcases Zbh hu with⟨i,t,rfl,rfl⟩ | ⟨x,t,rfl,rfl⟩
  ·rcases Zbh hv with⟨j,u,rfl,rfl⟩ | ⟨y,u,rfl,rfl⟩
   ·rw[Zww]at h; exact wpAny_eqBool_int h
   ·rw[ZwW]at h; exact ZDx i t y u _ _ _ _ h
  ·rcases Zbh hv with⟨j,u,rfl,rfl⟩ | ⟨y,u,rfl,rfl⟩
   ·rw[Zwe]at h; exact ZDy x t j u _ _ _ _ h
   ·rw[ZwH]at h; exact wpAny_eqBool_str h
 «strs»:=λk x t v h=>by
  rcases Zbh h with⟨i,u,rfl,e⟩ | ⟨y,u,rfl,e⟩
  ·exact nomatch e
  ·injection e with e1 _
   subst e1;cases v<;>rfl
theorem Zq2(prog:Program)(w:World)(k:Key)(v:Value):(Zao prog w).is k v=ZhV k v:=rfl
theorem ZpJ(prog:Program)(w:World)(i:Int)(t:Tok):(Zao prog w).is (.inl i) (.int i t)=true:=ZsK i t
theorem ZpW(prog:Program)(w:World)(x:Str)(t:Tok):(Zao prog w).is (.inr x) (.str x t)=true:=ZsG x t
end L2
namespace L2
open PySem PySem.Spec PyProof.Rows
inductive V where
 | non | bl (b:Bool) | int (i:Int) | str (x:Str) | byt (b:Array UInt8) | flt (b:UInt64) | ref (a:Addr) | ty (n:String)
 deriving DecidableEq
def RelV:V->Value->Prop
 | .non,u=>u=ZzC
 | .bl b,u=>u=Value.bool b
 | .int i,u=>∃t,u=ZAv i t
 | .str x,u=>∃t,u=Value.str x t
 | .byt b,u=>∃t,u=Value.bytes b t
 | .flt b,u=>∃t,u=Value.float b t
 | .ref a,u=>u=Zzr a
 | .ty n,u=>u=ZBA n
abbrev Vals:List V->List Value->Prop:=Paired RelV
theorem Vals.length{xs:List V}{us:List Value}(r:Vals xs us):xs.length=us.length:=ZA9 r
theorem Vals.get:∀{xs:List V} {us:List Value} {i:Nat} {x:V},Vals xs us->xs[i]?=some x->∃u,us[i]?=some u/\RelV x u
 | _,_,_,_,.nil,e=>by simp at e
 | _,_,0,_,.cons r _,e=>by simp at e; subst e; exact⟨_,rfl,r⟩
 | _,_,i+1,x,.cons _ t,e=>by obtain⟨u,h1,h2⟩:=Vals.get (i:=i) (x:=x) t (by simpa using e);exact⟨u,by simpa using h1,h2⟩
theorem Vals.set{x:V}{u:Value}(r:RelV x u):∀{xs:List V} {us:List Value} (i:Nat),Vals xs us->Vals (xs.set i x) (us.set i u)
 | _,_,_,.nil=>.nil
 | _,_,0,.cons _ t=>.cons r t
 | _,_,i+1,.cons q t=>.cons q (Vals.set r i t)
theorem Vals.append:∀{xs ys:List V} {us ws:List Value},Vals xs us->Vals ys ws->Vals (xs++ys) (us++ws)
 | _,_,_,_,.nil,s=>s
 | _,_,_,_,.cons r t,s=>.cons r (Vals.append t s)
theorem Vals.take:∀{xs:List V} {us:List Value} (n:Nat),Vals xs us->Vals (xs.take n) (us.take n)
 | _,_,0,_=>.nil
 | _,_,_+1,.nil=>.nil
 | _,_,n+1,.cons r t=>.cons r (Vals.take n t)
theorem Vals.drop:∀{xs:List V} {us:List Value} (n:Nat),Vals xs us->Vals (xs.drop n) (us.drop n)
 | _,_,0,r=>r
 | _,_,_+1,.nil=>.nil
 | _,_,n+1,.cons _ t=>Vals.drop n t
def Zfo:Option V->Option Value->Prop
 | some v,some u=>RelV v u
 | none,none=>True
 | _,_=>False
def KV{κ:Type}:List (κ × V)->List (κ × Value)->Prop:=Paired λ(p:κ × V) (q:κ × Value)=>p.1=q.1/\RelV p.2 q.2
def kV:Key->V
 | .inl i=>.int i
 | .inr x=>.str x
inductive HO where
 | lst (xs:List V)
 | tup (xs:List V)
 | dK (kvs:List (Key × V)) | dT (kvs:List (List Key × V))
 | set (S:Int->Bool) (n:Nat)
 | ins (C dx:Addr) (fs:List (Str × V))
 | own (x:Addr)
 | xd (fs:List (Str × V))
 | met (f x:Addr)
 | rng (lo hi:Int)
 | frz (o:Obj) (u:HO)
 | tbl (ps:Array Value)
 | ext (φ:Heap->Prop)
abbrev Hp:=Addr->Option HO
def upd(H:Hp)(a:Addr)(o:HO):Hp:=λb=>if b=a then some o else H b
theorem ZB{H:Hp}{a:Addr}{o:HO}:upd H a o a=some o:=by unfold upd; rw[if_pos rfl]
theorem ZA{H:Hp}{a b:Addr}{o:HO}(h:b≠a):upd H a o b=H b:=by unfold upd; rw[if_neg h]
theorem Zuv{H:Hp}{a b:Addr}{o u:HO}(h:H a=some o)(h':H b=some u)(d:o≠u):a≠b:=by intro e; subst e; rw[h]at h'; exact d (Zzw h')
theorem Zap{H:Hp}{a b:Addr}{o:HO}(h:H a=some o)(h':H b=none):a≠b:=by intro e; subst e; rw[h]at h'; cases h'
section
variable(P:Program)(w:World)
def Zab(H:Hp)(h:Heap)(a:Addr):HO->Prop
 | .lst xs=>xs.length<=sizeLine/\∃(its:List Value) (n:Nat),Vals xs its/\h.get? a=some { cls:=.type "list",data:=.seq its.toArray n }
 | .tup xs=>xs.length<=sizeLine/\∃its:List Value,Vals xs its/\IsTup h a its.toArray
 | .dK kvs=>kvs.length<=sizeLine/\(a==ZAb)=false/\∃vs,KV kvs vs/\h.DictOf (Zao P w) a vs
 | .dT kvs=>kvs.length<=sizeLine/\(a==ZAb)=false/\∃xs:List (List Key × Addr × Value),
   Paired (λ(p:List Key × V) (q:List Key × Addr × Value)=>p.1=q.1/\H q.2.1=some (.tup (p.1.map kV))/\RelV p.2 q.2.2) kvs xs /\
   ∃o es ep,h.get? a=some o/\o.ExactDict/\o.data=.dict es ep/\es.toList=xs.map (entryOfKey (ZBt (Zao P w)))/\(xs.map (·.1)).Nodup
 | .set S n=>h.SetOf (intKind P w) a S n
 | .ins C dx fs=>H dx=some (.own a)/\fs.length<=1000/\dx≠a/\h.get? a=some (PySem.W.instObj C dx) /\
   ∃mA,h.Ns1 dx mA/\(∀f,Zfo (fs.lookup f) (mA f))/\PySem.Within mA (fs.map (·.1))
 | .own _=>∃o,h.get? a=some o
 | .xd fs=>∃mA,h.Ns1 a mA/\∀f,Zfo (fs.lookup f) (mA f)
 | .rng lo hi=>∃t u v,h.get? a=some { cls:=.type "range",data:=.fields #[.int lo t,.int hi u,.int 1 v] }
 | .frz o u=>h.get? a=some o/\Zab H h a u
 | .tbl ps=>h.get? a=some { cls:=.none,data:=.fields ps }
 | .met f x=>h.get? a=some (ZCC (.ref f) (.ref x))
 | .ext φ=>φ h/\(∃o,h.get? a=some o)/\∀h1 h2:Heap,φ h1->(∀o,h1.get? a=some o->h2.get? a=some o)->φ h2
def HOk(H:Hp)(h:Heap):Prop:=∀a o,H a=some o->Zab P w H h a o
end
section
variable{P:Program}{w:World}{H H':Hp}{h h':Heap}{a:Addr}{o:HO}
theorem Zab.lt(x:Zab P w H h a o):a<h.objs.size:=by
 cases o with
 | lst xs=>obtain⟨_,_,_,_,e⟩:=x; exact ZyR e
 | tup xs=>obtain⟨_,_,_,p⟩:=x; exact p.lt
 | dK kvs=>obtain⟨_,_,_,_,o,_,_,e,_⟩:=x; exact ZyR e
 | dT kvs=>obtain⟨_,_,_,_,o,_,_,e,_⟩:=x; exact ZyR e
 | set S n=>obtain⟨o,_,_,_,e,_⟩:=x; exact ZyR e
 | ins C dx fs=>obtain⟨_,_,_,e,_⟩:=x; exact ZyR e
 | own y=>obtain⟨_,e⟩:=x; exact ZyR e
 | xd fs=>obtain⟨_,⟨_,_,_,e,_⟩,_⟩:=x; exact ZyR e
 | rng lo hi=>obtain⟨_,_,_,e⟩:=x; exact ZyR e
 | frz ob u=>obtain⟨e,_⟩:=x; exact ZyR e
 | tbl ps=>exact ZyR (show h.get? a=some _ from x)
 | met f y=>exact ZyR (show h.get? a=some _ from x)
 | ext φ=>obtain⟨_,⟨_,e⟩,_⟩:=x; exact ZyR e
theorem Paired.mapP{α β:Type}{F G:α->β->Prop}:∀{l₁:List α} {l₂:List β},Paired F l₁ l₂->(∀a b,F a b->G a b)->Paired G l₁ l₂
 | _,_,.nil,_=>.nil
 | _,_,.cons r t,f=>.cons (f _ _ r) (Paired.mapP t f)
theorem Zab.stay(x:Zab P w H h a o)(k:∀b u,(b=a\/H b=some (.own a))->h.get? b=some u->h'.get? b=some u)
  (ho:∀b,H b=some (.own a)->H' b=some (.own a)) (ht:∀b xs,H b=some (.tup xs)->H' b=some (.tup xs)):Zab P w H' h' a o:=by
 induction o with
 | lst xs=>obtain⟨z,its,n,r,e⟩:=x; exact⟨z,its,n,r,k _ _ (.inl rfl) e⟩
 | tup xs=>obtain⟨z,its,r,ob,e,c⟩:=x; exact⟨z,its,r,ob,k _ _ (.inl rfl) e,c⟩
 | dK kvs=>obtain⟨z,y,vs,r,ob,es,ep,e,c⟩:=x; exact⟨z,y,vs,r,ob,es,ep,k _ _ (.inl rfl) e,c⟩
 | dT kvs=>obtain⟨z,y,xs,r,ob,es,ep,e,c⟩:=x;exact⟨z,y,xs,Paired.mapP r λp q z=>⟨z.1,ht _ _ z.2.1,z.2.2⟩,ob,es,ep,k _ _ (.inl rfl) e,c⟩
 | set S n=>obtain⟨ob,es,ep,t,e,c⟩:=x; exact⟨ob,es,ep,t,k _ _ (.inl rfl) e,c⟩
 | ins C dx fs=>obtain⟨d,z,ne,e,mA,⟨od,es,ep,e2,c⟩,r⟩:=x;exact⟨ho _ d,z,ne,k _ _ (.inl rfl) e,mA,⟨od,es,ep,k _ _ (.inr d) e2,c⟩,r⟩
 | own y=>obtain⟨ob,e⟩:=x; exact⟨ob,k _ _ (.inl rfl) e⟩
 | xd fs=>obtain⟨mA,⟨od,es,ep,e,c⟩,r⟩:=x; exact⟨mA,⟨od,es,ep,k _ _ (.inl rfl) e,c⟩,r⟩
 | rng lo hi=>obtain⟨t,u,v,e⟩:=x; exact⟨t,u,v,k _ _ (.inl rfl) e⟩
 | frz ob u ih=>obtain⟨e,q⟩:=x; exact⟨k _ _ (.inl rfl) e,ih q⟩
 | tbl ps=>have e:h.get? a=some { cls:=.none,data:=.fields ps }:=x;show h'.get? a=some { cls:=.none,data:=.fields ps };exact k a _ (.inl rfl) e
 | met f y=>have e:h.get? a=some (ZCC (.ref f) (.ref y)):=x;show h'.get? a=some (ZCC (.ref f) (.ref y));exact k a _ (.inl rfl) e
 | ext φ=>obtain⟨p,⟨o,e⟩,st⟩:=x; exact⟨st _ _ p λo q=>k _ _ (.inl rfl) q,⟨o,k _ _ (.inl rfl) e⟩,st⟩
theorem HOk.lt(x:HOk P w H h)(e:H a=some o):a<h.objs.size:=(x a o e).lt
theorem HOk.fresh(x:HOk P w H h)(e:h.objs.size<=a):H a=none:=by
 cases q:H a with
 | none=>rfl
 | some u=>exact absurd (Zy4 (x.lt q) e) (ZAq _)
theorem HOk.kept(x:HOk P w H h)(k:∀b u,h.get? b=some u->h'.get? b=some u):HOk P w H h':=λa o e=>(x a o e).stay (λb u _ q=>k b u q) (λ_ q=>q) λ_ _ q=>q
theorem HOk.laid(x:HOk P w H h)(k:∀b u,h.get? b=some u->h'.get? b=some u)(hp:h.objs.size<=a)(new:Zab P w (upd H a o) h' a o):HOk P w (upd H a o) h':=λb u e=>by
 have hn:=x.fresh hp
 by_cases hb:b=a
 ·subst hb; rw[ZB]at e; cases e; exact new
 ·rw[ZA hb]at e
  exact(x b u e).stay (λc v _ q=>k c v q) (λc q=>by rw[ZA (Zap q hn)]; exact q) λc xs q=>by rw[ZA (Zap q hn)]; exact q
end
def Rd(H:Hp)(a:Addr)(u:HO):Prop:=H a=some u\/∃o,H a=some (.frz o u)
theorem Rd.ok{P:Program}{w:World}{H:Hp}{h:Heap}{a:Addr}{u:HO}(r:Rd H a u)(x:HOk P w H h):Zab P w H h a u:=by
 rcases r with r | ⟨o,r⟩
 ·exact x a u r
 ·obtain⟨_,q⟩:=x a _ r
  exact q
def Mut:Option HO->Prop
 | some (.lst _)=>True
 | some (.dK _)=>True
 | some (.dT _)=>True
 | some (.set _ _)=>True
 | some (.ins _ _ _)=>True
 | some (.ext _)=>True
 | _=>False
section
variable{P:Program}{w:World}{H:Hp}{h h':Heap}{x e:Addr}{o':HO}
theorem HOk.write(ok:HOk P w H h)(mu:Mut (H x))(he:e=x\/H e=some (.own x))(k:∀b u,b≠e->h.get? b=some u->h'.get? b=some u)(heo:∃u,h'.get? e=some u)
  (new:Zab P w (upd H x o') h' x o'):HOk P w (upd H x o') h':=λb u q=>by
 have nown:∀c y,H c=some (.own y)->c≠x:=λc y r z=>by subst z; rw[r]at mu; exact mu
 have ntup:∀c xs,H c=some (.tup xs)->c≠x:=λc xs r z=>by subst z; rw[r]at mu; exact mu
 by_cases hb:b=x
 ·subst hb; rw[ZB]at q; cases q; exact new
 ·rw[ZA hb]at q
  by_cases hbe:b=e
  ·have q':H b=some (.own x):=by
    rcases he with z | z
    ·exact absurd (hbe.trans z) hb
    ·rw[hbe]; exact z
   rw[q]at q'; cases q';obtain⟨v,hv⟩:=heo;exact⟨v,by rw[hbe]; exact hv⟩
  ·refine(ok b u q).stay (λc v hc r=>k c v ?_ r) (λc r=>by rw[ZA (nown c b r)]; exact r) λc xs r=>by rw[ZA (ntup c xs r)]; exact r
   rcases hc with rfl | hc
   ·exact hbe
   ·rintro rfl
    rcases he with z | z
    ·exact nown c b hc z
    ·rw[hc]at z; cases z; exact hb rfl
end
structure Un(fs ex:List Addr)(H H':Hp)(h h':Heap):Prop where
 keep:∀b o,h.get? b=some o->H b=none->b ∉ fs->b ∉ ex->h'.get? b=some o
 slot:∀b o,h.get? b=some o->H b=none->b∈fs->b ∉ ex->∃sl,h'.get? b=some { o with slots:=sl }
 free:∀b o,h.get? b=some o->H b=none->b ∉ ex->H' b=none
 there:∀b o,h.get? b=some o->b ∉ ex->∃o',h'.get? b=some o'
 tups:∀b xs,H b=some (.tup xs)->H' b=some (.tup xs)
 frzs:∀b o u,H b=some (.frz o u)->H' b=some (.frz o u)
 tbls:∀b ps,H b=some (.tbl ps)->∃more,H' b=some (.tbl (ps++more))
section
variable{fs fs' ex ex':List Addr}{H H1 H2:Hp}{h h1 h2 h':Heap}{a x e:Addr}{o:HO}
theorem Un.any(u:Un fs ex H H1 h h1){b:Addr}{ob:Obj}(q:h.get? b=some ob)(n:H b=none)(hx:b ∉ ex):∃sl,h1.get? b=some { ob with slots:=sl }:=by
 by_cases hb:b∈fs
 ·exact u.slot b ob q n hb hx
 ·exact⟨ob.slots,u.keep b ob q n hb hx⟩
theorem Un.kept(k:∀b u,h.get? b=some u->h'.get? b=some u):Un fs ex H H h h' :=
 ⟨λb ob q _ _ _=>k b ob q,λb ob q _ _ _=>⟨ob.slots,k b ob q⟩,λ_ _ _ n _=>n,λb ob q _=>⟨ob,k b ob q⟩,λ_ _ q=>q,λ_ _ _ q=>q,λ_ ps q=>⟨#[],by rw[q]; simp⟩⟩
theorem Un.refl:Un fs ex H H h h:=Un.kept λ_ _ q=>q
theorem Un.laid(k:∀b u,h.get? b=some u->h'.get? b=some u)(hp:h.objs.size<=a)(hn:H a=none):Un fs ex H (upd H a o) h h' where
 keep:=λb u q _ _ _=>k b u q
 slot:=λb u q _ _ _=>⟨u.slots,k b u q⟩
 free:=λb u q n _=>by rw[ZA (ZyX (Zy4 (ZyR q) hp))]; exact n
 there:=λb u q _=>⟨u,k b u q⟩
 tups:=λb xs q=>by rw[ZA (Zap q hn)]; exact q
 frzs:=λb u xs q=>by rw[ZA (Zap q hn)]; exact q
 tbls:=λb ps q=>⟨#[],by rw[ZA (Zap q hn),q]; simp⟩
theorem Un.write(mu:Mut (H x))(he:e=x\/H e=some (.own x))(k:∀b u,b≠e->h.get? b=some u->h'.get? b=some u)(heo:∃u,h'.get? e=some u):Un fs ex H (upd H x o) h h':=by
 have hx:∀b,H b=none->b≠x:=λb n z=>by subst z; rw[n]at mu; exact mu
 have hb:∀b,H b=none->b≠e:=λb n z=>by
  subst z;rcases he with r | r
  ·exact hx b n r
  ·rw[n]at r; cases r
 have hm:∀b u,H b=some u->¬Mut (some u)->b≠x:=λb u q nm z=>by subst z; rw[q]at mu; exact nm mu
 refine⟨λb u q n _ _=>k b u (hb b n) q,λb u q n _ _=>⟨u.slots,k b u (hb b n) q⟩,λb u q n _=>by rw[ZA (hx b n)]; exact n,λb u q _=>?_,
  λb xs q=>by rw[ZA (hm b _ q λz=>z)]; exact q,λb u xs q=>by rw[ZA (hm b _ q λz=>z)]; exact q,λb ps q=>⟨#[],by rw[ZA (hm b _ q λz=>z),q]; simp⟩⟩
 by_cases hbe:b=e
 ·subst hbe; exact heo
 ·exact⟨u,k b u hbe q⟩
end
def trk(h:Heap)(H:Hp):List Addr:=(ZyF h.objs.size).filter λa=>(H a).isSome
def Zha(h:Heap)(H:Hp):Heap:=PySem.W.hideAll h (trk h H)
theorem Zss(h:Heap)(H:Hp):(Zha h H).objs.size=h.objs.size:=PySem.W.hideAll_size _ _
theorem ZtZ{h:Heap}{H:Hp}{b:Addr}{o:Obj}(e:h.get? b=some o)(n:H b=none):(Zha h H).get? b=some o :=
 PySem.W.hideAll_get _ e λhm=>by have q:(H b).isSome=true:=(Zza.mp hm).2;rw[n]at q; simp at q
theorem Zvb{h:Heap}{H:Hp}{b:Addr}{o:Obj}(e:(Zha h H).get? b=some o):h.get? b=some o/\H b=none:=by
 have e':h.get? b=some o:=PySem.W.of_hideAll (trk h H) e;refine⟨e',?_⟩;cases q:H b with
 | none=>rfl
 | some x=>have hm:b∈trk h H:=Zza.mpr ⟨ZyZ.mpr (ZyR e'),by simp[q]⟩;have z:(Zha h H).get? b=none:=PySem.W.hideAll_none (trk h H) hm;rw[z]at e; cases e
end L2
namespace L2
open PySem PySem.Spec PyProof.Rows
structure Mod(K:Zyz)(mg:Str->Option Value)(base:Heap):Prop where
 kin:K.In base
 glob:base.Ns Zzk mg
 blt:∃mb,base.Ns ZCK mb/\∀x:Str,x ≠ "__name__"->mb x=Zzz x
 nolimit:base.NoLimit
structure Cx where
 prog:Program
 w:World
 K:Zyz
 mg:Str->Option Value
 base:Heap
 A:Around
 N:List Str
 s₀:Shared
 H₀:Hp
 env:Env
 outer:List Env
 stack:List Env
 ex:List Addr
 fn:Str->Bool
 calm:Bool
 pn:List (Addr × Obj)
 xe:Value->Shared->Prop
def frs(l:List Env):List Addr:=l.filterMap (·.frame)
abbrev Cx.fs(X:Cx):List Addr:=frs X.outer
def Vis(sc:Scope)(x:Str):Prop:=sc.names.lookup x=some .local\/sc.names.lookup x=some .cell\/sc.names.lookup x=some .free
def Loc(sc:Scope)(x:Str):Prop:=sc.names.lookup x=some .local\/sc.names.lookup x=some .cell
def Look(env:Env)(h:Heap)(m:Str->Option Value)(x:Str)(u:Value):Prop :=
 (env.kindOf x=some .local/\m x=some u)\/((env.kindOf x=some .cell\/env.kindOf x=some .free)/\∃c,env.cells.lookup x=some c/\h.IsCell c (some u))
structure Cx.Ok(X:Cx):Prop where
 mod:Mod X.K X.mg X.base
 kind:X.env.scope.kind=.function
 glob:X.env.globals=Zzk
 blt:X.env.builtins=ZCK
 above:X.s₀.heap.objs.size<=X.env.locals
 inj:∀x y c,X.env.cells.lookup x=some c->X.env.cells.lookup y=some c->x=y
 has:∀x,(X.env.kindOf x=some .cell\/X.env.kindOf x=some .free)->∃c,X.env.cells.lookup x=some c
 cab:∀x c,X.fn x=true->X.env.cells.lookup x=some c->X.s₀.heap.objs.size<=c
 hd:X.calm=true->X.A.handled=none
 frames:X.A.frames=some X.stack
 stk:X.stack=X.outer\/(X.stack=X.env::X.outer/\X.env.frame=some X.env.locals)
 exf:∀b∈X.ex,b≠X.env.locals/\∀x c,X.env.cells.lookup x=some c->c≠b
 bs:∀b o,X.base.get? b=some o->X.s₀.heap.get? b=some o/\X.H₀ b=none
 bsz:X.base.objs.size<=X.s₀.heap.objs.size
 noex:∀b o,X.base.get? b=some o->b ∉ X.ex
 exfs:∀b∈X.ex,b ∉ X.fs
 funs:X.s₀.heap.FunFrames X.base X.outer
 frf:∀b∈X.fs,X.H₀ b=none
structure Inv(X:Cx)(pins:List (Addr × Obj))(σ:List (Option V))(H:Hp)(s:Shared):Prop where
 ok:X.Ok
 os:s.os=X.s₀.os
 bare:AllBare s.gens
 base:Un X.fs X.ex X.H₀ H X.s₀.heap s.heap
 loc:∃m,s.heap.Ns X.env.locals m/\∀(i:Nat) (x:Str) (v:V),X.N[i]?=some x->σ[i]?=some (some v)->Vis X.env.scope x->∃u,RelV v u/\Look X.env s.heap m x u
 cell:∀x c,X.env.cells.lookup x=some c->∃v,s.heap.IsCell c v
 free:H X.env.locals=none
 freeC:∀x c,X.env.cells.lookup x=some c->H c=none
 pin:∀p∈X.pn++pins,s.heap.get? p.1=some p.2/\H p.1=none/\p.1≠X.env.locals/\p.1 ∉ X.fs/\∀v,p.2.data≠.cell v
 hok:HOk X.prog X.w H s.heap
 len:σ.length=X.N.length
section
variable{X:Cx}{pins:List (Addr × Obj)}{σ:List (Option V)}{H H':Hp}{s:Shared}{h':Heap}
theorem Cx.Ok.nofr(ok:X.Ok){b:Addr}{o:Obj}(e:X.base.get? b=some o):b ∉ X.fs:=λhb=>by have:=(ok.funs.mem hb).1;rw[e]at this; cases this
theorem Inv.bs(I:Inv X pins σ H s):∀b o,X.base.get? b=some o->s.heap.get? b=some o/\H b=none:=λb o e=>⟨I.base.keep b o (I.ok.bs b o e).1 (I.ok.bs b o e).2 (I.ok.nofr e) (I.ok.noex b o e),I.base.free b o (I.ok.bs b o e).1 (I.ok.bs b o e).2 (I.ok.noex b o e)⟩
theorem Inv.bk(I:Inv X pins σ H s):∀b o,X.base.get? b=some o->s.heap.get? b=some o:=λb o e=>(I.bs b o e).1
theorem Inv.mod(I:Inv X pins σ H s):Mod X.K X.mg X.base:=I.ok.mod
theorem Inv.kIn(I:Inv X pins σ H s):X.K.In s.heap:=I.ok.mod.kin.keeps I.bk
theorem Inv.lt(I:Inv X pins σ H s):X.env.locals<s.heap.objs.size:=let ⟨_,hn,_⟩:=I.loc; hn.lt
theorem Inv.sz(I:Inv X pins σ H s):X.s₀.heap.objs.size<=s.heap.objs.size:=Zzl I.ok.above (ZAx I.lt)
theorem Inv.nofs(I:Inv X pins σ H s){a:Addr}(h:s.heap.objs.size<=a):a ∉ X.fs:=λhb=>by obtain⟨_,o,ho,_⟩:=I.ok.funs.mem hb;exact absurd (Zy4 (ZyR ho) (Zzl I.sz h)) (ZAq _)
theorem Inv.cne(I:Inv X pins σ H s):∀x c,X.env.cells.lookup x=some c->c≠X.env.locals:=λx c e z=>by obtain⟨v,o,ho,hd⟩:=I.cell x c e;obtain⟨m,⟨o',es,ep,ho',hd',_⟩,_⟩:=I.loc;rw[z,ho']at ho; cases ho; rw[hd']at hd; cases hd
theorem Inv.funs(I:Inv X pins σ H s):s.heap.FunFrames X.base X.outer:=by
 have all:∀(l:List Env),(∀b∈frs l,b∈X.fs)->X.s₀.heap.FunFrames X.base l->s.heap.FunFrames X.base l:=by
  intro l
  induction l with
  | nil=>intro _ _; trivial
  | cons env r ih=>intro hs hl;obtain⟨hk,⟨L,o,hf,hn,ho,hd⟩,hr⟩:=hl;have hL:L∈X.fs:=hs L (by unfold frs; rw[ZzR,hf]; exact ZyE);obtain⟨sl,e⟩:=I.base.slot L o ho (I.ok.frf L hL) hL λz=>I.ok.exfs L z hL;exact⟨hk,⟨L,_,hf,hn,e,hd⟩,ih (λb hb=>hs b (by unfold frs; rw[ZzR,hf]; exact ZyD _ hb)) hr⟩
 exact all X.outer (λ_ hb=>hb) I.ok.funs
theorem Inv.stack(I:Inv X pins σ H s):s.heap.FunFrames X.base X.stack:=by
 rcases I.ok.stk with e | ⟨e,hf⟩
 ·rw[e]; exact I.funs
 ·rw[e]
  obtain⟨m,hn,_⟩:=I.loc;refine .cons (by rw[I.ok.kind]; decide) hf hn ?_ I.funs;exact Heap.get?_none_of_le (Zzl I.ok.bsz I.ok.above)
theorem Inv.stkSub(I:Inv X pins σ H s):∀b∈frs X.stack,b∈X.env.locals::X.fs:=λb hb=>by
 rcases I.ok.stk with e | ⟨e,hf⟩
 ·rw[e]at hb; exact ZyD _ hb
 ·rw[e]at hb
  unfold frs at hb;rw[ZzR,hf]at hb;exact hb
theorem Inv.stkFree(I:Inv X pins σ H s):∀b∈frs X.stack,H b=none:=λb hb=>by
 rcases ZyY.mp (I.stkSub b hb)with e | hb
 ·rw[e]; exact I.free
 ·obtain⟨_,o,ho,_⟩:=I.ok.funs.mem hb
  exact I.base.free b o ho (I.ok.frf b hb) λz=>I.ok.exfs b z hb
theorem Inv.step{g':Array GenState}{t':Nat}{d':Drawn}{ch:List Addr}(I:Inv X pins σ H s)
  (hch:∀b∈ch,(b∈X.ex\/X.s₀.heap.objs.size<=b)/\b≠X.env.locals/\(∀x c,X.env.cells.lookup x=some c->c≠b)/\∀p∈X.pn++pins,p.1≠b)
  (keep:∀b o,b≠X.env.locals->b ∉ X.fs->b ∉ ch->s.heap.get? b=some o->H b=none->h'.get? b=some o)
  (slot:∀b o,b≠X.env.locals->b∈X.fs->b ∉ ch->s.heap.get? b=some o->H b=none->∃sl,h'.get? b=some { o with slots:=sl }) (free:∀b o,b ∉ ch->s.heap.get? b=some o->H b=none->H' b=none)
  (there:∀b o,b ∉ ch->s.heap.get? b=some o->∃o',h'.get? b=some o')
  (tups:∀b xs,H b=some (.tup xs)->H' b=some (.tup xs)) (frzs:∀b o u,H b=some (.frz o u)->H' b=some (.frz o u)) (tbls:∀b ps,H b=some (.tbl ps)->∃more,H' b=some (.tbl (ps++more)))
  (ns:∀m,s.heap.Ns X.env.locals m->h'.Ns X.env.locals m) (hok:HOk X.prog X.w H' h') (hg:AllBare g') :
  Inv X pins σ H' { s with heap:=h',gens:=g',drawn:=d',toks:=t' }:=by
 have neL:∀b o,X.s₀.heap.get? b=some o->b≠X.env.locals:=λb o e=>ZyX (Zy4 (ZyR e) I.ok.above);have neC:∀b o,X.s₀.heap.get? b=some o->b ∉ X.ex->b ∉ ch:=λb o e hx hb=>by
  rcases(hch b hb).1 with z | z
  ·exact hx z
  ·exact absurd (Zy4 (ZyR e) z) (ZAq _)
 have cellK:∀x c,X.env.cells.lookup x=some c->∀v,s.heap.IsCell c v->h'.IsCell c v:=λx c e v ⟨o,ho,hd⟩=>by
  have nch:c ∉ ch:=λz=>(hch c z).2.2.1 x c e rfl
  by_cases hc:c∈X.fs
  ·obtain⟨sl,q⟩:=slot c o (I.cne x c e) hc nch ho (I.freeC x c e)
   exact⟨_,q,hd⟩
  ·exact⟨o,keep c o (I.cne x c e) hc nch ho (I.freeC x c e),hd⟩
 refine⟨I.ok,I.os,hg,⟨λb o e n hb hx=>?_,λb o e n hb hx=>?_,λb o e n hx=>?_,λb o e hx=>?_,λb xs e=>tups b xs (I.base.tups b xs e),λb o xs e=>frzs b o xs (I.base.frzs b o xs e),λb ps e=>?_⟩,?_,λx c e=>?_,?_,λx c e=>?_,λp hp=>?_,hok,I.len⟩
 ·exact keep b o (neL b o e) hb (neC b o e hx) (I.base.keep b o e n hb hx) (I.base.free b o e n hx)
 ·obtain⟨sl,e1⟩:=I.base.slot b o e n hb hx
  obtain⟨sl',e2⟩:=slot b _ (neL b o e) hb (neC b o e hx) e1 (I.base.free b o e n hx);exact⟨sl',e2⟩
 ·obtain⟨o',e1⟩:=I.base.there b o e hx
  exact free b o' (neC b o e hx) e1 (I.base.free b o e n hx)
 ·obtain⟨o',e1⟩:=I.base.there b o e hx
  exact there b o' (neC b o e hx) e1
 ·obtain⟨m1,e1⟩:=I.base.tbls b ps e
  obtain⟨m2,e2⟩:=tbls b _ e1;exact⟨m1++m2,by rw[e2,Array.append_assoc]⟩
 ·obtain⟨m,hn,hl⟩:=I.loc
  refine⟨m,ns m hn,λi x v e1 e2 e3=>?_⟩;obtain⟨u,r,l⟩:=hl i x v e1 e2 e3;refine⟨u,r,?_⟩;rcases l with l | ⟨k,c,e,z⟩
  ·exact .inl l
  ·exact .inr ⟨k,c,e,cellK x c e _ z⟩
 ·obtain⟨v,z⟩:=I.cell x c e
  exact⟨v,cellK x c e v z⟩
 ·obtain⟨m,⟨o,_,_,ho,_⟩,_⟩:=I.loc
  exact free _ o (λz=>(hch _ z).2.1 rfl) ho I.free
 ·obtain⟨v,o,ho,hd⟩:=I.cell x c e
  exact free c o (λz=>(hch c z).2.2.1 x c e rfl) ho (I.freeC x c e)
 ·obtain⟨e,n,ne,nf,d⟩:=I.pin p hp
  have nch:p.1 ∉ ch:=λz=>(hch p.1 z).2.2.2 p hp rfl;exact⟨keep p.1 p.2 ne nf nch e n,free p.1 p.2 nch e n,ne,nf,d⟩
theorem Inv.un{t':Nat}(I:Inv X pins σ H s)(u:Un X.fs [] H H' s.heap h')(hok:HOk X.prog X.w H' h'):Inv X pins σ H' { s with heap:=h',toks:=t' }:=by obtain⟨m,⟨o,es,ep,ho,r⟩,_⟩:=id I.loc;obtain⟨sl,hL⟩:=u.any ho I.free (by simp);exact I.step (g':=s.gens) (d':=s.drawn) (ch:=[]) (λ_ z=>nomatch z) (λb o _ hb _ e n=>u.keep b o e n hb (by simp)) (λb o _ hb _ e n=>u.slot b o e n hb (by simp)) (λb o _ e n=>u.free b o e n (by simp)) (λb o _ e=>u.there b o e (by simp)) u.tups u.frzs u.tbls (λm' hm=>by obtain⟨o',es',ep',ho',r'⟩:=hm;rw[ho]at ho'; cases ho';exact⟨_,es',ep',hL,r'⟩) hok I.bare
theorem Inv.call{g':Array GenState}{t':Nat}{d':Drawn}{ch:List Addr}(I:Inv X pins σ H s)(u:Un (frs X.stack) ch H H' s.heap h')(hok:HOk X.prog X.w H' h')(hg:AllBare g')
  (hch:∀b∈ch,(b∈X.ex\/X.s₀.heap.objs.size<=b)/\b≠X.env.locals/\(∀x c,X.env.cells.lookup x=some c->c≠b)/\∀p∈X.pn++pins,p.1≠b) :
  Inv X pins σ H' { s with heap:=h',gens:=g',drawn:=d',toks:=t' }:=by
 obtain⟨m,⟨o,es,ep,ho,r⟩,_⟩:=id I.loc;obtain⟨sl,hL⟩:=u.any ho I.free λz=>(hch _ z).2.1 rfl;exact I.step (ch:=ch) hch (λb o hL hb hc e n=>u.keep b o e n (λz=>(ZyY.mp (I.stkSub b z)).elim hL hb) hc) (λb o _ _ hc e n=>u.any e n hc) (λb o hc e n=>u.free b o e n hc) (λb o hc e=>u.there b o e hc) u.tups u.frzs u.tbls (λm' hm=>by obtain⟨o',es',ep',ho',r'⟩:=hm;rw[ho]at ho'; cases ho';exact⟨_,es',ep',hL,r'⟩) hok hg
theorem Inv.turned{t':Nat}{it:Addr}(I:Inv X pins σ H s)(k:∀b o,b≠it->s.heap.get? b=some o->h'.get? b=some o)(hn:H it=none)(hL:it≠X.env.locals)
  (h1:it∈X.ex\/X.s₀.heap.objs.size<=it) (h2:∀x c,X.env.cells.lookup x=some c->c≠it) (h3:∀p∈X.pn++pins,p.1≠it):Inv X pins σ H { s with heap:=h',toks:=t' }:=by
 have nit:∀b u,H b=some u->b≠it:=λb u e z=>by rw[z,hn]at e; cases e
 refine I.step (g':=s.gens) (d':=s.drawn) (ch:=[it]) (λb hb=>?_) (λb o _ _ hc e _=>k b o (λz=>hc (by simp[z])) e) (λb o _ _ hc e _=>⟨o.slots,k b o (λz=>hc (by simp[z])) e⟩) (λ_ _ _ _ n=>n)
  (λb o hc e=>⟨o,k b o (λz=>hc (by simp[z])) e⟩) (λ_ _ e=>e) (λ_ _ _ e=>e) (λb ps e=>⟨#[],by rw[e]; simp⟩) (λm hm=>?_) (λb u e=>?_) I.bare
 ·have e:b=it:=by simpa using hb
  subst e;exact⟨h1,hL,h2,h3⟩
 ·obtain⟨o,es,ep,ho,r⟩:=hm
  exact⟨o,es,ep,k _ o (ZzB hL) ho,r⟩
 ·refine(I.hok b u e).stay (λc v hc q=>k c v ?_ q) (λ_ q=>q) λ_ _ q=>q
  rcases hc with z | z
  ·rw[z]; exact nit b u e
  ·exact nit c _ z
theorem Inv.tok(I:Inv X pins σ H s)(t:Nat):Inv X pins σ H { s with toks:=t }:=I.un (h':=s.heap) (t':=t) Un.refl I.hok
theorem Inv.kept{t':Nat}(I:Inv X pins σ H s)(k:∀b u,s.heap.get? b=some u->h'.get? b=some u):Inv X pins σ H { s with heap:=h',toks:=t' }:=I.un (Un.kept k) (I.hok.kept k)
theorem Inv.laid{a:Addr}{o:HO}{t':Nat}(I:Inv X pins σ H s)(k:∀b u,s.heap.get? b=some u->h'.get? b=some u)(hp:s.heap.objs.size<=a)(new:Zab X.prog X.w (upd H a o) h' a o) :
  Inv X pins σ (upd H a o) { s with heap:=h',toks:=t' }:=I.un (Un.laid k hp (I.hok.fresh hp)) (I.hok.laid k hp new)
theorem Inv.write{x e:Addr}{o:HO}{t':Nat}(I:Inv X pins σ H s)(mu:Mut (H x))(he:e=x\/H e=some (.own x))(k:∀b u,b≠e->s.heap.get? b=some u->h'.get? b=some u)(heo:∃u,h'.get? e=some u)
  (new:Zab X.prog X.w (upd H x o) h' x o):Inv X pins σ (upd H x o) { s with heap:=h',toks:=t' }:=I.un (Un.write mu he k heo) (I.hok.write mu he k heo new)
theorem Inv.weak{σ':List (Option V)}(I:Inv X pins σ H s)(hl:σ'.length=σ.length)(w:∀(i:Nat) v,σ'[i]?=some (some v)->σ[i]?=some (some v)):Inv X pins σ' H s :=
 ⟨I.ok,I.os,I.bare,I.base,let ⟨m,hn,hl'⟩:=I.loc; ⟨m,hn,λi x v e1 e2 e3=>hl' i x v e1 (w i v e2) e3⟩,I.cell,I.free,I.freeC,I.pin,I.hok,hl.trans I.len⟩
theorem Inv.pins_of{pins':List (Addr × Obj)}(I:Inv X pins σ H s)(h:∀p∈pins',s.heap.get? p.1=some p.2/\H p.1=none/\p.1≠X.env.locals/\p.1 ∉ X.fs/\∀v,p.2.data≠.cell v):Inv X pins' σ H s :=
 ⟨I.ok,I.os,I.bare,I.base,I.loc,I.cell,I.free,I.freeC,λp hp=>(Zy6.mp hp).elim (λz=>I.pin p (Zzg _ z)) (h p),I.hok,I.len⟩
theorem Zoj{N:List Str}(hN:N.Nodup){i j:Nat}{x:Str}(a:N[i]?=some x)(b:N[j]?=some x):i=j:=by obtain⟨h1,e1⟩:=ZyM.mp a;obtain⟨h2,e2⟩:=ZyM.mp b;exact(List.getElem_inj hN).mp (e1.trans e2.symm)
theorem ZlZ{M:Model}{A:Around}{E:Value->Shared->Prop}{i:Nat}{x:Str}{v:V}{u:Value}{Q:Unit->Shared->Prop}(I:Inv X pins σ H s)(hN:X.N.Nodup)(hi:X.N[i]?=some x)(hx:Loc X.env.scope x)(r:RelV v u)
  (h:∀s',Inv X pins (σ.set i (some v)) H s'->(∃a,ZAy a s.heap s'.heap/\(a=X.env.locals\/X.env.cells.lookup x=some a))->Q () s') (hf:X.fn x=true\/X.env.scope.names.lookup x=some .local:=by first | exact .inl rfl | exact .inr rfl | assumption):wpAny M A (storeName X.env x u) Q E s:=by
 obtain⟨m,hn,hl⟩:=id I.loc;have hcls:(X.env.scope.kind==.class||(X.env.scope.kind==.module&&X.env.locals != X.env.globals))=false:=by rw[I.ok.kind]; rfl
 have hiσ:i<σ.length:=by rw[I.len]; exact(ZyM.mp hi).1
 have cne:=I.cne;have tracked:∀{a:Addr} {h':Heap},(∃o,s.heap.get? a=some o/\H a=none)->ZAy a s.heap h'->HOk X.prog X.w H h':=λ{a h'} ha hs b ob e=>by
  obtain⟨_,_,hfree⟩:=ha;refine(I.hok b ob e).stay (λc w' hc q=>(hs.2 c ?_).trans q) (λ_ q=>q) λ_ _ q=>q
  rintro rfl
  rcases hc with rfl | hc
  ·rw[hfree]at e; cases e
  ·rw[hfree]at hc; cases hc
 rcases hx with hk | hk
 ·refine wpAny_storeName_local hk hn (λh' hn' hs=>?_) hcls
  obtain⟨oL,_,_,hoL,_⟩:=id hn;refine h _ ⟨I.ok,I.os,I.bare,⟨λb o e n hb hx=>?_,λb o e n hb hx=>?_,I.base.free,λb o e hx=>?_,I.base.tups,I.base.frzs,I.base.tbls⟩,⟨_,hn',λj y v' e1 e2 e3=>?_⟩,λy c e=>?_,I.free,I.freeC,λp hp=>?_,tracked ⟨oL,hoL,I.free⟩ hs,by simpa using I.len⟩ ⟨_,hs,.inl rfl⟩
  ·exact(hs.2 b (ZyX (Zy4 (ZyR e) I.ok.above))).trans (I.base.keep b o e n hb hx)
  ·obtain⟨sl,e1⟩:=I.base.slot b o e n hb hx
   exact⟨sl,(hs.2 b (ZyX (Zy4 (ZyR e) I.ok.above))).trans e1⟩
  ·obtain⟨o',e1⟩:=I.base.there b o e hx
   exact⟨o',(hs.2 b (ZyX (Zy4 (ZyR e) I.ok.above))).trans e1⟩
  ·by_cases hj:j=i
   ·subst hj
    rw[hi]at e1; cases e1;rw[Zzs hiσ]at e2;cases e2;exact⟨u,r,.inl ⟨hk,by simp⟩⟩
   ·rw[Zy7 (ZzB hj)]at e2
    obtain⟨u',r',q⟩:=hl j y v' e1 e2 e3;refine⟨u',r',?_⟩;rcases q with⟨k,e⟩ | ⟨k,c,e,z⟩
    ·refine .inl ⟨k,?_⟩
     have:y≠x:=λe=>hj (Zoj hN e1 (e▸hi));simp[this,e]
    ·exact .inr ⟨k,c,e,z.sameBut hs (cne y c e)⟩
  ·obtain⟨w',z⟩:=I.cell y c e
   exact⟨w',z.sameBut hs (cne y c e)⟩
  ·obtain⟨e,n,ne,nf,d⟩:=I.pin p hp
   exact⟨(hs.2 p.1 ne).trans e,n,ne,nf,d⟩
 ·have hfn:X.fn x=true:=by
   rcases hf with z | z
   ·exact z
   ·rw[z]at hk; cases hk
  obtain⟨c,hc⟩:=I.ok.has x (.inl hk);obtain⟨w',z⟩:=I.cell x c hc;refine wpAny_storeName_cell I.ok.kind hk hc z (λh' hc' hs=>?_);obtain⟨oc,hoc,hocd⟩:=id z;refine h { s with heap:=h' } ⟨I.ok,I.os,I.bare,⟨λb o e n hb hx=>?_,λb o e n hb hx=>?_,I.base.free,λb o e hx=>?_,I.base.tups,I.base.frzs,I.base.tbls⟩,⟨m,hn.sameBut hs (ZzB (cne x c hc)),λj y v' e1 e2 e3=>?_⟩,λy c' e=>?_,I.free,I.freeC,λp hp=>?_,tracked ⟨oc,hoc,I.freeC x c hc⟩ hs,by simpa using I.len⟩ ⟨c,hs,.inr hc⟩
  ·exact(hs.2 b (ZyX (Zy4 (ZyR e) (I.ok.cab x c hfn hc)))).trans (I.base.keep b o e n hb hx)
  ·obtain⟨sl,e1⟩:=I.base.slot b o e n hb hx
   exact⟨sl,(hs.2 b (ZyX (Zy4 (ZyR e) (I.ok.cab x c hfn hc)))).trans e1⟩
  ·obtain⟨o',e1⟩:=I.base.there b o e hx
   exact⟨o',(hs.2 b (ZyX (Zy4 (ZyR e) (I.ok.cab x c hfn hc)))).trans e1⟩
  ·by_cases hj:j=i
   ·subst hj
    rw[hi]at e1; cases e1;rw[Zzs hiσ]at e2;cases e2;exact⟨u,r,.inr ⟨.inl hk,c,hc,hc'⟩⟩
   ·rw[Zy7 (ZzB hj)]at e2
    obtain⟨u',r',q⟩:=hl j y v' e1 e2 e3;refine⟨u',r',?_⟩;rcases q with q | ⟨k,c',e,z'⟩
    ·exact .inl q
    ·refine .inr ⟨k,c',e,z'.sameBut hs ?_⟩
     rintro rfl
     exact hj (Zoj hN e1 (I.ok.inj _ _ _ e hc▸hi))
  ·by_cases hcc:c'=c
   ·subst hcc; exact⟨_,hc'⟩
   ·obtain⟨w2,z2⟩:=I.cell y c' e
    exact⟨w2,z2.sameBut hs hcc⟩
  ·obtain⟨e,n,ne,nf,d⟩:=I.pin p hp
   refine⟨(hs.2 p.1 ?_).trans e,n,ne,nf,d⟩;intro q;rw[q,hoc]at e;have q':oc=p.2:=Zzw e;exact d w' (by rw[<-q']; exact hocd)
theorem ZoT{M:Model}{A:Around}{E:Value->Shared->Prop}{i:Nat}{x:Str}{v:V}{u:Value}{Q:Unit->Shared->Prop}(I:Inv X pins σ H s)(hN:X.N.Nodup)(hi:X.N[i]?=some x)(hx:Loc X.env.scope x)(r:RelV v u)
  (h:∀s',Inv X pins (σ.set i (some v)) H s'->Q () s') (hf:X.fn x=true\/X.env.scope.names.lookup x=some .local:=by first | exact .inl rfl | exact .inr rfl | assumption):wpAny M A (storeName X.env x u) Q E s :=
 ZlZ I hN hi hx r (λs' I' _=>h s' I') hf
theorem Inv.call'{s':Shared}{ch:List Addr}(I:Inv X pins σ H s)(ho:s'.os=s.os)(u:Un (frs X.stack) ch H H' s.heap s'.heap)(hok:HOk X.prog X.w H' s'.heap)(hg:AllBare s'.gens)
  (hch:∀b∈ch,(b∈X.ex\/X.s₀.heap.objs.size<=b)/\b≠X.env.locals/\(∀x c,X.env.cells.lookup x=some c->c≠b)/\∀p∈X.pn++pins,p.1≠b):Inv X pins σ H' s':=by
 obtain⟨h',g',d',t',o'⟩:=s';have e:o'=s.os:=ho;subst e;exact I.call (g':=g') (t':=t') (d':=d') u hok hg hch
end
abbrev XK:=Value->Option Addr->Hp->Prop
abbrev St:=List (Option V)
abbrev VK:=V->Hp->Prop
abbrev TE:=St->Hp->VK->Prop
abbrev TT:=St->Hp->(Bool->Hp->Prop)->Prop
abbrev TA:=St->Hp->(List V->Hp->Prop)->Prop
structure Ends where
 nx:St->Hp->Prop
 rt:VK
 bk:St->Hp->Prop:=λ_ _=>False
 ct:St->Hp->Prop:=λ_ _=>False
abbrev TS:=Ends->St->Hp->Prop
inductive EP(X:Cx)(pins:List (Addr × Obj))(σ:St)(Q:VK)(u:Value)(s':Shared):Prop
 | mk (v:V) (H':Hp) (I:Inv X pins σ H' s') (r:RelV v u) (q:Q v H'):EP X pins σ Q u s'
inductive TP(X:Cx)(pins:List (Addr × Obj))(σ:St)(Q:Bool->Hp->Prop)(b:Bool)(s':Shared):Prop
 | mk (H':Hp) (I:Inv X pins σ H' s') (q:Q b H'):TP X pins σ Q b s'
inductive AP(X:Cx)(pins:List (Addr × Obj))(σ:St)(Q:List V->Hp->Prop)(us:List Value)(s':Shared):Prop
 | mk (vs:List V) (H':Hp) (I:Inv X pins σ H' s') (r:Vals vs us) (q:Q vs H'):AP X pins σ Q us s'
inductive SPn(X:Cx)(pins:List (Addr × Obj))(N:St->Hp->Prop)(s':Shared):Prop
 | mk (σ':St) (H':Hp) (I:Inv X pins σ' H' s') (q:N σ' H'):SPn X pins N s'
inductive SPr(X:Cx)(pins:List (Addr × Obj))(R:V->Hp->Prop)(u:Value)(s':Shared):Prop
 | mk (v:V) (σ':St) (H':Hp) (I:Inv X pins σ' H' s') (r:RelV v u) (q:R v H'):SPr X pins R u s'
def SP(X:Cx)(pins:List (Addr × Obj))(D:Ends)(f:Flow)(s':Shared):Prop :=
 match f with
 | .next=>SPn X pins D.nx s'
 | .brk=>SPn X pins D.bk s'
 | .cont=>SPn X pins D.ct s'
 | .ret u=>SPr X pins D.rt u s'
def PE(X:Cx)(e:Expr)(t:TE):Prop :=
 ∀(pins:List (Addr × Obj)) (s:Shared) (σ:St) (H:Hp) (Q:VK),Inv X pins σ H s->t σ H Q->wpAny (model X.prog X.w) X.A (eval e X.env) (EP X pins σ Q) X.xe s
def PT(X:Cx)(e:Expr)(t:TT):Prop :=
 ∀(pins:List (Addr × Obj)) (s:Shared) (σ:St) (H:Hp) (Q:Bool->Hp->Prop),Inv X pins σ H s->t σ H Q->wpAny (model X.prog X.w) X.A (isTrue e X.env (eval e X.env)) (TP X pins σ Q) X.xe s
def PW(X:Cx)(e:Expr)(t:TT):Prop :=
 ∀(whole:Sem Value) (pins:List (Addr × Obj)) (s:Shared) (σ:St) (H:Hp) (Q:Bool->Hp->Prop),Inv X pins σ H s->t σ H Q->wpAny (model X.prog X.w) X.A (isTrue e X.env whole) (TP X pins σ Q) X.xe s
theorem PW.pt{X:Cx}{e:Expr}{t:TT}(h:PW X e t):PT X e t:=h _
def PA(X:Cx)(es:List Expr)(t:TA):Prop :=
 ∀(pos:Pos) (pins:List (Addr × Obj)) (s:Shared) (σ:St) (H:Hp) (Q:List V->Hp->Prop),Inv X pins σ H s->t σ H Q->wpAny (model X.prog X.w) X.A (spliced (backTo pos (ZyK es X.env))) (AP X pins σ Q) X.xe s
def PS(X:Cx)(st:Stmt)(t:TS):Prop :=
 ∀(pins:List (Addr × Obj)) (s:Shared) (σ:St) (H:Hp) (D:Ends),Inv X pins σ H s->t D σ H->wpAny (model X.prog X.w) X.A (exec st X.env) (SP X pins D) X.xe s
def PSs(X:Cx)(st:List Stmt)(t:TS):Prop :=
 ∀(pins:List (Addr × Obj)) (s:Shared) (σ:St) (H:Hp) (D:Ends),Inv X pins σ H s->t D σ H->wpAny (model X.prog X.w) X.A (execs st X.env) (SP X pins D) X.xe s
theorem thn{α:Type}{t:Sem α}{Q Q':α->Shared->Prop}{M:Model}{A:Around}{E:Value->Shared->Prop}{s:Shared}(h:wpAny M A t Q E s)(hQ:∀a s,Q a s->Q' a s):wpAny M A t Q' E s:=ZzS h hQ λ_ _ x=>x
end L2
namespace L2
open PySem PySem.Spec PyProof.Rows
section
variable{X:Cx}
def Zx3(i:Nat):TE:=λσ H Q=>∃v,σ[i]?=some (some v)/\Q v H
def tC(v:V):TE:=λ_ H Q=>Q v H
theorem Zb7{i:Nat}{x:Str}{pos:Pos}(hN:X.N[i]?=some x)(hv:Vis X.env.scope x)(hd:(x==("__debug__":Str))=false:=by decide)(hcd:(x==("__classdict__":Str))=false:=by decide):PE X (.Name x pos) (Zx3 i):=by
 intro pins s σ H Q I h;obtain⟨v,e,h⟩:=h;obtain⟨m,hn,hl⟩:=I.loc;obtain⟨u,r,l⟩:=hl i x v hN e hv;have fin:EP X pins σ Q u s:=⟨v,H,I,r,h⟩;rcases l with⟨hk,hm⟩ | ⟨hk,c,hc,hcell⟩
 ·exact wpAny_Name (wpAny_loadName_local I.ok.kind hk hn hm fin) hd
 ·rcases hk with hk | hk
  ·exact wpAny_Name (wpAny_loadName_cell I.ok.kind hk hc hcell fin) hd
  ·exact wpAny_Name (wpAny_loadName_free I.ok.kind hk hc hcell fin hcd) hd
theorem Zsb{i j pos}:PE X (.Constant (.int i) j pos) (tC (.int i)):=λ_ _ _ H _ I h=>wpAny_Constant_int ⟨.int i,H,I.tok _,⟨_,rfl⟩,h⟩
theorem Zxo{b j pos}:PE X (.Constant (.bool b) j pos) (tC (.bl b)):=λ_ _ _ H _ I h=>Constant_bool ⟨.bl b,H,I,rfl,h⟩
theorem ZrW{j pos}:PE X (.Constant .none j pos) (tC .non):=λ_ _ _ H _ I h=>Constant_none ⟨.non,H,I,rfl,h⟩
def Gl(X:Cx)(x:Str):Prop:=X.env.kindOf x=some .globalImplicit
theorem Zlp{E:Value->Shared->Prop}{pins:List (Addr × Obj)}{s:Shared}{σ:St}{H:Hp}{x:Str}{u:Value}{pos:Pos}{Q:Value->Shared->Prop}(I:Inv X pins σ H s)(hg:Gl X x)(hm:X.mg x=some u)(h:Q u s)
  (hd:(x==("__debug__":Str))=false:=by decide):wpAny (model X.prog X.w) X.A (eval (.Name x pos) X.env) Q E s :=
 ZCu I.ok.kind hg (Calls.loadGlobal_global (by rw[I.ok.glob]; exact I.mod.glob.keeps I.bk) hm h) hd
theorem ZhB{E:Value->Shared->Prop}{pins:List (Addr × Obj)}{s:Shared}{σ:St}{H:Hp}{x:Str}{u:Value}{pos:Pos}{Q:Value->Shared->Prop}(I:Inv X pins σ H s)(hg:Gl X x)(hm:X.mg x=none)(hv:Zzz x=some u)(h:Q u s)
  (hn:x ≠ "__name__":=by decide) (hd:(x==("__debug__":Str))=false:=by decide):wpAny (model X.prog X.w) X.A (eval (.Name x pos) X.env) Q E s:=by
 obtain⟨mb,h1,h2⟩:=I.mod.blt;exact ZCu I.ok.kind hg (Calls.loadGlobal_builtin (by rw[I.ok.glob]; exact I.mod.glob.keeps I.bk) hm (by rw[I.ok.blt]; exact h1.keeps I.bk) ((h2 x hn).trans hv) h) hd
theorem Zqj{x:Str}{v:V}{u:Value}{pos:Pos}(hg:Gl X x)(hm:X.mg x=some u)(r:RelV v u)(hd:(x==("__debug__":Str))=false:=by decide):PE X (.Name x pos) (tC v) :=
 λ_ _ _ H _ I h=>Zlp I hg hm ⟨v,H,I,r,h⟩ hd
theorem Zvw{x:Str}{v:V}{u:Value}{pos:Pos}(hg:Gl X x)(hm:X.mg x=none)(hv:Zzz x=some u)(r:RelV v u)(hn:x ≠ "__name__":=by decide)(hd:(x==("__debug__":Str))=false:=by decide):PE X (.Name x pos) (tC v) :=
 λ_ _ _ H _ I h=>ZhB I hg hm hv ⟨v,H,I,r,h⟩ hn hd
variable{a b:Expr}{ta tb:TE}{pos:Pos}
def PC(X:Cx)(op:CmpOp)(a b:Expr)(t:TE):Prop :=
 ∀(pins:List (Addr × Obj)) (s:Shared) (σ:St) (H:Hp) (Q:VK),Inv X pins σ H s->t σ H Q ->
  wpAny (model X.prog X.w) X.A (eval a X.env) (λv s₁=>wpAny (model X.prog X.w) X.A (eval b X.env) (λu s₂=>wpAny (model X.prog X.w) X.A (ZzJ op v u) (EP X pins σ Q) X.xe s₂) X.xe s₁) X.xe s
theorem Zkp(b:Expr){op:CmpOp}(h:op≠.In)(h2:op≠.NotIn):ZzL op b=false:=by
 have e1:(op==CmpOp.In)=false:=by cases op<;>first | rfl | exact absurd rfl h
 have e2:(op==CmpOp.NotIn)=false:=by cases op<;>first | rfl | exact absurd rfl h2
 cases b<;>simp[ZzL,e1,e2]
def tB(t:TE):TT:=λσ H Q=>t σ H λx H1=>∃c,x=.bl c/\Q c H1
theorem Zo6{op:CmpOp}{t:TE}(h:PC X op a b t)(h1:ZzL op b=false:=by first | exact Zkp _ (by decide) (by decide) | rfl):PT X (.Compare a [op] [b] pos) (tB t):=by intro pins s σ H Q I hw;refine wpAny_isTrue_Compare1 (thn (h pins s σ H _ I hw) λv s1 h1=>thn h1 λu s2 h2=>thn h2 λc s3 ⟨x,H1,I1,r1,q1⟩=>?_) h1;obtain⟨d,rfl,q⟩:=q1;cases r1;exact ZAl ⟨H1,I1,q⟩
theorem Zwq{e:Expr}{t:TE}(h:PE X e t)(he:∀whole,isTrue e X.env whole=(do let v <-whole; standAt e.pos; holding [v] (truthy v)):=by intro _; rfl):PT X e (tB t):=by intro pins s σ H Q I hw;refine isTrue_plain (thn (h pins s σ H _ I hw) λv s1 ⟨x,H1,I1,r1,q1⟩=>?_) (he _);obtain⟨d,rfl,q⟩:=q1;cases r1;exact ZAl ⟨H1,I1,q⟩
variable{tA tB':TT}{rest:List Expr}
def ZnX(t u:TT):TT:=λσ H Q=>t σ H λc H1=>if c=true then u σ H1 Q else Q false H1
def tOr(t u:TT):TT:=λσ H Q=>t σ H λc H1=>if c=true then Q true H1 else u σ H1 Q
def ZdD(t:TT):TT:=λσ H Q=>t σ H λc H1=>Q (!c) H1
theorem ZuY(ha:PT X a tA):PW X (.BoolOp .And [a] pos) tA:=by
 intro wh pins s σ H Q I h;refine isTrue_and (thn (ha pins s σ H Q I h) λc s1 e=>?_);cases c with
 | true=>exact isTrue_and_nil e
 | false=>exact e
theorem ZvS(ha:PT X a tA):PW X (.BoolOp .Or [a] pos) tA:=by
 intro wh pins s σ H Q I h;refine isTrue_or (thn (ha pins s σ H Q I h) λc s1 e=>?_);cases c with
 | false=>exact isTrue_or_nil e
 | true=>exact e
theorem ZsA(ha:PT X a tA)(hb:PW X (.BoolOp .And (b::rest) pos) tB'):PW X (.BoolOp .And (a::b::rest) pos) (ZnX tA tB'):=by
 intro wh pins s σ H Q I h;refine isTrue_and (thn (ha pins s σ H _ I h) λc s1 ⟨H1,I1,q1⟩=>?_);cases c with
 | true=>exact hb wh pins s1 σ H1 Q I1 q1
 | false=>exact⟨H1,I1,q1⟩
theorem Zus(ha:PT X a tA)(hb:PW X (.BoolOp .Or (b::rest) pos) tB'):PW X (.BoolOp .Or (a::b::rest) pos) (tOr tA tB'):=by
 intro wh pins s σ H Q I h;refine isTrue_or (thn (ha pins s σ H _ I h) λc s1 ⟨H1,I1,q1⟩=>?_);cases c with
 | true=>exact⟨H1,I1,q1⟩
 | false=>exact hb wh pins s1 σ H1 Q I1 q1
theorem ZvJ(ha:PT X a tA):PT X (.UnaryOp .Not a pos) (ZdD tA):=by intro pins s σ H Q I h;exact isTrue_not (thn (ha pins s σ H (λc H1=>Q (!c) H1) I h) λ_ _ ⟨H',I',q'⟩=>⟨H',I',q'⟩)
def Zw7(ta tb:TE):TE:=λσ H Q=>ta σ H λx H1=>∃c,x=.bl c/\if c=true then tb σ H1 Q else Q (.bl false) H1
def Zxz(ta:TE):TE:=λσ H Q=>ta σ H λx H1=>∃c,x=.bl c/\Q (.bl (!c)) H1
theorem Zv3{op}{t:TE}(h:PE X a t):PE X (.BoolOp op [a] pos) t:=λpins s σ H Q I hw=>BoolOp_one (h pins s σ H Q I hw)
theorem ZrU(ha:PE X a ta)(hb:PE X (.BoolOp .And (b::rest) pos) tb):PE X (.BoolOp .And (a::b::rest) pos) (Zw7 ta tb):=by
 intro pins s σ H Q I h;refine BoolOp_and (thn (ha pins s σ H _ I h) λv s1 ⟨x,H1,I1,r1,q1⟩=>?_);obtain⟨c,rfl,q1⟩:=q1;cases r1;refine ZAl ?_;cases c with
 | true=>exact hb pins s1 σ H1 Q I1 q1
 | false=>exact⟨.bl false,H1,I1,rfl,q1⟩
theorem ZwA(ha:PE X a ta):PE X (.UnaryOp .Not a pos) (Zxz ta):=by intro pins s σ H Q I h;refine UnaryOp_ (thn (ha pins s σ H _ I h) λv s1 ⟨x,H1,I1,r1,q1⟩=>?_);obtain⟨c,rfl,q1⟩:=q1;cases r1;exact not_of (ZAl ⟨.bl (!c),H1,I1,rfl,q1⟩)
def tIf(t:TT)(ta tb:TE):TE:=λσ H Q=>t σ H λc H1=>if c=true then ta σ H1 Q else tb σ H1 Q
theorem Zn7{c:Expr}(hc:PT X c tA)(ha:PE X a ta)(hb:PE X b tb):PE X (.IfExp c a b pos) (tIf tA ta tb):=by
 intro pins s σ H Q I h;refine wpAny_IfExp (thn (hc pins s σ H _ I h) λd s1 ⟨H1,I1,q1⟩=>?_);cases d with
 | true=>exact ha pins s1 σ H1 Q I1 q1
 | false=>exact hb pins s1 σ H1 Q I1 q1
end
end L2
namespace L2
open PySem PySem.Spec PyProof.Rows
def SqL(K:Zyz)(H:Hp)(a:Addr)(xs:List V):Prop :=
 Rd H a (.lst xs) \/
  ∃(o:Obj) (its:Array Value) (n:Nat),K.lookup a=some o/\o.cls=.type "list"/\o.dict=none/\o.data=.seq its n/\its.size<=sizeLine/\Vals xs its.toList
def SqT(K:Zyz)(H:Hp)(a:Addr)(xs:List V):Prop :=
 Rd H a (.tup xs) \/
  ∃(o:Obj) (its:Array Value) (n:Nat),K.lookup a=some o/\o.cls=.type "tuple"/\o.data=.seq its n/\its.size<=sizeLine/\Vals xs its.toList
def Zym:Value->Option V
 | .none=>some .non
 | .bool b=>some (.bl b)
 | .int i _=>some (.int i)
 | .str x _=>some (.str x)
 | .bytes b _=>some (.byt b)
 | .float b _=>some (.flt b)
 | .ref a=>some (.ref a)
 | .type n=>some (.ty n)
 | _=>none
theorem RelV.abs{x:V}{u:Value}(r:RelV x u):Zym u=some x:=by
 cases x with
 | non=>cases r; rfl
 | bl _=>cases r; rfl
 | int _=>obtain⟨t,rfl⟩:=r; rfl
 | str _=>obtain⟨t,rfl⟩:=r; rfl
 | byt _=>obtain⟨t,rfl⟩:=r; rfl
 | flt _=>obtain⟨t,rfl⟩:=r; rfl
 | ref _=>cases r; rfl
 | ty _=>cases r; rfl
theorem RelV.inj{x y:V}{u:Value}(r:RelV x u)(q:RelV y u):x=y:=Zzw (r.abs.symm.trans q.abs)
theorem Vals.inj:∀{xs ys:List V} {us:List Value},Vals xs us->Vals ys us->xs=ys
 | _,_,_,.nil,.nil=>rfl
 | _,_,_,.cons r t,.cons r' t'=>by rw[r.inj r',Vals.inj t t']
section
variable{X:Cx}{pins:List (Addr × Obj)}{σ:St}{H:Hp}{s:Shared}{a:Addr}{xs ys:List V}
theorem SqL.of{K:Zyz}(h:H a=some (.lst xs)):SqL K H a xs:=.inl (.inl h)
theorem SqT.of{K:Zyz}(h:H a=some (.tup xs)):SqT K H a xs:=.inl (.inl h)
theorem Inv.list(I:Inv X pins σ H s)(h:SqL X.K H a xs):∃its:List Value,Vals xs its/\PlainL s.heap a its.toArray/\xs.length<=sizeLine:=by
 rcases h with h | ⟨o,its,n,hk,hc,hd,hs,hz,r⟩
 ·obtain⟨z,its,n,r,e⟩:=h.ok I.hok
  exact⟨its,r,⟨_,n,e,rfl,rfl,rfl⟩,z⟩
 ·refine⟨its.toList,r,⟨o,n,I.kIn a o hk,hc,hd,by simpa using hs⟩,?_⟩
  have e:=r.length;simp only[Zy0]at e;omega
theorem Inv.tuple(I:Inv X pins σ H s)(h:SqT X.K H a xs):∃its:List Value,Vals xs its/\IsTup s.heap a its.toArray/\xs.length<=sizeLine:=by
 rcases h with h | ⟨o,its,n,hk,hc,hs,hz,r⟩
 ·obtain⟨z,its,r,p⟩:=h.ok I.hok
  exact⟨its,r,p,z⟩
 ·refine⟨its.toList,r,⟨o,I.kIn a o hk,hc,n,by simpa using hs⟩,?_⟩
  have e:=r.length;simp only[Zy0]at e;omega
theorem Inv.list_inj(I:Inv X pins σ H s)(h:SqL X.K H a xs)(h':SqL X.K H a ys):xs=ys:=by
 obtain⟨its,r,⟨o,n,e,_,_,d⟩,_⟩:=I.list h;obtain⟨its',r',⟨o',n',e',_,_,d'⟩,_⟩:=I.list h';rw[e]at e'; cases e';rw[d]at d';injection d' with d1 _
 have:its=its':=by simpa using congrArg Array.toList d1
 subst this;exact r.inj r'
theorem Inv.tuple_inj(I:Inv X pins σ H s)(h:SqT X.K H a xs)(h':SqT X.K H a ys):xs=ys:=by
 obtain⟨its,r,⟨o,e,_,n,d⟩,_⟩:=I.tuple h;obtain⟨its',r',⟨o',e',_,n',d'⟩,_⟩:=I.tuple h';rw[e]at e'; cases e';rw[d]at d';injection d' with d1 _
 have:its=its':=by simpa using congrArg Array.toList d1
 subst this;exact r.inj r'
end
abbrev Cx.wish(X:Cx)(E:Value->Shared->Prop):Cx:={ X with xe:=E }
abbrev Cx.nox(X:Cx):Cx:=X.wish λ_ _=>False
theorem Cx.Ok.wish{X:Cx}(ok:X.Ok)(E:Value->Shared->Prop):(X.wish E).Ok :=
 ⟨ok.mod,ok.kind,ok.glob,ok.blt,ok.above,ok.inj,ok.has,ok.cab,ok.hd,ok.frames,ok.stk,ok.exf,ok.bs,ok.bsz,ok.noex,ok.exfs,ok.funs,ok.frf⟩
theorem Cx.Ok.unwish{X:Cx}{E:Value->Shared->Prop}(ok:(X.wish E).Ok):X.Ok :=
 ⟨ok.mod,ok.kind,ok.glob,ok.blt,ok.above,ok.inj,ok.has,ok.cab,ok.hd,ok.frames,ok.stk,ok.exf,ok.bs,ok.bsz,ok.noex,ok.exfs,ok.funs,ok.frf⟩
section
variable{X:Cx}{pins:List (Addr × Obj)}{σ:St}{H:Hp}{s:Shared}{E:Value->Shared->Prop}
theorem Inv.wish(I:Inv X pins σ H s)(E:Value->Shared->Prop):Inv (X.wish E) pins σ H s:=⟨I.ok.wish E,I.os,I.bare,I.base,I.loc,I.cell,I.free,I.freeC,I.pin,I.hok,I.len⟩
theorem Inv.unwish(I:Inv (X.wish E) pins σ H s):Inv X pins σ H s:=⟨I.ok.unwish,I.os,I.bare,I.base,I.loc,I.cell,I.free,I.freeC,I.pin,I.hok,I.len⟩
theorem SP.unwish{D:Ends}{f:Flow}{s':Shared}(h:SP (X.wish E) pins D f s'):SP X pins D f s':=by
 cases f with
 | next=>obtain⟨σ',H',I,q⟩:=h; exact⟨σ',H',I.unwish,q⟩
 | brk=>obtain⟨σ',H',I,q⟩:=h; exact⟨σ',H',I.unwish,q⟩
 | cont=>obtain⟨σ',H',I,q⟩:=h; exact⟨σ',H',I.unwish,q⟩
 | ret u=>obtain⟨v,σ',H',I,r,q⟩:=h; exact⟨v,σ',H',I.unwish,r,q⟩
theorem PSs.nox{st:List Stmt}{t:TS}(h:PSs X.nox st t):PSs X st t:=λpins s σ H D I hw=>ZzS (h pins s σ H D (I.wish _) hw) (λ_ _ q=>q.unwish) λ_ _ z=>ZzD z
end
section
variable{X:Cx}{st:Stmt}{rest:List Stmt}{t u:TS}{e:Expr}{te:TE}{pos:Pos}
def Zxx:TS:=λD σ H=>D.nx σ H
def ZxX(t u:TS):TS:=λD σ H=>t { D with nx:=u D } σ H
theorem Zu9:PSs X [] Zxx:=λ_ _ σ H _ I h=>ZB5 ⟨σ,H,I,h⟩
theorem Zh2(h1:PS X st t)(h2:PSs X rest u):PSs X (st::rest) (ZxX t u):=by
 intro pins s σ H D I h;refine wpAny_execs_cons (thn (h1 pins s σ H { D with nx:=u D } I h) λf s1 q=>?_);cases f with
 | next=>obtain⟨σ',H',I',q⟩:=q;exact h2 pins s1 σ' H' D I' q
 | ret v=>exact q
 | brk=>exact q
 | cont=>exact q
theorem Zqn(h1:PS X st t):PSs X [st] t:=by
 intro pins s σ H D I h;refine wpAny_execs_cons (thn (h1 pins s σ H D I h) λf s1 q=>?_);cases f with
 | next=>exact ZB5 q
 | ret v=>exact q
 | brk=>exact q
 | cont=>exact q
theorem Inv.quiet{pins:List (Addr × Obj)}{σ:St}{H:Hp}{s:Shared}(I:Inv X pins σ H s):interactive X.env=false:=by simp[interactive,I.ok.kind]
def Zw6(te:TE):TS:=λD σ H=>te σ H λ_ H1=>D.nx σ H1
theorem Zhy(he:PE X e te)(hs:ZAI e none pos.line X.env=pure false:=by rfl):PS X (.Expr e pos) (Zw6 te):=by intro pins s σ H D I h;exact wpAny_Expr_any (thn (he pins s σ H _ I h) λv s1 ⟨x,H1,I1,r1,q1⟩=>⟨σ,H1,I1,q1⟩) I.quiet hs
def Zyf(te:TE):TS:=λD σ H=>te σ H D.rt
theorem ZoY(he:PE X e te):PS X (.Return (some e) pos) (Zyf te):=by intro pins s σ H D I h;exact wpAny_Return_some (thn (he pins s σ H _ I h) λv s1 ⟨x,H1,I1,r1,q1⟩=>⟨x,σ,H1,I1,r1,q1⟩)
def Zx1(c:TT)(t u:TS):TS:=λD σ H=>c σ H λb H1=>if b=true then t D σ H1 else u D σ H1
theorem ZuA{c:Expr}{a b:List Stmt}{tc:TT}(hc:PT X c tc)(ha:PSs X a t)(hb:PSs X b u):PS X (.If c a b pos) (Zx1 tc t u):=by
 intro pins s σ H D I h;refine wpAny_If (thn (hc pins s σ H _ I h) λd s1 ⟨H1,I1,q1⟩=>?_);cases d with
 | true=>exact ha pins s1 σ H1 D I1 q1
 | false=>exact hb pins s1 σ H1 D I1 q1
def ZvP:TS:=λ_ _ _=>False
theorem ZgC{sts:List Stmt}:PSs X sts ZvP:=λ_ _ _ _ _ _ h=>h.elim
end
abbrev TG:=V->St->Hp->(St->Hp->Prop)->Prop
abbrev TGs:=List V->St->Hp->(St->Hp->Prop)->Prop
def PG(X:Cx)(target:Expr)(t:TG):Prop :=
 ∀(pins:List (Addr × Obj)) (s:Shared) (σ:St) (H:Hp) (v:V) (u:Value) (Q:St->Hp->Prop),Inv X pins σ H s->RelV v u->t v σ H Q ->
  wpAny (model X.prog X.w) X.A (assign target X.env u) (λ_ s'=>∃σ' H',Inv X pins σ' H' s'/\Q σ' H') X.xe s
def PGs(X:Cx)(ts:List Expr)(t:TGs):Prop :=
 ∀(pins:List (Addr × Obj)) (s:Shared) (σ:St) (H:Hp) (vs:List V) (us:List Value) (Q:St->Hp->Prop),Inv X pins σ H s->Vals vs us->t vs σ H Q ->
  wpAny (model X.prog X.w) X.A (assignInOrder ((ZBB ts X.env).map (·.2)) us) (λ_ s'=>∃σ' H',Inv X pins σ' H' s'/\Q σ' H') X.xe s
abbrev Zte:=V->V->V->Hp->(Hp->Prop)->Prop
def ZvY(X:Cx)(t:Zte):Prop :=
 ∀(pins:List (Addr × Obj)) (s:Shared) (σ:St) (H:Hp) (o i v:V) (ov iv u:Value) (Q:Hp->Prop),Inv X pins σ H s->RelV o ov->RelV i iv->RelV v u->t o i v H Q ->
  wpAny (model X.prog X.w) X.A (setItem ov iv u) (λ_ s'=>∃H',Inv X pins σ H' s'/\Q H') X.xe s
section
variable{X:Cx}{pos:Pos}
def Zuy(i:Nat):TG:=λv σ H Q=>Q (σ.set i (some v)) H
theorem ZjA{i:Nat}{x:Str}(hN:X.N.Nodup)(hi:X.N[i]?=some x)(hx:Loc X.env.scope x)(hf:X.fn x=true\/X.env.scope.names.lookup x=some .local:=by first | exact .inl rfl | exact .inr rfl | assumption):PG X (.Name x pos) (Zuy i):=by intro pins s σ H v u Q I r h;exact wpAny_assign_Name (ZoT I hN hi hx r (λs' I'=>⟨_,H,I',h⟩) hf)
def Zx7:TGs:=λvs σ H Q=>vs=[]/\Q σ H
def Zxq(t:TG)(u:TGs):TGs:=λvs σ H Q=>∃v r,vs=v::r/\t v σ H λσ' H'=>u r σ' H' Q
theorem ZuW:PGs X [] Zx7:=by intro pins s σ H vs us Q I r h;obtain⟨e,h⟩:=h;subst e;cases r;exact assignInOrder_nil ⟨σ,H,I,h⟩
theorem Zoa{e:Expr}{es:List Expr}{t:TG}{u:TGs}(h1:PG X e t)(h2:PGs X es u)
  (hs:(ZBB (e::es) X.env).map (·.2)=assign e X.env::(ZBB es X.env).map (·.2):=by rfl):PGs X (e::es) (Zxq t u):=by
 intro pins s σ H vs us Q I r h;obtain⟨v,vr,e1,h⟩:=h;subst e1;cases r with
 | cons r rr=>rw[hs];refine assignInOrder_cons (thn (h1 pins s σ H _ _ _ I r h) λ_ s1 ⟨σ1,H1,I1,q1⟩=>?_);exact h2 pins s1 σ1 H1 _ _ Q I1 rr q1
def Zyb(K:Zyz)(n:Nat)(t:TGs):TG:=λv σ H Q=>∃a xs,v=.ref a/\SqT K H a xs/\xs.length=n/\t xs σ H Q
theorem Zwj{es:List Expr}{k:Nat}{t:TGs}{n:Nat}(hc:X.calm=true)(h:PGs X es t)
  (hn:(ZBB es X.env).length=n:=by rfl) (hst:(ZBB es X.env).findIdx? (·.1)=none:=by rfl):PG X (.Tuple es k pos) (Zyb X.K n t):=by
 intro pins s σ H v u Q I r hw;obtain⟨a,xs,e1,hq,hl,hw⟩:=hw;subst e1;cases r;obtain⟨its,rv,ht,hz⟩:=I.tuple hq;refine assign_Tuple_tuple (I.ok.hd hc) ht (by simp[hn,<-hl,rv.length]) hst λh' hx=>?_;have I1:Inv X pins σ H { s with heap:=h' }:=I.kept (t':=s.toks) λb o e=>hx b o (ZyX (ZyR e)) e;exact h pins _ σ H xs _ Q I1 (by simpa using rv) hw
def Zfr(to ti:TE)(t:Zte):TG:=λv σ H Q=>to σ H λo H1=>ti σ H1 λi H2=>t o i v H2 λH3=>Q σ H3
theorem ZwL{o i:Expr}{to ti:TE}{t:Zte}(ho:PE X o to)(hi:PE X i ti)(hs:ZvY X t)
  (ha:∀v,assign (.Subscript o i pos) X.env v=(do
   let ov <-holding [v] (eval o X.env)
   let iv <-holding [v,ov] (eval i X.env)
   standAt pos
   holding [v,ov,iv] (setItem ov iv v)
   release [v,ov,iv] []):=by intro _; rfl):PG X (.Subscript o i pos) (Zfr to ti t):=by
 intro pins s σ H v u Q I r h;rw[ha];refine Zyy (ZzF (thn (ho pins s σ H _ I h) λov s1 ⟨x,H1,I1,r1,q1⟩=>?_));refine Zyy (ZzF (thn (hi pins s1 σ H1 _ I1 q1) λiv s2 ⟨y,H2,I2,r2,q2⟩=>?_));refine Zyy (wpAny_standAt (Zyy (ZzF (thn (hs pins s2 σ H2 x y v ov iv u _ I2 r1 r2 r q2) λ_ s3 ⟨H3,I3,q3⟩=>?_))));exact wpAny_release ⟨σ,H3,I3,q3⟩
def Zv4(te:TE)(g:TG):TS:=λD σ H=>te σ H λx H1=>g x σ H1 D.nx
theorem ZwF{tg e:Expr}{te:TE}{g:TG}(he:PE X e te)(hg:PG X tg g)(hs:swapsWithSole [tg] e pos.line X.env=pure false:=by rfl)(hw:swappedStores [tg] e X.env=pure none:=by rfl)
  (h1:(ZBB [tg] X.env).map (·.2)=[assign tg X.env]:=by rfl):PS X (.Assign [tg] e pos) (Zv4 te g):=by
 intro pins s σ H D I h;refine wpAny_Assign_stores (thn (he pins s σ H _ I h) λv s1 ⟨x,H1,I1,r1,q1⟩=>?_) hs hw;rw[h1];exact thn (hg pins s1 σ H1 x v _ I1 r1 q1) λ_ s2 ⟨σ',H',I',q'⟩=>⟨σ',H',I',q'⟩
theorem Zn8{i:Nat}{x:Str}{e:Expr}{te:TE}{pos':Pos}(hN:X.N.Nodup)(hi:X.N[i]?=some x)(hx:Loc X.env.scope x)(he:PE X e te)(hs:ZAI e (some (.Name x pos')) pos.line X.env=pure false:=by rfl)(hf:X.fn x=true\/X.env.scope.names.lookup x=some .local:=by first | exact .inl rfl | exact .inr rfl | assumption) :
  PS X (.Assign [.Name x pos'] e pos) (Zv4 te (Zuy i)):=by
 intro pins s σ H D I h;refine wpAny_Assign_Name (thn (he pins s σ H _ I h) λv s1 ⟨y,H1,I1,r1,q1⟩=>?_) hs;exact ZoT I1 hN hi hx r1 (λs2 I2=>⟨_,H1,I2,q1⟩) hf
end
section
variable{X:Cx}{pos:Pos}
def Zv0(c:TT)(tb:TS):TS:=λD σ H=>∃W:Nat->St->Hp->Prop,(∃m,W m σ H)/\∀m σ H,W m σ H ->
 c σ H λb H1=>if b=true then ∃N:St->Hp->Prop,(∀σ' H',N σ' H'->∃m',m'<m/\W m' σ' H')/\tb { D with nx:=N,ct:=N,bk:=D.nx } σ H1 else D.nx σ H1
theorem Ztj{c:Expr}{body:List Stmt}{tc:TT}{tb:TS}(hp:PassesOwn (model X.prog X.w) X.A X.env X.xe)(hc:PT X c tc)(hb:PSs X body tb):PS X (.While c body [] pos) (Zv0 tc tb):=by
 intro pins s σ H D I h;obtain⟨W,⟨m0,w0⟩,turn⟩:=h;refine wpAny_While (codeAny_whileLoop (λn s'=>∃σ' H',Inv X pins σ' H' s'/\W n σ' H') ?_ m0 ⟨σ,H,I,w0⟩)
 rintro n s1 ⟨σ1,H1,I1,w1⟩
 refine ZAN hp (thn (hc pins s1 σ1 H1 _ I1 (turn n σ1 H1 w1)) λb s2 ⟨H2,I2,q2⟩=>?_);cases b with
 | true =>
  obtain⟨N,hN,q2⟩:=q2;rw[if_pos rfl];refine ZAN hp (thn (hb pins s2 σ1 H2 _ I2 q2) λf s3 q3=>?_);cases f with
  | next=>obtain⟨σ3,H3,I3,n3⟩:=q3;obtain⟨m',hm,w3⟩:=hN σ3 H3 n3;exact⟨m',hm,σ3,H3,I3,w3⟩
  | cont=>obtain⟨σ3,H3,I3,n3⟩:=q3;obtain⟨m',hm,w3⟩:=hN σ3 H3 n3;exact⟨m',hm,σ3,H3,I3,w3⟩
  | brk=>exact q3
  | ret v=>exact q3
 | false=>rw[if_neg Zzj];exact ZB5 ⟨σ1,H2,I2,q2⟩
end
structure It where
 go:Nat->Hp->Prop
 yld:Nat->Hp->V->Hp->Prop
 stop:Nat->Hp->Prop
def Zgo(X:Cx)(pins:List (Addr × Obj))(H:Hp)(b:Addr):Prop :=
 H b=none/\b≠X.env.locals/\b ∉ X.fs/\(b∈X.ex\/X.s₀.heap.objs.size<=b)/\(∀x c,X.env.cells.lookup x=some c->c≠b)/\∀p∈X.pn++pins,p.1≠b
theorem Inv.fpOk{X:Cx}{pins:List (Addr × Obj)}{σ:St}{H H':Hp}{s:Shared}{b:Addr}(I:Inv X pins σ H s)(hb:s.heap.objs.size<=b)(hn:H' b=none):Zgo X pins H' b:=by
 refine⟨hn,ZBu (Zy4 I.lt hb),I.nofs hb,.inr (Zzl I.sz hb),λx c e z=>?_,λp hp z=>?_⟩
 ·obtain⟨v,q⟩:=I.cell x c e
  exact absurd (Zy4 q.lt (by rw[z]; exact hb)) (ZAq _)
 ·exact absurd (Zy4 (ZyR (I.pin p hp).1) (by rw[z]; exact hb)) (ZAq _)
structure Turn(P:Program)(w:World)(K:Zyz)(tg:Expr)(J:It)(fp:List Addr)(it:Addr)(tn:Nat->Heap->Prop):Prop where
 mem:it∈fp
 obj:∀i h,tn i h->∀b∈fp,∃o,h.get? b=some o/\∀v,o.data≠.cell v
 keep:∀i h h',tn i h->(∀b∈fp,∀o,h.get? b=some o->h'.get? b=some o)->tn i h'
 item:∀(X:Cx),X.prog=P->X.w=w->X.K=K->X.calm=true->∀(i:Nat) (pins:List (Addr × Obj)) (s:Shared) (σ:St) (H:Hp) (E:Value->Shared->Prop),Inv X pins σ H s->(∀b∈fp,Zgo X pins H b)->tn i s.heap->J.go i H ->
  wpAny (model P w) X.A (pyNext (.ref it)) (λr s1=>∃u,r=some u /\
   wpAny (model P w) X.A (ZB6 tg (.ref it) u) (λ_ s2=>∃x H',Inv X pins σ H' s2/\RelV x u/\J.yld i H x H'/\tn (i+1) s2.heap/\∀b∈fp,H' b=none) E s1) E s
 done:∀(X:Cx),X.prog=P->X.w=w->X.K=K->X.calm=true->∀(i:Nat) (pins:List (Addr × Obj)) (s:Shared) (σ:St) (H:Hp) (E:Value->Shared->Prop),Inv X pins σ H s->(∀b∈fp,Zgo X pins H b)->tn i s.heap->J.stop i H ->
  wpAny (model P w) X.A (pyNext (.ref it)) (λr s1=>r=none/\Inv X pins σ H s1) E s
 self:∀(A:Around) (i:Nat) (s:Shared) (Q:Value->Shared->Prop) (E:Value->Shared->Prop),tn i s.heap->Q (.ref it) s->wpAny (model P w) A (pyIter (.ref it)) Q E s
abbrev TI:=St->Hp->(It->Hp->Prop)->Prop
def PIE(X:Cx)(pins:List (Addr × Obj))(σ:St)(tg:Expr)(R:It->Hp->Prop)(itv:Value)(s2:Shared):Prop :=
 ∃(it:Addr) (fp:List Addr) (tn:Nat->Heap->Prop) (J:It) (H':Hp),itv=.ref it/\Inv X pins σ H' s2/\Turn X.prog X.w X.K tg J fp it tn/\tn 0 s2.heap/\(∀b∈fp,Zgo X pins H' b)/\R J H'
def PI(X:Cx)(tg iter:Expr)(wi:TI):Prop :=
 ∀(pins:List (Addr × Obj)) (s:Shared) (σ:St) (H:Hp) (R:It->Hp->Prop),Inv X pins σ H s->wi σ H R ->
  wpAny (model X.prog X.w) X.A (eval iter X.env) (λv s1=>wpAny (model X.prog X.w) X.A (pyIter v) (PIE X pins σ tg R) X.xe s1) X.xe s
theorem Zm5{M:Model}{A:Around}{E:Value->Shared->Prop}{s:Shared}{tg:Expr}{it:Addr}{u:Value}{o:Obj}{n:String}{vs:Array Value}{Q:Unit->Shared->Prop}(ho:s.heap.get? it=some o)(hc:o.cls=.type n)(hd:o.data=.fields vs)
    (hn:["enumerate","zip","dict_itemiterator","dict_reverseitemiterator","odict_iterator","itertools.zip_longest","itertools.pairwise"].contains n=false) (hQ:Q () s):wpAny M A (ZB6 tg (.ref it) u) Q E s:=by
  unfold ZB6
  cases tg<;>first
    | exact ZyC hQ
    | (cases u<;>first
        | exact ZyC hQ
        | (refine Zyy (wpAny_load ho ?_)
           rw [hc, hd]
           show wpAny M A (if (["enumerate", "zip", "dict_itemiterator", "dict_reverseitemiterator", "odict_iterator", "itertools.zip_longest", "itertools.pairwise"].contains n && vs[0]? == some (rawInt _)) = true then _ else _) Q E s
           rw [if_neg (by intro h; rw [hn, Bool.false_and] at h; cases h)]
           exact ZyC hQ))
def Itl(K:Zyz)(a:Addr):It :=
 ⟨λi H=>∃xs x,SqL K H a xs/\xs[i]?=some x,λi H x H'=>H'=H/\∀xs,SqL K H a xs->xs[i]?=some x,λi H=>∃xs,SqL K H a xs/\xs.length<=i⟩
def Itt(K:Zyz)(a:Addr):It :=
 ⟨λi H=>∃xs x,SqT K H a xs/\xs[i]?=some x,λi H x H'=>H'=H/\∀xs,SqT K H a xs->xs[i]?=some x,λi H=>∃xs,SqT K H a xs/\xs.length<=i⟩
def Itr(lo:Int)(n:Nat):It:=⟨λi _=>i<n,λi H x H'=>H'=H/\x=.int (lo+i),λi _=>n<=i⟩
theorem ZsE{P:Program}{w:World}{K:Zyz}{tg:Expr}(a it:Addr):Turn P w K tg (Itl K a) [it] it (λi h=>h.IsListIter it a i) where
 mem:=by simp
 obj:=λi h st b hb=>by
  have e:b=it:=by simpa using hb
  subst e;obtain⟨o,e,c,d⟩:=st;exact⟨o,e,λv z=>by rw[d]at z; cases z⟩
 keep:=λi h h' st k=>st.at λo e=>k it (by simp) o e
 item:=by intro X hP hw hK hc i pins s σ H E I hf st hg;subst hP hw hK;obtain⟨xs,x,hq,hx⟩:=hg;obtain⟨its,rv,p,hz⟩:=I.list hq;obtain⟨u,hu,ru⟩:=rv.get hx;obtain⟨f0,f1,f2,f3,f4,f5⟩:=hf it (by simp);refine wpAny_pyNext_list_item st p.isList (x:=u) (by simpa using hu) λh' st' sb=>?_;have I1:Inv X pins σ H { s with heap:=h' }:=I.turned (t':=s.toks) (λb o hb e=>(sb.2 b hb).trans e) f0 f1 f3 f4 f5;obtain⟨o,e,c,d⟩:=id st';exact⟨u,rfl,Zm5 (s:={ s with heap:=h' }) e c d (by decide) ⟨x,H,I1,ru,⟨rfl,λys hy=>by rw[I.list_inj hy hq]; exact hx⟩,st',λb hb=>(hf b hb).1⟩⟩
 done:=by intro X hP hw hK hc i pins s σ H E I hf st hg;subst hP hw hK;obtain⟨xs,hq,hx⟩:=hg;obtain⟨its,rv,p,hz⟩:=I.list hq;obtain⟨f0,f1,f2,f3,f4,f5⟩:=hf it (by simp);have hl:=rv.length;exact wpAny_pyNext_list_end (I.ok.hd hc) st p.isList (by simp; omega) λh' eb=>⟨rfl,I.turned (t':=s.toks) (λb o hb e=>eb b o hb e) f0 f1 f3 f4 f5⟩
 self:=λ_ _ _ _ _ st h=>wpAny_pyIter_listiter st h
theorem ZqU{P:Program}{w:World}{K:Zyz}{tg:Expr}(a it:Addr):Turn P w K tg (Itt K a) [it] it (λi h=>h.IsTupleIter it a i) where
 mem:=by simp
 obj:=λi h st b hb=>by
  have e:b=it:=by simpa using hb
  subst e;obtain⟨o,e,c,d⟩:=st;exact⟨o,e,λv z=>by rw[d]at z; cases z⟩
 keep:=λi h h' st k=>st.at λo e=>k it (by simp) o e
 item:=by intro X hP hw hK hc i pins s σ H E I hf st hg;subst hP hw hK;obtain⟨xs,x,hq,hx⟩:=hg;obtain⟨its,rv,p,hz⟩:=I.tuple hq;obtain⟨u,hu,ru⟩:=rv.get hx;obtain⟨f0,f1,f2,f3,f4,f5⟩:=hf it (by simp);refine wpAny_pyNext_tuple_item st (show s.heap.IsTuple a its.toArray from p) (x:=u) (by simpa using hu) λh' st' sb=>?_;have I1:Inv X pins σ H { s with heap:=h' }:=I.turned (t':=s.toks) (λb o hb e=>(sb.2 b hb).trans e) f0 f1 f3 f4 f5;obtain⟨o,e,c,d⟩:=id st';exact⟨u,rfl,Zm5 (s:={ s with heap:=h' }) e c d (by decide) ⟨x,H,I1,ru,⟨rfl,λys hy=>by rw[I.tuple_inj hy hq]; exact hx⟩,st',λb hb=>(hf b hb).1⟩⟩
 done:=by intro X hP hw hK hc i pins s σ H E I hf st hg;subst hP hw hK;obtain⟨xs,hq,hx⟩:=hg;obtain⟨its,rv,p,hz⟩:=I.tuple hq;obtain⟨f0,f1,f2,f3,f4,f5⟩:=hf it (by simp);have hl:=rv.length;exact wpAny_pyNext_tuple_end (I.ok.hd hc) st (show s.heap.IsTuple a its.toArray from p) (by simp; omega) λh' eb=>⟨rfl,I.turned (t':=s.toks) (λb o hb e=>eb b o hb e) f0 f1 f3 f4 f5⟩
 self:=λ_ _ _ _ _ st h=>wpAny_pyIter_tupleiter st h
theorem Zrv{P:Program}{w:World}{K:Zyz}{tg:Expr}(it:Addr)(lo:Int)(n:Nat):Turn P w K tg (Itr lo n) [it] it (λi h=>IsRangeIter h it (lo+(i:Nat)*1) ((n:Int)-(i:Nat)) 1) where
 mem:=by simp
 obj:=λi h st b hb=>by
  have e:b=it:=by simpa using hb
  subst e;exact⟨_,st,λv z=>by have z':Data.fields _=Data.cell v:=z;cases z'⟩
 keep:=λi h h' st k=>k it (by simp) _ st
 item:=by intro X hP hw hK hc i pins s σ H E I hf st hg;subst hP hw hK;obtain⟨f0,f1,f2,f3,f4,f5⟩:=hf it (by simp);have W:=Walks.range (prog:=X.prog) (w:=X.w) (I.ok.hd hc) it lo 1 n;refine W.item i s _ _ hg st λv h' tk hv st' kk=>?_;obtain⟨t,rfl⟩:=hv;have I1:Inv X pins σ H { s with heap:=h',toks:=tk }:=I.turned (λb o hb e=>kk b o (by simpa using hb) e) f0 f1 f3 f4 f5;refine⟨_,rfl,Zm5 (s:={ s with heap:=h',toks:=tk }) (n:="range_iterator") st' rfl rfl (by decide) ⟨.int (lo+i),H,I1,⟨t,?_⟩,⟨rfl,rfl⟩,st',λb hb=>(hf b hb).1⟩⟩;rw[Int.mul_one]
 done:=by intro X hP hw hK hc i pins s σ H E I hf st hg;subst hP hw hK;obtain⟨f0,f1,f2,f3,f4,f5⟩:=hf it (by simp);exact wpAny_pyNext_range_end (I.ok.hd hc) st (by have:n<=i:=hg; omega) λh' eb=>⟨rfl,I.turned (t':=s.toks) (λb o hb e=>eb b o hb e) f0 f1 f3 f4 f5⟩
 self:=λ_ _ _ _ _ st h=>wpAny_pyIter_rangeiter st h
end L2
namespace L2
open PySem PySem.Spec PyProof.Rows
section
variable{X:Cx}{tg:Expr}
theorem Zok{pins:List (Addr × Obj)}{σ:St}{H:Hp}{s:Shared}{R:It->Hp->Prop}{E:Value->Shared->Prop}{lo hi:Int}{t u v:Tok}{tk:Nat}(I:Inv X pins σ H s)(h1:-(2 ^ 62)<=lo)(h2:lo<2 ^ 62)(h3:-(2 ^ 62)<=hi)(h4:hi<2 ^ 62)
  (q:R (Itr lo (hi-lo).toNat) H):wpAny (model X.prog X.w) X.A (pyIter (.ref s.heap.objs.size)) (PIE X pins σ tg R) E { s with heap:=s.heap.push { cls:=.type "range",data:=.fields #[.int lo t,.int hi u,.int 1 v] },toks:=tk }:=by
 refine wpAny_pyIter_range (IsRange.new ..) (small_one h1 h2 h3 h4) ?_;have I1:Inv X pins σ H { s with heap:=s.heap.push { cls:=.type "range",data:=.fields #[.int lo t,.int hi u,.int 1 v] },toks:=tk }:=I.kept λb o e=>ZyG _ e;refine⟨(s.heap.push { cls:=.type "range",data:=.fields #[.int lo t,.int hi u,.int 1 v] }).objs.size,[(s.heap.push { cls:=.type "range",data:=.fields #[.int lo t,.int hi u,.int 1 v] }).objs.size],_,_,H,rfl,
  I1.kept (t':=tk) λb o e=>ZyG _ e,Zrv _ lo (hi-lo).toNat,?_,λb hb=>?_,q⟩
 ·have e1:lo+((0:Nat):Int)*1=lo:=by simp
  have e2:(((hi-lo).toNat:Nat):Int)-((0:Nat):Int)=ZA5 lo hi 1:=by rw[rangeSize_one]; split<;>omega
  show IsRangeIter _ _ (lo+((0:Nat):Int)*1) ((((hi-lo).toNat:Nat):Int)-((0:Nat):Int)) 1;rw[e1,e2];exact ZyU _ rfl
 ·have e:b=(s.heap.push { cls:=.type "range",data:=.fields #[.int lo t,.int hi u,.int 1 v] }).objs.size:=by simpa using hb
  subst e;exact I1.fpOk (ZyI _) (I1.hok.fresh (ZyI _))
def ZbW(ta:TA):TI:=λσ H R=>ta σ H λvs H1=>∃j:Int,vs=[.int j]/\-(2 ^ 62)<=j/\j<2 ^ 62/\R (Itr 0 j.toNat) H1
def Zjx(ta:TA):TI:=λσ H R=>ta σ H λvs H1=>∃i j:Int,vs=[.int i,.int j]/\(-(2 ^ 62)<=i/\i<2 ^ 62/\-(2 ^ 62)<=j/\j<2 ^ 62)/\R (Itr i (j-i).toNat) H1
theorem Zsj{a:Expr}{ta:TA}{p pos:Pos}(hg:Gl X "range")(hm:X.mg "range" = none)(ha:PA X [a] ta)(hs:ZyK [a] X.env=[(false,eval a X.env)]:=by rfl):PI X tg (.Call (.Name "range" p) [a] [] pos) (ZbW ta):=by
 intro pins s σ H R I h;refine Call_ (ZhB I hg hm boot_range (ZBj (thn (ha pos pins s σ H _ I h) λus s1 ⟨vs,H1,I1,r1,q1⟩=>?_) hs rfl));obtain⟨j,e,q1,q2,q⟩:=q1;subst e;cases r1 with
 | cons r rr=>cases rr;obtain⟨t,rfl⟩:=r;exact call_range_1 (Zok I1 (by omega) (by omega) q1 q2 (by simpa using q))
theorem Zsl{a b:Expr}{ta:TA}{p pos:Pos}(hg:Gl X "range")(hm:X.mg "range" = none)(ha:PA X [a,b] ta)(hs:ZyK [a,b] X.env=[(false,eval a X.env),(false,eval b X.env)]:=by rfl)(hs2:ZyK [b] X.env=[(false,eval b X.env)]:=by rfl) :
  PI X tg (.Call (.Name "range" p) [a,b] [] pos) (Zjx ta):=by
 intro pins s σ H R I h;refine Call_ (ZhB I hg hm boot_range (ZBj (thn (ha pos pins s σ H _ I h) λus s1 ⟨vs,H1,I1,r1,q1⟩=>?_) (by rw[hs,hs2]) (by rw[hs2]; rfl)));obtain⟨i,j,e,⟨q1,q2,q3,q4⟩,q⟩:=q1;subst e;cases r1 with
 | cons r rr =>
  cases rr with
  | cons r' rr=>cases rr;obtain⟨t,rfl⟩:=r;obtain⟨t',rfl⟩:=r';exact call_range_2 (Zok I1 q1 q2 q3 q4 q)
def ZxY(wi:TI)(g:TG)(tb:TS):TS:=λD σ H=>wi σ H λJ H1=>∃W:Nat->Nat->St->Hp->Prop,(∃m,W 0 m σ H1)/\∀i m σ H,W i m σ H ->
 (J.stop i H/\D.nx σ H)\/(J.go i H/\∃N:St->Hp->Prop,(∀σ' H',N σ' H'->∃m',m'<m/\W (i+1) m' σ' H')/\∀x H',J.yld i H x H'->g x σ H' λσ2 H2=>tb { D with nx:=N,ct:=N,bk:=D.nx } σ2 H2)
def Zjg(fp:List Addr)(h:Heap):List (Addr × Obj):=fp.filterMap λb=>(h.get? b).map λo=>(b,o)
theorem ZfI{fp:List Addr}{h:Heap}{b:Addr}{o:Obj}(hb:b∈fp)(e:h.get? b=some o):(b,o)∈Zjg fp h:=ZzY.mpr ⟨b,hb,by rw[e]; rfl⟩
theorem Zsq{fp:List Addr}{h:Heap}{p:Addr × Obj}(hp:p∈Zjg fp h):p.1∈fp/\h.get? p.1=some p.2:=by
 obtain⟨b,hb,e⟩:=ZzY.mp hp;cases q:h.get? b with
 | none=>rw[q]at e; cases e
 | some o=>rw[q]at e;have e':(b,o)=p:=Zzw e;subst e';exact⟨hb,q⟩
theorem Inv.pinned{pins:List (Addr × Obj)}{σ:St}{H:Hp}{s:Shared}{fp:List Addr}(I:Inv X pins σ H s)(hf:∀b∈fp,Zgo X pins H b)(ho:∀b∈fp,∃o,s.heap.get? b=some o/\∀v,o.data≠.cell v):Inv X (pins++Zjg fp s.heap) σ H s :=
 I.pins_of λp hp=>(Zy6.mp hp).elim (λz=>I.pin p (Zy5 _ z)) λz=>by obtain⟨hb,e⟩:=Zsq z;obtain⟨f0,f1,f2,_⟩:=hf p.1 hb;obtain⟨o,e',d⟩:=ho p.1 hb;rw[e]at e'; cases e';exact⟨e,f0,f1,f2,d⟩
theorem Inv.unpinned{pins pl:List (Addr × Obj)}{σ:St}{H:Hp}{s:Shared}(I:Inv X (pins++pl) σ H s):Inv X pins σ H s:=I.pins_of λp hp=>I.pin p (Zy5 _ (Zzg _ hp))
theorem Zws{iter:Expr}{body:List Stmt}{wi:TI}{g:TG}{tb:TS}{pos:Pos}(hp:PassesOwn (model X.prog X.w) X.A X.env X.xe)(hc:X.calm=true)(hi:PI X tg iter wi)(hg:PG X tg g)(hb:PSs X body tb)
  (hs:∀x,ZAm iter X.env x=pure x:=by intro _; rfl):PS X (.For tg iter body [] pos) (ZxY wi g tb):=by
 intro pins s σ H D I h;refine wpAny_For (thn (hi pins s σ H _ I h) λv s1 h1=>thn h1 λitv s2 h2=>?_) hs;obtain⟨it,fp,tn,J,H2,e,I2,T,st2,f2,W,⟨m0,w0⟩,turn⟩:=h2;subst e;have stat:∀{H':Hp},(∀b∈fp,H' b=none)->∀b∈fp,Zgo X pins H' b:=λhn b hb=>⟨hn b hb,(f2 b hb).2⟩;refine codeAny_forLoop_any (λn s'=>∃i σ' H',Inv X pins σ' H' s'/\tn i s'.heap/\(∀b∈fp,H' b=none)/\W i n σ' H') ?_ m0 ⟨0,σ,H2,I2,st2,λb hb=>(f2 b hb).1,w0⟩
 rintro n s3 ⟨i,σ3,H3,I3,st3,fr3,w3⟩
 rcases turn i n σ3 H3 w3 with⟨stop,qn⟩ | ⟨go,N,hN,step⟩
 ·refine ZAN hp (thn (T.done X rfl rfl rfl hc i pins s3 σ3 H3 X.xe I3 (stat fr3) st3 stop) λr s4 ⟨hr,I4⟩=>?_)
  subst hr;exact ZB5 ⟨σ3,H3,I4,qn⟩
 ·refine ZAN hp (thn (T.item X rfl rfl rfl hc i pins s3 σ3 H3 X.xe I3 (stat fr3) st3 go) λr s4 ⟨u,hr,h4⟩=>?_)
  subst hr;refine ZAN hp (thn h4 λ_ s5 ⟨x,H5,I5,r5,y5,st5,fr5⟩=>?_);have I5':=I5.pinned (stat fr5) (T.obj _ _ st5);refine ZAN hp (thn (hg _ s5 σ3 H5 x u _ I5' r5 (step x H5 y5)) λ_ s6 ⟨σ6,H6,I6,q6⟩=>?_);refine ZAN hp (thn (hb _ s6 σ6 H6 _ I6 q6) λf s7 q7=>?_);have again:∀{σ7:St} {H7:Hp},Inv X (pins++Zjg fp s5.heap) σ7 H7 s7->N σ7 H7->∃m,m<n/\∃i σ' H',Inv X pins σ' H' s7/\tn i s7.heap/\(∀b∈fp,H' b=none)/\W i m σ' H':=λ{σ7 H7} I7 n7=>by obtain⟨m',hm,w7⟩:=hN σ7 H7 n7;refine⟨m',hm,i+1,σ7,H7,I7.unpinned,T.keep _ _ _ st5 λb hb o e=>(I7.pin (b,o) (Zy5 _ (Zy5 _ (ZfI hb e)))).1,λb hb=>?_,w7⟩;obtain⟨o,e,d⟩:=T.obj _ _ st5 b hb;exact(I7.pin (b,o) (Zy5 _ (Zy5 _ (ZfI hb e)))).2.1
  cases f with
  | next=>obtain⟨σ7,H7,I7,n7⟩:=q7; exact again I7 n7
  | cont=>obtain⟨σ7,H7,I7,n7⟩:=q7; exact again I7 n7
  | brk=>obtain⟨σ7,H7,I7,q7⟩:=q7; exact⟨σ7,H7,I7.unpinned,q7⟩
  | ret v=>obtain⟨x7,σ7,H7,I7,r7,q7⟩:=q7; exact⟨x7,σ7,H7,I7.unpinned,r7,q7⟩
end
end L2
namespace L2
open PySem PySem.Spec PyProof.Rows
abbrev R2:=V->V->Hp->VK->Prop
def OpR(X:Cx)(f:Value->Value->Sem Value)(r:R2):Prop :=
 ∀(pins:List (Addr × Obj)) (s:Shared) (σ:St) (H:Hp) (x y:V) (v u:Value) (Q:VK),Inv X pins σ H s->RelV x v->RelV y u->r x y H Q ->
  wpAny (model X.prog X.w) X.A (f v u) (EP X pins σ Q) X.xe s
def ZaU(X:Cx)(f:Value)(r:List V->Hp->VK->Prop):Prop :=
 ∀(pins:List (Addr × Obj)) (s:Shared) (σ:St) (H:Hp) (xs:List V) (us:List Value) (Q:VK),Inv X pins σ H s->Vals xs us->r xs H Q ->
  wpAny (model X.prog X.w) X.A (call f us) (EP X pins σ Q) X.xe s
def tOp(r:R2)(ta tb:TE):TE:=λσ H Q=>ta σ H λx H1=>tb σ H1 λy H2=>r x y H2 Q
def rI(C:Int->Int->Prop)(g:Int->Int->V):R2:=λx y H Q=>∃i j,x=.int i/\y=.int j/\C i j/\Q (g i j) H
def rI0(g:Int->Int->V):R2:=λx y H Q=>∃i j,x=.int i/\y=.int j/\Q (g i j) H
section
variable{X:Cx}{a b c:Expr}{ta tb tc:TE}{pos:Pos}
theorem ZtE(ha:PE X a ta)(hb:PE X b tb){pins:List (Addr × Obj)}{s:Shared}{σ:St}{H:Hp}{R:V->V->Hp->Prop}(I:Inv X pins σ H s)
  (h:ta σ H λx H1=>tb σ H1 λy H2=>R x y H2) {Q:Value->Shared->Prop} {f:Value->Value->Sem Value}
  (hf:∀v u s2 x y H2,Inv X pins σ H2 s2->RelV x v->RelV y u->R x y H2->wpAny (model X.prog X.w) X.A (f v u) Q X.xe s2) :
  wpAny (model X.prog X.w) X.A (eval a X.env) (λv s₁=>wpAny (model X.prog X.w) X.A (eval b X.env) (λu s₂=>wpAny (model X.prog X.w) X.A (f v u) Q X.xe s₂) X.xe s₁) X.xe s:=by
 refine thn (ha pins s σ H _ I h) λv s1 ⟨x,H1,I1,r1,q1⟩=>?_;refine thn (hb pins s1 σ H1 _ I1 q1) λu s2 ⟨y,H2,I2,r2,q2⟩=>?_;exact hf v u s2 x y H2 I2 r1 r2 q2
theorem Zm6{op:Operator}{r:R2}(ho:OpR X (ZBc op) r)(ha:PE X a ta)(hb:PE X b tb):PE X (.BinOp a op b pos) (tOp r ta tb):=by intro pins s σ H Q I h;exact wpAny_BinOp (ZtE ha hb I h λv u s2 x y H2 I2 rx ry q=>ho pins s2 σ H2 x y v u Q I2 rx ry q)
theorem opI{f:Value->Value->Sem Value}{C:Int->Int->Prop}{g:Int->Int->Int}
  (rule:∀(i j:Int) (t u:Tok) (s:Shared) (Q:Value->Shared->Prop) (E:Value->Shared->Prop),C i j->Q (.int (g i j) s.toks) { s with toks:=s.toks+1 }->wpAny (model X.prog X.w) X.A (f (.int i t) (.int j u)) Q E s) :
  OpR X f (rI C λi j=>.int (g i j)):=by
 intro pins s σ H x y v u Q I rx ry h;obtain⟨i,j,rfl,rfl,hc,q⟩:=h;obtain⟨t,rfl⟩:=rx;obtain⟨t',rfl⟩:=ry;exact rule i j t t' s _ _ hc ⟨.int (g i j),H,I.tok _,⟨_,rfl⟩,q⟩
theorem ZvN{f:Value->Value->Sem Value}{g:Int->Int->Int}
  (rule:∀(i j:Int) (t u:Tok) (s:Shared) (Q:Value->Shared->Prop) (E:Value->Shared->Prop),Q (.int (g i j) s.toks) { s with toks:=s.toks+1 }->wpAny (model X.prog X.w) X.A (f (.int i t) (.int j u)) Q E s) :
  OpR X f (rI0 λi j=>.int (g i j)):=by
 intro pins s σ H x y v u Q I rx ry h;obtain⟨i,j,rfl,rfl,q⟩:=h;obtain⟨t,rfl⟩:=rx;obtain⟨t',rfl⟩:=ry;exact rule i j t t' s _ _ ⟨.int (g i j),H,I.tok _,⟨_,rfl⟩,q⟩
theorem Zua{f:Value->Value->Sem Value}{g:Int->Int->Bool}
  (rule:∀(i j:Int) (t u:Tok) (s:Shared) (Q:Value->Shared->Prop) (E:Value->Shared->Prop),Q (.bool (g i j)) s->wpAny (model X.prog X.w) X.A (f (.int i t) (.int j u)) Q E s) :
  OpR X f (rI0 λi j=>.bl (g i j)):=by
 intro pins s σ H x y v u Q I rx ry h;obtain⟨i,j,rfl,rfl,q⟩:=h;obtain⟨t,rfl⟩:=rx;obtain⟨t',rfl⟩:=ry;exact rule i j t t' s _ _ ⟨.bl (g i j),H,I,rfl,q⟩
def Zrk(i j:Int):Prop:=(-(2 ^ 64)<i/\i<2 ^ 64)\/(-(2 ^ 64)<j/\j<2 ^ 64)
theorem Zrk.ok{i j:Int}(h:Zrk i j):IntMulOk i j:=by
 rcases h with⟨h1,h2⟩ | ⟨h1,h2⟩
 ·exact .of_left (intBits_le_64 h1 h2)
 ·exact .of_right (intBits_le_64 h1 h2)
theorem Zwp:OpR X (ZBc .Add) (rI0 λi j=>.int (i+j)):=ZvN λ_ _ _ _ _ _ _ q=>add_int q
theorem Zwi:OpR X (ZBc .Sub) (rI0 λi j=>.int (i-j)):=ZvN λ_ _ _ _ _ _ _ q=>sub_int q
theorem ZwE:OpR X (ZBc .Mult) (rI Zrk λi j=>.int (i*j)):=opI λ_ _ _ _ _ _ _ hc q=>mul_int q hc.ok
theorem ZwP:OpR X (ZBc .Mod) (rI (λ_ j=>0<j) λi j=>.int (i % j)):=opI λi j _ _ _ _ _ hc q=>by have h1:(0:Int)<j:=hc;exact mod_int' (by omega) (by rw[Int.fmod_eq_emod_of_nonneg i (by omega)]; exact q)
end
section
variable{X:Cx}{a b c:Expr}{ta tb tc:TE}{pos:Pos}
theorem ZsQ{pins:List (Addr × Obj)}{σ:St}{H:Hp}{s:Shared}{Q:VK}{k k':Bool}(I:Inv X pins σ H s)(q:Q (.bl k) H)(e:k=k'):EP X pins σ Q (.bool k') s:=by subst e;exact⟨.bl k,H,I,rfl,q⟩
theorem Zxl:OpR X (ZzJ .Lt) (rI0 λi j=>.bl (decide (i<j))):=Zua λ_ _ _ _ _ _ _ q=>lt_int q
theorem Zxr:OpR X (ZzJ .LtE) (rI0 λi j=>.bl (decide (i<=j))):=Zua λ_ _ _ _ _ _ _ q=>le_int q
theorem Zxp:OpR X (ZzJ .Gt) (rI0 λi j=>.bl (decide (j<i))):=Zua λ_ _ _ _ _ _ _ q=>gt_int q
theorem Zwu:OpR X (ZzJ .Is) (λx y H Q=>y=.non/\Q (.bl (decide (x=.non))) H):=by
 intro pins s σ H x y v u Q I rx ry h;obtain⟨rfl,q⟩:=h;cases ry;refine is_none_gen (ZsQ I q ?_);cases x<;>first
  | (cases rx; rfl)
  | (obtain⟨t,rfl⟩:=rx; rfl)
theorem Zu7:OpR X (ZzJ .IsNot) (λx y H Q=>y=.non/\Q (.bl (!decide (x=.non))) H):=by
 intro pins s σ H x y v u Q I rx ry h;obtain⟨rfl,q⟩:=h;cases ry;refine isnot_none_gen (ZsQ I q ?_);cases x<;>first
  | (cases rx; rfl)
  | (obtain⟨t,rfl⟩:=rx; rfl)
theorem Zp1{op:CmpOp}{r:R2}(ho:OpR X (ZzJ op) r)(ha:PE X a ta)(hb:PE X b tb)(hm:ZzL op b=false):PE X (.Compare a [op] [b] pos) (tOp r ta tb):=by intro pins s σ H Q I h;exact wpAny_Compare1 (ZtE ha hb I h λv u s2 x y H2 I2 rx ry q=>ho pins s2 σ H2 x y v u Q I2 rx ry q) hm
def Zxi(t:TE):TT:=λσ H Q=>t σ H λx H'=>∃k,x=.bl k/\Q k H'
theorem ZlA{op:CmpOp}{r:R2}(ho:OpR X (ZzJ op) r)(ha:PE X a ta)(hb:PE X b tb)(hm:ZzL op b=false):PT X (.Compare a [op] [b] pos) (Zxi (tOp r ta tb)):=by intro pins s σ H Q I h;refine wpAny_isTrue_Compare1 (thn (ha pins s σ H _ I h) λv s1 ⟨x,H1,I1,r1,q1⟩=>thn (hb pins s1 σ H1 _ I1 q1) λu s2 ⟨y,H2,I2,r2,q2⟩=>thn (ho pins s2 σ H2 x y v u _ I2 r1 r2 q2) λc s3 ⟨z,H3,I3,r3,k,e,q3⟩=>?_) hm;subst e;cases r3;exact ZAl ⟨H3,I3,q3⟩
def ZwC(r r':R2)(ta tb tc:TE):TE:=λσ H Q=>ta σ H λx H1=>tb σ H1 λy H2=>r x y H2 λz H3=>∃k,z=.bl k /\
 (if k=true then tc σ H3 λw' H4=>r' y w' H4 Q else Q (.bl false) H3)
theorem ZoA{op op':CmpOp}{r r':R2}(ho:OpR X (ZzJ op) r)(ho':OpR X (ZzJ op') r')(ha:PE X a ta)(hb:PE X b tb)(hc:PE X c tc)
  (hm:lastMarks [op,op'] [b,c]=false:=by with_unfolding_all rfl):PE X (.Compare a [op,op'] [b,c] pos) (ZwC r r' ta tb tc):=by
 intro pins s σ H Q I h;refine Compare_chain (thn (ha pins s σ H _ I h) λv s1 ⟨x,H1,I1,r1,q1⟩=>chain_link (thn (hb pins s1 σ H1 _ I1 q1) λu s2 ⟨y,H2,I2,r2,q2⟩=>thn (ho pins s2 σ H2 x y v u _ I2 r1 r2 q2) λd s3 ⟨z,H3,I3,r3,k,e,q3⟩=>?_)) hm;subst e;cases r3;refine ZAl ?_;cases k with
 | false=>exact ite_ff ⟨.bl false,H3,I3,rfl,q3⟩
 | true=>exact ite_tt (chain_last (thn (hc pins s3 σ H3 _ I3 q3) λw' s4 ⟨z',H4,I4,r4,q4⟩=>ho' pins s4 σ H4 y z' u w' Q I4 r2 r4 q4))
theorem ZiT:(sizeLine:Nat)<2 ^ 63:=by rw[ZzZ]; decide
theorem vals1{x:V}{us:List Value}(r:Vals [x] us):∃u,us=[u]/\RelV x u:=by
 cases r with
 | cons r1 r2=>cases r2; exact⟨_,rfl,r1⟩
theorem vals2{x y:V}{us:List Value}(r:Vals [x,y] us):∃u w',us=[u,w']/\RelV x u/\RelV y w':=by
 cases r with
 | cons r1 r2 =>
  cases r2 with
  | cons r3 r4=>cases r4; exact⟨_,_,rfl,r1,r3⟩
theorem ZrJ(hc:X.calm=true):ZaU X (.builtin "max") (λxs H Q=>∃i j,xs=[.int i,.int j]/\Q (.int (if j > i then j else i)) H):=by
 intro pins s σ H xs us Q I r h;obtain⟨i,j,rfl,q⟩:=h;obtain⟨u,w',rfl,⟨t,rfl⟩,⟨t',rfl⟩⟩:=vals2 r;refine max_two_ints (I.ok.hd hc) λh' tk k=>⟨_,H,I.kept k,?_,q⟩
 by_cases hj:j > i
 ·rw[if_pos hj,if_pos hj]; exact⟨_,rfl⟩
 ·rw[if_neg hj,if_neg hj]; exact⟨_,rfl⟩
theorem Zsh(hc:X.calm=true):ZaU X (.builtin "min") (λxs H Q=>∃i j,xs=[.int i,.int j]/\Q (.int (if j<i then j else i)) H):=by
 intro pins s σ H xs us Q I r h;obtain⟨i,j,rfl,q⟩:=h;obtain⟨u,w',rfl,⟨t,rfl⟩,⟨t',rfl⟩⟩:=vals2 r;refine min_two_ints (I.ok.hd hc) λh' tk k=>⟨_,H,I.kept k,?_,q⟩
 by_cases hj:j<i
 ·rw[if_pos hj,if_pos hj]; exact⟨_,rfl⟩
 ·rw[if_neg hj,if_neg hj]; exact⟨_,rfl⟩
theorem Zl2:ZaU X (.type "int") (λxs H Q=>(∃i,xs=[.int i]/\Q (.int i) H)\/∃k,xs=[.bl k]/\Q (.int (if k then 1 else 0)) H):=by
 intro pins s σ H xs us Q I r h;rcases h with⟨i,rfl,q⟩ | ⟨k,rfl,q⟩
 ·obtain⟨u,rfl,t,rfl⟩:=vals1 r
  exact call_int_int ⟨.int i,H,I,⟨_,rfl⟩,q⟩
 ·obtain⟨u,rfl,r1⟩:=vals1 r
  cases r1;exact call_int_bool ⟨.int (if k then 1 else 0),H,I.tok _,⟨_,rfl⟩,q⟩
end
end L2
namespace L2
open PySem PySem.Spec PyProof.Rows
theorem Zfo.some_of{v:V}{o:Option Value}(r:Zfo (some v) o):∃u,o=some u/\RelV v u:=by
 cases o with
 | none=>exact(show False from r).elim
 | some u=>exact⟨u,rfl,r⟩
end L2
namespace L2
open PySem PySem.Spec PyProof.Rows
structure Zal(k:Nat)(A:Around):Prop where
 hd:A.handled=none
 dp:A.depth+3*k+5<recursionLimit
 un:A.units+16*k+200<cLine
theorem Zal.mono{j k:Nat}{A:Around}(r:Zal k A)(h:j<=k):Zal j A:=⟨r.hd,by have:=r.dp; omega,by have:=r.un; omega⟩
theorem Zal.deeper{k:Nat}{A:Around}(r:Zal (k+1) A)(env:Env):Zal k (A.deeper env) :=
 ⟨r.hd,by have:=r.dp; show A.depth+1+3*k+5<_; omega,by have:=r.un; show A.units+3+16*k+200<_; omega⟩
theorem Zal.depth{k:Nat}{A:Around}(r:Zal k A):A.depth<recursionLimit:=by have:=r.dp; omega
theorem Zal.units{k:Nat}{A:Around}(r:Zal k A):A.units+64<cLine:=by have:=r.un; omega
def ZxV:TA:=λ_ H Q=>Q [] H
def Zxu(ta:TE)(tr:TA):TA:=λσ H Q=>ta σ H λx H1=>tr σ H1 λxs H2=>Q (x::xs) H2
section
variable{X:Cx}{e:Expr}{es:List Expr}{te:TE}{t:TA}{pos:Pos}
theorem ZbI:PA X [] ZxV:=λ_ _ _ _ H Q I h=>ZCD ⟨[],H,I,.nil,h⟩
theorem Zag(ha:PE X e te)(hr:PA X es t)(hs:ZyK (e::es) X.env=(false,eval e X.env)::ZyK es X.env:=by rfl):PA X (e::es) (Zxu te t):=by intro pos pins s σ H Q I h;rw[hs];show wpAny _ _ (spliced ((false,eval e X.env)::backTo pos (ZyK es X.env))) _ _ s;refine ZBa (thn (ha pins s σ H _ I h) λu s1 ⟨x,H1,I1,r1,q1⟩=>?_);exact thn (hr pos pins s1 σ H1 _ I1 q1) λus s2 ⟨xs,H2,I2,r2,q2⟩=>⟨x::xs,H2,I2,.cons r1 r2,q2⟩
def Zyd(t:TA):TE:=λσ H Q=>t σ H λxs H1=>xs.length<=sizeLine/\∀p,H1 p=none->Q (.ref p) (upd H1 p (.tup xs))
def ZxU(t:TA):TE:=λσ H Q=>t σ H λxs H1=>xs.length<=sizeLine/\∀p,H1 p=none->Q (.ref p) (upd H1 p (.lst xs))
theorem ZvR{x1}(h:PA X es t):PE X (.Tuple es x1 pos) (Zyd t):=by intro pins s σ H Q I hq;refine wpAny_Tuple_spliced (thn (h pos pins s σ H _ I hq) λus s1 ⟨xs,H1,I1,r,z,q⟩=>⟨by rw[<-r.length]; exact z,?_⟩);have hf:H1 s1.heap.objs.size=none:=I1.hok.fresh (ZyI _);refine⟨.ref s1.heap.objs.size,upd H1 s1.heap.objs.size (.tup xs),I1.laid (t':=s1.toks) (λb u e=>ZyG _ e) (ZyI _) ?_,rfl,q _ hf⟩;exact⟨z,us,r,⟨_,ZyU _ rfl,rfl,_,rfl⟩⟩
theorem ZvZ(h:PA X es t):PE X (.List es pos) (ZxU t):=by intro pins s σ H Q I hq;refine wpAny_List_spliced (thn (h pos pins s σ H _ I hq) λus s1 ⟨xs,H1,I1,r,z,q⟩=>⟨by rw[<-r.length]; exact z,?_⟩);have hf:H1 s1.heap.objs.size=none:=I1.hok.fresh (ZyI _);refine⟨.ref s1.heap.objs.size,upd H1 s1.heap.objs.size (.lst xs),I1.laid (t':=s1.toks) (λb u e=>ZyG _ e) (ZyI _) ?_,rfl,q _ hf⟩;exact⟨z,us,0,r,ZyU _ rfl⟩
end
abbrev Sp:=List V->Hp->VK->XK->Prop
abbrev CXT:=List Env->Hp->Shared->XK->Value->Shared->Prop
structure ZeO(P:Program)(w:World)(K:Zyz)(mg:Str->Option Value)(base:Heap)(A:Around)(outer:List Env)(s:Shared)(H:Hp):Prop where
 frames:A.frames=some outer
 mod:Mod K mg base
 bs:∀b o,base.get? b=some o->s.heap.get? b=some o/\H b=none
 bsz:base.objs.size<=s.heap.objs.size
 funs:s.heap.FunFrames base outer
 frf:∀b∈frs outer,H b=none
 hok:HOk P w H s.heap
 bare:AllBare s.gens
def CE(outer:List Env)(P:Program)(w:World)(H:Hp)(s:Shared)(Q:VK)(u:Value)(s':Shared):Prop :=
 ∃v H',s'.os=s.os/\AllBare s'.gens/\Un (frs outer) [] H H' s.heap s'.heap/\HOk P w H' s'.heap/\RelV v u/\Q v H'
def CR(CX:CXT)(outer:List Env)(P:Program)(w:World)(H:Hp)(s:Shared)(Q:VK)(E:XK)(r:Result)(s':Shared):Prop :=
 match r with
 | .ok (.ret u)=>CE outer P w H s Q u s'
 | .ok _=>False
 | .error e=>CX outer H s E e s'
structure Zdm(P:Program)(w:World)(K:Zyz)(mg:Str->Option Value)(base:Heap)(CX:CXT)(k:Nat)(f:Addr)(fd:FuncData)(ps:List Str)(sp:Sp):Prop where
 len:∀vs H Q E,sp vs H Q E->vs.length=ps.length
 run:∀(A:Around) (outer:List Env) (s:Shared) (H:Hp) (args:Args) (us:List Value) (vs:List V) (Q:VK) (E:XK),Zal k A->ZeO P w K mg base A outer s H->BindsTo s fd args (ps.zip us)->Vals vs us->sp vs H Q E ->
  codeAny (model P w) A (.call (.ref f) args) (CR CX outer P w H s Q E) s
theorem Zdm.mono{P:Program}{w:World}{K:Zyz}{mg:Str->Option Value}{base:Heap}{CX:CXT}{j k:Nat}{f:Addr}{fd:FuncData}{ps:List Str}{sp:Sp}(F:Zdm P w K mg base CX j f fd ps sp)(h:j<=k) :
  Zdm P w K mg base CX k f fd ps sp:=⟨F.len,λA outer s H args us vs Q E hr=>F.run A outer s H args us vs Q E (hr.mono h)⟩
section
variable{X:Cx}{pins:List (Addr × Obj)}{σ:St}{H:Hp}{s s':Shared}
theorem Inv.env0(I:Inv X pins σ H s):ZeO X.prog X.w X.K X.mg X.base X.A X.stack s H :=
 ⟨I.ok.frames,I.ok.mod,I.bs,Zzl I.ok.bsz I.sz,I.stack,I.stkFree,I.hok,I.bare⟩
theorem Inv.after{Q:VK}{u:Value}(I:Inv X pins σ H s)(h:CE X.stack X.prog X.w H s Q u s'):EP X pins σ Q u s':=by obtain⟨v,H',os,bare,un,hok,r,q⟩:=h;obtain⟨hh,g,d,t,os'⟩:=s';obtain rfl:os'=s.os:=os;exact⟨v,H',I.call (h':=hh) (g':=g) (d':=d) (t':=t) (ch:=[]) un hok bare (λb z=>absurd z (by simp)),r,q⟩
end
def Zxv(sp:Sp)(dvs:List V)(E:XK)(t:TA):TE:=λσ H Q=>t σ H λvs H1=>sp (vs++dvs) H1 Q E
def Binds(K:Zyz)(fd:FuncData)(ps:List Str)(ds:List Value):Prop :=
 ∀(s:Shared) (us:List Value),K.In s.heap->(us++ds).length=ps.length->BindsTo s fd ⟨us,[]⟩ (ps.zip (us++ds))
theorem Binds.all{K:Zyz}{fd:FuncData}{ps:List Str}(h:∀us:List Value,us.length=ps.length->bindArgs fd ⟨us,[]⟩=pure (ps.zip us)):Binds K fd ps []:=λs us _ hl=>by rw[Zzb]at hl ⊢;exact .of_eq (h us hl)
def Passes(CX:CXT)(X:Cx)(E:XK):Prop:=∀(pins:List (Addr × Obj)) (σ:St) (H:Hp) (s:Shared) (e:Value) (s':Shared),Inv X pins σ H s->CX X.stack H s E e s'->X.xe e s'
section
variable{X:Cx}{CX:CXT}{k:Nat}{f C:Addr}{fd:FuncData}{ps:List Str}{sp:Sp}{dvs:List V}{ds:List Value}{E:XK}{x m:Str}{p pos apos:Pos}{e o:Expr}{es:List Expr}{ta:TE}{t:TA}
theorem ZwD{pins:List (Addr × Obj)}{σ:St}{H:Hp}{s:Shared}{Q:VK}{us:List Value}{vs:List V}(F:Zdm X.prog X.w X.K X.mg X.base CX k f fd ps sp)(hr:Zal k X.A)(hb:Binds X.K fd ps ds)(hd:Vals dvs ds)(hx:Passes CX X E)
  (I:Inv X pins σ H s) (r:Vals vs us) (h:sp (vs++dvs) H Q E):wpAny (model X.prog X.w) X.A (call (.ref f) us) (EP X pins σ Q) X.xe s:=by
 have r2:Vals (vs++dvs) (us++ds):=r.append hd;have hl:(us++ds).length=ps.length:=by rw[<-r2.length]; exact F.len _ _ _ _ h
 refine wpAny_call (ZAJ (F.run X.A X.stack s H ⟨us,[]⟩ (us++ds) (vs++dvs) Q E hr I.env0 (hb s us I.kIn hl) r2 h) λr s' hq=>?_);cases r with
 | error e=>exact hx pins σ H s e s' I hq
 | ok fl =>
  cases fl with
  | ret u=>exact I.after hq
  | next=>exact ZzD hq
  | brk=>exact ZzD hq
  | cont=>exact ZzD hq
theorem ZjF(F:Zdm X.prog X.w X.K X.mg X.base CX k f fd ps sp)(hr:Zal k X.A)(hg:Gl X x)(hm:X.mg x=some (.ref f))(hk:Zz0 X.K (.ref f)=true)(hb:Binds X.K fd ps ds)(hd:Vals dvs ds)(hx:Passes CX X E)
  (ha:PA X (e::es) t) (hdb:(x==("__debug__":Str))=false:=by decide) (he:ZyK (e::es) X.env=(false,eval e X.env)::ZyK es X.env:=by rfl) (hpl:(backTo pos (ZyK es X.env)).any (·.1)=false:=by rfl) :
  PE X (.Call (.Name x p) (e::es) [] pos) (Zxv sp dvs E t):=by
 intro pins s σ H Q I h;refine ZAK (Zlp I hg hm ?_ hdb);refine ZDz (h₀:=X.base) I.ok.mod.kin hk (thn (ha pos pins s σ H _ I h) λus s1 ⟨vs,H1,I1,r,q⟩=>⟨I1.kIn,?_⟩) he hpl;exact ZwD F hr hb hd hx I1 r q
end
structure Zv(N P:List Str)(sc:Scope):Prop where
 kind:sc.kind=.function
 co:sc.isCoroutine=false
 gen:sc.isGenerator=false
 nd:N.Nodup
 pre:N.take P.length=P
 par:∀x∈P,sc.names.lookup x=some .local\/sc.names.lookup x=some .cell
 nofree:∀y∈sc.names,y.2≠.free
theorem Zl1{kindOf:Str->Option NameKind}{x:Str}:∀{binds:List (Str × Value)} {m:Str->Option Value},(∀v,(x,v) ∉ binds)->bindL kindOf binds m x=m x
 | [],_,_=>rfl
 | (n,v)::r,m,h=>by
  unfold bindL;rw[Zl1 λw hw=>h w (ZyD _ hw)];split
  ·have:x≠n:=by rintro rfl; exact h v ZyE
   simp[this]
  ·rfl
theorem Zma{kindOf:Str->Option NameKind}{x:Str}:∀{binds:List (Str × Value)} {m:Str->Option Value},(∀v,(x,v) ∉ binds)->bindC kindOf binds m x=m x
 | [],_,_=>rfl
 | (n,v)::r,m,h=>by
  unfold bindC;rw[Zma λw hw=>h w (ZyD _ hw)];split
  ·rfl
  ·have:x≠n:=by rintro rfl; exact h v ZyE
   simp[this]
theorem Zmd{kindOf:Str->Option NameKind}{x:Str}{v:Value}:∀{P:List Str} {vs:List Value} {i:Nat} {m:Str->Option Value},P.Nodup->P[i]?=some x->vs[i]?=some v->kindOf x=some .local ->
  bindL kindOf (P.zip vs) m x=some v
 | [],_,_,_,_,h,_,_=>by simp at h
 | _::_,[],_,_,_,_,h,_=>by simp at h
 | p::P,w::vs,0,m,nd,h1,h2,hk=>by simp at h1 h2; subst h1; subst h2;show bindL kindOf ((p,w)::P.zip vs) m p=_;unfold bindL;rw[Zl1 λv hv=>(Zzx.mp nd).1 (ZC2 hv).1,if_pos hk];simp
 | p::P,w::vs,i+1,m,nd,h1,h2,hk=>by show bindL kindOf ((p,w)::P.zip vs) m x=_;unfold bindL;exact Zmd (i:=i) (Zzx.mp nd).2 (by simpa using h1) (by simpa using h2) hk
theorem Zmm{kindOf:Str->Option NameKind}{x:Str}{v:Value}:∀{P:List Str} {vs:List Value} {i:Nat} {m:Str->Option Value},P.Nodup->P[i]?=some x->vs[i]?=some v->kindOf x≠some .local ->
  bindC kindOf (P.zip vs) m x=some v
 | [],_,_,_,_,h,_,_=>by simp at h
 | _::_,[],_,_,_,_,h,_=>by simp at h
 | p::P,w::vs,0,m,nd,h1,h2,hk=>by simp at h1 h2; subst h1; subst h2;show bindC kindOf ((p,w)::P.zip vs) m p=_;unfold bindC;rw[Zma λv hv=>(Zzx.mp nd).1 (ZC2 hv).1,if_neg hk];simp
 | p::P,w::vs,i+1,m,nd,h1,h2,hk=>by show bindC kindOf ((p,w)::P.zip vs) m x=_;unfold bindC;exact Zmm (i:=i) (Zzx.mp nd).2 (by simpa using h1) (by simpa using h2) hk
def start(N:List Str)(vs:List V):St:=vs.map some++Zy8 (N.length-vs.length) none
def Zgd(CX:CXT)(P:Program)(w:World)(K:Zyz)(mg:Str->Option Value)(base:Heap)(N:List Str)(qual:Str)(scope:Scope)(f:Addr)(cd:Value)(A:Around)(outer:List Env)(s:Shared)(H:Hp)(E:XK):Cx where
 prog:=P
 w:=w
 K:=K
 mg:=mg
 base:=base
 A:=A.deeper (envOfC qual scope s.heap.objs.size f cd)
 N:=N
 s₀:=s
 H₀:=H
 env:=envOfC qual scope s.heap.objs.size f cd
 outer:=outer
 stack:=envOfC qual scope s.heap.objs.size f cd::outer
 ex:=[]
 calm:=true
 fn:=λ_=>true
 pn:=[]
 xe:=λe s'=>wpAny (model P w) (A.deeper (envOfC qual scope s.heap.objs.size f cd)) (leaving (envOfC qual scope s.heap.objs.size f cd) e) (λ_ s''=>CX outer H s E e s'') (λe' s''=>CX outer H s E e' s'') s'
theorem ZoN{sc:Scope}{n:Nat}{x:Str}(h:sc.names.lookup x=some .cell):∃c,(cellsFrom n sc.names []).lookup x=some c:=by have q:=ZDa sc.names n [] (.inl h);exact Zzm.mp q
theorem Zsu{CX:CXT}{P:Program}{w:World}{K:Zyz}{mg:Str->Option Value}{base:Heap}{N ps:List Str}{qual:Str}{scope:Scope}{f:Addr}{cd:Value}{A:Around}{outer:List Env}{s s1:Shared}{H:Hp}{E:XK}{us:List Value}{vs:List V}
  (S:Zv N ps scope) (hd:A.handled=none) (e0:ZeO P w K mg base A outer s H) (hl:vs.length=ps.length) (r:Vals vs us)
  (x:InCallC s s.heap.objs.size (bindL (envOfC qual scope s.heap.objs.size f cd).kindOf (ps.zip us) λ_=>none) (cellsFrom (s.heap.objs.size+1) scope.names []) (bindC (envOfC qual scope s.heap.objs.size f cd).kindOf (ps.zip us) λ_=>none) s1) :
  Inv (Zgd CX P w K mg base N qual scope f cd A outer s H E) [] (start N vs) H s1:=by
 have hpl:ps.length<=N.length:=by have:=congrArg Zzo S.pre; rw[ZzO]at this; omega
 obtain⟨h1,tk,rfl,hk⟩:=x.done;have noA:∀b:Addr,b ∉ (Zgd CX P w K mg base N qual scope f cd A outer s H E).ex:=λb z=>absurd (show b∈([]:List Addr) from z) (by simp);refine⟨⟨e0.mod,S.kind,rfl,rfl,ZyI _,λy z c h1 h2=>?_,λy hy=>?_,λy c _ h=>?_,λ_=>hd,ZDo e0.frames,.inr ⟨rfl,rfl⟩,λb z=>absurd z (noA b),e0.bs,e0.bsz,λb _ _=>noA b,λb z=>absurd z (noA b),e0.funs,e0.frf⟩,
  rfl,e0.bare,Un.kept hk,⟨_,x.toInCall.ns,λi y v h1 h2 h3=>?_⟩,λy c h=>⟨_,x.cell y c h⟩,e0.hok.fresh (ZyI _),λy c h=>?_,λp hp=>absurd (show p∈([]:List (Addr × Obj)) from hp) (by simp),e0.hok.kept hk,?_⟩
 ·exact name_of_addr x.apart (Zz8 h1) (Zz8 h2)
 ·have hy:scope.names.lookup y=some .cell\/scope.names.lookup y=some .free:=hy
  rcases hy with hy | hy
  ·exact ZoN hy
  ·exact absurd rfl (S.nofree _ (Zz8 hy))
 ·exact ZAx (x.above y c (Zz8 h))
 ·have hi:i<vs.length:=by
   unfold start at h2
   by_cases hi:i<vs.length
   ·exact hi
   ·rw[Zzn (by simpa using hi)]at h2
    rw[ZA6]at h2;split at h2<;>cases h2
  have ha:vs[i]?=some v:=by
   unfold start at h2;rw[Zy9 (by simpa using hi),Zy1]at h2;cases e:vs[i]? with
   | none=>rw[e]at h2; cases h2
   | some a=>rw[e]at h2; cases h2; rfl
  obtain⟨u,hu,rv⟩:=r.get ha;have hp:ps[i]?=some y:=by rw[<-S.pre,ZCR (by omega)]; exact h1
  have ndP:ps.Nodup:=by rw[<-S.pre]; exact S.nd.sublist (List.take_sublist _ _)
  refine⟨u,rv,?_⟩;rcases S.par y (Zy3 hp)with k | k
  ·exact .inl ⟨k,Zmd ndP hp hu k⟩
  ·obtain⟨c,e⟩:=ZoN (n:=s.heap.objs.size+1) k
   refine .inr ⟨.inl k,c,e,?_⟩;have q:=x.cell y c e;rw[Zmm ndP hp hu (by show scope.names.lookup y≠_; rw[k]; decide)]at q;exact q
 ·exact e0.hok.fresh (ZAx (x.above y c (Zz8 h)))
 ·unfold start
  show _=N.length;rw[ZyS,ZyA,Zzp];omega
theorem Zut{CX:CXT}{P:Program}{w:World}{K:Zyz}{mg:Str->Option Value}{base:Heap}{k:Nat}{f:Addr}{name qual:Str}{params:Arguments}{body:List Stmt}{scope:Scope}{dV kV doc pm cdv ct oc:Value}{an od:Option Addr}
  {osl:Array (Option Value)} {N ps:List Str} {sp:Sp} (lk:K.lookup f=some ⟨oc,od,.func (ZzV name qual params body scope dV kV doc pm an cdv ct),osl⟩) (hcd:ZAG K cdv qual=true) (S:Zv N ps scope)
  (len:∀vs H Q E,sp vs H Q E->vs.length=ps.length)
  (hbody:∀(A:Around) (outer:List Env) (s:Shared) (H:Hp) (vs:List V) (Q:VK) (E:XK),Zal k (A.deeper (envOfC qual scope s.heap.objs.size f cdv))->sp vs H Q E ->
   ∃t,PSs (Zgd CX P w K mg base N qual scope f cdv A outer s H E) body t/\t { nx:=λ_ H'=>Q .non H',rt:=Q } (start N vs) H) :
  Zdm P w K mg base CX (k+1) f (ZzV name qual params body scope dV kV doc pm an cdv ct) ps sp:=by
 refine⟨len,λA outer s H args us vs Q E hr e0 hb r hsp=>?_⟩;have hl:=len _ _ _ _ hsp;have KX:K.In s.heap:=e0.mod.kin.keeps λb o e=>(e0.bs b o e).1;have lim:s.heap.NoLimit:=e0.mod.nolimit.keeps λb o e=>(e0.bs b o e).1;have hkind:∀y∈ps.zip us,scope.names.lookup y.1=some .local\/(scope.names.lookup y.1=some .cell/\((cellsFrom (s.heap.objs.size+1) scope.names []).lookup y.1).isSome=true):=λ⟨n,v⟩ hy=>by
  rcases S.par n (ZC2 hy).1 with q | q
  ·exact .inl q
  ·exact .inr ⟨q,ZDa _ _ _ (.inl q)⟩
 refine codeAny_call_function hr.depth (KX _ _ lk) rfl S.co S.gen rfl (PySem.W.codeRec_of KX hcd) (hb _ _ _ _ ?_);refine wpAny_newFunctionEnv_cells S.kind hkind λenv he s1 x=>?_;subst he;refine⟨lim.keeps x.toInCall.keep,codeAny_func ?_⟩;obtain⟨t,ht,hq⟩:=hbody A outer s H vs Q E (hr.deeper _) hsp;have I:Inv (Zgd CX P w K mg base N qual scope f cdv A outer s H E) [] (start N vs) H s1:=Zsu S hr.hd e0 hl r x;refine ZzS (ht [] s1 (start N vs) H _ I hq) (λfl s' hs=>?_) λe s' hs=>hs;have fin:∀{σ':St} {H':Hp} {v:V} {u:Value},Inv (Zgd CX P w K mg base N qual scope f cdv A outer s H E) [] σ' H' s'->RelV v u->Q v H'->CE outer P w H s Q u s' :=
  λ{σ' H' v u} J rv q=>⟨v,H',J.os,J.bare,J.base,J.hok,rv,q⟩
 cases fl with
 | ret u=>obtain⟨v,σ',H',J,rv,q⟩:=hs;exact fin J rv q
 | next=>obtain⟨σ',H',J,q⟩:=hs;exact fin (v:=V.non) (u:=ZzC) J rfl q
 | brk=>obtain⟨_,_,_,q⟩:=hs;exact ZzD q
 | cont=>obtain⟨_,_,_,q⟩:=hs;exact ZzD q
end L2
namespace L2
open PySem PySem.Spec PyProof.Rows
section
variable{X:Cx}{x:Str}{p pos:Pos}{e:Expr}{es:List Expr}{t:TA}{id T:String}{r:List V->Hp->VK->Prop}
def tCB(r:List V->Hp->VK->Prop)(t:TA):TE:=λσ H Q=>t σ H λvs H1=>r vs H1 Q
theorem Zdo(hc:ZaU X (.builtin id) r)(hg:Gl X x)(hm:X.mg x=none)(hv:Zzz x=some (.builtin id))(ha:PA X (e::es) t)(hn:x ≠ "__name__":=by decide)(hdb:(x==("__debug__":Str))=false:=by decide)
  (he:ZyK (e::es) X.env=(false,eval e X.env)::ZyK es X.env:=by rfl) (hpl:(backTo pos (ZyK es X.env)).any (·.1)=false:=by rfl):PE X (.Call (.Name x p) (e::es) [] pos) (tCB r t):=by
 intro pins s σ H Q I h;refine ZAK (ZhB I hg hm hv ?_ hn hdb);exact PyProof.Rows.callWith_builtin1 (thn (ha pos pins s σ H _ I h) λus s1 ⟨vs,H1,I1,r1,q1⟩=>hc pins s1 σ H1 vs us Q I1 r1 q1) he hpl
theorem Zdp(hc:ZaU X (.type T) r)(hg:Gl X x)(hm:X.mg x=none)(hv:Zzz x=some (.type T))(ha:PA X (e::es) t)(hn:x ≠ "__name__":=by decide)(hdb:(x==("__debug__":Str))=false:=by decide)
  (he:ZyK (e::es) X.env=(false,eval e X.env)::ZyK es X.env:=by rfl) (hpl:(backTo pos (ZyK es X.env)).any (·.1)=false:=by rfl):PE X (.Call (.Name x p) (e::es) [] pos) (tCB r t):=by
 intro pins s σ H Q I h;refine ZAK (ZhB I hg hm hv ?_ hn hdb);exact ZBj (thn (ha pos pins s σ H _ I h) λus s1 ⟨vs,H1,I1,r1,q1⟩=>hc pins s1 σ H1 vs us Q I1 r1 q1) he hpl
end
end L2
namespace HT
set_option maxHeartbeats 8000000
open PySem PyProof.Rows
section
open PySem.SeqAt
open PySem.AutoSeq1 (wpAny_loadPart')
open PySem.MeetsSeq PySem.MeetsSeq2 PySem.MeetsSeq3
end
section
variable{prog:Program}{w:World}{A:Around}{E:Value->Shared->Prop}{s:Shared}
theorem Zvq{t b:Addr}{vs ws:List Value}{Q:Value->Shared->Prop}(ht:IsTup s.heap t vs.toArray)(hb:IsTup s.heap b ws.toArray)(hv:vs≠[])
  (h1:ws=[]->Q (.ref t) s) (h2:ws≠[]->Q (.ref s.heap.objs.size) { s with heap:=s.heap.push { cls:=.type "tuple",data:=.seq (vs++ws).toArray } })
  (hsz:vs.length+ws.length<=sizeLine):wpAny (model prog w) A (ZBc .Add (.ref t) (.ref b)) Q E s:=by
 obtain⟨⟨cls,dd,data,sl⟩,ho,hc,n,hd⟩:=id ht;obtain⟨⟨cls2,dd2,data2,sl2⟩,ho2,hc2,n2,hd2⟩:=id hb;simp only at hc hd hc2 hd2;subst hc hd hc2 hd2;have e:vs.toArray++ws.toArray=(vs++ws).toArray:=by simp
 by_cases hw:ws=[]
 ·exact concat_meets ⟨_,ho,rfl⟩ ⟨_,ho2,rfl⟩ ZCS seq_tuple_add ZBQ ZBI (ZBv _ _)
   (tuple_addW1 t b vs.toArray ws.toArray n n2 dd dd2 sl sl2 (by simpa using hv) (by simp[hw])) ⟨ho,ho2,h1 hw⟩
 ·refine concat_meets ⟨_,ho,rfl⟩ ⟨_,ho2,rfl⟩ ZCS seq_tuple_add ZBQ ZBI (ZBv _ _)
   (tuple_addW2 t b vs.toArray ws.toArray n n2 dd dd2 sl sl2 (by simpa using hv) (by simpa using hw) (by rw[ZyQ,ZyQ]; exact hsz)) ⟨ho,ho2,?_⟩
  rw[e];exact h2 hw
def sIx(n d:Nat):Option Int->Nat
 | none=>d
 | some v=>if v<0 then(v+(n:Int)).toNat else min v.toNat n
theorem ZwJ(n d:Nat)(hd:d<=n)(o:Option Int):sIx n d o<=n:=by
 cases o with
 | none=>exact hd
 | some v =>
  show(if v<0 then(v+(n:Int)).toNat else min v.toNat n)<=n
  by_cases hv:v<0
  ·rw[if_pos hv]; omega
  ·rw[if_neg hv]; exact Nat.min_le_right _ _
theorem Zqr(v:Int)(n d:Nat):(if v<0 then max (v+(n:Int)) 0 else min v (n:Int))=((sIx n d (some v):Nat):Int):=by
 show(if v<0 then max (v+(n:Int)) 0 else min v (n:Int))=(((if v<0 then(v+(n:Int)).toNat else min v.toNat n):Nat):Int)
 by_cases hv:v<0
 ·simp only[if_pos hv]; omega
 ·simp only[if_neg hv]; omega
theorem Zrf(lo hi:Option Int)(n:Nat):ZBq lo hi 1 (n:Int)=(((sIx n 0 lo:Nat):Int),((sIx n n hi:Nat):Int)):=by
 have h1:¬((1:Int)<0):=by omega
 unfold ZBq;simp only[h1,if_false];refine Prod.ext ?_ ?_
 ·cases lo with
  | none=>rfl
  | some v=>exact Zqr v n 0
 ·cases hi with
  | none=>rfl
  | some v=>exact Zqr v n n
theorem Zra(i j:Nat):ZAW (i:Int) (j:Int) 1=j-i:=by
 unfold ZAW;have h1:(1:Int) > 0:=by omega
 simp only[h1,if_true,Int.ediv_one];split<;>omega
theorem ZkY{v:Value}{o:Option Int}{Q:Option Int->Shared->Prop}(p:IsPart v o)(h:Q o s):wpAny (model prog w) A (Builtin.Slice.slicePartIndex v) Q E s:=by
 cases p with
 | none=>exact slicePart_none h
 | int i t=>exact slicePart_int h
theorem Zkf{sl:Addr}{vl vu:Value}{lo hi:Option Int}{n:Nat}{Q:Int × Int × Nat->Shared->Prop}(hs:s.heap.IsSliceOf sl vl vu .none)(pl:IsPart vl lo)(pu:IsPart vu hi)
  (h:Q (((sIx n 0 lo:Nat):Int),1,sIx n n hi-sIx n 0 lo) s):wpAny (model prog w) A (ZCv (.ref sl) (pure (n:Int))) Q E s:=by
 obtain⟨os,hos,hcs,hds⟩:=id hs;unfold ZCv Builtin.Slice.sliceFields;refine Zyy (Zyy (wpAny_field hos hds (x:=vl) rfl (Zyy (wpAny_field hos hds (x:=vu) rfl (Zyy (wpAny_field hos hds (x:=.none) rfl (ZyC ?_)))))));refine Zyy (slicePart_none ?_);show wpAny _ _ (if((1:Int)==0)=true then _ else _) _ _ s;rw[if_neg (by decide)];refine Zyy (ZkY pl (Zyy (ZkY pu (Zyy (ZyC ?_)))));show wpAny _ _ (match ZBq lo hi 1 (n:Int)with | (lo,hi)=>pure (lo,(1:Int),ZAW lo hi 1)) _ _ s;rw[Zrf lo hi n];show wpAny _ _ (pure (((sIx n 0 lo:Nat):Int),(1:Int),ZAW ((sIx n 0 lo:Nat):Int) ((sIx n n hi:Nat):Int) 1)) _ _ s;rw[Zra];exact ZyC h
theorem Ztq(xs:Array Value)(i k:Nat):((ZyF k).filterMap λ(m:Nat)=>xs[((i:Int)+(m:Int)*1).toNat]?).toArray=((xs.toList.drop i).take k).toArray:=by
 have e:(λ(m:Nat)=>xs[((i:Int)+(m:Int)*1).toNat]?)=λm=>xs[i+m]?:=by
  funext m
  have:((i:Int)+(m:Int)*1).toNat=i+m:=by omega
  rw[this]
 rw[e];have:=pick_run xs i k;rw[List.filterMap_map]at this;have e2:((λx=>xs[x]?)∘λx=>i+x)=λm=>xs[i+m]?:=rfl;rw[e2]at this;rw[this]
theorem ZjN{t sl:Addr}{items:Array Value}{vl vu:Value}{lo hi:Option Int}{Q:Value->Shared->Prop}(ht:IsTup s.heap t items)(hs:s.heap.IsSliceOf sl vl vu .none)(pl:IsPart vl lo)(pu:IsPart vu hi)
  (hw:¬(sIx items.size 0 lo=0/\sIx items.size items.size hi=items.size))
  (h:Q (.ref s.heap.objs.size) { s with heap:=s.heap.push { cls:=.type "tuple",data:=.seq ((items.toList.drop (sIx items.size 0 lo)).take (sIx items.size items.size hi-sIx items.size 0 lo)).toArray } })
  (hsz:items.size<=sizeLine):wpAny (model prog w) A (getItem (.ref t) (.ref sl)) Q E s:=by
 have htake:sizeOk (.seq ((items.toList.drop (sIx items.size 0 lo)).take (sIx items.size items.size hi-sIx items.size 0 lo)).toArray):=by show((items.toList.drop (sIx items.size 0 lo)).take (sIx items.size items.size hi-sIx items.size 0 lo)).toArray.size<=sizeLine;rw[ZyQ,ZzO,ZAr,Zy0];omega
 have hj:sIx items.size items.size hi<=items.size:=ZwJ _ _ (ZyI _) hi;obtain⟨os,hos,hcs,hds⟩:=id hs;have hTs:s.TypeIs (.ref sl) "slice":=⟨os,hos,hcs⟩;unfold getItem
 try with_reducible refine ZzF ?_
 first | refine Zyy (ZyC ?_) | skip
 refine Zyy (wpAny_sequenceKey ht.typeIs (by decide) ?_);refine Zyy (wpAny_callSpecial?_slot (name:=ZAL "__getitem__") ht.typeIs ZA4
  (ZzP ZA4 ht.typeIs entry_tuple_getitem ?_ (args_tuple_getitem _ _)))
 show wpAny _ _ (Builtin.Tuple.tupleItemsOf (.ref t) >>= _) _ _ s;refine Zyy (tupleItemsOf_ ht ?_);refine Zyy (wpAny_typeOf hTs ?_);rw[if_pos (by decide)];refine Zyy (Zkf hs pl pu ?_);have hno:¬((((sIx items.size 0 lo:Nat):Int)==0&&(1:Int)==1&&(sIx items.size items.size hi-sIx items.size 0 lo)==items.size)=true):=by intro q;rw[ZyT,ZyT]at q;have q1:((sIx items.size 0 lo:Nat):Int)=0:=eq_of_beq q.1.1;have q2:sIx items.size items.size hi-sIx items.size 0 lo=items.size:=eq_of_beq q.2;exact hw ⟨by omega,by omega⟩
 show wpAny _ _ (if(((sIx items.size 0 lo:Nat):Int)==0&&(1:Int)==1&&(sIx items.size items.size hi-sIx items.size 0 lo)==items.size)=true then _ else _) _ _ s;rw[if_neg hno,Ztq]
 first
  | exact Zyy (m:=ZAe _) (Zzi (ZyC ⟨_,rfl,ZyC h⟩) htake)
  | exact Zyy (m:=ZAe _) (Zzi (Zyy (ZyC (ZyC ⟨_,rfl,ZyC h⟩))) htake)
  | exact Zyy (Zyy (m:=ZAe _) (Zzi (ZyC (ZyC ⟨_,rfl,ZyC h⟩)) htake))
  | exact Zyy (Zyy (m:=ZAe _) (Zzi (ZyC ⟨_,rfl,ZyC h⟩) htake))
end
end HT
namespace L2
open PySem PySem.Spec PyProof.Rows
abbrev TO:=St->Hp->(Option Int->Hp->Prop)->Prop
def PO(X:Cx)(e:Option Expr)(t:TO):Prop :=
 ∀(pins:List (Addr × Obj)) (s:Shared) (σ:St) (H:Hp) (Q:Option Int->Hp->Prop),Inv X pins σ H s->t σ H Q ->
  wpAny (model X.prog X.w) X.A (evalPart e X.env) (λu s'=>∃o H',Inv X pins σ H' s'/\IsPart u o/\Q o H') X.xe s
def ZuX:TO:=λ_ H Q=>Q none H
def Zw9(t:TE):TO:=λσ H Q=>t σ H λx H1=>∃i,x=.int i/\Q (some i) H1
section
variable{X:Cx}{e:Expr}{te:TE}{lo hi:Option Expr}{tl th:TO}{pos p2:Pos}
theorem Zvi:PO X none ZuX:=by intro pins s σ H Q I h;rw[evalPart_none];exact ZyC ⟨none,H,I,.none,h⟩
theorem Zu8(h:PE X e te):PO X (some e) (Zw9 te):=by intro pins s σ H Q I hw;rw[evalPart_some];refine thn (h pins s σ H _ I hw) λu s1 ⟨x,H1,I1,r1,q1⟩=>?_;obtain⟨i,rfl,q⟩:=q1;obtain⟨t,rfl⟩:=r1;exact⟨some i,H1,I1,.int i t,q⟩
def SlR(X:Cx)(r:V->Option Int->Option Int->Hp->VK->Prop):Prop :=
 ∀(pins:List (Addr × Obj)) (s:Shared) (σ:St) (H:Hp) (x:V) (v vl vu:Value) (lo hi:Option Int) (sl:Addr) (Q:VK),Inv X pins σ H s->RelV x v->s.heap.IsSliceOf sl vl vu .none->IsPart vl lo->IsPart vu hi->r x lo hi H Q ->
  ∃T id,typeLookup (.type T) "__getitem__" = pure (some (.builtin id))/\s.TypeIs v T/\wpAny (model X.prog X.w) X.A (getItem v (.ref sl)) (EP X pins σ Q) X.xe s
def tSl(r:V->Option Int->Option Int->Hp->VK->Prop)(te:TE)(tl th:TO):TE:=λσ H Q=>te σ H λx H1=>tl σ H1 λl H2=>th σ H2 λu H3=>r x l u H3 Q
theorem Zoh{r:V->Option Int->Option Int->Hp->VK->Prop}(hr:SlR X r)(he:PE X e te)(hl:PO X lo tl)(hu:PO X hi th):PE X (.Subscript e (.Slice lo hi none p2) pos) (tSl r te tl th):=by intro pins s σ H Q I h;refine Subscript_ (thn (he pins s σ H _ I h) λv s1 ⟨x,H1,I1,r1,q1⟩=>?_);refine wpAny_Slice (thn (hl pins s1 σ H1 _ I1 q1) λvl s2 ⟨l,H2,I2,pl,q2⟩=>thn (hu pins s2 σ H2 _ I2 q2) λvu s3 ⟨u,H3,I3,pu,q3⟩=>?_);rw[evalPart_none];refine ZyC ?_;have I4:Inv X pins σ H3 { s3 with heap:=s3.heap.push { cls:=.type "slice",data:=.fields #[vl,vu,.none] } }:=I3.kept (t':=s3.toks) λb ob q=>ZyG _ q;obtain⟨T,id,hT,ht,hg⟩:=hr pins { s3 with heap:=s3.heap.push { cls:=.type "slice",data:=.fields #[vl,vu,.none] } } σ H3 x v vl vu l u s3.heap.objs.size Q I4 r1 (Heap.IsSliceOf.new ..) pl pu q3;show wpAny (model X.prog X.w) X.A (subscriptTail e (.Slice lo hi none p2) v (.ref s3.heap.objs.size)) (EP X pins σ Q) X.xe { s3 with heap:=s3.heap.push { cls:=.type "slice",data:=.fields #[vl,vu,.none] } };exact tail_any (ops:=[.ref s3.heap.objs.size,v]) ht hT hg (by with_unfolding_all rfl)
def Zhk(xs:List V)(lo hi:Option Int):List V:=(xs.drop (HT.sIx xs.length 0 lo)).take (HT.sIx xs.length xs.length hi-HT.sIx xs.length 0 lo)
theorem Zj2(xs:List V)(lo hi:Option Int):(Zhk xs lo hi).length<=xs.length:=by unfold Zhk;rw[ZzO,ZAr];omega
def Zyn(K:Zyz):V->Option Int->Option Int->Hp->VK->Prop:=λx lo hi H Q=>∃a xs,x=.ref a/\SqT K H a xs /\
 ¬(HT.sIx xs.length 0 lo=0/\HT.sIx xs.length xs.length hi=xs.length)/\∀p,H p=none->Q (.ref p) (upd H p (.tup (Zhk xs lo hi)))
theorem ZvI:SlR X (Zyn X.K):=by
 intro pins s σ H x v vl vu lo hi sl Q I rx hs pl pu h;obtain⟨a,xs,rfl,hx,hw,q⟩:=h;cases rx;obtain⟨its,r,ht,hz⟩:=I.tuple hx;have hlen:its.toArray.size=xs.length:=by rw[ZyQ]; exact r.length.symm
 refine⟨"tuple",_,ZA4.lookup,ht.typeIs,?_⟩;refine HT.ZjN ht hs pl pu (by rw[hlen]; exact hw) ?_ (by rw[hlen]; exact hz);rw[hlen];refine⟨.ref s.heap.objs.size,_,I.laid (t':=s.toks) (o:=.tup (Zhk xs lo hi)) (λb ob q=>ZyG _ q) (ZyI _) ?_,rfl,q _ (I.hok.fresh (ZyI _))⟩;exact⟨Zzl (Zj2 xs lo hi) hz,_,(r.drop (HT.sIx xs.length 0 lo)).take (HT.sIx xs.length xs.length hi-HT.sIx xs.length 0 lo),ZDA _ _⟩
def Zxd(K:Zyz):R2:=λx y H Q=>∃a b xs ys,x=.ref a/\y=.ref b/\SqT K H a xs/\SqT K H b ys/\xs≠[]/\xs.length+ys.length<=sizeLine /\
 (ys=[]->Q (.ref a) H)/\(ys≠[]->∀p,H p=none->Q (.ref p) (upd H p (.tup (xs++ys))))
theorem Vals.nil_iff{xs:List V}{us:List Value}(r:Vals xs us):us=[]↔xs=[]:=by
 cases r with
 | nil=>simp
 | cons _ _=>simp
theorem Zu2:OpR X (ZBc .Add) (Zxd X.K):=by intro pins s σ H x y v u Q I rx ry h;obtain⟨a,b,xs,ys,rfl,rfl,ha,hb,hx,hz,q1,q2⟩:=h;cases rx;cases ry;obtain⟨its,r1,p1,_⟩:=I.tuple ha;obtain⟨its2,r2,p2,_⟩:=I.tuple hb;refine HT.Zvq p1 p2 (λz=>hx (r1.nil_iff.mp z)) (λz=>⟨.ref a,H,I,rfl,q1 (r2.nil_iff.mp z)⟩) (λz=>?_) (by rw[<-r1.length,<-r2.length]; exact hz);refine⟨.ref s.heap.objs.size,_,I.laid (t':=s.toks) (o:=.tup (xs++ys)) (λb ob q=>ZyG _ q) (ZyI _) ?_,rfl,q2 (λw=>z (r2.nil_iff.mpr w)) _ (I.hok.fresh (ZyI _))⟩;exact⟨by rw[ZyS]; exact hz,_,r1.append r2,ZDA _ _⟩
end
end L2
namespace L2
open PySem PySem.Spec PyProof.Rows
def ixN(n:Nat)(i:Int):Option Nat:=if 0<=i then(if i<n then some i.toNat else none)else if -(n:Int)<=i then some (i+n).toNat else none
def atI{α:Type}(xs:List α)(i:Int):Option α:=(ixN xs.length i).bind λj=>xs[j]?
theorem Zp3{n:Nat}{i:Int}{j:Nat}(h:ixN n i=some j):seqIndex? i n=some j/\j<n/\-(n:Int)<=i/\i<n:=by
 unfold ixN at h
 by_cases h0:0<=i
 ·rw[if_pos h0]at h
  by_cases h1:i<n
  ·rw[if_pos h1]at h
   have e:i.toNat=j:=Zzw h;exact⟨by rw[seqIndex_of h0 h1,e],by omega,by omega,h1⟩
  ·rw[if_neg h1]at h; cases h
 ·rw[if_neg h0]at h
  by_cases h1:-(n:Int)<=i
  ·rw[if_pos h1]at h
   have e:(i+n).toNat=j:=Zzw h;exact⟨by rw[seqIndex_neg (by omega) h1,e],by omega,h1,by omega⟩
  ·rw[if_neg h1]at h; cases h
theorem ZlU{α:Type}{xs:List α}{i:Int}{v:α}(h:atI xs i=some v):∃j,seqIndex? i xs.length=some j/\xs[j]?=some v/\j<xs.length/\-(xs.length:Int)<=i/\i<xs.length:=by
 unfold atI at h;cases e:ixN xs.length i with
 | none=>rw[e]at h; cases h
 | some j=>rw[e]at h;obtain⟨h1,h2,h3,h4⟩:=Zp3 e;exact⟨j,h1,h,h2,h3,h4⟩
def Zqw(b:Expr):Prop:=∀o i,ZDb b false o i=operate [o,i] (getItem o i)
def IxR(X:Cx)(r:R2):Prop :=
 ∀(value slice:Expr) (pins:List (Addr × Obj)) (s:Shared) (σ:St) (H:Hp) (x y:V) (v u:Value) (Q:VK),Inv X pins σ H s->RelV x v->RelV y u->r x y H Q ->
  ZDb slice false v u=operate [v,u] (getItem v u)->wpAny (model X.prog X.w) X.A (subscriptTail value slice v u) (EP X pins σ Q) X.xe s
def MtR(X:Cx)(id:String)(r:V->List V->Hp->VK->Prop):Prop :=
 ∀(pins:List (Addr × Obj)) (s:Shared) (σ:St) (H:Hp) (x:V) (xs:List V) (v:Value) (us:List Value) (Q:VK),Inv X pins σ H s->RelV x v->Vals xs us->r x xs H Q ->
  wpAny (model X.prog X.w) X.A (call (.builtin id) (v::us)) (EP X pins σ Q) X.xe s
section
variable{X:Cx}{a b:Expr}{ta tb:TE}{pos:Pos}
theorem IxR.or{r r':R2}(h:IxR X r)(h':IxR X r'):IxR X (λx y H Q=>r x y H Q\/r' x y H Q):=by
 intro value slice pins s σ H x y v u Q I rx ry q hs;rcases q with q | q
 ·exact h value slice pins s σ H x y v u Q I rx ry q hs
 ·exact h' value slice pins s σ H x y v u Q I rx ry q hs
theorem Zxj{r:R2}(hr:IxR X r)(ha:PE X a ta)(hb:PE X b tb)(hs:Zqw b):PE X (.Subscript a b pos) (tOp r ta tb):=by intro pins s σ H Q I h;exact Subscript_ (ZtE ha hb I h λv u s2 x y H2 I2 rx ry q=>hr a b pins s2 σ H2 x y v u Q I2 rx ry q (hs _ _))
def ZvW(K:Zyz):R2:=λx y H Q=>∃p xs i v,x=.ref p/\y=.int i/\SqL K H p xs/\atI xs i=some v/\Q v H
def ZwU(K:Zyz):R2:=λx y H Q=>∃p xs i v,x=.ref p/\y=.int i/\SqT K H p xs/\atI xs i=some v/\Q v H
def ZwQ:R2:=λx y H Q=>∃z i c,x=.str z/\y=.int i/\z.length<=sizeLine/\atI z.cps.toList i=some c/\Q (.str ⟨#[c]⟩) H
theorem Zvd:IxR X (ZvW X.K):=by
 intro value slice pins s σ H x y v u Q I rx ry h hs;obtain⟨p,xs,i,z,rfl,rfl,hq,he,q⟩:=h;cases rx;obtain⟨t,rfl⟩:=ry;obtain⟨its,r,pl,hz⟩:=I.list hq;obtain⟨j,h1,h2,h3,h4,h5⟩:=ZlU he;obtain⟨w,ew,rw'⟩:=r.get h2;have hl:=r.length;have hn:=ZiT;have fin:EP X pins σ Q w s:=⟨z,H,I,rw',q⟩
 by_cases h0:0<=i
 ·have hj:i.toNat=j:=by
   rw[seqIndex_of h0 h5]at h1;exact Zzw h1
  exact item_listR pl.isList h0 (by omega) (by rw[hj]; simpa using ew) fin hs
 ·have hj:(i+(its.toArray.size:Int)).toNat=j:=by
   rw[seqIndex_neg (by omega) h4]at h1;rw[ZyQ,<-hl];exact Zzw h1
  exact subscriptTail_builtinR (x:=w) pl.isList.typeIs slot_list_getitem.lookup
   (wpAny_getItem_list_neg (Q:=λr s'=>r=w/\EP X pins σ Q r s') pl.isList (by omega) (by rw[ZyQ]<;>omega) (by omega) (by rw[hj]; simpa using ew) ⟨rfl,fin⟩) hs
theorem ZvU:IxR X (ZwU X.K):=by
 intro value slice pins s σ H x y v u Q I rx ry h hs;obtain⟨p,xs,i,z,rfl,rfl,hq,he,q⟩:=h;cases rx;obtain⟨t,rfl⟩:=ry;obtain⟨its,r,pl,hz⟩:=I.tuple hq;obtain⟨j,h1,h2,h3,h4,h5⟩:=ZlU he;obtain⟨w,ew,rw'⟩:=r.get h2;have hl:=r.length;have hn:=ZiT;have fin:EP X pins σ Q w s:=⟨z,H,I,rw',q⟩;exact subscriptTail_builtinR (x:=w) pl.typeIs slot_tuple_getitem.lookup
  (getItem_tuple (j:=j) (Q:=λr s'=>r=w/\EP X pins σ Q r s') pl (by omega) (by omega) (by rw[ZyQ,<-hl]; exact h1) (by simpa using ew) ⟨rfl,fin⟩) hs
theorem ZvL:IxR X ZwQ:=by
 intro value slice pins s σ H x y v u Q I rx ry h hs;obtain⟨z,i,c,rfl,rfl,hz,he,q⟩:=h;obtain⟨t,rfl⟩:=rx;obtain⟨t',rfl⟩:=ry;obtain⟨j,h1,h2,h3,h4,h5⟩:=ZlU he;have hl:z.cps.toList.length=z.length:=by simp[Str.length]
 rw[hl]at h1 h4 h5;have hn:=ZiT;exact tail_any (typeIs_str s z t) slot_str_getitem.lookup (getItem_str (c:=c) (by have e1:decide (i < -(2 ^ 63:Int))=false:=decide_eq_false (by omega);have e2:decide (i ≥ 2 ^ 63)=false:=decide_eq_false (by omega);rw[e1,e2,Bool.or_false]) (by rw[h1]; simpa using h2) ⟨.str ⟨#[c]⟩,H,I.tok _,⟨_,rfl⟩,q⟩) hs
def rIx(K:Zyz):R2:=λx y H Q=>ZvW K x y H Q\/ZwU K x y H Q\/ZwQ x y H Q
theorem Zwb:IxR X (rIx X.K):=Zvd.or (ZvU.or ZvL)
theorem Zq9(its:List Value)(n j:Nat)(u:Value):ZBC (·.setIfInBounds j u) { cls:=.type "list",data:=.seq its.toArray n }={ cls:=.type "list",data:=.seq (its.set j u).toArray n }:=by simp[ZBC]
theorem Inv.lst{pins:List (Addr × Obj)}{σ:St}{H:Hp}{s:Shared}{p:Addr}{xs:List V}(I:Inv X pins σ H s)(h:H p=some (.lst xs)) :
  ∃(its:List Value) (n:Nat),Vals xs its/\s.heap.get? p=some { cls:=.type "list",data:=.seq its.toArray n }/\xs.length<=sizeLine:=by
 obtain⟨z,its,n,r,e⟩:=I.hok p _ h;exact⟨its,n,r,e,z⟩
theorem Inv.lstUpd{pins:List (Addr × Obj)}{σ:St}{H:Hp}{s:Shared}{p:Addr}{xs ys:List V}{its its':List Value}{n n':Nat}{f:Obj->Obj}(I:Inv X pins σ H s)(h:H p=some (.lst xs))
  (ho:s.heap.get? p=some { cls:=.type "list",data:=.seq its.toArray n }) (hf:f { cls:=.type "list",data:=.seq its.toArray n }={ cls:=.type "list",data:=.seq its'.toArray n' }) (r:Vals ys its') (hz:ys.length<=sizeLine) (t:Nat) :
  Inv X pins σ (upd H p (.lst ys)) { s with heap:=s.heap.update p f,toks:=t }:=by
 have e:(s.heap.update p f).get? p=some { cls:=.type "list",data:=.seq its'.toArray n' }:=by rw[ZzK f ho (by rw[hf]<;>rfl),hf]
 refine I.write (x:=p) (e:=p) (by rw[h]; trivial) (.inl rfl) (λb u hb q=>(Zz1 _ _ (ZzB hb)).trans q) ⟨_,e⟩ ?_;exact⟨hz,its',n',r,e⟩
def Zxm:V->V->V->Hp->(Hp->Prop)->Prop:=λo i v H Q=>∃p xs k j,o=.ref p/\i=.int k/\H p=some (.lst xs)/\ixN xs.length k=some j/\Q (upd H p (.lst (xs.set j v)))
theorem set_list:ZvY X Zxm:=by
 intro pins s σ H o i v ov iv u Q I ro ri rv h;obtain⟨p,xs,k,j,rfl,rfl,hp,hj,q⟩:=h;cases ro;obtain⟨t,rfl⟩:=ri;obtain⟨its,n,r,ho,hz⟩:=I.lst hp;obtain⟨h1,h2,h3,h4⟩:=Zp3 hj;have hl:=r.length;have hn:=ZiT;have I':Inv X pins σ (upd H p (.lst (xs.set j v))) { s with heap:=s.heap.update p (ZBC (·.setIfInBounds j u)) } :=
  I.lstUpd hp ho (Zq9 its n j u) (r.set rv j) (by rw[ZzM]; exact hz) s.toks
 by_cases h0:0<=k
 ·have hk:k.toNat=j:=by
   rw[seqIndex_of h0 h4]at h1;exact Zzw h1
  exact PySem.W.ki_setAt ho h0 (by omega) (by rw[ZyQ,<-hl]; exact h4) (by rw[hk]; exact⟨_,I',q⟩)
 ·have hk:(k+(its.toArray.size:Int)).toNat=j:=by
   rw[seqIndex_neg (by omega) h3]at h1;rw[ZyQ,<-hl];exact Zzw h1
  exact PySem.W.ki_setBack ho (by omega) (by rw[ZyQ,<-hl]; exact h3) (by omega) (by rw[hk]; exact⟨_,I',q⟩)
theorem ZoF(lo hi:Option Int)(n:Nat):(ZBo lo hi none n).1=((HT.sIx n 0 lo:Nat):Int)/\(ZBo lo hi none n).2.1=((HT.sIx n n hi:Nat):Int)/\(ZBo lo hi none n).2.2=1:=by
 refine⟨?_,?_,rfl⟩
 ·cases lo with
  | none=>simp[ZBo,HT.sIx]
  | some i =>
   simp only[ZBo,HT.sIx,Option.getD_none,show(1:Int) > 0 by decide,if_true]
   by_cases h:i<0
   ·simp only[h,if_true]<;>omega
   ·simp only[h,if_false]<;>omega
 ·cases hi with
  | none=>simp[ZBo,HT.sIx]
  | some i =>
   simp only[ZBo,HT.sIx,Option.getD_none,show(1:Int) > 0 by decide,if_true]
   by_cases h:i<0
   ·simp only[h,if_true]<;>omega
   ·simp only[h,if_false]<;>omega
theorem ZmQ(its:List Value)(lo hi:Option Int):slicePick its.toArray lo hi none=((its.drop (HT.sIx its.length 0 lo)).take (HT.sIx its.length its.length hi-HT.sIx its.length 0 lo)).toArray:=by obtain⟨h1,h2,h3⟩:=ZoF lo hi its.toArray.size;unfold slicePick;rw[h1,h2,h3];simp only[sliceRange_one,pick_run,ZyQ]<;>rfl
def Zyi(K:Zyz):V->Option Int->Option Int->Hp->VK->Prop:=λx lo hi H Q=>∃a xs,x=.ref a/\SqL K H a xs/\∀p,H p=none->Q (.ref p) (upd H p (.lst (Zhk xs lo hi)))
theorem ZuO:SlR X (Zyi X.K):=by intro pins s σ H x v vl vu lo hi sl Q I rx hs pl pu h;obtain⟨a,xs,rfl,hx,q⟩:=h;cases rx;obtain⟨its,r,ht,hz⟩:=I.list hx;have hlen:=r.length;refine⟨"list",_,slot_list_getitem.lookup,ht.isList.typeIs,?_⟩;refine wpAny_getItem_list_slice ht.isList hs pl pu .none (by simp) ?_ (by rw[ZyQ]<;>omega);rw[ZmQ,<-hlen];refine⟨.ref s.heap.objs.size,_,I.laid (t':=s.toks) (o:=.lst (Zhk xs lo hi)) (λb ob q=>ZyG _ q) (ZyI _) ?_,rfl,q _ (I.hok.fresh (ZyI _))⟩;exact⟨Zzl (Zj2 xs lo hi) hz,_,0,(r.drop (HT.sIx xs.length 0 lo)).take (HT.sIx xs.length xs.length hi-HT.sIx xs.length 0 lo),ZyU _ rfl⟩
def Za7:V->Bool
 | .non=>true
 | .bl _=>true
 | .int _=>true
 | .str _=>true
 | _=>false
def eqV:V->V->Bool
 | .non,.non=>true
 | .bl a,.bl b=>a==b
 | .bl a,.int b=>(if a then 1 else 0)==b
 | .int a,.bl b=>a==(if b then 1 else 0)
 | .int a,.int b=>a==b
 | .str a,.str b=>a==b
 | _,_=>false
theorem Zw0{A:Around}{s:Shared}{y x:V}{u v:Value}(ry:RelV y u)(rx:RelV x v)(fy:Za7 y=true)(fx:Za7 x=true):SeqAt.EqAt A s u v (eqV y x):=by
 cases y with
 | non =>
  cases ry;cases x with
  | non=>cases rx; exact SeqAt.EqAt.same _
  | bl b=>cases rx; exact SeqAt.EqAt.none_bool b
  | int b=>obtain⟨t,rfl⟩:=rx; exact SeqAt.EqAt.none_int b t
  | str b=>obtain⟨t,rfl⟩:=rx; exact SeqAt.EqAt.none_str b t
  | _=>exact absurd (show false=true from fx) Zzj
 | bl a =>
  cases ry;cases x with
  | non=>cases rx; exact SeqAt.EqAt.bool_none a
  | bl b=>cases rx; exact SeqAt.EqAt.bool_bool a b
  | int b=>obtain⟨t,rfl⟩:=rx; exact SeqAt.EqAt.bool_int a b t
  | str b=>obtain⟨t,rfl⟩:=rx; exact SeqAt.EqAt.bool_str a b t
  | _=>exact absurd (show false=true from fx) Zzj
 | int a =>
  obtain⟨t',rfl⟩:=ry;cases x with
  | non=>cases rx; exact SeqAt.EqAt.int_none a t'
  | bl b=>cases rx; exact SeqAt.EqAt.int_bool a t' b
  | int b=>obtain⟨t,rfl⟩:=rx; exact SeqAt.EqAt.int_int a t' b t
  | str b=>obtain⟨t,rfl⟩:=rx; exact ZDx a t' b t
  | _=>exact absurd (show false=true from fx) Zzj
 | str a =>
  obtain⟨t',rfl⟩:=ry;cases x with
  | non=>cases rx; exact SeqAt.EqAt.str_none a t'
  | bl b=>cases rx; exact SeqAt.EqAt.str_bool a t' b
  | int b=>obtain⟨t,rfl⟩:=rx; exact ZDy a t' b t
  | str b=>obtain⟨t,rfl⟩:=rx; exact SeqAt.EqAt.str_str a t' b t
  | _=>exact absurd (show false=true from fx) Zzj
 | _=>exact absurd (show false=true from fy) Zzj
def eqU(x:V)(u:Value):Bool:=match u with
 | .none=>eqV .non x
 | .bool b=>eqV (.bl b) x
 | .int i _=>eqV (.int i) x
 | .str z _=>eqV (.str z) x
 | _=>false
theorem Zsk{x y:V}{u:Value}(r:RelV y u)(f:Za7 y=true):eqU x u=eqV y x:=by
 cases y with
 | non=>cases r; rfl
 | bl b=>cases r; rfl
 | int i=>obtain⟨t,rfl⟩:=r; rfl
 | str z=>obtain⟨t,rfl⟩:=r; rfl
 | _=>exact absurd (show false=true from f) Zzj
theorem Zhq{x:V}:∀{xs:List V} {us:List Value},Vals xs us->xs.all Za7=true->us.any (eqU x)=xs.any λy=>eqV y x
 | _,_,.nil,_=>rfl
 | y::xs,u::us,.cons r t,f=>by rw[ZzU,ZyT]at f;rw[ZAi,ZAi,Zsk r f.1,Zhq t f.2]
theorem Zgj{A:Around}{s:Shared}{x:V}{v:Value}(rx:RelV x v)(fx:Za7 x=true):∀{xs:List V} {us:List Value},Vals xs us->xs.all Za7=true->∀u∈us,SeqAt.EqAt A s u v (eqU x u)
 | _,_,.nil,_=>λu hu=>by cases hu
 | y::xs,u::us,.cons r t,f=>λu' hu=>by
  rw[ZzU,ZyT]at f;rcases ZyY.mp hu with rfl | hu
  ·rw[Zsk r f.1]; exact Zw0 r rx f.1 fx
  ·exact Zgj rx fx t f.2 u' hu
def inV(x:V)(xs:List V):Bool:=xs.any λy=>eqV y x
def rIn(K:Zyz)(neg:Bool):R2:=λx y H Q=>∃p xs,y=.ref p/\(SqL K H p xs\/SqT K H p xs)/\Za7 x=true/\xs.all Za7=true/\Q (.bl (if neg then !inV x xs else inV x xs)) H
theorem ZsD:OpR X (ZzJ .In) (rIn X.K false):=by
 intro pins s σ H x y v u Q I rx ry h;obtain⟨p,xs,rfl,hq,fx,fs,q⟩:=h;cases ry;rcases hq with hq | hq
 ·obtain⟨its,r,pl,hz⟩:=I.list hq
  refine SeqAt.in_listAt (eqU x) pl.isList (λw hw=>Zgj rx fx r fs w (by simpa using hw)) ⟨.bl _,H,I,rfl,?_⟩;rw[show its.toArray.any (eqU x)=its.any (eqU x) by simp,Zhq r fs];exact q
 ·obtain⟨its,r,pl,hz⟩:=I.tuple hq
  refine SeqAt.in_tupleAt (eqU x) pl (λw hw=>Zgj rx fx r fs w (by simpa using hw)) ⟨.bl _,H,I,rfl,?_⟩;rw[show its.toArray.any (eqU x)=its.any (eqU x) by simp,Zhq r fs];exact q
theorem ZoV:OpR X (ZzJ .NotIn) (rIn X.K true):=by
 intro pins s σ H x y v u Q I rx ry h;obtain⟨p,xs,rfl,hq,fx,fs,q⟩:=h;cases ry;rcases hq with hq | hq
 ·obtain⟨its,r,pl,hz⟩:=I.list hq
  refine SeqAt.notIn_listAt (eqU x) pl.isList (λw hw=>Zgj rx fx r fs w (by simpa using hw)) ⟨.bl _,H,I,rfl,?_⟩;rw[show its.toArray.any (eqU x)=its.any (eqU x) by simp,Zhq r fs];exact q
 ·obtain⟨its,r,pl,hz⟩:=I.tuple hq
  refine SeqAt.notIn_tupleAt (eqU x) pl (λw hw=>Zgj rx fx r fs w (by simpa using hw)) ⟨.bl _,H,I,rfl,?_⟩;rw[show its.toArray.any (eqU x)=its.any (eqU x) by simp,Zhq r fs];exact q
theorem ZoZ:ZaU X (.builtin "len") (λxs H Q=>∃p ys,xs=[.ref p]/\(SqL X.K H p ys\/SqT X.K H p ys)/\Q (.int ys.length) H):=by
 intro pins s σ H xs us Q I r h;obtain⟨p,ys,rfl,hq,q⟩:=h;obtain⟨u,rfl,rx⟩:=vals1 r;cases rx;have hn:=ZiT;rcases hq with hq | hq
 ·obtain⟨its,r',pl,hz⟩:=I.list hq
  have hlen:=r'.length;exact Calls.call_len_list pl.isList (by simp only[ZyQ]<;>omega) ⟨.int ys.length,H,I.tok _,⟨s.toks+1,by rw[ZyQ,hlen]⟩,q⟩
 ·obtain⟨its,r',pl,hz⟩:=I.tuple hq
  have hlen:=r'.length;exact len_tuple pl (by simp only[ZyQ]<;>omega) ⟨.int ys.length,H,I.tok _,⟨s.toks+1,by rw[ZyQ,hlen]⟩,q⟩
theorem ZaU.or{f:Value}{r r':List V->Hp->VK->Prop}(h:ZaU X f r)(h':ZaU X f r'):ZaU X f (λxs H Q=>r xs H Q\/r' xs H Q):=by
 intro pins s σ H xs us Q I rs q;rcases q with q | q
 ·exact h pins s σ H xs us Q I rs q
 ·exact h' pins s σ H xs us Q I rs q
theorem Zoy:ZaU X (.type "list") (λxs H Q=>∃p ys,xs=[.ref p]/\(SqL X.K H p ys\/SqT X.K H p ys)/\∀l,H l=none->Q (.ref l) (upd H l (.lst ys))):=by
 intro pins s σ H xs us Q I r h;obtain⟨p,ys,rfl,hq,q⟩:=h;obtain⟨u,rfl,rx⟩:=vals1 r;cases rx;have fin:∀(its:List Value),Vals ys its->ys.length<=sizeLine->∀(h':Heap) (c':Nat),(∀b o',s.heap.get? b=some o'->h'.get? b=some o') ->
   h'.get? s.heap.objs.size=some { cls:=.type "list",dict:=none,data:=.seq its.toArray c',slots:=#[] }->EP X pins σ Q (.ref s.heap.objs.size) { s with heap:=h' }:=λits r' hz h' c' kp e =>
  ⟨.ref s.heap.objs.size,_,I.laid (t':=s.toks) kp (ZyI _) (show Zab X.prog X.w _ h' _ (.lst ys) from⟨hz,its,c',r',e⟩),rfl,q _ (I.hok.fresh (ZyI _))⟩
 rcases hq with hq | hq
 ·obtain⟨its,r',pl,hz⟩:=I.list hq
  have hlen:=r'.length;obtain⟨o,ho,hc,n,hd⟩:=pl.isList;exact call_list_seq p (.inl rfl) ho hc hd (λh' c' kp e=>fin its r' hz h' c' kp e) (by simp only[ZyQ]<;>omega)
 ·obtain⟨its,r',pl,hz⟩:=I.tuple hq
  have hlen:=r'.length;obtain⟨o,ho,hc,n,hd⟩:=pl;exact call_list_seq p (.inr rfl) ho hc hd (λh' c' kp e=>fin its r' hz h' c' kp e) (by simp only[ZyQ]<;>omega)
theorem ZmV:ZaU X (.type "tuple") (λxs H Q=>∃p ys,xs=[.ref p]/\((SqL X.K H p ys/\∀l,H l=none->Q (.ref l) (upd H l (.tup ys)))\/(SqT X.K H p ys/\Q (.ref p) H))):=by
 intro pins s σ H xs us Q I r h;obtain⟨p,ys,rfl,h⟩:=h;obtain⟨u,rfl,rx⟩:=vals1 r;cases rx;rcases h with⟨hq,q⟩ | ⟨hq,q⟩
 ·obtain⟨its,r',pl,hz⟩:=I.list hq
  have hlen:=r'.length;refine call_tuple_list pl.isList (λh' kp=>?_) (by simp only[ZyQ]<;>omega);have I1:Inv X pins σ H { s with heap:=h' }:=I.kept (t':=s.toks) kp;have I2:Inv X pins σ (upd H h'.objs.size (.tup ys)) { s with heap:=h'.push { cls:=.type "tuple",data:=.seq its.toArray } } :=
   I1.laid (t':=s.toks) (λb o e=>ZyG _ e) (ZyI _) (show Zab X.prog X.w _ _ _ (.tup ys) from⟨hz,its,r',ZDA _ _⟩)
  exact⟨.ref h'.objs.size,_,I2,rfl,q _ (I1.hok.fresh (ZyI _))⟩
 ·obtain⟨its,r',pl,hz⟩:=I.tuple hq
  exact call_tuple_same pl ⟨.ref p,H,I,rfl,q⟩
def tyV(K:Zyz)(T:String)(x:V)(H:Hp):Prop:=match x with
 | .str _=>T = "str"
 | .int _=>T = "int"
 | .ref p=>(T = "list"/\∃xs,SqL K H p xs)\/(T = "tuple"/\∃o,K.lookup p=some o/\o.cls=.type "tuple"/\o.dict=none) \/
   (T = "dict"/\((∃kvs,H p=some (.dK kvs))\/∃kvs,H p=some (.dT kvs)))\/(T = "set"/\∃S n,H p=some (.set S n))
 | _=>False
theorem ZrM{pins:List (Addr × Obj)}{σ:St}{H:Hp}{s:Shared}{T:String}{x:V}{v:Value}(I:Inv X pins σ H s)(r:RelV x v)(ty:tyV X.K T x H) :
  s.TypeIs v T/\∀a,v=.ref a->∃ob,s.heap.get? a=some ob/\ob.dict=none:=by
 cases x with
 | str z=>obtain⟨t,rfl⟩:=r;cases(show T = "str" from ty);exact⟨typeIs_str s z t,λ_ e=>nomatch e⟩
 | int i=>obtain⟨t,rfl⟩:=r;cases(show T = "int" from ty);exact⟨typeIs_int s i t,λ_ e=>nomatch e⟩
 | ref p =>
  cases r;rcases ty with⟨rfl,xs,hq⟩ | ⟨rfl,o,hk,hc,hd⟩ | ⟨rfl,hk⟩ | ⟨rfl,S,n,hk⟩
  ·obtain⟨its,_,pl,_⟩:=I.list hq
   refine⟨pl.isList.typeIs,λa e=>?_⟩;cases e;obtain⟨o,n,e,c,hd,_⟩:=pl;exact⟨o,e,hd⟩
  ·refine⟨⟨o,I.kIn p o hk,hc⟩,λa e=>?_⟩
   cases e;exact⟨o,I.kIn _ o hk,hd⟩
  ·have z:∃o,s.heap.get? p=some o/\o.ExactDict:=by
    rcases hk with⟨kvs,hk⟩ | ⟨kvs,hk⟩
    ·obtain⟨_,_,_,_,o,_,_,e,ex,_⟩:=I.hok p _ hk
     exact⟨o,e,ex⟩
    ·obtain⟨_,_,_,_,o,_,_,e,ex,_⟩:=I.hok p _ hk
     exact⟨o,e,ex⟩
   obtain⟨o,e,ex⟩:=z;refine⟨⟨o,e,ex.1⟩,λa e2=>?_⟩;cases e2;exact⟨o,e,ex.2.1⟩
  ·obtain⟨o,_,_,_,e,ex,_⟩:=I.hok p _ hk
   refine⟨⟨o,e,ex.1⟩,λa e2=>?_⟩;cases e2;exact⟨o,e,ex.2.1⟩
 | _=>exact ZzD ty
def Zyc(K:Zyz)(T:String)(r:V->List V->Hp->VK->Prop)(to:TE):TE:=λσ H Q=>to σ H λx H1=>tyV K T x H1/\r x [] H1 Q
def tBM(K:Zyz)(T:String)(r:V->List V->Hp->VK->Prop)(to:TE)(t:TA):TE:=λσ H Q=>to σ H λx H1=>tyV K T x H1/\t σ H1 λxs H2=>r x xs H2 Q
variable{o e:Expr}{es:List Expr}{to:TE}{t:TA}{name:Str}{apos cpos:Pos}{T id:String}{r:V->List V->Hp->VK->Prop}
theorem ZvO(pa:PlainAttrs T)(slot:Slot T name id)(hty:typeOf (.builtin id)=pure (.type "method_descriptor"))(hm:MtR X id r)(ho:PE X o to)
  (hbase:ZAQ o name X.env (eval o X.env)=eval o X.env:=by rfl) (hline:(apos.endLine==cpos.line)=true:=by rfl):PE X (.Call (.Attribute o name apos) [] [] cpos) (Zyc X.K T r to):=by
 intro pins s σ H Q I h;refine wpAny_Call_method0_late hbase hline (thn (ho pins s σ H _ I h) λv s1 ⟨x,H1,I1,r1,ty,q1⟩=>?_);obtain⟨h1,h2⟩:=ZrM I1 r1 ty;exact⟨T,id,pa,slot,hty,h1,h2,ZBd rfl (PySem.evalArgs_none (hm pins s1 σ H1 x [] v [] Q I1 r1 .nil q1))⟩
theorem Zm2(pa:PlainAttrs T)(slot:Slot T name id)(hty:typeOf (.builtin id)=pure (.type "method_descriptor"))(hm:MtR X id r)(ho:PE X o to)(ha:PA X (e::es) t)
  (hbase:ZAQ o name X.env (eval o X.env)=eval o X.env:=by rfl)
  (hfew:((backTo cpos (ZyK (e::es) X.env)).all (λx=>!x.1)&&(ZCT cpos (ZBR [] X.env)).all (λx=>x.1.isSome)
   && decide ((e::es).length+([]:List Keyword).length+(if([]:List Keyword).isEmpty then 0 else 1)<30))=true:=by rfl)
  (hline:(apos.endLine==cpos.line)=true:=by rfl) (hs:ZyK (e::es) X.env=(false,eval e X.env)::ZyK es X.env:=by rfl) (hplain:(backTo cpos (ZyK es X.env)).any (·.1)=false:=by rfl) :
  PE X (.Call (.Attribute o name apos) (e::es) [] cpos) (tBM X.K T r to t):=by
 intro pins s σ H Q I h;refine wpAny_Call_method_late hbase hfew hline rfl (thn (ho pins s σ H _ I h) λv s1 ⟨x,H1,I1,r1,ty,q1⟩=>?_);obtain⟨h1,h2⟩:=ZrM I1 r1 ty;refine⟨T,id,pa,slot,hty,h1,h2,?_⟩;have hA:=ha cpos pins s1 σ H1 _ I1 q1;rw[hs]at hA ⊢;refine ZBd (by show(false||(backTo cpos (ZyK es X.env)).any (·.1))=false; rw[hplain]<;>rfl) (ZB7 ?_);exact thn hA λus s2 ⟨vs,H2,I2,r2,q2⟩=>hm pins s2 σ H2 x vs v us Q I2 r1 r2 q2
end
end L2
namespace L2
open PySem PySem.Spec PyProof.Rows
def MtM(X:Cx)(id:String)(r:V->List V->Hp->VK->Prop):Prop :=
 ∀(pins:List (Addr × Obj)) (s:Shared) (σ:St) (H:Hp) (x:V) (xs:List V) (v:Value) (us:List Value) (Q:VK),Inv X pins σ H s->RelV x v->Vals xs us->r x xs H Q ->
  wpAny (model X.prog X.w) X.A (call (.builtin id) (v::us)) (EP X pins σ Q) X.xe s
theorem Vals.one:∀{x:V} {us:List Value},Vals [x] us->∃u,us=[u]/\RelV x u
 | _,_,.cons r .nil=>⟨_,rfl,r⟩
theorem Vals.zero:∀{us:List Value},Vals [] us->us=[]
 | _,.nil=>rfl
theorem Vals.dropLast{xs:List V}{us:List Value}(h:Vals xs us):Vals xs.dropLast us.dropLast:=by
 induction h with
 | nil=>exact .nil
 | cons r t ih =>
  cases t with
  | nil=>exact .nil
  | cons q t'=>exact .cons r ih
theorem Vals.rep{xs:List V}{us:List Value}(h:Vals xs us):∀k:Nat,Vals (Zy8 k xs).flatten (Zy8 k us).flatten
 | 0=>.nil
 | k+1=>by rw[ZAo,ZAo,ZAT,ZAT];exact Vals.append h (Vals.rep h k)
theorem Zq3{α:Type}(l:List α):l.eraseIdx (l.length-1)=l.dropLast:=by
 induction l with
 | nil=>rfl
 | cons a r ih =>
  cases r with
  | nil=>rfl
  | cons b r =>
   have e:(a::b::r).length-1=((b::r).length-1)+1:=by have h1:(a::b::r).length=r.length+2:=rfl;have h2:(b::r).length=r.length+1:=rfl;omega
   rw[e,List.eraseIdx_cons_succ,ih]
   all_goals rfl
theorem foldl_rep(its:List Value):∀(k:Nat) (acc:List Value),
  List.foldl (λx1 x2=>x1++x2) acc.toArray (Zy8 k its.toArray)=(acc++(Zy8 k its).flatten).toArray
 | 0,acc=>by simp
 | k+1,acc=>by
  have e:acc.toArray++its.toArray=(acc++its).toArray:=by simp
  have e2:(acc++its)++(Zy8 k its).flatten=acc++(Zy8 (k+1) its).flatten:=by rw[ZAo,ZAT,ZzT]
  rw[<-e2,<-foldl_rep its k (acc++its),<-e,ZAo,ZzG]
section
variable{X:Cx}{pins:List (Addr × Obj)}{σ:St}{H:Hp}{s:Shared}{l b:Addr}{xs ys zs:List V}
theorem Inv.lset{its its':List Value}{n:Nat}{f:Array Value->Array Value}{t':Nat}(I:Inv X pins σ H s)(hH:H l=some (.lst xs))
  (e:s.heap.get? l=some { cls:=.type "list",data:=.seq its.toArray n }) (hf:f its.toArray=its'.toArray) (hv:Vals ys its') (hz:ys.length<=sizeLine) :
  Inv X pins σ (upd H l (.lst ys)) { s with heap:=s.heap.update l (ZBC f),toks:=t' }:=by
 have q:=PySem.IsL.update e f;rw[hf]at q;refine I.write (x:=l) (e:=l) (by rw[hH]; exact trivial) (.inl rfl) (λb' u hb hu=>(Zz1 s.heap (ZBC f) (ZzB hb)).trans hu) ⟨_,q⟩ ?_;exact⟨hz,its',_,hv,q⟩
theorem Inv.lnew{its:List Value}{t':Nat}(I:Inv X pins σ H s)(hv:Vals ys its)(hz:ys.length<=sizeLine) :
  Inv X pins σ (upd H s.heap.objs.size (.lst ys)) { s with heap:=s.heap.push { cls:=.type "list",data:=.seq its.toArray },toks:=t' } :=
 I.laid (λ_ _ q=>ZyG _ q) (ZyI _) ⟨hz,its,0,hv,ZyU _ rfl⟩
theorem Inv.fresh(I:Inv X pins σ H s):H s.heap.objs.size=none:=I.hok.fresh (ZyI _)
theorem Inv.lstM(I:Inv X pins σ H s)(hH:H l=some (.lst xs)):xs.length<=sizeLine/\∃(its:List Value) (n:Nat),Vals xs its/\xs.length=its.length/\s.heap.get? l=some { cls:=.type "list",data:=.seq its.toArray n }:=by obtain⟨z,its,n,r,e⟩:=I.hok l _ hH;exact⟨z,its,n,r,r.length,e⟩
theorem ZoJ{n:Nat}(h:n<=sizeLine):ZAY n=false:=by unfold ZAY;exact decide_eq_false (by omega)
end
section
variable{X:Cx}
def Zp7:V->List V->Hp->VK->Prop:=λx vs H Q=>∃l xs y,x=.ref l/\vs=[y]/\H l=some (.lst xs)/\xs.length<sizeLine/\Q .non (upd H l (.lst (xs++[y])))
theorem ZgK:MtM X "list.append" Zp7:=by intro pins s σ H x vs v us Q I rx rv h;obtain⟨l,xs,y,rfl,rfl,hH,hz,q⟩:=h;cases rx;obtain⟨u,rfl,ru⟩:=rv.one;obtain⟨z,its,n,r,hl,e⟩:=I.lstM hH;refine ZCL F.slot_list_append ⟨_,e,rfl⟩ F.entry_list_append (F.args_list_append_2 _ _) (PySem.list_append l its.toArray n u (by rw[ZyQ]; omega)) ⟨e,?_⟩;refine⟨.non,_,I.lset (its':=its++[u]) hH e (by simp) (r.append (.cons ru .nil)) ?_,rfl,q⟩;rw[ZyS,ZzW];omega
def ZuM:V->List V->Hp->VK->Prop:=λx vs H Q=>∃l b xs zs,x=.ref l/\vs=[.ref b]/\H l=some (.lst xs)/\H b=some (.lst zs)/\xs.length+zs.length<=sizeLine/\Q .non (upd H l (.lst (xs++zs)))
theorem ZsM:MtM X "list.extend" ZuM:=by
 intro pins s σ H x vs v us Q I rx rv h;obtain⟨l,b,xs,zs,rfl,rfl,hH,hB,hz,q⟩:=h;cases rx;obtain⟨u,rfl,ru⟩:=rv.one;cases ru;obtain⟨z,its,n,r,hl,e⟩:=I.lstM hH;obtain⟨z2,its2,n2,r2,hl2,e2⟩:=I.lstM hB;have hsz:its.toArray.size+its2.toArray.size<=sizeLine:=by rw[ZyQ,ZyQ]; omega
 have hlong:¬(!its.toArray.isEmpty&&ZAY (its.toArray.size+its2.toArray.size))=true:=by rw[ZoJ hsz,Bool.and_false];exact Zzj
 refine ZCL F.slot_list_extend ⟨_,e,rfl⟩ F.entry_list_extend (F.args_list_extend_2 _ _)
  (AutoSeq1.list_extend_list_list_0 l its.toArray n b its2.toArray n2 hlong (by rw[ZyQ]; omega) (by omega)) ⟨e,e2,?_⟩
 refine⟨.non,_,I.lset (its':=its++its2) hH e (by simp) (r.append r2) ?_,rfl,q⟩;rw[ZyS];omega
def Zya:V->List V->Hp->VK->Prop:=λx vs H Q=>∃l xs y,x=.ref l/\vs=[]/\H l=some (.lst xs)/\xs[xs.length-1]?=some y/\Q y (upd H l (.lst xs.dropLast))
theorem ZvQ:MtM X "list.pop" Zya:=by
 intro pins s σ H x vs v us Q I rx rv h;obtain⟨l,xs,y,rfl,rfl,hH,hy,q⟩:=h;cases rx;have hus:=rv.zero;subst hus;obtain⟨z,its,n,r,hl,e⟩:=I.lstM hH;obtain⟨u,hu,ru⟩:=r.get hy;have hy':its.toArray[its.toArray.size-1]?=some u:=by show its.toArray[its.length-1]?=some u;rw[<-Zzt,<-hl];exact hu
 refine ZCL F.slot_list_pop ⟨_,e,rfl⟩ F.entry_list_pop (F.args_list_pop_1 _) (MeetsSeq.list_pop_last l its.toArray n u hy' (by rw[ZyQ]; omega)) ⟨e,?_⟩;refine⟨y,_,I.lset (its':=its.dropLast) hH e ?_ r.dropLast ?_,ru,q⟩
 ·show its.toArray.eraseIdxIfInBounds (its.toArray.size-1)=its.dropLast.toArray
  rw[ZyQ,List.eraseIdxIfInBounds_toArray,Zq3]
 ·rw[List.length_dropLast]
  omega
def Zx8:R2:=λx y H Q=>∃l b xs zs,x=.ref l/\y=.ref b/\H l=some (.lst xs)/\H b=some (.lst zs)/\xs.length+zs.length<=sizeLine/\∀p,H p=none->Q (.ref p) (upd H p (.lst (xs++zs)))
theorem Zv7:OpR X (ZBc .Add) Zx8:=by
 intro pins s σ H x y v u Q I rx ry h;obtain⟨l,b,xs,zs,rfl,rfl,hH,hB,hz,q⟩:=h;cases rx;cases ry;obtain⟨z,its,n,r,hl,e⟩:=I.lstM hH;obtain⟨z2,its2,n2,r2,hl2,e2⟩:=I.lstM hB;refine PySem.P.add_list e e2 ?_ (by rw[ZyQ,ZyQ]; omega);have ea:its.toArray++its2.toArray=(its++its2).toArray:=by simp
 rw[ea];exact⟨.ref _,_,I.lnew (t':=s.toks) (r.append r2) (by rw[ZyS]; omega),rfl,q _ I.fresh⟩
def ZxT:R2:=λx y H Q=>∃l k xs,x=.ref l/\y=.int k/\H l=some (.lst xs)/\-(2 ^ 63)<=k/\k<2 ^ 63/\xs.length*k.toNat<=sizeLine /\
 ∀p,H p=none->Q (.ref p) (upd H p (.lst (Zy8 k.toNat xs).flatten))
theorem len_rep{α:Type}(xs:List α)(k:Nat):(Zy8 k xs).flatten.length=k*xs.length:=by
 induction k with
 | zero=>simp
 | succ k ih=>rw[ZAo,ZAT,ZyS,ih,Nat.succ_mul,Nat.add_comm]
theorem ZwI:OpR X (ZBc .Mult) ZxT:=by
 intro pins s σ H x y v u Q I rx ry h;obtain⟨l,k,xs,rfl,rfl,hH,h1,h2,hz,q⟩:=h;cases rx;obtain⟨t,rfl⟩:=ry;obtain⟨z,its,n,r,hl,e⟩:=I.lstM hH;have hlen:its.toArray.size*k.toNat<=sizeLine:=by rw[ZyQ,<-hl]; exact hz
 have hcap:¬its.toArray.size*k.toNat > (2 ^ 63-1) / 8:=by
  have:(sizeLine:Nat)<=(2 ^ 63-1) / 8:=by decide
  omega
 have hfit:¬(!Builtin.List.listFitsIndex k)=true:=by rw[fitsIndex_both h1 h2];exact Zzj
 have hlong:¬ZAY (its.toArray.size*k.toNat)=true:=by rw[ZoJ hlen];exact Zzj
 have hnew:List.foldl (λx1 x2=>x1++x2) #[] (Zy8 (if its.toArray.isEmpty=true then 0 else k.toNat) its.toArray)=(Zy8 k.toNat its).flatten.toArray:=by
  have f0:∀m:Nat,List.foldl (λx1 x2=>x1++x2) #[] (Zy8 m its.toArray)=(Zy8 m its).flatten.toArray:=λm=>by have:=foldl_rep its m [];rw[ZAz]at this;exact this
  rw[f0];cases its with
  | nil=>simp
  | cons a r'=>rw[if_neg (by simp)]
 refine wpAny_binaryOp_repeat_ref (T:="list") (U:="int") (by decide) ⟨_,e,rfl⟩ (λs'=>typeIs_int s' k t) noFill_list_mul F.fills_int_mul F.slot_int_rmul repeat_list F.slot_int_index.lookup
  (ZCL F.slot_int_rmul (typeIs_int s k t) F.entry_int_rmul (F.args_int_rmul_2 _ _) (int___rmul___int_list k t l its.toArray n)
   ⟨e,rfl,⟨_,e,rfl⟩,ZCL F.slot_list_mul ⟨_,e,rfl⟩ F.entry_list_mul (F.args_list_mul_2 _ _) (AutoListH.list___mul___list_int_3 l its.toArray n k t hfit hcap hlong) ⟨e,?_⟩⟩)
 rw[hnew];exact⟨.ref _,_,I.lnew (t':=s.toks) (r.rep k.toNat) (by rw[len_rep,Nat.mul_comm]; exact hz),rfl,q _ I.fresh⟩
end
end L2
namespace L2
open PySem PySem.Spec PyProof.Rows
section
variable{κ:Type}[DecidableEq κ]
def ZaL(kvs:List (κ × V))(k:κ):Option V:=(kvs.find? λkv=>decide (kv.1=k)).map (·.2)
def putK(kvs:List (κ × V))(k:κ)(v:V):List (κ × V) :=
 if(kvs.any λkv=>decide (kv.1=k))=true then kvs.map (λkv=>if kv.1=k then(kv.1,v)else kv)else kvs++[(k,v)]
theorem ZdW{p:κ × V}{r:List (κ × V)}{k:κ}(e:p.1=k):ZaL (p::r) k=some p.2:=by simp[ZaL,Zzy,e]
theorem ZdX{p:κ × V}{r:List (κ × V)}{k:κ}(e:¬p.1=k):ZaL (p::r) k=ZaL r k:=by simp[ZaL,Zzy,e]
theorem Zh6(k:κ):∀kvs:List (κ × V),(kvs.any λkv=>decide (kv.1=k))=(ZaL kvs k).isSome
 | []=>rfl
 | p::r=>by
  rw[ZAi]
  by_cases e:p.1=k
  ·simp only[ZdW e,decide_eq_true e,Bool.true_or,Option.isSome_some]
  ·rw[ZdX e,decide_eq_false e,ZCw]; exact Zh6 k r
theorem Zg9(kvs:List (κ × V))(k:κ)(v:V):(putK kvs k v).length<=kvs.length+1:=by
 unfold putK;split
 ·rw[ZyA]; omega
 ·rw[ZyS,ZyP,ZC3]; omega
theorem Zfo.isSome_eq{o:Option V}{u:Option Value}(r:Zfo o u):o.isSome=u.isSome:=by
 cases o with
 | none=>cases u with
  | none=>rfl
  | some _=>exact(show False from r).elim
 | some _=>cases u with
  | none=>exact(show False from r).elim
  | some _=>rfl
theorem Zfo.getD{o:Option V}{u:Option Value}{d:V}{d':Value}(r:Zfo o u)(rd:RelV d d'):RelV (o.getD d) (u.getD d'):=by
 cases o with
 | none=>cases u with
  | none=>exact rd
  | some _=>exact(show False from r).elim
 | some _=>cases u with
  | none=>exact(show False from r).elim
  | some _=>exact r
theorem KV.val{kvs:List (κ × V)}{vs:List (κ × Value)}(r:KV kvs vs)(k:κ):Zfo (ZaL kvs k) (valueAt vs k):=by
 unfold KV at r
 induction r with
 | nil=>exact ZBD
 | @cons p q ps qs h t ih =>
  obtain⟨h1,h2⟩:=h
  by_cases e:p.1=k
  ·have e':q.1=k:=h1.symm.trans e
   have b:valueAt (q::qs) k=some q.2:=by simp[valueAt,Zzy,e']
   rw[ZdW e,b]; exact h2
  ·have e':¬q.1=k:=λz=>e (h1.trans z)
   have b:valueAt (q::qs) k=valueAt qs k:=by simp[valueAt,Zzy,e']
   rw[ZdX e,b]; exact ih
theorem KV.any{kvs:List (κ × V)}{vs:List (κ × Value)}(r:KV kvs vs)(k:κ):(kvs.any λkv=>decide (kv.1=k))=vs.any λkv=>decide (kv.1=k):=by
 unfold KV at r
 induction r with
 | nil=>rfl
 | cons h t ih=>rw[ZAi,ZAi,ih,h.1]
theorem KV.repl{kvs:List (κ × V)}{vs:List (κ × Value)}(r:KV kvs vs)(k:κ){y:V}{u:Value}(ry:RelV y u) :
  KV (kvs.map λkv=>if kv.1=k then(kv.1,y)else kv) (vs.map λkv=>if kv.1=k then(kv.1,u)else kv):=by
 unfold KV at r ⊢
 induction r with
 | nil=>exact .nil
 | @cons p q ps qs h t ih =>
  rw[ZyH,ZyH];refine .cons ?_ ih;obtain⟨h1,h2⟩:=h
  by_cases e:p.1=k
  ·rw[if_pos e,if_pos (h1.symm.trans e)]; exact⟨h1,ry⟩
  ·rw[if_neg e,if_neg (λz=>e (h1.trans z))]; exact⟨h1,h2⟩
theorem KV.put{kvs:List (κ × V)}{vs:List (κ × Value)}(r:KV kvs vs)(k:κ){y:V}{u:Value}(ry:RelV y u):KV (putK kvs k y) (stored vs k u):=by
 unfold putK stored;rw[r.any k]
 by_cases e:(vs.any λkv=>decide (kv.1=k))=true
 ·rw[if_pos e,if_pos e]; exact r.repl k ry
 ·rw[if_neg e,if_neg e]; exact Paired.snoc r ⟨rfl,ry⟩
theorem KV.length{kvs:List (κ × V)}{vs:List (κ × Value)}(r:KV kvs vs):kvs.length=vs.length:=ZA9 r
end
theorem ZhY{P:Program}{w:World}{k:Key}{u:Value}(r:RelV (kV k) u):(Zao P w).is k u=true:=by
 cases k with
 | inl i=>obtain⟨t,e⟩:=(show ∃t,u=ZAv i t from r); subst e; exact ZpJ P w i t
 | inr x=>obtain⟨t,e⟩:=(show ∃t,u=Value.str x t from r); subst e; exact ZpW P w x t
theorem Zl5{P:Program}{w:World}:∀{ks:List Key} {us:List Value},Vals (ks.map kV) us->ItemsAre (Zao P w) ks us
 | [],_,r=>by rw[ZAA]at r; cases r; exact .nil
 | k::ks,_,r=>by
  rw[ZyH]at r;cases r with
  | cons h t=>exact .cons (ZhY h) (Zl5 t)
abbrev KT(H:Hp):List (List Key × V)->List (List Key × Addr × Value)->Prop:=Paired λp q=>p.1=q.1/\H q.2.1=some (.tup (p.1.map kV))/\RelV p.2 q.2.2
theorem KT.val{H:Hp}{kvs:List (List Key × V)}{xs:List (List Key × Addr × Value)}(r:KT H kvs xs)(k:List Key):Zfo (ZaL kvs k) ((atKey xs k).map (·.2)):=by
 induction r with
 | nil=>exact ZBD
 | @cons p q ps qs h t ih =>
  obtain⟨h1,_,h2⟩:=h
  by_cases e:p.1=k
  ·have e':q.1=k:=h1.symm.trans e
   have b:atKey (q::qs) k=some q.2:=by simp[atKey,Zzy,e']
   rw[ZdW e,b]; exact h2
  ·have e':¬q.1=k:=λz=>e (h1.trans z)
   have b:atKey (q::qs) k=atKey qs k:=by simp[atKey,Zzy,e']
   rw[ZdX e,b]; exact ih
theorem KT.repl{H:Hp}{kvs:List (List Key × V)}{xs:List (List Key × Addr × Value)}(r:KT H kvs xs)(k:List Key){y:V}{u:Value}(ry:RelV y u) :
  KT H (kvs.map λkv=>if kv.1=k then(kv.1,y)else kv) (xs.map (putAt k u)):=by
 induction r with
 | nil=>exact .nil
 | @cons p q ps qs h t ih =>
  rw[ZyH,ZyH];refine .cons ?_ ih;obtain⟨h1,h2,h3⟩:=h;unfold putAt
  by_cases e:p.1=k
  ·rw[if_pos e,if_pos (h1.symm.trans e)]; exact⟨h1,h2,ry⟩
  ·rw[if_neg e,if_neg (λz=>e (h1.trans z))]; exact⟨h1,h2,h3⟩
theorem KT.put{H:Hp}{kvs:List (List Key × V)}{xs:List (List Key × Addr × Value)}(r:KT H kvs xs)(k:List Key){b:Addr}{y:V}{u:Value}(hb:H b=some (.tup (k.map kV)))(ry:RelV y u) :
  KT H (putK kvs k y) (storedH xs k b u):=by
 have e:(kvs.any λkv=>decide (kv.1=k))=(atKey xs k).isSome:=by rw[Zh6,(r.val k).isSome_eq,Zz5]
 unfold putK storedH;rw[e]
 by_cases q:(atKey xs k).isSome=true
 ·rw[if_pos q,if_pos q]; exact r.repl k ry
 ·rw[if_neg q,if_neg q]; exact Paired.snoc r ⟨rfl,hb,ry⟩
theorem KT.keeps{H H':Hp}{kvs:List (List Key × V)}{xs:List (List Key × Addr × Value)}(r:KT H kvs xs)(ht:∀b ys,H b=some (.tup ys)->H' b=some (.tup ys)):KT H' kvs xs :=
 Paired.mapP r λ_ _ z=>⟨z.1,ht _ _ z.2.1,z.2.2⟩
section
variable{P:Program}{w:World}{H:Hp}{h:Heap}{a:Addr}
theorem Zla{u:HO}(ok:HOk P w H h)(e:Rd H a u):Zab P w H h a u:=e.ok ok
theorem ZgG{kvs:List (Key × V)}(ok:HOk P w H h)(e:Rd H a (.dK kvs)):kvs.length<=sizeLine/\(a==ZAb)=false/\∃vs,KV kvs vs/\h.DictOf (Zao P w) a vs :=
 show Zab P w H h a (.dK kvs) from Zla ok e
theorem Zq8{kvs:List (Key × V)}(ok:HOk P w H h)(e:H a=some (.dK kvs)):kvs.length<=sizeLine/\(a==ZAb)=false/\∃vs,KV kvs vs/\h.DictOf (Zao P w) a vs:=ZgG ok (.inl e)
theorem Zgg{ks:List Key}(ok:HOk P w H h)(e:H a=some (.tup (ks.map kV))):(ZBt (Zao P w)).is h ks a:=by obtain⟨_,its,r,o,h1,h2,n,h3⟩:=(show Zab P w H h a (.tup (ks.map kV)) from ok a _ e);exact⟨o,its.toArray,n,h1,h2,h3,by simpa using Zl5 r⟩
theorem Zic{kvs:List (List Key × V)}(ok:HOk P w H h)(e:Rd H a (.dT kvs)):kvs.length<=sizeLine/\(a==ZAb)=false /\
  ∃xs,KT H kvs xs/\h.DictOfH (ZBt (Zao P w)) a xs:=by
 obtain⟨z,y,xs,r,o,es,ep,h1,h2,h3,h4,h5⟩:=(show Zab P w H h a (.dT kvs) from Zla ok e);refine⟨z,y,xs,r,o,es,ep,h1,h2,h3,h4,λx hx=>?_,h5⟩;have all:∀{l:List (List Key × V)} {m:List (List Key × Addr × Value)},KT H l m->∀x∈m,(ZBt (Zao P w)).is h x.1 x.2.1:=by
  intro l m q
  induction q with
  | nil=>intro x hx; exact nomatch hx
  | @cons p q ps qs hq t ih =>
   intro x hx;rcases ZyY.mp hx with e | hx
   ·subst e
    exact Zgg ok (by rw[<-hq.1]; exact hq.2.1)
   ·exact ih x hx
 exact all r x hx
theorem Zuz{kvs:List (List Key × V)}(ok:HOk P w H h)(e:H a=some (.dT kvs)):kvs.length<=sizeLine/\(a==ZAb)=false /\
  ∃xs,KT H kvs xs/\h.DictOfH (ZBt (Zao P w)) a xs:=Zic ok (.inl e)
end
def Zb8(H:Hp)(a:Addr)(y:V)(r:Option V):Prop :=
 (∃kvs k,Rd H a (.dK kvs)/\y=kV k/\r=ZaL kvs k)\/∃kvs k b,Rd H a (.dT kvs)/\y=.ref b/\H b=some (.tup (k.map kV))/\r=ZaL kvs k
def Zij(H:Hp)(a:Addr)(y v:V)(H':Hp):Prop :=
 (∃kvs k,H a=some (.dK kvs)/\y=kV k/\kvs.length<sizeLine/\H'=upd H a (.dK (putK kvs k v))) \/
 ∃kvs k b,H a=some (.dT kvs)/\y=.ref b/\H b=some (.tup (k.map kV))/\kvs.length<sizeLine/\H'=upd H a (.dT (putK kvs k v))
theorem Zb8.k{H:Hp}{a:Addr}{kvs:List (Key × V)}{k:Key}(e:H a=some (.dK kvs)):Zb8 H a (kV k) (ZaL kvs k):=.inl ⟨kvs,k,.inl e,rfl,rfl⟩
theorem Zb8.t{H:Hp}{a b:Addr}{kvs:List (List Key × V)}{k:List Key}(e:H a=some (.dT kvs))(eb:H b=some (.tup (k.map kV))):Zb8 H a (.ref b) (ZaL kvs k):=.inr ⟨kvs,k,b,.inl e,rfl,eb,rfl⟩
theorem Zij.k{H:Hp}{a:Addr}{kvs:List (Key × V)}{k:Key}{v:V}(e:H a=some (.dK kvs))(hl:kvs.length<sizeLine):Zij H a (kV k) v (upd H a (.dK (putK kvs k v))):=.inl ⟨kvs,k,e,rfl,hl,rfl⟩
theorem Zij.t{H:Hp}{a b:Addr}{kvs:List (List Key × V)}{k:List Key}{v:V}(e:H a=some (.dT kvs))(eb:H b=some (.tup (k.map kV)))(hl:kvs.length<sizeLine) :
  Zij H a (.ref b) v (upd H a (.dT (putK kvs k v))):=.inr ⟨kvs,k,b,e,rfl,eb,hl,rfl⟩
section
variable{X:Cx}{pins:List (Addr × Obj)}{σ:St}{H:Hp}{s:Shared}{a:Addr}{y v:V}{u r:Value}{o:Option V}{A:Around}{E:Value->Shared->Prop}
theorem Inv.big(I:Inv X pins σ H s):ZAb<s.heap.objs.size:=by have h:Zzk<s.heap.objs.size:=(I.mod.glob.keeps I.bk).lt;exact ZAB (by decide) h
theorem ZsF{Q:Value->Shared->Prop}(hu:A.units+1<cLine)(I:Inv X pins σ H s)(g:Zb8 H a y (some v))(ry:RelV y u)(h:∀w' s',Inv X pins σ H s'->RelV v w'->Q w' s') :
  wpAny (model X.prog X.w) A (getItem (.ref a) u) Q E s:=by
 rcases g with⟨kvs,k,e,ey,l⟩ | ⟨kvs,k,b,e,ey,eb,l⟩
 ·subst ey
  obtain⟨z,hd,vs,rel,dd⟩:=ZgG I.hok e;obtain⟨w',hw,rw'⟩:=Zfo.some_of (v:=v) (o:=valueAt vs k) (by rw[l]; exact rel.val k);exact wpAny_getItem_of (ZhY ry) dd.mapOf hw (h w' _ (I.tok _) rw')
 ·subst ey
  cases(show u=Zzr b from ry);obtain⟨z,hd,xs,rel,dd⟩:=Zic I.hok e;obtain⟨w',hw,rw'⟩:=Zfo.some_of (v:=v) (o:=(atKey xs k).map (·.2)) (by rw[l]; exact rel.val k);obtain⟨p,hp,hp2⟩:=ZyB.mp hw;refine wpAny_getItem_heap (ZAM hu) (Zgg I.hok eb) dd hp ?_;rw[hp2];exact h w' _ (I.tok _) rw'
theorem Zyh{Q:Value->Shared->Prop}(hu:A.units+1<cLine)(I:Inv X pins σ H s)(g:Zb8 H a y o)(ry:RelV y u)(h:∀s',Inv X pins σ H s'->Q (.bool o.isSome) s') :
  wpAny (model X.prog X.w) A (ZzJ .In u (.ref a)) Q E s:=by
 rcases g with⟨kvs,k,e,ey,l⟩ | ⟨kvs,k,b,e,ey,eb,l⟩
 ·subst ey
  obtain⟨z,hd,vs,rel,dd⟩:=ZgG I.hok e;refine wpAny_in_of (ZhY ry) hd dd.mapOf ?_;rw[<-(rel.val k).isSome_eq,<-l];exact h _ (I.tok _)
 ·subst ey
  cases(show u=Zzr b from ry);obtain⟨z,hd,xs,rel,dd⟩:=Zic I.hok e;refine wpAny_in_heap (ZAM hu) (Zgg I.hok eb) hd dd ?_;have q:=(rel.val k).isSome_eq;rw[Zz5]at q;rw[<-q,<-l];exact h _ (I.tok _)
theorem Zvu{Q:Value->Shared->Prop}(hu:A.units+1<cLine)(I:Inv X pins σ H s)(g:Zb8 H a y o)(ry:RelV y u)(h:∀s',Inv X pins σ H s'->Q (.bool (!o.isSome)) s') :
  wpAny (model X.prog X.w) A (ZzJ .NotIn u (.ref a)) Q E s:=by
 rcases g with⟨kvs,k,e,ey,l⟩ | ⟨kvs,k,b,e,ey,eb,l⟩
 ·subst ey
  obtain⟨z,hd,vs,rel,dd⟩:=ZgG I.hok e;refine wpAny_notIn_of (ZhY ry) hd dd.mapOf ?_;rw[<-(rel.val k).isSome_eq,<-l];exact h _ (I.tok _)
 ·subst ey
  cases(show u=Zzr b from ry);obtain⟨z,hd,xs,rel,dd⟩:=Zic I.hok e;refine wpAny_notIn_heap (ZAM hu) (Zgg I.hok eb) hd dd ?_;have q:=(rel.val k).isSome_eq;rw[Zz5]at q;rw[<-q,<-l];exact h _ (I.tok _)
theorem ZjG{h':Heap}{t':Nat}{ob:HO}(I:Inv X pins σ H s)(mu:Mut (H a))(hs:ZAy a s.heap h')(he:∃q,h'.get? a=some q)(new:Zab X.prog X.w (upd H a ob) h' a ob) :
  Inv X pins σ (upd H a ob) { s with heap:=h',toks:=t' } :=
 I.write (x:=a) (e:=a) mu (.inl rfl) (λb q hb z=>(hs.2 b hb).trans z) he new
theorem Zsc{P:Program}{w:World}{H':Hp}{h':Heap}{kvs:List (Key × V)}{vs:List (Key × Value)}(z:kvs.length<=sizeLine)(hd:(a==ZAb)=false)(rel:KV kvs vs)(dd:h'.DictOf (Zao P w) a vs) :
  Zab P w H' h' a (.dK kvs):=⟨z,hd,vs,rel,dd⟩
theorem Zr5{H':Hp}{Q:Unit->Shared->Prop}(hu:A.units+1<cLine)(I:Inv X pins σ H s)(g:Zij H a y v H')(ry:RelV y u)(rv:RelV v r)(h:∀s',Inv X pins σ H' s'->Q () s') :
  wpAny (model X.prog X.w) A (setItem (.ref a) u r) Q E s:=by
 rcases g with⟨kvs,k,e,ey,l,eH⟩ | ⟨kvs,k,b,e,ey,eb,l,eH⟩
 ·subst ey eH
  obtain⟨z,hd,vs,rel,dd⟩:=Zq8 I.hok e;have hz:vs.length<=sizeLine:=by rw[<-rel.length]; exact z
  have hl:(putK kvs k v).length<=sizeLine:=by have:=Zg9 kvs k v; omega
  refine wpAny_setItem_pairs (hsz:=hz) (ZhY ry) dd λh' dd' hs=>h _ ?_;have he:∃q,h'.get? a=some q:=let ⟨q,_,_,hq,_⟩:=dd'; ⟨q,hq⟩
  exact ZjG I (by rw[e]; exact ZBD) hs he (Zsc hl hd (rel.put k rv) dd')
 ·subst ey eH
  cases(show u=Zzr b from ry);obtain⟨z,hd,xs,rel,dd⟩:=Zuz I.hok e;have hz:xs.length<=sizeLine:=by rw[<-ZA9 rel]; exact z
  have hl:(putK kvs k v).length<=sizeLine:=by have:=Zg9 kvs k v; omega
  refine wpAny_setItem_heap (hsz:=hz) (ZAM hu) (Zgg I.hok eb) dd λh' dd' hs=>h _ ?_;obtain⟨q,es,ep,hq,h2,h3,h4,_,h5⟩:=dd';refine ZjG I (by rw[e]; exact ZBD) hs ⟨q,hq⟩ ⟨hl,hd,_,(rel.put k eb rv).keeps λc ys ec=>?_,q,es,ep,hq,h2,h3,h4,h5⟩;rw[ZA (Zuv ec e (λz=>nomatch z))];exact ec
end
section
variable{X:Cx}{pins:List (Addr × Obj)}{σ:St}{H:Hp}{s:Shared}{a:Addr}{kvs:List (Key × V)}{k:Key}{u:Value}{A:Around}{E:Value->Shared->Prop}
theorem Zw8{Q:Value->Shared->Prop}(I:Inv X pins σ H s)(e:Rd H a (.dK kvs))(h:∀t s',Inv X pins σ H s'->Q (.int kvs.length t) s'):wpAny (model X.prog X.w) A (call (.builtin "len") [.ref a]) Q E s:=by obtain⟨z,hd,vs,rel,dd⟩:=ZgG I.hok e;refine call_len_dict hd dd (by rw[<-rel.length]; rw[ZzZ]at z; omega) ?_;rw[<-rel.length];exact h _ _ (I.tok _)
end
def Zof(i:Expr):Prop:=∀ov iv,ZDb i false ov iv=operate [ov,iv] (getItem ov iv)
theorem Zve{prog:Program}{w:World}{A:Around}{E:Value->Shared->Prop}{s:Shared}{env:Env}{value slice:Expr}{pos:Pos}{T id:String}{Q:Value->Shared->Prop}
  (hl:typeLookup (.type T) "__getitem__" = pure (some (.builtin id))) (hs:Zof slice)
  (h:wpAny (model prog w) A (eval value env) (λo s₁=>wpAny (model prog w) A (eval slice env) (λi s₂=>s₂.TypeIs o T/\wpAny (model prog w) A (getItem o i) Q E s₂) E s₁) E s) :
  wpAny (model prog w) A (eval (.Subscript value slice pos) env) Q E s:=by
 refine Subscript_ (ZzS h (λo s₁ h₁=>ZzS h₁ (λi s₂ h₂=>?_) λ_ _ x=>x) λ_ _ x=>x);obtain⟨hT,h₂⟩:=h₂;unfold subscriptTail;refine Zyy ?_;rw[getitemInPython_of_ne hT.not_modules];refine Zyy (wpAny_specialOf hT hl ?_);have fin:wpAny (model prog w) A (ZDb slice false o i) (λr s₃=>wpAny (model prog w) A (letTemporaryGo value o r >>= λ_=>pure r) Q E s₃) E s₂:=by rw[hs o i];exact wpAny_operating (ZzS h₂ (λr s₃ h₃=>Zyy (wpAny_letTemporaryGo (ZyC h₃))) λ_ _ x=>x)
 first
  | exact ZyC (Zyy fin)
  | exact Zyy (ZyC (Zyy fin))
  | exact Zyy fin
theorem ZpK{X:Cx}{pins:List (Addr × Obj)}{σ:St}{H:Hp}{s:Shared}{a:Addr}{y:V}{o:Option V}(I:Inv X pins σ H s)(g:Zb8 H a y o):s.TypeIs (.ref a) "dict":=by
 rcases g with⟨kvs,k,e,_,_⟩ | ⟨kvs,k,b,e,_,_,_⟩
 ·obtain⟨_,_,vs,_,dd⟩:=ZgG I.hok e
  exact dd.typeIs
 ·obtain⟨_,_,xs,_,dd⟩:=Zic I.hok e
  exact dd.typeIs
def Zxt(td ty:TE):TE:=λσ H Q=>td σ H λx H1=>ty σ H1 λy H2=>∃a v,x=.ref a/\Zb8 H2 a y (some v)/\Q v H2
def Zyk(ty td:TE):TE:=λσ H Q=>ty σ H λy H1=>td σ H1 λx H2=>∃a o,x=.ref a/\Zb8 H2 a y o/\Q (.bl o.isSome) H2
def ZuT(ty td:TE):TE:=λσ H Q=>ty σ H λy H1=>td σ H1 λx H2=>∃a o,x=.ref a/\Zb8 H2 a y o/\Q (.bl (!o.isSome)) H2
def Zxy(td ty tv:TE):TS:=λD σ H=>tv σ H λv H1=>td σ H1 λx H2=>ty σ H2 λy H3=>∃a H4,x=.ref a/\Zij H3 a y v H4/\D.nx σ H4
section
variable{X:Cx}{o i e value:Expr}{pos pos' tpos:Pos}{td ty tv:TE}
theorem Zlu(hu:X.A.units+1<cLine)(ho:PE X o td)(hi:PE X i ty)(hs:Zof i):PE X (.Subscript o i pos) (Zxt td ty):=by intro pins s σ H Q I h;refine Zve PySem.F.slot_dict_getitem.lookup hs (thn (ho pins s σ H _ I h) λu s1 ⟨x,H1,I1,rx,q1⟩=>thn (hi pins s1 σ H1 _ I1 q1) λiv s2 ⟨y,H2,I2,ry,a,v,ex,g,q2⟩=>?_);subst ex;obtain rfl:u=Zzr a:=rx;exact⟨ZpK I2 g,ZsF hu I2 g ry λw' s3 I3 rw'=>⟨v,H2,I3,rw',q2⟩⟩
theorem Zv2(hu:X.A.units+1<cLine)(hi:PE X i ty)(ho:PE X o td):PC X .In i o (Zyk ty td):=by intro pins s σ H Q I h;refine thn (hi pins s σ H _ I h) λiv s1 ⟨y,H1,I1,ry,q1⟩=>thn (ho pins s1 σ H1 _ I1 q1) λu s2 ⟨x,H2,I2,rx,a,ov,ex,g,q2⟩=>?_;subst ex;obtain rfl:u=Zzr a:=rx;exact Zyh hu I2 g ry λs3 I3=>⟨.bl ov.isSome,H2,I3,rfl,q2⟩
theorem Zmj(hu:X.A.units+1<cLine)(hi:PE X i ty)(ho:PE X o td):PC X .NotIn i o (ZuT ty td):=by intro pins s σ H Q I h;refine thn (hi pins s σ H _ I h) λiv s1 ⟨y,H1,I1,ry,q1⟩=>thn (ho pins s1 σ H1 _ I1 q1) λu s2 ⟨x,H2,I2,rx,a,ov,ex,g,q2⟩=>?_;subst ex;obtain rfl:u=Zzr a:=rx;exact Zvu hu I2 g ry λs3 I3=>⟨.bl (!ov.isSome),H2,I3,rfl,q2⟩
theorem ZlG(hu:X.A.units+1<cLine)(ho:PE X o td)(hi:PE X i ty)(hv:PE X value tv)(hs:ZAI value (some (.Subscript o i pos')) pos.line X.env=pure false) :
  PS X (.Assign [.Subscript o i pos'] value pos) (Zxy td ty tv):=by
 intro pins s σ H D I h;refine wpAny_Assign_Subscript (thn (hv pins s σ H _ I h) λr s1 ⟨v,H1,I1,rv,q1⟩=>thn (ho pins s1 σ H1 _ I1 q1) λu s2 ⟨x,H2,I2,rx,q2⟩=>thn (hi pins s2 σ H2 _ I2 q2) λiv s3 ⟨y,H3,I3,ry,a,H4,ex,g,q3⟩=>?_) hs;subst ex;obtain rfl:u=Zzr a:=rx;exact Zr5 hu I3 g ry rv λs4 I4=>⟨σ,H4,I4,q3⟩
end
theorem Zn9{P:Program}{w:World}{H:Hp}(h:Heap)(hb:ZAb<h.objs.size):Zab P w H (h.push { cls:=.type "dict",data:=.dict #[] }) h.objs.size (.dK []) :=
 ⟨Zz2 _,beq_eq_false_iff_ne.mpr (ZzB (ZyX hb)),[],.nil,Heap.DictOf.new h⟩
theorem Ztg{P:Program}{w:World}{H:Hp}(h:Heap)(hb:ZAb<h.objs.size):Zab P w H (h.push { cls:=.type "dict",data:=.dict #[] }) h.objs.size (.dT []) :=
 ⟨Zz2 _,beq_eq_false_iff_ne.mpr (ZzB (ZyX hb)),[],.nil,_,#[],0,ZyU _ rfl,⟨rfl,rfl,rfl⟩,rfl,rfl,ZAj⟩
def ZwV:TE:=λ_ H Q=>∀p,H p=none->Q (.ref p) (upd H p (.dK []))
def Zwg:TE:=λ_ H Q=>∀p,H p=none->Q (.ref p) (upd H p (.dT []))
section
variable{X:Cx}{pos:Pos}
theorem Zt4:PE X (.Dict [] [] pos) ZwV:=λpins s σ H Q I h=>wpAny_Dict_empty ⟨.ref s.heap.objs.size,_,I.laid (a:=s.heap.objs.size) (o:=.dK []) (t':=s.toks) (λ_ _ q=>ZyG _ q) (ZyI _) (Zn9 s.heap I.big),rfl,h _ (I.hok.fresh (ZyI _))⟩
theorem ZoB:PE X (.Dict [] [] pos) Zwg:=λpins s σ H Q I h=>wpAny_Dict_empty ⟨.ref s.heap.objs.size,_,I.laid (a:=s.heap.objs.size) (o:=.dT []) (t':=s.toks) (λ_ _ q=>ZyG _ q) (ZyI _) (Ztg s.heap I.big),rfl,h _ (I.hok.fresh (ZyI _))⟩
end
def ZoL:List (TE × TE)->St->Hp->(List (V × V)->Hp->Prop)->Prop
 | [],_,H,Q=>Q [] H
 | (tk,tv)::r,σ,H,Q=>tk σ H λx H1=>tv σ H1 λy H2=>ZoL r σ H2 λps H3=>Q ((x,y)::ps) H3
abbrev VV:List (V × V)->List (Value × Value)->Prop:=Paired λp q=>RelV p.1 q.1/\RelV p.2 q.2
def PPs(X:Cx)(pos:Pos)(keys:List (Option Expr))(values:List Expr)(trs:List (TE × TE)):Prop :=
 ∀(pins:List (Addr × Obj)) (s:Shared) (σ:St) (H:Hp) (Q:List (V × V)->Hp->Prop),Inv X pins σ H s->ZoL trs σ H Q ->
  wpAny (model X.prog X.w) X.A (evalPairs (pairTrees keys values X.env pos)) (λvs s'=>∃ps H',Inv X pins σ H' s'/\VV ps vs/\Q ps H') X.xe s
theorem Zu6{X:Cx}{pos:Pos}:PPs X pos [] [] []:=λpins s σ H Q I h=>pairTrees_nil_walk ⟨[],H,I,.nil,h⟩
theorem Zum{X:Cx}{pos:Pos}{k v:Expr}{ks:List (Option Expr)}{vs:List Expr}{tk tv:TE}{trs:List (TE × TE)}(hk:PE X k tk)(hv:PE X v tv)(hr:PPs X pos ks vs trs) :
  PPs X pos (some k::ks) (v::vs) ((tk,tv)::trs):=λpins s σ H Q I h =>
 pairTrees_cons_walk (thn (hk pins s σ H _ I h) λu s1 ⟨x,H1,I1,rx,q1⟩=>thn (hv pins s1 σ H1 _ I1 q1) λw2 s2 ⟨y,H2,I2,ry,q2⟩=>thn (hr pins s2 σ H2 _ I2 q2) λws s3 ⟨ps,H3,I3,rel,q3⟩=>⟨(x,y)::ps,H3,I3,.cons ⟨rx,ry⟩ rel,q3⟩)
def Zhw(kvs more:List (Key × V)):List (Key × V):=more.foldl (λacc kv=>putK acc kv.1 kv.2) kvs
theorem KV.merge:∀{more:List (Key × V)} {rs:List (Key × Value)} {kvs:List (Key × V)} {vs:List (Key × Value)},KV more rs->KV kvs vs->KV (Zhw kvs more) (merged vs rs):=by
 intro more rs kvs vs r;unfold KV at r
 induction r generalizing kvs vs with
 | nil=>intro q; exact q
 | @cons p q ps qs h t ih =>
  intro r0;have e:KV (putK kvs p.1 p.2) (stored vs q.1 q.2):=by have:=r0.put p.1 h.2;rw[<-h.1]; exact this
  exact ih e
theorem Zio:∀(more kvs:List (Key × V)),(Zhw kvs more).length<=kvs.length+more.length
 | [],kvs=>by show kvs.length<=kvs.length+0; omega
 | p::r,kvs=>by have h1:=Zio r (putK kvs p.1 p.2);have h2:=Zg9 kvs p.1 p.2;show(Zhw (putK kvs p.1 p.2) r).length<=_;rw[ZyP]; omega
theorem ZkM{P:Program}{w:World}:∀{kvs:List (Key × V)} {ws:List (Value × Value)},VV (kvs.map λkv=>(kV kv.1,kv.2)) ws->∃rs,Carries (Zao P w) ws rs/\KV kvs rs
 | [],_,r=>by rw[ZAA]at r; cases r; exact⟨[],ZBD,.nil⟩
 | p::kvs,_,r=>by
  rw[ZyH]at r;cases r with
  | @cons a b as bs h t=>obtain⟨rs,c,q⟩:=ZkM (P:=P) (w:=w) t;obtain⟨b1,b2⟩:=b;exact⟨(p.1,b2)::rs,⟨ZhY h.1,rfl,c⟩,.cons ⟨rfl,h.2⟩ q⟩
def Zxh(trs:List (TE × TE)):TE:=λσ H Q=>∀p,H p=none->ZoL trs σ (upd H p (.dK [])) λps H2=>H2 p=some (.dK [])/\∃kvs:List (Key × V),ps=kvs.map (λkv=>(kV kv.1,kv.2))/\kvs.length<=15/\Q (.ref p) (upd H2 p (.dK (Zhw [] kvs)))
theorem Zu4{X:Cx}{pos:Pos}{keys:List (Option Expr)}{values:List Expr}{trs:List (TE × TE)}(h:PPs X pos keys values trs)(hall:keys.all (·.isSome)=true)(hl:keys.length=values.length)(h0:keys≠[])
  (h15:keys.length<=15):PE X (.Dict keys values pos) (Zxh trs):=by
 intro pins s σ H Q I q;have hn:=I.hok.fresh (ZyI s.heap.objs.size);have I1:=I.laid (a:=s.heap.objs.size) (o:=.dK []) (h':=s.heap.push { cls:=.type "dict",data:=.dict #[] }) (t':=s.toks) (λ_ _ q=>ZyG _ q) (ZyI _) (Zn9 s.heap I.big);refine wpAny_Dict_walk (knd:=Zao X.prog X.w) hall hl h0 h15 (thn (h pins _ σ _ _ I1 (q _ hn)) λws s2 ⟨ps,H2,I2,rel,e,kvs,ep,lk,q2⟩=>?_);subst ep;obtain⟨rs,c,rk⟩:=ZkM (P:=X.prog) (w:=X.w) rel;obtain⟨z,hd,vs0,r0,dd⟩:=Zq8 I2.hok e;cases r0;refine⟨rs,c,dd,λh' dd' hs=>⟨.ref s.heap.objs.size,_,?_,rfl,q2⟩⟩;have hz:(Zhw [] kvs).length<=sizeLine:=by have h1:=Zio kvs [];rw[ZC3]at h1;rw[ZzZ]; omega
 have he:∃q,h'.get? s.heap.objs.size=some q:=let ⟨q,_,_,hq,_⟩:=dd'; ⟨q,hq⟩
 exact ZjG I2 (by rw[e]; exact ZBD) hs he (Zsc hz hd (rk.merge .nil) dd')
structure M2(X:Cx)(o:Expr)(m:Str)(apos:Pos)(e f:Expr)(cpos:Pos):Prop where
 base:ZAQ o m X.env (eval o X.env)=eval o X.env
 few:((backTo cpos (ZyK [e,f] X.env)).all (λx=>!x.1)&&(ZCT cpos (ZBR [] X.env)).all (λx=>x.1.isSome)
  && decide (([e,f]:List Expr).length+([]:List Keyword).length+(if([]:List Keyword).isEmpty then 0 else 1)<30))=true
 line:(apos.endLine==cpos.line)=true
 trees:backTo cpos (ZyK [e,f] X.env)=[(false,eval e X.env),(false,eval f X.env)]
def IsD(H:Hp)(a:Addr):Prop:=(∃kvs,Rd H a (.dK kvs))\/∃kvs,Rd H a (.dT kvs)
theorem Zr2{X:Cx}{pins:List (Addr × Obj)}{σ:St}{H:Hp}{s:Shared}{a:Addr}(I:Inv X pins σ H s)(d:IsD H a) :
  s.TypeIs (.ref a) "dict"/\(∀b,Zzr a=.ref b->∃ob,s.heap.get? b=some ob/\ob.dict=none)/\(a==ZAb)=false:=by
 rcases d with⟨kvs,e⟩ | ⟨kvs,e⟩
 ·obtain⟨_,hd,vs,_,dd⟩:=ZgG I.hok e
  refine⟨dd.typeIs,λb q=>?_,hd⟩;cases q;obtain⟨ob,_,_,h1,h2,_⟩:=dd;exact⟨ob,h1,h2.2.1⟩
 ·obtain⟨_,hd,xs,_,dd⟩:=Zic I.hok e
  refine⟨dd.typeIs,λb q=>?_,hd⟩;cases q;obtain⟨ob,_,_,h1,h2,_⟩:=dd;exact⟨ob,h1,h2.2.1⟩
section
variable{X:Cx}{pins:List (Addr × Obj)}{σ:St}{H:Hp}{s:Shared}{a:Addr}{y d:V}{u r:Value}{o:Option V}{A:Around}{E:Value->Shared->Prop}
theorem Zwc{Q:Value->Shared->Prop}(hu:A.units+1<cLine)(I:Inv X pins σ H s)(g:Zb8 H a y o)(ry:RelV y u)(rd:RelV d r)(h:∀w' s',Inv X pins σ H s'->RelV (o.getD d) w'->Q w' s') :
  wpAny (model X.prog X.w) A (call (.builtin "dict.get") [.ref a,u,r]) Q E s:=by
 rcases g with⟨kvs,k,e,ey,l⟩ | ⟨kvs,k,b,e,ey,eb,l⟩
 ·subst ey
  obtain⟨z,hd,vs,rel,dd⟩:=ZgG I.hok e;refine call_meetsIn ZB0 dd.typeIs ZDc (ZCY _ _ _) (meets_dict_get_default (Zao X.prog X.w) a (ZhY ry) hd r) ⟨_,dd.mapOf,h _ _ (I.tok _) ?_⟩;rw[l];exact(rel.val k).getD rd
 ·subst ey
  cases(show u=Zzr b from ry);obtain⟨z,hd,xs,rel,dd⟩:=Zic I.hok e;refine call_meetsIn ZB0 dd.typeIs ZDc (ZCY _ _ _) (meetsH_dict_get_default (ZBt (Zao X.prog X.w)) a b hd r) ⟨ZAM hu,k,xs,Zgg I.hok eb,dd,h _ _ (I.tok _) ?_⟩;rw[l];exact(rel.val k).getD rd
end
def Zwk(td ty tx:TE):TE:=λσ H Q=>td σ H λx H1=>∃a,x=.ref a/\IsD H1 a/\ty σ H1 λy H2=>tx σ H2 λz H3=>∃o,Zb8 H3 a y o/\Q (o.getD z) H3
section
variable{X:Cx}{o e f:Expr}{apos cpos:Pos}{td ty tx:TE}
theorem ZtW(hu:X.A.units+1<cLine)(ho:PE X o td)(he:PE X e ty)(hf:PE X f tx)(m:M2 X o "get" apos e f cpos):PE X (.Call (.Attribute o "get" apos) [e,f] [] cpos) (Zwk td ty tx):=by intro pins s σ H Q I h;refine wpAny_Call_method m.base m.few m.line ZCZ ZB0 PySem.F.type_dict_get (thn (ho pins s σ H _ I h) λu s1 ⟨x,H1,I1,rx,a,ex,d,q1⟩=>?_);subst ex;obtain rfl:u=Zzr a:=rx;obtain⟨t1,t2,_⟩:=Zr2 I1 d;refine⟨t1,t2,?_⟩;rw[m.trees];refine ZBd rfl (ZB7 (ZBa (thn (he pins s1 σ H1 _ I1 q1) λiv s2 ⟨y,H2,I2,ry,q2⟩=>ZBa (thn (hf pins s2 σ H2 _ I2 q2) λfv s3 ⟨z,H3,I3,rz,ov,g,q3⟩=>ZCD ?_))));exact Zwc hu I3 g ry rz λw' s4 I4 rw'=>⟨_,H3,I4,rw',q3⟩
end
end L2
namespace Att
open PySem PySem.W PySem.Calls PyProof.Rows
theorem Zk2{P:Params}{h:Heap}:∀(ns:List Int) (vs:List Value),WellAll P h vs (ns.map WData.int)->IntsAre vs ns:=by
 intro ns
 induction ns with
 | nil=>intro vs w;rw[ZAA]at w;cases w;exact .nil
 | cons n ns ih =>
  intro vs w;rw[ZyH]at w;cases w with
  | cons a b=>cases a;exact .cons _ _ (ih _ b)
theorem Zr3{l:OpenLaw}{n:Nat}(hn:l.most=some n){P:Params}{h:Heap}{args:List WData}{vals:List Value}
  (hpre:l.row.toRowW.claim.pre args=true) (hwl:WellAll P h vals args) :
  ∃a vs ns,vals=[Zzr a]/\args=[WData.list (ns.map WData.int)]/\h.get? a=some { cls:=.type "list",data:=.seq vs.toArray }/\IntsAre vs ns/\ns.length<=n:=by
 have hsh:WShape.hasAll [] args [.list .int]=true:=(pre_splitW hpre).1;have hc:l.pre.holds [] { args:=args }=true:=(pre_splitW hpre).2;obtain⟨d,r,rfl,h1,h2⟩:=hasAllW_cons hsh;obtain rfl:=hasAllW_nil h2;obtain⟨xs,rfl,h3⟩:=hasW_list h1;obtain⟨ns,rfl⟩:=items_int h3;have hlen:ns.length<=n:=by
  unfold OpenLaw.pre at hc;have h4:(WTm.not (.lt (.lit (.int (n:Int))) (.len (.arg 0)))).holds [] { args:=[.list (ns.map .int)] }=true:=by have h4:=(holds_andW hc).1;rw[hn]at h4;exact h4
  have h5:=condW_of h4 (w_not (w_lt w_lit (w_len_list (w_arg rfl))));rw[ZyA]at h5;refine ZBk λq=>?_;have q':(n:Int)<((ns.length:Nat):Int):=by omega
  first
   | (rw[decide_eq_true q']at h5; exact absurd h5 (by decide))
   | (simp at h5; omega)
 cases hwl with
 | cons w1 w2 =>
  cases w2;cases w1 with
  | list ho hall=>exact⟨_,_,ns,rfl,rfl,ho,Zk2 ns _ hall,hlen⟩
theorem Zr8(l:OpenLaw)(args:List WData):l.row.toRowW.claim.post args (.bool true) args=true :=
 postW_of (r:=l.row.toRowW) (X:=(true==true))
  (show WShape.has [] (.bool true) .bool=true by first | rfl | decide | simp[WShape.has,WShape.arms,WShape.armsAll])
  (show(WTm.eq .res (.lit (.bool true))).value [] { args:=args,res:=some (.bool true),after:=args }=some (.bool (true==true)) from w_eq_bool (w_res rfl) w_lit) rfl
theorem ZpO{l:OpenLaw}{n:Nat}{q:Program}{loose:List Str}{XP:(Str->Option Value)->Heap->Prop}{YP:World->Heap->Prop}{d:DefRec}
  (hn:l.most=some n) (hdf:d.params.defaults=[])
  (call:∀(w:World) (s₀ s₁:Shared) (mg mb:Str->Option Value) (fa:Addr) (o:Obj) (pm cd doc:Value) (a:Addr) (vs:List Value) (ns:List Int),
   Ground q loose [] XP w s₀ mg mb s₁.heap->YP w s₁.heap ->
   s₁.heap.get? fa=some o->o.data=.func (docDef d.name d.params d.body d.scope pm cd doc)->s₁.heap.CodeRec cd d.name->mg d.name=some (.ref fa) ->
   s₁.heap.get? a=some { cls:=.type "list",data:=.seq vs.toArray }->IntsAre vs ns->ns.length<=n->s₁.gens=#[] ->
   codeAny (model l.prog w) callerA (.call (.ref fa) ⟨[.ref a],[]⟩) (λr s'=>r=.ok (.ret (.bool true))/\OldK s₁.heap s'.heap/\s'.os=s₁.os/\AllBare s'.gens) s₁) :
  WalkO q loose XP YP l.row.toRowW d [] (λf vs=>PySem.call f vs):=by
 intro w s₀ s₁ mg mb G Y fa o pm cd doc dV kV ho hd hcd hD hmg hg args vals as hpre hlay hrd hwl hlo;obtain rfl:dV=.none:=Dflts.none hD hdf;obtain rfl:kV=.none:=Dflts.noKw hD;obtain⟨a,vs,ns,rfl,rfl,hobj,hints,hlen⟩:=Zr3 hn hpre hwl;refine enter_call (ZAJ (call w s₀ s₁ mg mb fa o pm cd doc a vs ns G Y ho (fd_plain hd) hcd hmg hobj hints hlen hg) λr s' hq=>?_);obtain⟨rfl,h2,h3,h4⟩:=hq;exact⟨.inl ⟨.bool true,.bool true,[],rfl,λ_=>rfl,.bool true,Zr8 l _,λ_=>⟨List.Pairwise.nil,λ_ hm=>(nomatch hm)⟩⟩,h2,h3,h4⟩
end Att
namespace L2
open PySem PySem.Spec PyProof.Rows
theorem Zl4:∀{vs:List Value} {ns:List Int},IntsAre vs ns->Vals (ns.map V.int) vs
 | _,_,.nil=>.nil
 | _,_,.cons n t h=>.cons ⟨t,rfl⟩ (Zl4 h)
end L2
namespace L2
open PySem PySem.Spec PyProof.Rows
end L2
namespace L2
open PySem PySem.Spec PyProof.Rows
def Zcd(s:Stmt):Arguments:=match s with
 | .FunctionDef _ a _ _ _ _ _ _ _ _=>a
 | _=>{ posonlyargs:=[],args:=[],vararg:=none,kwonlyargs:=[],kw_defaults:=[],kwarg:=none,defaults:=[] }
def ZaQ(s:Stmt):List Stmt:=match s with
 | .FunctionDef _ _ b _ _ _ _ _ _ _=>b
 | _=>[]
def Ze(s:Stmt):Scope:=match s with
 | .FunctionDef _ _ _ _ _ _ sc _ _ _=>sc
 | _=>{ kind:=.function,names:=[],isGenerator:=false,isCoroutine:=false }
abbrev CX0:CXT:=λ_ _ _ _ _ _=>False
abbrev E0:XK:=λ_ _ _=>False
theorem Zm7{X:Cx}:Passes CX0 X E0:=λ_ _ _ _ _ _ _ h=>h.elim
structure Fun(K:Zyz)(x qual:Str)(st:Stmt)(f:Addr)(fd:FuncData):Prop where
 ex:∃(oc:Value) (od:Option Addr) (kV doc pm:Value) (an:Option Addr) (cdv ct:Value) (osl:Array (Option Value)),
  fd=ZzV x qual (Zcd st) (ZaQ st) (Ze st) .none kV doc pm an cdv ct/\K.lookup f=some ⟨oc,od,.func fd,osl⟩/\ZAG K cdv qual=true
 kp:Zz0 K (.ref f)=true
section
variable{P:Program}{w:World}{K:Zyz}{mg:Str->Option Value}{base:Heap}
theorem Fun.ok{x qual:Str}{st:Stmt}{f:Addr}{fd:FuncData}{N ps:List Str}{k:Nat}{sp:Sp}(F:Fun K x qual st f fd)(S:Zv N ps (Ze st))(len:∀vs H Q E,sp vs H Q E->vs.length=ps.length)
  (hbody:∀(cdv:Value) (A:Around) (outer:List Env) (s:Shared) (H:Hp) (vs:List V) (Q:VK) (E:XK),Zal k (A.deeper (envOfC qual (Ze st) s.heap.objs.size f cdv))->sp vs H Q E ->
   ∃t,PSs (Zgd CX0 P w K mg base N qual (Ze st) f cdv A outer s H E).nox (ZaQ st) t/\t { nx:=λ_ H'=>Q .non H',rt:=Q } (start N vs) H):Zdm P w K mg base CX0 (k+1) f fd ps sp:=by
 obtain⟨oc,od,kV,doc,pm,an,cdv,ct,osl,rfl,lk,hcd⟩:=F.ex;refine Zut lk hcd S len λA outer s H vs Q E hr hsp=>?_;obtain⟨t,h,q⟩:=hbody cdv A outer s H vs Q E hr hsp;exact⟨t,h.nox,q⟩
theorem Fun.binds{x qual:Str}{st:Stmt}{f:Addr}{fd:FuncData}{ps:List Str}(F:Fun K x qual st f fd)
  (h:∀(kV doc pm:Value) (an:Option Addr) (cdv ct:Value) (us:List Value),us.length=ps.length->bindArgs (ZzV x qual (Zcd st) (ZaQ st) (Ze st) .none kV doc pm an cdv ct) ⟨us,[]⟩=pure (ps.zip us)):Binds K fd ps []:=by
 obtain⟨oc,od,kV,doc,pm,an,cdv,ct,osl,rfl,lk,hcd⟩:=F.ex;exact .all (h kV doc pm an cdv ct)
theorem ZoO{x qual:Str}{st:Stmt}{f:Addr}{oc:Value}{od an:Option Addr}{osl:Array (Option Value)}{kV doc pm cdv ct:Value}(l:K.lookup f=some ⟨oc,od,.func (ZzV x qual (Zcd st) (ZaQ st) (Ze st) .none kV doc pm an cdv ct),osl⟩)
  (c:ZAG K cdv qual=true) (k:Zz0 K (.ref f)=true):Fun K x qual st f (ZzV x qual (Zcd st) (ZaQ st) (Ze st) .none kV doc pm an cdv ct):=⟨⟨oc,od,kV,doc,pm,an,cdv,ct,osl,rfl,l,c⟩,k⟩
end
theorem ZG{A:Around}{k:Nat}(hr:Zal k A):A.units+1<cLine:=Nat.lt_of_le_of_lt (Nat.add_le_add_left (by decide:1<=64) _) hr.units
theorem ZlT{A B:Prop}(h:B):if false=true then A else B:=by rw[if_neg Zzj];exact h
theorem ZlF{A B:Prop}(h:A):if true=true then A else B:=by rw[if_pos rfl];exact h
def Zp(H H':Hp):Prop:=∀b o,H b=some o->H' b=some o
theorem Zp.refl(H:Hp):Zp H H:=λ_ _ h=>h
theorem Zp.trans{H H1 H2:Hp}(a:Zp H H1)(b:Zp H1 H2):Zp H H2:=λc o h=>b c o (a c o h)
theorem Zp.free{H H':Hp}(e:Zp H H'){l:Addr}(h:H' l=Option.none):H l=Option.none:=by
 cases q:H l with
 | none=>rfl
 | some o=>rw[e l o q]at h;cases h
theorem Zp.seq{K:Zyz}{H H':Hp}{a:Addr}{xs:List V}(e:Zp H H')(h:SqL K H a xs):SqL K H' a xs:=by
 rcases h with(h | ⟨o,h⟩) | h
 ·exact .inl (.inl (e _ _ h))
 ·exact .inl (.inr ⟨o,e _ _ h⟩)
 ·exact .inr h
end L2
namespace L2
open PySem PySem.Spec PyProof.Rows
section
variable{X:Cx}
theorem ZsB:ZaU X (.builtin "len") (λxs H Q=>∃a kvs,xs=[V.ref a]/\H a=some (.dK kvs)/\Q (.int kvs.length) H):=by intro pins s σ H xs us Q I r h;obtain⟨a,kvs,rfl,ha,q⟩:=h;obtain⟨u,rfl,ru⟩:=vals1 r;cases ru;exact Zw8 I (.inl ha) λt s' I'=>⟨.int kvs.length,H,I',⟨t,rfl⟩,q⟩
end
end L2
namespace HM
open PySem
abbrev D:=PyData
abbrev Ky:=Sum Int Str
inductive B where
 | pl (d:D)
 | ol (ds:List D)
 | ok (kvs:List (Ky × D))
 | ot (kvs:List (List Ky × D))
 | otl (kvs:List (List Ky × List D))
 | hd (es:List (D × D))
abbrev Env:=List (Option B)
inductive Out where
 | nx (r:Env)
 | rt (d:D)
 | bk (r:Env)
 | ct (r:Env)
abbrev EF:=Env->Option D
abbrev BF:=Env->Option B
abbrev TF:=Env->Option Bool
abbrev IF:=Env->Option (List D)
abbrev AF:=Env->Option (List D)
abbrev SF:=Env->Option Out
@[simp] def big:Nat:=1000000
@[simp] def Zb(i:Nat):EF:=λr=>match r[i]? with
 | some (some (.pl d))=>some d
 | _=>none
@[simp] def Zo(i:Nat):BF:=λr=>match r[i]? with
 | some (some b)=>some b
 | _=>none
@[simp] def bOf(f:EF):BF:=λr=>(f r).map B.pl
def ZaE:Ky->D
 | .inl i=>.int i
 | .inr x=>.str x
def Zk(kvs:List (List Ky × D)):List (D × D):=kvs.map λp=>(.tuple (p.1.map ZaE),p.2)
@[simp] def frz:B->Option D
 | .pl d=>some d
 | .ol ds=>some (.list ds)
 | .ot kvs=>some (.dict (Zk kvs))
 | .hd es=>some (.dict es)
 | _=>none
@[simp] def eOf(f:BF):EF:=λr=>(f r).bind frz
@[simp] def eC(d:D):EF:=λ_=>some d
@[simp] def op2(g:D->D->Option D)(a b:EF):EF:=λr=>match a r with
 | some x=>match b r with
  | some y=>g x y
  | none=>none
 | none=>none
@[simp] def Zfm(g:Int->Int->Option D):D->D->Option D
 | .int i,.int j=>g i j
 | _,_=>none
def ZY(i:Int):Bool:=Nat.blt i.natAbs 18446744073709551616
@[simp] def Zbb(x y:D):Option D:=Zfm (λi j=>some (.int (i+j))) x y
@[simp] def Zfr(x y:D):Option D:=Zfm (λi j=>some (.int (i-j))) x y
@[simp] def Zdl(x y:D):Option D:=Zfm (λi j=>if ZY i||ZY j then some (.int (i*j))else none) x y
@[simp] def Ztl(x y:D):Option D:=Zfm (λi j=>if 0<j then some (.int (i % j))else none) x y
@[simp] def gLt(x y:D):Option D:=Zfm (λi j=>some (.bool (decide (i<j)))) x y
@[simp] def gLe(x y:D):Option D:=Zfm (λi j=>some (.bool (decide (i<=j)))) x y
@[simp] def gGt(x y:D):Option D:=Zfm (λi j=>some (.bool (decide (j<i)))) x y
def Zan(d:D):Bool:=d.canLay0&&decide (d.depth<=60)
@[simp] def gEq(a b:D):Option D:=if Zan a&&Zan b then some (.bool (Zzv a b))else none
@[simp] def gNe(a b:D):Option D:=if Zan a&&Zan b then some (.bool (!PyData.eqv a b))else none
@[simp] def Zi9(a b:D):Option D:=match b with
 | .none=>match a with
  | .none=>some (.bool true)
  | _=>some (.bool false)
 | _=>none
@[simp] def ZeY(a b:D):Option D:=match b with
 | .none=>match a with
  | .none=>some (.bool false)
  | _=>some (.bool true)
 | _=>none
@[simp] def Zk0(g g':D->D->Option D)(a b c:EF):EF:=λr=>match a r with
 | some x=>match b r with
  | some y=>match g x y with
   | some (.bool true)=>match c r with
    | some z=>g' y z
    | none=>none
   | some (.bool false)=>some (.bool false)
   | _=>none
  | none=>none
 | none=>none
@[simp] def ZtY(a:EF):EF:=λr=>match a r with
 | some (.bool b)=>some (.bool (!b))
 | _=>none
@[simp] def Zgr(a b:EF):EF:=λr=>match a r with
 | some (.bool true)=>b r
 | some (.bool false)=>some (.bool false)
 | _=>none
@[simp] def tV(a:EF):TF:=λr=>match a r with
 | some (.bool b)=>some b
 | _=>none
@[simp] def ZdD(a:TF):TF:=λr=>(a r).map (!·)
@[simp] def ZnX(a b:TF):TF:=λr=>match a r with
 | some true=>b r
 | some false=>some false
 | none=>none
@[simp] def tOr(a b:TF):TF:=λr=>match a r with
 | some true=>some true
 | some false=>b r
 | none=>none
@[simp] def eIf(c:TF)(a b:EF):EF:=λr=>match c r with
 | some true=>a r
 | some false=>b r
 | none=>none
@[simp] def Za9:B->Option (List D)
 | .pl (.tuple ds)=>some ds
 | .pl (.list ds)=>some ds
 | .ol ds=>some ds
 | _=>none
def ixN(n:Nat)(i:Int):Option Nat :=
 if 0<=i then(if i<n then some i.toNat else none)else(if -(n:Int)<=i then some (i+n).toNat else none)
def atD(ds:List D)(i:Int):Option D:=match ixN ds.length i with
 | some j=>ds[j]?
 | none=>none
@[simp] def eIx(a:BF)(b:EF):EF:=λr=>match a r with
 | some x=>match Za9 x with
  | some ds=>match b r with
   | some (.int i)=>atD ds i
   | _=>none
  | none=>none
 | none=>none
@[simp] def Zx0:B->Option Nat
 | .pl (.tuple ds)=>some ds.length
 | .pl (.list ds)=>some ds.length
 | .ol ds=>some ds.length
 | .ok kvs=>some kvs.length
 | _=>none
@[simp] def ZaJ(a:BF):EF:=λr=>match a r with
 | some x=>(Zx0 x).map λ(n:Nat)=>Zze (n:Int)
 | none=>none
@[simp] def Zaq(a:BF):EF:=λr=>match a r with
 | some x=>(Za9 x).map λds=>.tuple ds
 | none=>none
@[simp] def ZhA(a:BF):BF:=λr=>match a r with
 | some x=>(Za9 x).map λds=>.ol ds
 | none=>none
def Zfa:List D->Option (List Bool)
 | []=>some []
 | .bool b::r=>(Zfa r).map (b::·)
 | _::_=>none
@[simp] def ZlP:B->Option (List D)
 | .pl (.list ds)=>some ds
 | .ol ds=>some ds
 | _=>none
@[simp] def Zjb(a:BF):EF:=λr=>match a r with
 | some x=>match ZlP x with
  | some ds=>(Zfa ds).map λbs=>.bool (bs.all id)
  | none=>none
 | none=>none
@[simp] def Zn:AF:=λ_=>some []
@[simp] def Zd(a:EF)(b:AF):AF:=λr=>match a r with
 | some x=>(b r).map (x::·)
 | none=>none
@[simp] def Zg8(a:AF):EF:=λr=>(a r).map λds=>.tuple ds
@[simp] def Zew(a:AF):BF:=λr=>(a r).map λds=>.ol ds
inductive Ty where
 | bool | int | str | tuple | list | dict
@[simp] def Zih:Ty->D->Bool
 | .bool,.bool _=>true
 | .int,.int _=>true
 | .int,.bool _=>true
 | .str,.str _=>true
 | .tuple,.tuple _=>true
 | .list,.list _=>true
 | .dict,.dict _=>true
 | _,_=>false
@[simp] def ZdF(a:EF)(t:Ty):EF:=λr=>match a r with
 | some (.dict _)=>none
 | some d=>some (.bool (Zih t d))
 | none=>none
@[simp] def Zwa(x y:D):Option D:=Zfm (λi j=>some (.int (if j > i then j else i))) x y
@[simp] def Zwz(x y:D):Option D:=Zfm (λi j=>some (.int (if j<i then j else i))) x y
@[simp] def Zpb(a:EF):EF:=λr=>match a r with
 | some (.int i)=>some (.int i)
 | some (.bool b)=>some (.int (if b then 1 else 0))
 | _=>none
@[simp] def ZlR(a b:BF):BF:=λr=>match a r with
 | some (.ol xs)=>match b r with
  | some (.ol ys)=>if xs.length+ys.length<big then some (.ol (xs++ys))else none
  | _=>none
 | _=>none
@[simp] def Zub(a:BF)(b:EF):BF:=λr=>match a r with
 | some (.ol xs)=>match b r with
  | some (.int k)=>if decide (k.natAbs<1000)&&decide (xs.length<1000)then some (.ol (Zy8 k.toNat xs).flatten)else none
  | _=>none
 | _=>none
def sIx(n d:Nat):Option Int->Nat
 | none=>d
 | some v=>if v<0 then(v+(n:Int)).toNat else min v.toNat n
def cutD(xs:List D)(lo hi:Option Int):List D:=(xs.drop (sIx xs.length 0 lo)).take (sIx xs.length xs.length hi-sIx xs.length 0 lo)
@[simp] def ZlH(a:Option EF)(r:Env):Option (Option Int):=match a with
 | none=>some none
 | some f=>match f r with
  | some (.int i)=>some (some i)
  | _=>none
@[simp] def Ztu(a:BF)(lo hi:Option EF):BF:=λr=>match a r with
 | some x=>match ZlP x with
  | some xs=>match ZlH lo r with
   | some l=>match ZlH hi r with
    | some h=>some (.ol (cutD xs l h))
    | none=>none
   | none=>none
  | none=>none
 | none=>none
def ZaG:List D->Option (List Int)
 | []=>some []
 | .int i::r=>(ZaG r).map (i::·)
 | _::_=>none
def Zjs:List D->Option (List (List Int))
 | []=>some []
 | .tuple ds::r=>match ZaG ds with
  | some ns=>(Zjs r).map (ns::·)
  | none=>none
 | _::_=>none
def lexLt:List Int->List Int->Bool
 | [],[]=>false
 | [],_::_=>true
 | _::_,[]=>false
 | a::r,b::q=>if a=b then lexLt r q else decide (a<b)
def sortI(ns:List Int):List Int:=ns.mergeSort λa b=>decide (a<=b)
def ZdR(ts:List (List Int)):List (List Int):=ts.mergeSort λa b=>!lexLt b a
def ofInts(ns:List Int):List D:=ns.map λi=>Zze i
def Ze6(ts:List (List Int)):List D:=ts.map λt=>Zzf (ofInts t)
def Ze1(ds:List D):Option (List D) :=
 if ds.length<64 then match ZaG ds with
  | some ns=>some (ofInts (sortI ns))
  | none=>match Zjs ds with
   | some ts=>if ds.length<2||ts.all (λt=>!t.isEmpty)then some (Ze6 (ZdR ts))else none
   | none=>none
 else none
@[simp] def Zuu:B->Option (List D)
 | .pl (.tuple ds)=>some ds
 | .pl (.list ds)=>some ds
 | .ol ds=>some ds
 | .ok kvs=>some (kvs.map λp=>ZaE p.1)
 | .ot kvs=>some (kvs.map λp=>.tuple (p.1.map ZaE))
 | .otl kvs=>some (kvs.map λp=>.tuple (p.1.map ZaE))
 | _=>none
@[simp] def ZfL(a:BF):BF:=λr=>match a r with
 | some x=>match Zuu x with
  | some ds=>(Ze1 ds).map λds=>.ol ds
  | none=>none
 | none=>none
def dedup:List Int->List Int->List Int
 | acc,[]=>acc
 | acc,i::r=>if acc.contains i then dedup acc r else dedup (acc++[i]) r
def ZqR(ns:List Int):Bool:=ns.all λn=>decide (0<=n)&&decide (n<8)
@[simp] def ZfG(a:BF):BF:=λr=>match a r with
 | some x=>match ZlP x with
  | some ds=>match ZaG ds with
   | some ns=>if ZqR ns then some (.ol (ofInts (sortI (dedup [] ns))))else none
   | none=>none
  | none=>none
 | none=>none
@[simp] def Zl(m:List D->Option D)(a:AF):EF:=λr=>match a r with
 | some ds=>m ds
 | none=>none
@[simp] def Z4(a:BF):IF:=λr=>match a r with
 | some x=>Za9 x
 | none=>none
def ZbK(lo:Int)(n:Nat):List D:=(ZyF n).map λ(k:Nat)=>Zze (lo+(k:Int))
def okR(j:Int):Bool:=Nat.blt j.natAbs 1000000
@[simp] def ZbW(a:EF):IF:=λr=>match a r with
 | some (.int j)=>if okR j then some (ZbK 0 j.toNat)else none
 | _=>none
@[simp] def Zjx(a b:EF):IF:=λr=>match a r with
 | some (.int i)=>match b r with
  | some (.int j)=>if okR i&&okR j then some (ZbK i (j-i).toNat)else none
  | _=>none
 | _=>none
@[simp] def ZeR(i:IF):EF:=λr=>match i r with
 | some ds=>if ds.length<big then some (.tuple ds)else none
 | none=>none
def Zax(c:TF)(e:EF)(r:Env):List D->Option (List D)
 | []=>some []
 | x::xs=>match c (some (.pl x)::r)with
  | some true=>match e (some (.pl x)::r)with
   | some y=>(Zax c e r xs).map (y::·)
   | none=>none
  | some false=>Zax c e r xs
  | none=>none
@[simp] def Zaa:TF:=λ_=>some true
@[simp] def ZL(i:IF)(c:TF)(e:EF):BF:=λr=>match i r with
 | some xs=>if xs.length<big then(Zax c e r xs).map λys=>.ol ys else none
 | none=>none
@[simp] def Zr(a b:SF):SF:=λr=>match a r with
 | some (.nx r')=>b r'
 | some (.rt d)=>some (.rt d)
 | some (.bk r')=>some (.bk r')
 | some (.ct r')=>some (.ct r')
 | none=>none
@[simp] def Zae:SF:=λr=>some (.nx r)
@[simp] def ZkO:SF:=λ_=>none
@[simp] def ZC(a:EF):SF:=λr=>(a r).map Out.rt
@[simp] def Z0(i:Nat)(a:EF):SF:=λr=>(a r).map λd=>.nx (r.set i (some (.pl d)))
@[simp] def ZT(i:Nat)(a:BF):SF:=λr=>(a r).map λb=>.nx (r.set i (some b))
@[simp] def Zk5(i:Nat)(r:Env):Env:=match r[i]? with
 | some (some (.ol ds))=>r.set i (some (.pl (.list ds)))
 | some (some (.ot kvs))=>r.set i (some (.pl (.dict (Zk kvs))))
 | _=>r
@[simp] def ZeJ(i:Nat):SF->SF:=λa r=>a (Zk5 i r)
@[simp] def ZkJ(a:EF):SF:=λr=>(a r).map λ_=>.nx r
@[simp] def sIf(c:TF)(a b:SF):SF:=λr=>match c r with
 | some true=>a r
 | some false=>b r
 | none=>none
def Z1(i:Nat)(body:SF):List D->Env->Option Out
 | [],r=>some (.nx r)
 | x::xs,r=>match body (r.set i (some (.pl x)))with
  | some (.nx r')=>Z1 i body xs r'
  | some (.ct r')=>Z1 i body xs r'
  | some (.bk r')=>some (.nx r')
  | some (.rt d)=>some (.rt d)
  | none=>none
@[simp] def Za2(i:Nat)(it:IF)(body:SF):SF:=λr=>match it r with
 | some xs=>if xs.length<big then Z1 i body xs r else none
 | none=>none
def ZaW(c:TF)(body:SF):Nat->Env->Option Out
 | 0,_=>none
 | n+1,r=>match c r with
  | some true=>match body r with
   | some (.nx r')=>ZaW c body n r'
   | some (.ct r')=>ZaW c body n r'
   | some (.bk r')=>some (.nx r')
   | some (.rt d)=>some (.rt d)
   | none=>none
  | some false=>some (.nx r)
  | none=>none
@[simp] def Zdy(i:Nat)(a:EF):SF:=λr=>match r[i]? with
 | some (some (.ol ds))=>match a r with
  | some d=>if ds.length<big then some (.nx (r.set i (some (.ol (ds++[d])))))else none
  | none=>none
 | _=>none
@[simp] def Zq4(i:Nat)(k v:EF):SF:=λr=>match v r with
 | some d=>match r[i]? with
  | some (some (.ol ds))=>match k r with
   | some (.int n)=>match ixN ds.length n with
    | some j=>some (.nx (r.set i (some (.ol (ds.set j d)))))
    | none=>none
   | _=>none
  | _=>none
 | none=>none
def putD{k v:Type}[DecidableEq k](kvs:List (k × v))(x:k)(y:v):List (k × v) :=
 if(kvs.any λp=>decide (p.1=x))=true then kvs.map (λp=>if p.1=x then(p.1,y)else p)else kvs++[(x,y)]
def Zi{k v:Type}[DecidableEq k](kvs:List (k × v))(x:k):Option v:=(kvs.find? λp=>decide (p.1=x)).map (·.2)
@[simp] def ZhR:D->Option Ky
 | .int i=>some (.inl i)
 | .str x=>some (.inr x)
 | _=>none
def ZgD:List D->Option (List Ky)
 | []=>some []
 | d::r=>match ZhR d with
  | some k=>(ZgD r).map (k::·)
  | none=>none
def tkL:D->Option (List Ky)
 | .tuple ds=>ZgD ds
 | _=>none
def Zlv:List D->Option (List Ky)
 | []=>some []
 | .int i::r=>(Zlv r).map (ZAu i::·)
 | _::_=>none
def ZaS:D->Option (List Ky)
 | .tuple ds=>Zlv ds
 | _=>none
@[simp] def Zhd(i:Nat)(k v:EF):SF:=λr=>match v r with
 | some d=>match k r with
  | some x=>match r[i]? with
   | some (some (.ok kvs))=>match ZhR x with
    | some y=>if kvs.length<big then some (.nx (r.set i (some (.ok (putD kvs y d)))))else none
    | none=>none
   | some (some (.ot kvs))=>match ZaS x with
    | some y=>if kvs.length<big then some (.nx (r.set i (some (.ot (putD kvs y d)))))else none
    | none=>none
   | _=>none
  | none=>none
 | none=>none
@[simp] def fDk:BF:=λ_=>some (.ok [])
@[simp] def fDt:BF:=λ_=>some (.ot [])
@[simp] def ZtN:BF:=λ_=>some (.otl [])
@[simp] def ZnW(k v:EF):BF:=λr=>match k r with
 | some x=>match v r with
  | some d=>match ZhR x with
   | some y=>some (.ok [(y,d)])
   | none=>none
  | none=>none
 | none=>none
def ZbH{k v:Type}[DecidableEq k](kvs:List (k × List v))(x:k):List (k × List v):=match Zi kvs x with
 | some _=>kvs
 | none=>kvs++[(x,[])]
def Zdk{k v:Type}[DecidableEq k]:List (k × List v)->k->v->List (k × List v)
 | [],_,_=>[]
 | (x,ds)::r,y,d=>if x=y then(x,ds++[d])::r else(x,ds)::Zdk r y d
@[simp] def Zop(i:Nat)(k v:EF):SF:=λr=>match k r with
 | some x=>match r[i]? with
  | some (some (.otl kvs))=>match ZaS x with
   | some y=>if kvs.length<big then
     match v (r.set i (some (.otl (ZbH kvs y))))with
     | some d=>match Zi (ZbH kvs y) y with
      | some ds=>if ds.length<big then some (.nx (r.set i (some (.otl (Zdk (ZbH kvs y) y d)))))else none
      | none=>none
     | none=>none
    else none
   | none=>none
  | _=>none
 | none=>none
@[simp] def Zlm(i:Nat)(k:EF):SF:=λr=>match k r with
 | some x=>match r[i]? with
  | some (some (.otl kvs))=>match ZaS x with
   | some y=>if kvs.length<big then
     match Zi kvs y with
     | none=>some (.nx (r.set i (some (.otl (kvs++[(y,[])])))))
     | some _=>none
    else none
   | none=>none
  | _=>none
 | none=>none
@[simp] def ZnU(i:Nat)(k v:EF):SF:=λr=>match k r with
 | some x=>match r[i]? with
  | some (some (.otl kvs))=>match ZaS x with
   | some y=>match v r with
    | some d=>match Zi kvs y with
     | some ds=>if ds.length<big then some (.nx (r.set i (some (.otl (Zdk kvs y d)))))else none
     | none=>none
    | none=>none
   | none=>none
  | _=>none
 | none=>none
@[simp] def hasB(b:B)(x:D):Option Bool:=match b with
 | .ok kvs=>(ZhR x).map λy=>(Zi kvs y).isSome
 | .ot kvs=>(ZaS x).map λy=>(Zi kvs y).isSome
 | .otl kvs=>(ZaS x).map λy=>(Zi kvs y).isSome
 | _=>none
@[simp] def Zk6(k:EF)(a:BF):EF:=λr=>match k r with
 | some x=>match a r with
  | some b=>(hasB b x).map λc=>.bool (!c)
  | none=>none
 | none=>none
@[simp] def Zoi(i:Nat)(k:EF):BF:=λr=>match k r with
 | some x=>match r[i]? with
  | some (some (.ok kvs))=>match ZhR x with
   | some y=>(Zi kvs y).map B.pl
   | none=>none
  | some (some (.ot kvs))=>match ZaS x with
   | some y=>(Zi kvs y).map B.pl
   | none=>none
  | some (some (.otl kvs))=>match ZaS x with
   | some y=>(Zi kvs y).map B.ol
   | none=>none
  | _=>none
 | none=>none
abbrev fnD(t:Nat)(cs:List D):D:=.dict [(.none,.int (Int.ofNat t)),(.none,.list cs)]
@[simp] def Zer(n:Nat)(ds:List D):Env:=ds.map (λd=>some (B.pl d))++Zy8 (n-ds.length) none
@[simp] def fnOf(k n:Nat)(m:SF):List D->Option D:=λds =>
 if ds.length=k then match m (Zer n ds)with
  | some (.nx _)=>some .none
  | some (.rt d)=>some d
  | _=>none
 else none
end HM
namespace HM
open PySem
def ZcB(c:TF)(e:EF)(r:Env):List D->Option (List D)
 | []=>some []
 | .tuple [x,y]::xs=>match c (some (.pl x)::some (.pl y)::r)with
  | some true=>match e (some (.pl x)::some (.pl y)::r)with
   | some z=>(ZcB c e r xs).map (z::·)
   | none=>none
  | some false=>ZcB c e r xs
  | none=>none
 | _=>none
@[simp] def Ze3(i:IF)(c:TF)(e:EF):BF:=λr=>match i r with
 | some xs=>if xs.length<big then(ZcB c e r xs).map λys=>.ol ys else none
 | none=>none
def ZnP(ds:List D)(i:Int):Option Bool:=(ZaG ds).map λns=>ns.contains i
@[simp] def ZoD(k:EF)(a:BF):EF:=λr=>match k r with
 | some (.int i)=>match a r with
  | some b=>match Za9 b with
   | some ds=>(ZnP ds i).map λc=>.bool c
   | none=>none
  | none=>none
 | _=>none
@[simp] def Zhr(k:EF)(a:BF):EF:=λr=>match k r with
 | some (.int i)=>match a r with
  | some b=>match Za9 b with
   | some ds=>(ZnP ds i).map λc=>.bool (!c)
   | none=>none
  | none=>none
 | _=>none
end HM
namespace HM
open PySem
@[simp] def Zk8(n:Nat)(c:TF)(body:SF):SF:=λr=>ZaW c body n r
end HM
namespace HM
open PySem
def ZnM(ds:List D)(x:D):Option Bool:=if Zan x&&ds.all Zan then some (ds.any λd=>Zzv d x)else none
@[simp] def Zhu(k:EF)(a:BF):EF:=λr=>match k r with
 | some x=>match a r with
  | some b=>match Za9 b with
   | some ds=>(ZnM ds x).map λc=>.bool (!c)
   | none=>none
  | none=>none
 | none=>none
end HM
namespace HM
open PySem
def Zfj:List (D × D)->Option (List (List Ky × D))
 | []=>some []
 | (k,v)::r=>match tkL k with
  | some ks=>(Zfj r).map ((ks,v)::·)
  | none=>none
@[simp] def Zkd:B->Option (List (List Ky × D))
 | .ot kvs=>some kvs
 | .pl (.dict es)=>Zfj es
 | .hd es=>Zfj es
 | _=>none
@[simp] def Zn0(k:EF)(a:BF):EF:=λr=>match k r with
 | some x=>match a r with
  | some b=>match Zkd b with
   | some kvs=>(ZaS x).map λy=>.bool (Zi kvs y).isSome
   | none=>none
  | none=>none
 | none=>none
@[simp] def Zce(k:EF)(a:BF):EF:=λr=>match k r with
 | some x=>match a r with
  | some b=>match Zkd b with
   | some kvs=>(ZaS x).map λy=>.bool (!(Zi kvs y).isSome)
   | none=>none
  | none=>none
 | none=>none
@[simp] def Zbt(a:BF)(k:EF):EF:=λr=>match a r with
 | some b=>match Zkd b with
  | some kvs=>match k r with
   | some x=>match ZaS x with
    | some y=>Zi kvs y
    | none=>none
   | none=>none
  | none=>none
 | none=>none
@[simp] def ZiZ(a:BF)(k e:EF):EF:=λr=>match a r with
 | some b=>match Zkd b with
  | some kvs=>match k r with
   | some x=>match e r with
    | some z=>match ZaS x with
     | some y=>some ((Zi kvs y).getD z)
     | none=>none
    | none=>none
   | none=>none
  | none=>none
 | none=>none
@[simp] def Zjq:D->Bool
 | .none=>true
 | .bool _=>true
 | .int _=>true
 | .str _=>true
 | _=>false
@[simp] def Zm3(f:BF):EF:=λr=>(f r).bind frz
@[simp] def Zos(m:List D->Option D)(a:AF):EF:=λr=>match a r with
 | some ds=>match m ds with
  | some d=>if Zjq d then some d else none
  | none=>none
 | none=>none
theorem ZuF(ks:List Ky):tkL (.tuple (ks.map ZaE))=some ks:=by
 show ZgD (ks.map ZaE)=some ks
 induction ks with
 | nil=>rfl
 | cons k ks ih=>show(match ZhR (ZaE k)with | some q=>(ZgD (ks.map ZaE)).map (q::·) | none=>none)=_;rw[ih];cases k<;>rfl
theorem dec_enc(kvs:List (List Ky × D)):Zfj (Zk kvs)=some kvs:=by
 induction kvs with
 | nil=>rfl
 | cons p kvs ih=>obtain⟨k,d⟩:=p;show(match tkL (.tuple (k.map ZaE))with | some ks=>(Zfj (Zk kvs)).map ((ks,d)::·) | none=>none)=_;rw[ZuF,ih];rfl
end HM
namespace HM
open PySem
@[simp] def Zh0(a:BF):EF:=λr=>match a r with
 | some x=>match ZlP x with
  | some ds=>match ZaG ds with
   | some ns=>ns.max?.map λi=>Zze i
   | none=>none
  | none=>none
 | none=>none
end HM
namespace HM
open PySem
end HM
namespace HM
open PySem
@[simp] def Zjr(i:Nat)(f:BF):SF:=λr=>match r[i]? with
 | some (some (.ol ds))=>match f r with
  | some (.ol es)=>if ds.length+es.length<big then some (.nx (r.set i (some (.ol (ds++es)))))else none
  | _=>none
 | _=>none
@[simp] def Ztp(i j:Nat):SF:=λr=>match r[j]? with
 | some (some (.ol ds))=>match ds[ds.length-1]? with
  | some d=>some (.nx ((r.set j (some (.ol ds.dropLast))).set i (some (.pl d))))
  | none=>none
 | _=>none
@[simp] def ZiW(m:List D->Option D)(a:AF):BF:=λr=>match a r with
 | some ds=>match m ds with
  | some (.list ys)=>some (.ol ys)
  | _=>none
 | none=>none
def Zbr:Option B->Bool
 | some (.hd _)=>true
 | _=>false
@[simp] def ZeZ(i:Nat)(g:SF):SF:=λr=>match r[i]? with
 | some (some (.pl (.dict es)))=>if r.all (λq=>!Zbr q)then match g (r.set i (some (.hd es)))with
   | some (.nx r')=>match r'[i]? with
    | some (some (.hd es'))=>if(r'.set i none).all (λq=>!Zbr q)then some (.nx (r'.set i (some (.pl (.dict es')))))else none
    | _=>none
   | some (.rt d)=>some (.rt d)
   | _=>none
  else none
 | _=>g r
@[simp] def Zbf(i:Nat):IF:=λr=>match r[i]? with
 | some (some (.pl (.tuple ds)))=>some ds
 | some (some (.pl (.list ds)))=>some ds
 | some (some (.hd es))=>(Zfj es).map λkvs=>kvs.map λp=>.tuple (p.1.map ZaE)
 | _=>none
end HM
namespace HM
open PySem
@[simp] def ZgE(a:EF)(lo hi:Option EF):EF:=λr=>match a r with
 | some (.tuple xs)=>match ZlH lo r with
  | some l=>match ZlH hi r with
   | some h=>if sIx xs.length 0 l=0/\sIx xs.length xs.length h=xs.length then none else some (.tuple (cutD xs l h))
   | none=>none
  | none=>none
 | _=>none
end HM
namespace HM
open PySem
end HM
namespace HM
open PySem
abbrev AP:=Nat->List D->List D->Option D
def ZlK:D->Option (Nat × List D)
 | .dict [(.none,.int (Int.ofNat t)),(.none,.list cs)]=>some (t,cs)
 | _=>none
@[simp] def Zgp(ap:AP)(i:Nat)(a:AF):EF:=λr=>match r[i]? with
 | some (some (.pl d))=>match ZlK d with
  | some (t,cs)=>match a r with
   | some ds=>ap t cs ds
   | none=>none
  | none=>none
 | _=>none
def noF:Nat->D->Bool
 | _,.none=>true
 | _,.bool _=>true
 | _,.int _=>true
 | _,.str _=>true
 | n+1,.tuple ds=>ds.all (noF n)
 | n+1,.list ds=>ds.all (noF n)
 | n+1,.dict es=>es.all λp=>(match p.1 with | .none=>false | _=>true)&&noF n p.2
 | _,_=>false
def ZkZ:List Nat->Env->Option (List D)
 | [],_=>some []
 | i::is,r=>match r[i]? with
  | some (some (.pl d))=>(ZkZ is r).map (d::·)
  | _=>none
@[simp] def Zie(m:List D->Option D)(t:Nat)(is:List Nat)(a:EF):EF:=λr=>match a r with
 | some d1=>match ZkZ is r with
  | some cs=>if cs.all (noF 20)then match m [d1,fnD t cs]with
    | some d=>if noF 20 d then some d else none
    | none=>none
   else none
  | none=>none
 | none=>none
def ZkT(n m:Nat)(e:EF):List D->List D->Option D:=λcs ds=>if ds.length=n/\cs.length=m/\ds.all (noF 20)=true then e ((ds++cs).map λd=>some (B.pl d))else none
@[simp] def ZfH(a:BF):EF:=λr=>match a r with
 | some x=>match ZlP x with
  | some ds=>match ZaG ds with
   | some ns=>some (match ns.min? with | some i=>.int i | none=>.none)
   | none=>none
  | none=>none
 | none=>none
abbrev NF:=Env->Option (List (List Ky × D))
@[simp] def Zku(a:SF)(m:NF):NF:=λr=>match a r with
 | some (.nx r')=>m r'
 | _=>none
@[simp] def ZnO(j:Nat):NF:=λr=>match r[j]? with
 | some (some (.ot kvs))=>some kvs
 | _=>none
def newOf(k n:Nat)(m:NF):List D->Option (List (List Ky × D)):=λds=>if ds.length=k then m (Zer n ds)else none
@[simp] def Zi8(m:List D->Option (List (List Ky × D)))(a:AF):BF:=λr=>match a r with
 | some ds=>match m ds with
  | some kvs=>if kvs.all (λp=>Zjq p.2)then some (.ot kvs)else none
  | none=>none
 | none=>none
end HM
namespace HM
open PySem
@[simp] def Zi7(a b:EF):EF:=λr=>match a r with
 | some (.tuple xs)=>match b r with
  | some (.tuple ys)=>if xs.length+ys.length<big then some (.tuple (xs++ys))else none
  | _=>none
 | _=>none
end HM
namespace HP
open PySem PySem.Spec PyProof.Rows L2
@[reducible] def Zc6(H':Hp)(b:Addr):HO->Prop
 | .tbl _=>∃ps',H' b=some (.tbl ps')
 | o=>H' b=some o
def Zay(H H':Hp):Prop:=∀b o,H b=some o->Zc6 H' b o
theorem Zc6.of{H':Hp}{b:Addr}{o:HO}(h:H' b=some o):Zc6 H' b o:=by cases o<;>first | exact h | exact⟨_,h⟩
theorem Zc6.ex{H':Hp}{b:Addr}{o:HO}(h:Zc6 H' b o):∃u,H' b=some u:=by cases o<;>first | exact⟨_,h⟩ | (obtain⟨ps,e⟩:=h; exact⟨_,e⟩)
theorem Zc6.no{H':Hp}{b:Addr}{o:HO}(h:Zc6 H' b o)(n:∀ps,o≠.tbl ps):H' b=some o:=by cases o<;>first | exact h | exact absurd rfl (n _)
theorem Zay.of{H H':Hp}(s:Zp H H'):Zay H H':=λb o h=>.of (s b o h)
theorem Zay.refl(H:Hp):Zay H H:=.of (.refl H)
theorem Zay.trans{H H1 H2:Hp}(a:Zay H H1)(b:Zay H1 H2):Zay H H2:=λc o h=>by have h1:=a c o h;cases o<;>first | exact b c _ h1 | (obtain⟨ps,e⟩:=h1; exact(show ∃ps',H2 c=some (.tbl ps') from b c _ e))
theorem Zay.free{H H':Hp}(e:Zay H H'){l:Addr}(h:H' l=none):H l=none:=by
 cases q:H l with
 | none=>rfl
 | some o=>obtain⟨u,z⟩:=(e l o q).ex;rw[h]at z; cases z
theorem Zay.back{H H':Hp}(e:Zay H H'){l:Addr}{o u:HO}(h:H l=some o)(h':H' l=some u)(n:∀ps,u≠.tbl ps):o=u:=by have z:=e l o h;cases o<;>first | (obtain⟨ps,q⟩:=z; rw[h']at q; cases q; exact absurd rfl (n _)) | (have z:H' l=some _:=z; rw[h']at z; cases z; rfl)
def Zcp(H:Hp):Hp:=λb=>match H b with
 | some (.tbl _)=>none
 | x=>x
def nt:HO->Bool
 | .tbl _=>false
 | _=>true
def NoT(F:Hp):Prop:=∀b o,F b=some o->nt o=true
theorem Zcm{H:Hp}{b:Addr}{o:HO}(h:H b=some o)(n:nt o=true):Zcp H b=some o:=by unfold Zcp; rw[h];cases o<;>first | rfl | cases n
theorem ZgL{H:Hp}{b:Addr}{o:HO}(h:Zcp H b=some o):H b=some o/\nt o=true:=by
 unfold Zcp at h;split at h
 ·cases h
 ·rename_i n
  refine⟨h,?_⟩;cases o<;>first | rfl | exact absurd h (n _)
theorem Zi3{H:Hp}:Zp (Zcp H) H:=λb o h=>(ZgL h).1
theorem NoT.drop{H:Hp}:NoT (Zcp H):=λb o h=>(ZgL h).2
theorem NoT.sub{F H:Hp}(n:NoT F)(s:Zp F H):Zp F (Zcp H):=λb o h=>Zcm (s b o h) (n b o h)
theorem NoT.upd{F:Hp}{p:Addr}{o:HO}(n:NoT F)(h:nt o=true):NoT (upd F p o):=λb u z=>by
 by_cases hb:b=p
 ·subst hb; rw[ZB]at z; cases z; exact h
 ·rw[ZA hb]at z; exact n b u z
theorem Zay.ntb{H H':Hp}(s:Zay H H'){b:Addr}{o:HO}(h:H b=some o)(n:nt o=true):H' b=some o:=(s b o h).no λps z=>by subst z; cases n
def Dk(vvs:List (List Key × V))(u:HO):Prop:=u=.dT vvs\/∃o,u=.frz o (.dT vvs)
def sw(a:Addr)(ob:HO)(G:Hp):Hp:=λb=>if b=a then(G a).map (λ_=>ob)else G b
class FX where
 tl:List (Addr × Str)
 fv:Nat->List PyData->Hp->Addr->Prop
 sw:∀{t:Nat} {cs:List PyData} {F:Hp} {a b:Addr} {ob:HO} {vvs:List (List Key × V)},(∀u,F a=some u->Dk vvs u)->Dk vvs ob->fv t cs F b->fv t cs (sw a ob F) b
 drop:∀{t:Nat} {cs:List PyData} {F:Hp} {a:Addr},fv t cs F a->fv t cs (Zcp F) a
 mono:∀{t:Nat} {cs:List PyData} {F F':Hp} {a:Addr},fv t cs F a->Zp F F'->fv t cs F' a
variable[FX]
def Zbk(a:Addr)(o:Obj):HO:=.ext λh=>h.get? a=some o
def Zlr(o:Obj)(q:Str):Prop:=∃vs t,o.data=.fields vs/\vs[1]?=some (.str q t)
def Tb(H:Hp):Prop:=∀P q,(P,q)∈FX.tl->∃ps,H P=some (.tbl ps)/\TriplesOk ps.toList/\∀pos c,ZCp pos ps.toList=some c->∃a o,c=.ref a/\H a=some (Zbk a o)/\Zlr o q
def Zlx:HO->Bool
 | .lst _=>true
 | .dK _=>true
 | .dT _=>true
 | _=>false
def te:HO->Bool
 | .tbl _=>true
 | .ext _=>true
 | _=>false
theorem Zso{o:HO}(h:Zlx o=true)(h':te o=true):False:=by cases o<;>simp_all [Zlx,te]
theorem Tb.keep{H H':Hp}(t:Tb H)(k:∀a o,H a=some o->te o=true->H' a=some o):Tb H':=λP q hP=>by obtain⟨ps,h1,h2,h3⟩:=t P q hP;refine⟨ps,k _ _ h1 rfl,h2,λpos c hc=>?_⟩;obtain⟨a,o,e1,e2,e3⟩:=h3 pos c hc;exact⟨a,o,e1,k _ _ e2 rfl,e3⟩
theorem Dk.te{vvs:List (List Key × V)}{u:HO}(h:Dk vvs u):te u=false:=by rcases h with h | ⟨o,h⟩<;>subst h<;>rfl
theorem Dk.ntt{vvs:List (List Key × V)}{u:HO}(h:Dk vvs u):nt u=true:=by rcases h with h | ⟨o,h⟩<;>subst h<;>rfl
theorem Tb.sw{G:Hp}{a:Addr}{ob:HO}{vvs:List (List Key × V)}(hG:∀u,G a=some u->Dk vvs u)(t:Tb G):Tb (HP.sw a ob G):=t.keep λb o z ht=>by
 have hb:b≠a:=λe=>by subst e; rw[(hG o z).te]at ht; cases ht
 unfold HP.sw; rw[if_neg hb]; exact z
theorem Tb.unsw{G:Hp}{a:Addr}{ob:HO}{vvs:List (List Key × V)}(hob:Dk vvs ob)(t:Tb (HP.sw a ob G)):Tb G:=t.keep λb o z ht=>by
 unfold HP.sw at z;split at z
 ·obtain⟨u,_,e⟩:=ZyB.mp z
  subst e; rw[hob.te]at ht; cases ht
 ·exact z
theorem Zc6.cong{H H':Hp}{b:Addr}{o:HO}(e:H' b=H b)(h:Zc6 H b o):Zc6 H' b o:=by unfold Zc6 at h ⊢; rw[e]; exact h
theorem Zay.sw{H0 H:Hp}{a:Addr}{ob:HO}(s:Zay H0 H):Zay (HP.sw a ob H0) (HP.sw a ob H):=λb o z=>by
 by_cases hb:b=a
 ·subst hb
  unfold HP.sw at z;rw[if_pos rfl]at z;obtain⟨u,h1,h2⟩:=ZyB.mp z;obtain⟨w,hw⟩:=(s _ _ h1).ex;refine .of ?_;unfold HP.sw;rw[if_pos rfl,hw,h2.symm]; rfl
 ·unfold HP.sw at z
  rw[if_neg hb]at z;refine(s b o z).cong ?_;unfold HP.sw; rw[if_neg hb]
theorem Tb.same{H H':Hp}(t:Tb H)(s:Zp H H'):Tb H':=t.keep λa o h _=>s a o h
theorem Zju{F F':Hp}{a:Addr}{u:HO}(r:Rd F a u)(s:Zp F F'):Rd F' a u:=r.imp (λh=>s _ _ h) λ⟨o,h⟩=>⟨o,s _ _ h⟩
def ZxR(K:Zyz)(a:Addr)(vs:List V):Prop:=∃(o:Obj) (its:Array Value) (n:Nat),K.lookup a=some o/\o.cls=.type "tuple"/\o.data=.seq its n/\its.size<=sizeLine/\Vals vs its.toList
theorem Zia{K:Zyz}{F F':Hp}{a:Addr}{vs:List V}(h:SqT K F a vs)(s:Zp F F'):SqT K F' a vs:=h.imp (λh=>Zju h s) id
inductive Rep(K:Zyz)(F:Hp):PyData->V->Prop where
 | non:Rep K F .none .non
 | bl (b:Bool):Rep K F (.bool b) (.bl b)
 | int (i:Int):Rep K F (.int i) (.int i)
 | str (x:Str):Rep K F (.str x) (.str x)
 | tupk {a:Addr} {x:Str} (h:ZxR K a [.str x]):Rep K F (.tuple [.str x]) (.ref a)
 | tup {a:Addr} {ds:List PyData} {vs:List V} (h:F a=some (.tup vs)) (hl:ds.length=vs.length) (hr:∀(i:Nat) (d:PyData) (v:V),ds[i]?=some d->vs[i]?=some v->Rep K F d v):Rep K F (.tuple ds) (.ref a)
 | lst {a:Addr} {ds:List PyData} {vs:List V} (h:SqL K F a vs) (hl:ds.length=vs.length) (hr:∀(i:Nat) (d:PyData) (v:V),ds[i]?=some d->vs[i]?=some v->Rep K F d v):Rep K F (.list ds) (.ref a)
 | dct {a:Addr} {es:List (PyData × PyData)} {kvs:List (List Key × PyData)} {vvs:List (List Key × V)} (h:Rd F a (.dT vvs)) (he:es=HM.Zk kvs) (hk:kvs.map (·.1)=vvs.map (·.1)) (hr:∀(i:Nat) (d:PyData) (v:V),(kvs.map (·.2))[i]?=some d->(vvs.map (·.2))[i]?=some v->Rep K F d v):Rep K F (.dict es) (.ref a)
 | fn {a:Addr} {t:Nat} {cs:List PyData} (h:FX.fv t cs F a):Rep K F (.dict [(.none,.int (Int.ofNat t)),(.none,.list cs)]) (.ref a)
def Zu(K:Zyz)(F:Hp)(ds:List PyData)(vs:List V):Prop:=ds.length=vs.length/\∀(i:Nat) (d:PyData) (v:V),ds[i]?=some d->vs[i]?=some v->Rep K F d v
section
variable{K:Zyz}{F F':Hp}{d:PyData}{v:V}{ds es:List PyData}{vs us:List V}
theorem Rep.mono(r:Rep K F d v)(s:Zp F F'):Rep K F' d v:=by
 induction r with
 | non=>exact .non
 | bl b=>exact .bl b
 | int i=>exact .int i
 | str x=>exact .str x
 | tup h hl _ ih=>exact .tup (s _ _ h) hl ih
 | tupk h=>exact .tupk h
 | lst h hl _ ih=>exact .lst (s.seq h) hl ih
 | dct h he hk _ ih=>exact .dct (Zju h s) he hk ih
 | fn h=>exact .fn (FX.mono h s)
theorem Rep.drop(r:Rep K F d v):Rep K (Zcp F) d v:=by
 induction r with
 | non=>exact .non
 | bl b=>exact .bl b
 | int i=>exact .int i
 | str x=>exact .str x
 | tup h hl _ ih=>exact .tup (Zcm h rfl) hl ih
 | tupk h=>exact .tupk h
 | lst h hl _ ih =>
  refine .lst ?_ hl ih;rcases h with(h | ⟨o,h⟩) | h
  ·exact .inl (.inl (Zcm h rfl))
  ·exact .inl (.inr ⟨o,Zcm h rfl⟩)
  ·exact .inr h
 | dct h he hk _ ih =>
  refine .dct ?_ he hk ih;rcases h with h | ⟨o,h⟩
  ·exact .inl (Zcm h rfl)
  ·exact .inr ⟨o,Zcm h rfl⟩
 | fn h=>exact .fn (FX.drop h)
theorem Zu.drop'(r:Zu K F ds vs):Zu K (Zcp F) ds vs:=⟨r.1,λi d v h1 h2=>(r.2 i d v h1 h2).drop⟩
theorem Zay.dr{H H':Hp}(s:Zay H H'):Zp (Zcp H) H':=λb o h=>s.ntb (ZgL h).1 (ZgL h).2
theorem Rep.monoT{H H':Hp}(r:Rep K H d v)(s:Zay H H'):Rep K H' d v:=r.drop.mono s.dr
theorem Zu.mono(r:Zu K F ds vs)(s:Zp F F'):Zu K F' ds vs:=⟨r.1,λi d v h1 h2=>(r.2 i d v h1 h2).mono s⟩
theorem Zu.nil:Zu K F [] []:=⟨rfl,λi d v h=>by simp at h⟩
theorem Zu.cons(r:Rep K F d v)(q:Zu K F ds vs):Zu K F (d::ds) (v::vs) :=
 ⟨by rw[ZyP,ZyP,q.1],λi e u h1 h2=>by
  cases i with
  | zero=>rw[ZA7]at h1 h2;cases h1; cases h2; exact r
  | succ i=>rw[Zzh]at h1 h2;exact q.2 i e u h1 h2⟩
theorem Zu.nil_inv(r:Zu K F [] vs):vs=[]:=ZAd r.1.symm
theorem Zu.cons_inv(r:Zu K F (d::ds) vs):∃v us,vs=v::us/\Rep K F d v/\Zu K F ds us:=by
 cases vs with
 | nil=>exact absurd r.1 (by simp)
 | cons v us =>
  refine⟨v,us,rfl,r.2 0 d v rfl rfl,?_,λi e u h1 h2=>r.2 (i+1) e u ?_ ?_⟩
  ·have:=r.1
   rw[ZyP,ZyP]at this;omega
  ·rw[Zzh]; exact h1
  ·rw[Zzh]; exact h2
theorem Zu.append(r:Zu K F ds vs)(q:Zu K F es us):Zu K F (ds++es) (vs++us):=by
 refine⟨by rw[ZyS,ZyS,r.1,q.1],λi e u h1 h2=>?_⟩
 by_cases hi:i<ds.length
 ·rw[Zy9 hi]at h1
  rw[Zy9 (by rw[<-r.1]; exact hi)]at h2;exact r.2 i e u h1 h2
 ·rw[Zzn (by omega)]at h1
  rw[Zzn (by have:=r.1; omega),<-r.1]at h2;exact q.2 _ e u h1 h2
theorem Zu.get(r:Zu K F ds vs){i:Nat}(h:ds[i]?=some d):∃v,vs[i]?=some v/\Rep K F d v:=by
 have hi:i<vs.length:=by rw[<-r.1]; exact(ZyM.mp h).1
 exact⟨vs[i],ZyO hi,r.2 i d _ h (ZyO hi)⟩
theorem Zu.drop(r:Zu K F ds vs)(n:Nat):Zu K F (ds.drop n) (vs.drop n) :=
 ⟨by rw[ZAr,ZAr,r.1],λi e u h1 h2=>by rw[List.getElem?_drop]at h1 h2;exact r.2 _ e u h1 h2⟩
theorem Zu.take(r:Zu K F ds vs)(n:Nat):Zu K F (ds.take n) (vs.take n) :=
 ⟨by rw[ZzO,ZzO,r.1],λi e u h1 h2=>by
  by_cases hi:i<n
  ·rw[ZCR hi]at h1 h2
   exact r.2 _ e u h1 h2
  ·rw[List.getElem?_take_eq_none (by omega)]at h1
   cases h1⟩
theorem Zu.set(r:Zu K F ds vs)(q:Rep K F d v)(j:Nat):Zu K F (ds.set j d) (vs.set j v):=by
 refine⟨by rw[ZzM,ZzM,r.1],λi e u h1 h2=>?_⟩;have hi:i<ds.length:=by have:=(ZyM.mp h1).1; rwa [ZzM]at this
 by_cases e1:j=i
 ·subst e1
  rw[Zzs hi]at h1;rw[Zzs (by rw[<-r.1]; exact hi)]at h2;cases h1; cases h2; exact q
 ·rw[Zy7 e1]at h1 h2
  exact r.2 i e u h1 h2
theorem Zu.rep(r:Zu K F ds vs)(k:Nat):Zu K F (Zy8 k ds).flatten (Zy8 k vs).flatten:=by
 induction k with
 | zero=>exact Zu.nil
 | succ k ih=>rw[ZAo,ZAo,ZAT,ZAT]; exact r.append ih
theorem Zu.one(r:Rep K F d v):Zu K F [d] [v]:=.cons r .nil
end
def Fre(H:Hp)(a:Addr)(o:HO):Prop:=H a=none\/∃xs,o=.tup xs/\H a=some (.tup xs)
theorem Fre.back{H H':Hp}{a:Addr}{o:HO}(s:Zay H H')(f:Fre H' a o):Fre H a o:=by
 rcases f with f | ⟨xs,e,f⟩
 ·exact .inl (s.free f)
 ·cases q:H a with
  | none=>exact .inl q
  | some u =>
   have:=s.back q f λ_ z=>by cases z
   subst this;exact .inr ⟨xs,e,q⟩
theorem Fre.no{H:Hp}{a:Addr}{o u:HO}(f:Fre H a o)(h:H a=some u)(n:∀xs,u≠.tup xs):False:=by
 rcases f with f | ⟨xs,_,f⟩
 ·rw[h]at f; cases f
 ·rw[h]at f; cases f; exact n xs rfl
structure Ext(F H F' H':Hp):Prop where
 ff:Zp F F'
 hh:Zay H H'
 sub:Zp F' H'
 new:∀a o,F' a=some o->F a=some o\/Fre H a o
 tab:Tb H->Tb H'
 nts:NoT F->NoT F'
theorem Ext.refl{F H:Hp}(s:Zp F H):Ext F H F H:=⟨Zp.refl F,Zay.refl H,s,λ_ _ h=>.inl h,id,id⟩
theorem Ext.trans{F H F1 H1 F2 H2:Hp}(a:Ext F H F1 H1)(b:Ext F1 H1 F2 H2):Ext F H F2 H2 :=
 ⟨a.ff.trans b.ff,a.hh.trans b.hh,b.sub,λx o h=>by
  rcases b.new x o h with q | q
  ·exact a.new x o q
  ·exact .inr (q.back a.hh),λt=>b.tab (a.tab t),λt=>b.nts (a.nts t)⟩
theorem Zkn{F:Hp}{p:Addr}{o:HO}(h:F p=none):Zp F (upd F p o):=λb q z=>by rw[ZA (Zap z h)]; exact z
theorem Ext.lay{F H F' H':Hp}(e:Ext F H F' H'){p:Addr}{o:HO}(h:H' p=none)(no:nt o=true:=by rfl):Ext F H (upd F' p o) (upd H' p o):=by
 have hF:F' p=none:=e.sub.free h;refine⟨λb q z=>?_,e.hh.trans (.of (Zkn h)),λb q z=>?_,λb q z=>?_,λt=>(e.tab t).same (Zkn h),λt=>(e.nts t).upd no⟩
 ·rw[ZA (Zap (e.ff b q z) hF)]; exact e.ff b q z
 ·by_cases hb:b=p
  ·subst hb; rw[ZB]at z ⊢; exact z
  ·rw[ZA hb]at z ⊢; exact e.sub b q z
 ·by_cases hb:b=p
  ·subst hb; exact .inr (.inl (e.hh.free h))
  ·rw[ZA hb]at z; exact e.new b q z
theorem Ext.lay'{F H F' H':Hp}(e:Ext F H F' H'){p:Addr}{o:HO}(h:H' p=none):Ext F H F' (upd H' p o):=by refine⟨e.ff,e.hh.trans (.of (Zkn h)),λb q z=>?_,e.new,λt=>(e.tab t).same (Zkn h),e.nts⟩;rw[ZA (Zap (e.sub b q z) h)]; exact e.sub b q z
theorem Zp.upd'{F:Hp}{p:Addr}{o:HO}(h:F p=none):Zp F (upd F p o):=λb q z=>by rw[ZA (Zap z h)]; exact z
def ZcK(F H:Hp):Hp:=λa=>match H a with
 | some (.tup xs)=>some (.tup xs)
 | _=>F a
theorem ZnT{F H:Hp}{a:Addr}{xs:List V}(h:H a=some (.tup xs)):ZcK F H a=some (.tup xs):=by unfold ZcK; rw[h]
theorem Zdz{F H:Hp}(s:Zp F H):Zp F (ZcK F H):=λa o h=>by
 have:=s a o h;unfold ZcK;split
 ·rename_i xs q
  rw[q]at this;exact this
 ·exact h
theorem Ext.tups{F H F' H':Hp}(e:Ext F H F' H'):Ext F H (ZcK F' H') H':=by
 have key:Ext F' H' (ZcK F' H') H':=by
  refine⟨Zdz e.sub,Zay.refl H',λa o h=>?_,λa o h=>?_,id,λn a o h=>?_⟩
  ·unfold ZcK at h
   split at h
   ·rename_i xs q; rw[q]; exact h
   ·exact e.sub a o h
  ·unfold ZcK at h
   split at h
   ·rename_i xs q
    cases h;exact .inr (.inr ⟨xs,rfl,q⟩)
   ·exact .inl h
  ·unfold ZcK at h
   split at h
   ·cases h; rfl
   ·exact n a o h
 exact e.trans key
inductive Zac(K:Zyz)(F H:Hp):HM.B->V->List Addr->Prop where
 | pl {d:PyData} {v:V} (r:Rep K F d v):Zac K F H (.pl d) v []
 | ol {a:Addr} {ds:List PyData} {vs:List V} (h:H a=some (.lst vs)) (r:Zu K F ds vs):Zac K F H (.ol ds) (.ref a) [a]
 | ok {a:Addr} {kvs:List (Key × PyData)} {vvs:List (Key × V)} (h:H a=some (.dK vvs)) (hk:kvs.map (·.1)=vvs.map (·.1)) (r:Zu K F (kvs.map (·.2)) (vvs.map (·.2))):Zac K F H (.ok kvs) (.ref a) [a]
 | ot {a:Addr} {kvs:List (List Key × PyData)} {vvs:List (List Key × V)} (h:H a=some (.dT vvs)) (hk:kvs.map (·.1)=vvs.map (·.1)) (r:Zu K F (kvs.map (·.2)) (vvs.map (·.2))):Zac K F H (.ot kvs) (.ref a) [a]
 | otl {a:Addr} {kvs:List (List Key × List PyData)} {vvs:List (List Key × V)} {ls:List Addr} (h:H a=some (.dT vvs)) (hk:kvs.map (·.1)=vvs.map (·.1)) (hv:vvs.map (·.2)=ls.map V.ref)
   (r:∀(i:Nat) (ds:List PyData) (l:Addr),(kvs.map (·.2))[i]?=some ds->ls[i]?=some l->∃vs,H l=some (.lst vs)/\Zu K F ds vs):Zac K F H (.otl kvs) (.ref a) (a::ls)
 | hd {a:Addr} {o:Obj} {es:List (PyData × PyData)} {kvs:List (List Key × PyData)} {vvs:List (List Key × V)} (h:F a=some (.frz o (.dT vvs))) (he:es=HM.Zk kvs) (hk:kvs.map (·.1)=vvs.map (·.1)) (r:Zu K F (kvs.map (·.2)) (vvs.map (·.2))):Zac K F H (.hd es) (.ref a) []
 | hf {a:Addr} {t:Nat} {cs:List PyData} (h:FX.fv t cs F a):Zac K F H (.hd [(.none,.int (Int.ofNat t)),(.none,.list cs)]) (.ref a) []
section
variable{K:Zyz}{F F' H H':Hp}{b:HM.B}{v:V}{fp:List Addr}
theorem Zac.mono(r:Zac K F H b v fp)(s:Zp F F')(k:∀a∈fp,∀o,H a=some o->Zc6 H' a o):Zac K F' H' b v fp:=by
 cases r with
 | pl r=>exact .pl (r.mono s)
 | ol h r=>exact .ol (k _ (by simp) _ h) (r.mono s)
 | ok h hk r=>exact .ok (k _ (by simp) _ h) hk (r.mono s)
 | ot h hk r=>exact .ot (k _ (by simp) _ h) hk (r.mono s)
 | hd h he hk r=>exact .hd (s _ _ h) he hk (r.mono s)
 | hf h=>exact .hf (FX.mono h s)
 | otl h hk hv r=>refine .otl (k _ (by simp) _ h) hk hv λi ds l h1 h2=>?_;obtain⟨vs,q1,q2⟩:=r i ds l h1 h2;exact⟨vs,k l (ZyD _ (Zy3 h2)) _ q1,q2.mono s⟩
theorem Zac.there2(r:Zac K F H b v fp){a:Addr}(h:a∈fp):∃o,H a=some o/\Zlx o=true:=by
 cases r with
 | pl r=>simp at h
 | hd _ _ _ _=>simp at h
 | hf _=>simp at h
 | ol q r=>simp at h; subst h; exact⟨_,q,rfl⟩
 | ok q hk r=>simp at h; subst h; exact⟨_,q,rfl⟩
 | ot q hk r=>simp at h; subst h; exact⟨_,q,rfl⟩
 | @otl a' kvs vvs ls q hk hv r =>
  rcases ZyY.mp h with e | e
  ·subst e; exact⟨_,q,rfl⟩
  ·obtain⟨i,hi⟩:=List.getElem?_of_mem e
   have hl:kvs.length=ls.length:=by have e1:=congrArg Zzo hk;have e2:=congrArg Zzo hv;rw[ZyA,ZyA]at e1 e2;omega
   have hi':i<kvs.length:=by rw[hl]; exact(ZyM.mp hi).1
   obtain⟨vs,q1,_⟩:=r i (kvs[i].2) a (by simp[hi']) hi;exact⟨_,q1,rfl⟩
theorem Zac.there'(r:Zac K F H b v fp){a:Addr}(h:a∈fp):∃o,H a=some o/\∀xs,o≠.tup xs:=by
 cases r with
 | pl r=>simp at h
 | hd _ _ _ _=>simp at h
 | hf _=>simp at h
 | ol q r=>simp at h; subst h; exact⟨_,q,λ_ z=>by cases z⟩
 | ok q hk r=>simp at h; subst h; exact⟨_,q,λ_ z=>by cases z⟩
 | ot q hk r=>simp at h; subst h; exact⟨_,q,λ_ z=>by cases z⟩
 | @otl a' kvs vvs ls q hk hv r =>
  rcases ZyY.mp h with e | e
  ·subst e; exact⟨_,q,λ_ z=>by cases z⟩
  ·obtain⟨i,hi⟩:=List.getElem?_of_mem e
   have hl:kvs.length=ls.length:=by have e1:=congrArg Zzo hk;have e2:=congrArg Zzo hv;rw[ZyA,ZyA]at e1 e2;omega
   have hi':i<kvs.length:=by rw[hl]; exact(ZyM.mp hi).1
   obtain⟨vs,q1,_⟩:=r i (kvs[i].2) a (by simp[hi']) hi;exact⟨_,q1,λ_ z=>by cases z⟩
theorem Zac.there(r:Zac K F H b v fp){a:Addr}(h:a∈fp):∃o,H a=some o:=let ⟨o,q,_⟩:=r.there' h; ⟨o,q⟩
end
structure Zbl(K:Zyz)(F0 H0 F H:Hp)(r:HM.Env)(σ:L2.St)(fp:Nat->List Addr):Prop where
 ext:Ext F0 H0 F H
 len:r.length=σ.length
 at_:∀(i:Nat) (b:HM.B),r[i]?=some (some b)->∃v,σ[i]?=some (some v)/\Zac K F H b v (fp i)
 emp:∀(i:Nat),(∀b,r[i]?≠some (some b))->fp i=[]
 own:∀(i:Nat) (a:Addr),a∈fp i->F a=none/\H0 a=none
 nd:∀i,(fp i).Nodup
 dis:∀(i j:Nat) (a:Addr),i≠j->a∈fp i->¬a∈fp j
 tb:Tb H0
 nt:NoT F0
def At(K:Zyz)(F0 H0 F H:Hp)(r:HM.Env)(σ:L2.St):Prop:=∃fp,Zbl K F0 H0 F H r σ fp
section
variable{K:Zyz}{F0 H0 F H F' H':Hp}{r:HM.Env}{σ:L2.St}{fp:Nat->List Addr}{i:Nat}{b:HM.B}{v:V}{d:PyData}
theorem Zbl.bound(e:Zbl K F0 H0 F H r σ fp){a:Addr}(h:a∈fp i):∃b,r[i]?=some (some b):=by
 cases q:r[i]? with
 | none=>rw[e.emp i (λb z=>by rw[q]at z; cases z)]at h; simp at h
 | some x =>
  cases x with
  | none=>rw[e.emp i (λb z=>by rw[q]at z; cases z)]at h; simp at h
  | some b=>exact⟨b,rfl⟩
theorem Zbl.there'(e:Zbl K F0 H0 F H r σ fp){a:Addr}(h:a∈fp i):∃o,H a=some o/\∀xs,o≠.tup xs:=by obtain⟨b,hb⟩:=e.bound h;obtain⟨v,_,q⟩:=e.at_ i b hb;exact q.there' h
theorem Zbl.there2(e:Zbl K F0 H0 F H r σ fp){a:Addr}(h:a∈fp i):∃o,H a=some o/\Zlx o=true:=by obtain⟨b,hb⟩:=e.bound h;obtain⟨v,_,q⟩:=e.at_ i b hb;exact q.there2 h
theorem Zbl.there(e:Zbl K F0 H0 F H r σ fp){a:Addr}(h:a∈fp i):∃o,H a=some o:=let ⟨o,q,_⟩:=e.there' h; ⟨o,q⟩
theorem Zbl.sub(e:Zbl K F0 H0 F H r σ fp):Zp F H:=e.ext.sub
theorem Zbl.grow(e:Zbl K F0 H0 F H r σ fp)(x:Ext F H F' H'):Zbl K F0 H0 F' H' r σ fp:=by
 refine⟨e.ext.trans x,e.len,λi b h=>?_,e.emp,λi a h=>⟨?_,(e.own i a h).2⟩,e.nd,e.dis,e.tb,e.nt⟩
 ·obtain⟨v,h1,h2⟩:=e.at_ i b h
  exact⟨v,h1,h2.mono x.ff λa _ o q=>x.hh a o q⟩
 ·cases q:F' a with
  | none=>rfl
  | some o =>
   rcases x.new a o q with z | z
   ·rw[(e.own i a h).1]at z; cases z
   ·obtain⟨o',h',hn⟩:=e.there' h
    exact(z.no h' hn).elim
theorem At.grow(e:At K F0 H0 F H r σ)(x:Ext F H F' H'):At K F0 H0 F' H' r σ:=let ⟨fp,e⟩:=e; ⟨fp,e.grow x⟩
theorem At.tb(e:At K F0 H0 F H r σ):Tb H:=let ⟨_,e⟩:=e; e.ext.tab e.tb
theorem At.tbx(e:At K F0 H0 F H r σ)(x:Ext F H F' H'):Tb H':=x.tab e.tb
theorem At.nt(e:At K F0 H0 F H r σ):NoT F:=let ⟨_,e⟩:=e; e.ext.nts e.nt
theorem At.ntx(e:At K F0 H0 F H r σ)(x:Ext F H F' H'):NoT F':=x.nts e.nt
theorem At.nt0(e:At K F0 H0 F H r σ):NoT F0:=let ⟨_,e⟩:=e; e.nt
theorem At.sub(e:At K F0 H0 F H r σ):Zp F H:=let ⟨_,e⟩:=e; e.ext.sub
theorem At.ext(e:At K F0 H0 F H r σ):Ext F0 H0 F H:=let ⟨_,e⟩:=e; e.ext
theorem At.refl(e:At K F0 H0 F H r σ):Ext F H F H:=.refl e.sub
theorem At.plain(e:At K F0 H0 F H r σ)(h:r[i]?=some (some (.pl d))):∃v,σ[i]?=some (some v)/\Rep K F d v:=by
 obtain⟨fp,e⟩:=e;obtain⟨v,h1,h2⟩:=e.at_ i _ h;generalize fp i=f at h2;cases h2 with
 | pl q=>exact⟨v,h1,q⟩
theorem At.any(e:At K F0 H0 F H r σ)(h:r[i]?=some (some b)):∃v fp,σ[i]?=some (some v)/\Zac K F H b v fp:=by obtain⟨fp,e⟩:=e;obtain⟨v,h1,h2⟩:=e.at_ i _ h;exact⟨v,_,h1,h2⟩
theorem At.store(e:At K F0 H0 F H r σ){fp':List Addr}(q:Zac K F H b v fp')(nd:fp'.Nodup)(h1:∀a∈fp',F a=none/\H0 a=none)(h2:∀fp,Zbl K F0 H0 F H r σ fp->∀j a,j≠i->a∈fp j->¬a∈fp') :
  At K F0 H0 F H (r.set i (some b)) (σ.set i (some v)):=by
 obtain⟨fp,e⟩:=e;have h2:=h2 fp e
 by_cases hi:i<r.length
 ·refine⟨λj=>if j=i then fp' else fp j,e.ext,by rw[ZzM,ZzM,e.len],λj c h=>?_,λj h=>?_,λj a h=>?_,λj=>?_,λj k a hjk h=>?_,e.tb,e.nt⟩
  ·by_cases hj:j=i
   ·subst hj
    rw[Zzs hi]at h;cases h;refine⟨v,Zzs (by rw[<-e.len]; exact hi),?_⟩;rw[if_pos rfl]; exact q
   ·rw[Zy7 (ZzB hj)]at h
    obtain⟨u,q1,q2⟩:=e.at_ j c h;refine⟨u,by rw[Zy7 (ZzB hj)]; exact q1,?_⟩;rw[if_neg hj]; exact q2
  ·by_cases hj:j=i
   ·subst hj
    exact absurd (Zzs hi) (h b)
   ·show(if j=i then fp' else fp j)=[]
    rw[if_neg hj];exact e.emp j λc z=>h c (by rw[Zy7 (ZzB hj)]; exact z)
  ·by_cases hj:j=i
   ·rw[if_pos hj]at h; exact h1 a h
   ·rw[if_neg hj]at h; exact e.own j a h
  ·show(if j=i then fp' else fp j).Nodup
   by_cases hj:j=i
   ·rw[if_pos hj]; exact nd
   ·rw[if_neg hj]; exact e.nd j
  ·show ¬a∈(if k=i then fp' else fp k)
   by_cases hj:j=i
   ·rw[if_pos hj]at h
    by_cases hk:k=i
    ·exact absurd (hj.trans hk.symm) hjk
    ·rw[if_neg hk]; exact λz=>h2 k a hk z h
   ·rw[if_neg hj]at h
    by_cases hk:k=i
    ·rw[if_pos hk]; exact h2 j a hj h
    ·rw[if_neg hk]; exact e.dis j k a hjk h
 ·have e1:r.set i (some b)=r:=ZCU (by omega)
  have e2:σ.set i (some v)=σ:=ZCU (by have:=e.len; omega);rw[e1,e2];exact⟨fp,e⟩
theorem At.set(e:At K F0 H0 F H r σ)(q:Rep K F d v):At K F0 H0 F H (r.set i (some (.pl d))) (σ.set i (some v)) :=
 e.store (.pl q) ZAj (λa h=>by simp at h) λ_ _ _ _ _ _ h=>by simp at h
theorem Zbl.changeW(e:Zbl K F0 H0 F H r σ fp)(hv:σ[i]?=some (some v)){fp':List Addr}(q:Zac K F H' b v fp')(nd:fp'.Nodup)(h1:∀a∈fp',a∈fp i\/(F a=none/\H0 a=none/\∀j,a ∉ fp j))
  (h2:∀a o,H a=some o->¬a∈fp i->H' a=some o):At K F0 H0 F H' (r.set i (some b)) σ:=by
 have sF:Zp F H':=λa o z=>h2 a o (e.sub a o z) λm=>by rw[(e.own i a m).1]at z; cases z
 have sH:Zay H0 H':=λa o z=>by
  have nm:¬a∈fp i:=λm=>by rw[(e.own i a m).2]at z; cases z
  have y:=e.ext.hh a o z;cases o<;>first | exact h2 a _ y nm | (obtain⟨ps,q⟩:=y; exact⟨ps,h2 a _ q nm⟩)
 have sT:Tb H0->Tb H':=λt=>(e.ext.tab t).keep λa o z ho=>h2 a o z λm=>by obtain⟨o',q1,q2⟩:=e.there2 m;rw[z]at q1; cases q1; exact Zso q2 ho
 have e':Zbl K F0 H0 F H' (r.set i none) (σ.set i none) (λj=>if j=i then[]else fp j):=by
  refine⟨⟨e.ext.ff,sH,sF,e.ext.new,sT,e.ext.nts⟩,by rw[ZzM,ZzM,e.len],λj c h=>?_,λj h=>?_,λj a h=>?_,λj=>?_,λj k a hjk h=>?_,e.tb,e.nt⟩
  ·by_cases hj:j=i
   ·subst hj
    by_cases hi:j<r.length
    ·rw[Zzs hi]at h; cases h
    ·rw[ZDh (by rw[ZzM]; omega)]at h; cases h
   ·rw[Zy7 (ZzB hj)]at h
    obtain⟨u,q1,q2⟩:=e.at_ j c h;refine⟨u,by rw[Zy7 (ZzB hj)]; exact q1,?_⟩;rw[if_neg hj];exact q2.mono (Zp.refl F) λa ha o z=>.of (h2 a o z (e.dis j i a hj ha))
  ·show(if j=i then[]else fp j)=[]
   by_cases hj:j=i
   ·rw[if_pos hj]
   ·rw[if_neg hj]
    exact e.emp j λc z=>h c (by rw[Zy7 (ZzB hj)]; exact z)
  ·by_cases hj:j=i
   ·rw[if_pos hj]at h; simp at h
   ·rw[if_neg hj]at h; exact e.own j a h
  ·show(if j=i then[]else fp j).Nodup
   by_cases hj:j=i
   ·rw[if_pos hj]; exact ZAj
   ·rw[if_neg hj]; exact e.nd j
  ·show ¬a∈(if k=i then[]else fp k)
   by_cases hj:j=i
   ·rw[if_pos hj]at h; simp at h
   ·rw[if_neg hj]at h
    by_cases hk:k=i
    ·rw[if_pos hk]; simp
    ·rw[if_neg hk]; exact e.dis j k a hjk h
 have hF:∀a∈fp',F a=none/\H0 a=none:=λa ha=>by
  rcases h1 a ha with z | z
  ·exact e.own i a z
  ·exact⟨z.1,z.2.1⟩
 have e2:=At.store (i:=i) ⟨_,e'⟩ q nd hF λfq eq j a hj ha z=>by
  obtain⟨c,hc⟩:=eq.bound ha;rw[Zy7 (ZzB hj)]at hc;obtain⟨u1,s1,r1⟩:=eq.at_ j c (by rw[Zy7 (ZzB hj)]; exact hc);obtain⟨u2,s2,r2⟩:=e.at_ j c hc;rw[Zy7 (ZzB hj),s2]at s1;cases s1;have hm:a∈fp j:=by
   have r2':=r2.mono (H':=H') (Zp.refl F) λa ha o z=>.of (h2 a o z (e.dis j i a hj ha))
   clear r2
   generalize fq j=f1 at r1 ha;generalize fp j=f2 at r2' ⊢;cases r1 with
   | pl _=>simp at ha
   | hd _ _ _ _=>simp at ha
   | hf _=>simp at ha
   | ol _ _=>cases r2' with | ol _ _=>exact ha
   | ok _ _ _=>cases r2' with | ok _ _ _=>exact ha
   | ot _ _ _=>cases r2' with | ot _ _ _=>exact ha
   | otl a1 _ v1 _ =>
    cases r2' with
    | otl a2 _ v2 _ =>
     rw[a1]at a2;cases a2;rw[v1]at v2;have:∀{l l':List Addr},l.map V.ref=l'.map V.ref->l=l':=by
      intro l
      induction l with
      | nil=>intro l' h; cases l' with | nil=>rfl | cons _ _=>simp at h
      | cons x xs ih =>
       intro l' h;cases l' with
       | nil=>simp at h
       | cons y ys =>
        rw[ZyH,ZyH]at h;injection h with h1 h2
        injection h1 with h1
        rw[h1,ih h2]
     rw[<-this v2]; exact ha
  rcases h1 a z with w | w
  ·exact e.dis j i a hj hm w
  ·exact w.2.2 j hm
 rw[ZB8,ZB8]at e2;have es:σ.set i (some v)=σ:=by have hi:i<σ.length:=(ZyM.mp hv).1;have hq:σ[i]=some v:=(ZyM.mp hv).2;rw[<-hq];exact ZBg hi
 rwa [es]at e2
theorem Zbl.change(e:Zbl K F0 H0 F H r σ fp)(hv:σ[i]?=some (some v)){fp':List Addr}(q:Zac K F H' b v fp')(nd:fp'.Nodup)(h1:∀a∈fp',a∈fp i\/H a=none)
  (h2:∀a o,H a=some o->¬a∈fp i->H' a=some o):At K F0 H0 F H' (r.set i (some b)) σ :=
 e.changeW hv q nd (λa ha=>(h1 a ha).imp id λz=>⟨e.sub.free z,e.ext.hh.free z,λj hj=>by obtain⟨o,ho⟩:=e.there hj;rw[z]at ho; cases ho⟩) h2
theorem At.storeNew{Hb:Hp}(e:At K F0 H0 F H r σ)(hb:At K F0 H0 F' Hb r σ)(sb:Zay Hb H){fp':List Addr}(q:Zac K F H b v fp')(nd:fp'.Nodup)(h1:∀a∈fp',F a=none/\Hb a=none) :
  At K F0 H0 F H (r.set i (some b)) (σ.set i (some v)):=by
 refine e.store q nd (λa h=>⟨(h1 a h).1,hb.ext.hh.free (h1 a h).2⟩) λfp e1 j a hj ha z=>?_;obtain⟨fq,eb⟩:=hb;obtain⟨c,hc⟩:=e1.bound ha;obtain⟨u1,s1,r1⟩:=e1.at_ j c hc;obtain⟨u2,s2,r2⟩:=eb.at_ j c hc;rw[s2]at s1;cases s1;have hn:=(h1 a z).2;have old:∀{x:Addr} {o o':HO},Hb x=some o->H x=some o'->(∀ps,o'≠.tbl ps)->o=o':=λ{x o o'} h1 h2 n=>sb.back h1 h2 n;generalize fp j=f1 at r1 ha;generalize fq j=f2 at r2;cases r1 with
 | pl _=>simp at ha
 | hd _ _ _ _=>simp at ha
 | hf _=>simp at ha
 | ol k _=>cases r2 with | ol k' _=>simp at ha; subst ha; rw[hn]at k'; cases k'
 | ok k _ _=>cases r2 with | ok k' _ _=>simp at ha; subst ha; rw[hn]at k'; cases k'
 | ot k _ _=>cases r2 with | ot k' _ _=>simp at ha; subst ha; rw[hn]at k'; cases k'
 | otl k _ v1 _ =>
  cases r2 with
  | otl k' hk' v2 r2' =>
   have eo:=old k' k λ_ z=>by cases z
   injection eo with eo
   subst eo;have v2':=v2;rw[v1]at v2;rcases ZyY.mp ha with z2 | z2
   ·subst z2; rw[hn]at k'; cases k'
   ·have:V.ref a∈ZCj V.ref _:=ZyN.mpr ⟨a,z2,rfl⟩
    rw[v2]at this;obtain⟨a',m1,m2⟩:=ZyN.mp this;injection m2 with m2
    subst m2;obtain⟨o,ho⟩:=Zac.there (Zac.otl k' hk' v2' r2') (ZyD _ m1);rw[hn]at ho; cases ho
theorem At.rebase(e:At K F0 H0 F H r σ):At K F H0 F H r σ:=by obtain⟨fp,e⟩:=e;exact⟨fp,⟨Zp.refl F,e.ext.hh,e.ext.sub,λ_ _ z=>.inl z,e.ext.tab,id⟩,e.len,e.at_,e.emp,e.own,e.nd,e.dis,e.tb,e.ext.nts e.nt⟩
theorem Ext.unbase{F1 H1:Hp}(x:Ext F0 H0 F1 H1)(y:Ext F1 H0 F H):Ext F0 H0 F H :=
 ⟨x.ff.trans y.ff,y.hh,y.sub,λa o z=>(y.new a o z).elim (λq=>x.new a o q) .inr,y.tab,λt=>y.nts (x.nts t)⟩
theorem At.unbase{F1 H1:Hp}(x:Ext F0 H0 F1 H1)(n:NoT F0)(e:At K F1 H0 F H r σ):At K F0 H0 F H r σ:=by obtain⟨fp,e⟩:=e;exact⟨fp,x.unbase e.ext,e.len,e.at_,e.emp,e.own,e.nd,e.dis,e.tb,n⟩
theorem Zbl.freeze{fp:Nat->List Addr}(e:Zbl K F0 H0 F H r σ fp)(i:Nat){b:HM.B}{a:Addr}{ob:HO}{d:PyData}(hb:r[i]?=some (some b))(h1:σ[i]?=some (some (.ref a)))(hfp:fp i=[a])(ha:H a=some ob)(hr:Zp F (upd F a ob)->Rep K (upd F a ob) d (.ref a))(no:HP.nt ob=true:=by rfl) :
  ∃F',Ext F0 H0 F' H/\Zp F F'/\At K F0 H0 F' H (r.set i (some (.pl d))) σ:=by
 have hF:F a=none:=(e.own i a (by rw[hfp]; simp)).1;have s:Zp F (upd F a ob):=Zp.upd' hF;have x:Ext F0 H0 (upd F a ob) H:=by
  refine⟨e.ext.ff.trans s,e.ext.hh,λc o z=>?_,λc o z=>?_,e.ext.tab,λt=>(e.ext.nts t).upd no⟩
  ·by_cases hc:c=a
   ·subst hc; rw[ZB]at z; cases z; exact ha
   ·rw[ZA hc]at z; exact e.sub c o z
  ·by_cases hc:c=a
   ·subst hc; exact .inr (.inl (e.own i c (by rw[hfp]; simp)).2)
   ·rw[ZA hc]at z; exact e.ext.new c o z
 refine⟨_,x,s,?_⟩;have e1:Zbl K F0 H0 (upd F a ob) H (r.set i none) (σ.set i none) (λj=>if j=i then[]else fp j):=by
  refine⟨x,by rw[ZzM,ZzM,e.len],λj c h=>?_,λj h=>?_,λj c h=>?_,λj=>?_,λj k c hjk h=>?_,e.tb,e.nt⟩
  ·by_cases hj:j=i
   ·subst hj
    rw[Zzs (ZyM.mp hb).1]at h; cases h
   ·rw[Zy7 (ZzB hj)]at h
    obtain⟨u,q1,q2⟩:=e.at_ j c h;refine⟨u,by rw[Zy7 (ZzB hj)]; exact q1,?_⟩;rw[if_neg hj]; exact q2.mono s λ_ _ _ z=>.of z
  ·show(if j=i then[]else fp j)=[]
   by_cases hj:j=i
   ·rw[if_pos hj]
   ·rw[if_neg hj]
    exact e.emp j λc z=>h c (by rw[Zy7 (ZzB hj)]; exact z)
  ·by_cases hj:j=i
   ·rw[if_pos hj]at h; simp at h
   ·rw[if_neg hj]at h
    have hca:c≠a:=λz=>e.dis j i c hj h (by rw[hfp,z]; simp);exact⟨by rw[ZA hca]; exact(e.own j c h).1,(e.own j c h).2⟩
  ·show(if j=i then[]else fp j).Nodup
   by_cases hj:j=i
   ·rw[if_pos hj]; exact ZAj
   ·rw[if_neg hj]; exact e.nd j
  ·show ¬c∈(if k=i then[]else fp k)
   by_cases hj:j=i
   ·rw[if_pos hj]at h; simp at h
   ·rw[if_neg hj]at h
    by_cases hk:k=i
    ·rw[if_pos hk]; simp
    ·rw[if_neg hk]; exact e.dis j k c hjk h
 have rp:=hr s;have e2:=At.set (i:=i) ⟨_,e1⟩ rp;rw[ZB8,ZB8]at e2;have es:σ.set i (some (.ref a))=σ:=by have hi:i<σ.length:=(ZyM.mp h1).1;have hq:σ[i]=some (.ref a):=(ZyM.mp h1).2;rw[<-hq];exact ZBg hi
 rwa [es]at e2
theorem At.freeze(e:At K F0 H0 F H r σ)(i:Nat):∃F',Ext F0 H0 F' H/\Zp F F'/\At K F0 H0 F' H (HM.Zk5 i r) σ:=by
 unfold HM.Zk5;split
 ·rename_i ds hb
  obtain⟨fp,e⟩:=e;obtain⟨v,h1,h2⟩:=e.at_ i _ hb;generalize hfp:fp i=f at h2;cases h2 with
  | @ol a _ vs ha q=>exact e.freeze i hb h1 hfp ha λs=>.lst (.of ZB) q.1 (q.mono s).2
 ·rename_i kvs hb
  obtain⟨fp,e⟩:=e;obtain⟨v,h1,h2⟩:=e.at_ i _ hb;generalize hfp:fp i=f at h2;cases h2 with
  | @ot a _ vvs ha hk q=>exact e.freeze i hb h1 hfp ha λs=>.dct (.inl ZB) rfl hk (q.mono s).2
 ·exact⟨F,e.ext,Zp.refl F,e⟩
end
inductive Now(K:Zyz)(r:HM.Env)(σ:L2.St)(H:Hp)(C:Hp->Hp->Hp->Prop):Prop
 | mk (F0 H0 F:Hp) (at_:At K F0 H0 F H r σ) (k:C F0 H0 F):Now K r σ H C
end HP
namespace HP
open PySem PySem.Spec PyProof.Rows L2
variable[FX]
def tAt(K:Zyz)(r:HM.Env)(P:Hp->Hp->Hp->V->Prop):TE:=λσ H Q=>Now K r σ H λF0 H0 F=>∀v F' H',Ext F H F' H'->P H F' H' v->Q v H'
def XE(X:Cx)(e:Expr)(f:HM.EF):Prop:=∀r d,f r=some d->PE X e (tAt X.K r λ_ F' _ v=>Rep X.K F' d v)
def XB(X:Cx)(e:Expr)(f:HM.BF):Prop:=∀r b,f r=some b->PE X e (tAt X.K r λ_ F' H' v=>∃fp,Zac X.K F' H' b v fp)
def XF(X:Cx)(e:Expr)(f:HM.BF):Prop:=∀r b,f r=some b->PE X e (tAt X.K r λH F' H' v=>∃fp,Zac X.K F' H' b v fp/\fp.Nodup/\∀a∈fp,F' a=none/\H a=none)
def XT(X:Cx)(e:Expr)(f:HM.TF):Prop:=∀r c,f r=some c->PT X e λσ H Q=>Now X.K r σ H λF0 H0 F=>∀F' H',Ext F H F' H'->Q c H'
def XW(X:Cx)(e:Expr)(f:HM.TF):Prop:=∀r c,f r=some c->PW X e λσ H Q=>Now X.K r σ H λF0 H0 F=>∀F' H',Ext F H F' H'->Q c H'
structure XA(X:Cx)(es:List Expr)(f:HM.AF):Prop where
 len:∀r ds,f r=some ds->ds.length=es.length
 pa:∀r ds,f r=some ds->PA X es λσ H Q=>Now X.K r σ H λF0 H0 F=>∀vs F' H',Ext F H F' H'->Zu X.K F' ds vs->Q vs H'
def ItD(K:Zyz)(J:It)(ds:List PyData)(F:Hp):Prop:=∀F' H,Zp F F'->Zp F' H ->
 (∀(i:Nat) (d:PyData),ds[i]?=some d->J.go i H/\∀x H',J.yld i H x H'->H'=H/\Rep K (ZcK F' H) d x)/\J.stop ds.length H
def XI(X:Cx)(tg e:Expr)(f:HM.IF):Prop:=∀r ds,f r=some ds->PI X tg e λσ H R=>Now X.K r σ H λF0 H0 F=>∀J F' H',Ext F H F' H'->ItD X.K J ds F'->R J H'
def Zx6(K:Zyz)(F0 H0:Hp)(o:HM.Out)(E:Ends):Prop:=match o with
 | .nx r=>∀σ F H,At K F0 H0 F H r σ->E.nx σ H
 | .rt d=>∀v F H,Ext F0 H0 F H->Rep K F d v->E.rt v H
 | .bk r=>∀σ F H,At K F0 H0 F H r σ->E.bk σ H
 | .ct r=>∀σ F H,At K F0 H0 F H r σ->E.ct σ H
def tSt(K:Zyz)(r:HM.Env)(o:HM.Out):TS:=λE σ H=>Now K r σ H λF0 H0 F=>Zx6 K F0 H0 o E
def XS(X:Cx)(st:Stmt)(g:HM.SF):Prop:=∀r o,g r=some o->PS X st (tSt X.K r o)
def XSs(X:Cx)(sts:List Stmt)(g:HM.SF):Prop:=∀r o,g r=some o->PSs X sts (tSt X.K r o)
theorem PE.imp{X:Cx}{e:Expr}{t u:TE}(h:PE X e t)(hi:∀σ H Q,u σ H Q->t σ H Q):PE X e u:=λpins s σ H Q I q=>h pins s σ H Q I (hi σ H Q q)
theorem PT.imp{X:Cx}{e:Expr}{t u:TT}(h:PT X e t)(hi:∀σ H Q,u σ H Q->t σ H Q):PT X e u:=λpins s σ H Q I q=>h pins s σ H Q I (hi σ H Q q)
theorem PW.imp{X:Cx}{e:Expr}{t u:TT}(h:PW X e t)(hi:∀σ H Q,u σ H Q->t σ H Q):PW X e u:=λwh pins s σ H Q I q=>h wh pins s σ H Q I (hi σ H Q q)
theorem PA.imp{X:Cx}{es:List Expr}{t u:TA}(h:PA X es t)(hi:∀σ H Q,u σ H Q->t σ H Q):PA X es u:=λp pins s σ H Q I q=>h p pins s σ H Q I (hi σ H Q q)
theorem PS.imp{X:Cx}{st:Stmt}{t u:TS}(h:PS X st t)(hi:∀E σ H,u E σ H->t E σ H):PS X st u:=λpins s σ H E I q=>h pins s σ H E I (hi E σ H q)
theorem PSs.imp{X:Cx}{sts:List Stmt}{t u:TS}(h:PSs X sts t)(hi:∀E σ H,u E σ H->t E σ H):PSs X sts u:=λpins s σ H E I q=>h pins s σ H E I (hi E σ H q)
section
variable{X:Cx}{a b c e:Expr}{fa fb fc:HM.EF}{pos p:Pos}
theorem Zul{i:Nat}{r:HM.Env}{d:PyData}(h:HM.Zb i r=some d):r[i]?=some (some (.pl d)):=by
 unfold HM.Zb at h;split at h
 ·rename_i q; cases h; exact q
 ·cases h
theorem Ztx{i:Nat}{r:HM.Env}{d:HM.B}(h:HM.Zo i r=some d):r[i]?=some (some d):=by
 unfold HM.Zo at h;split at h
 ·rename_i q; cases h; exact q
 ·cases h
theorem Za(i:Nat){x:Str}{pos:Pos}(hN:X.N[i]?=some x:=by rfl)(hv:Vis X.env.scope x:=by first | exact ZzA rfl | exact Zzc (ZzA rfl) | exact Zzc (Zzc rfl))(hd:(x==("__debug__":Str))=false:=by decide)
  (hcd:(x==("__classdict__":Str))=false:=by decide):XE X (.Name x pos) (HM.Zb i):=by
 intro r d h;refine PE.imp (Zb7 hN hv hd hcd) λσ H Q ⟨F0,H0,F,at_,k⟩=>?_;obtain⟨v,h1,h2⟩:=at_.plain (Zul h);exact⟨v,h1,k v F H at_.refl h2⟩
theorem Zt(i:Nat){x:Str}{pos:Pos}(hN:X.N[i]?=some x:=by rfl)(hv:Vis X.env.scope x:=by first | exact ZzA rfl | exact Zzc (ZzA rfl) | exact Zzc (Zzc rfl))(hd:(x==("__debug__":Str))=false:=by decide)
  (hcd:(x==("__classdict__":Str))=false:=by decide):XB X (.Name x pos) (HM.Zo i):=by
 intro r d h;refine PE.imp (Zb7 hN hv hd hcd) λσ H Q ⟨F0,H0,F,at_,k⟩=>?_;obtain⟨v,fp,h1,h2⟩:=at_.any (Ztx h);exact⟨v,h1,k v F H at_.refl ⟨fp,h2⟩⟩
theorem ZfM{v:V}{d:PyData}(h:PE X e (tC v))(r:∀F,Rep X.K F d v):XE X e (HM.eC d):=by intro r' d' h';cases h';exact PE.imp h λσ H Q ⟨F0,H0,F,at_,k⟩=>k v F H at_.refl (r F)
theorem Zm{i:Int}{j:Nat}:XE X (.Constant (.int i) j pos) (HM.eC (.int i)):=ZfM Zsb λ_=>.int i
theorem ZbL{q:Bool}{j:Nat}:XE X (.Constant (.bool q) j pos) (HM.eC (.bool q)):=ZfM Zxo λ_=>.bl q
theorem Zbu{j:Nat}:XE X (.Constant .none j pos) (HM.eC .none):=ZfM ZrW λ_=>.non
theorem Zjm{x:Str}{i:Int}(hm:∃t,X.mg x=some (.int i t))(hg:Gl X x:=by rfl)(hd:(x==("__debug__":Str))=false:=by decide):XE X (.Name x pos) (HM.eC (.int i)):=by obtain⟨t,hm⟩:=hm;exact ZfM (Zqj hg hm (v:=.int i) ⟨t,rfl⟩ hd) λ_=>.int i
theorem Zvx{i:Int}{j:Nat}{p':Pos}:XE X (.UnaryOp .USub (.Constant (.int i) j p') pos) (HM.eC (.int (-i))):=by intro r d h;cases h;intro pins s σ H Q I q;obtain⟨F0,H0,F,at_,k⟩:=q;refine UnaryOp_ (thn (Zsb pins s σ H (λv H'=>v=.int i/\H'=H) I ⟨rfl,rfl⟩) λu s1 ⟨x,H1,I1,r1,e1,e2⟩=>?_);subst e1 e2;obtain⟨t,rfl⟩:=r1;exact neg_int ⟨.int (-i),H1,I1.tok _,⟨_,rfl⟩,k _ F H1 at_.refl (.int _)⟩
theorem ZaR(h:XE X e fa):XB X e (HM.bOf fa):=by intro r b hb;obtain⟨d,h1,h2⟩:=ZyB.mp hb;subst h2;exact PE.imp (h r d h1) λσ H Q ⟨F0,H0,F,at_,k⟩=>⟨F0,H0,F,at_,λv F' H' x q=>k v F' H' x ⟨[],.pl q⟩⟩
theorem Za3{f:HM.BF}(h:XF X e f):XB X e f:=λr b hb=>PE.imp (h r b hb) λσ H Q ⟨F0,H0,F,at_,k⟩=>⟨F0,H0,F,at_,λv F' H' x ⟨fp,q,_⟩=>k v F' H' x ⟨fp,q⟩⟩
theorem ZdK{f:HM.BF}(h:XF X e f):XE X e (HM.eOf f):=by
 intro r d hd;unfold HM.eOf at hd;obtain⟨b,h1,h2⟩:=ZBJ.mp hd;refine PE.imp (h r b h1) λσ H Q ⟨F0,H0,F,at_,k⟩=>⟨F0,H0,F,at_,λv F' H' x ⟨fp,q,_,hn⟩=>?_⟩;cases q with
 | pl q=>cases h2;exact k v F' H' x q
 | @ol l ds vs hl q =>
  cases h2;have hF:F' l=none:=(hn l (by simp)).1;have s:Zp F' (upd F' l (.lst vs)):=Zp.upd' hF;refine k _ (upd F' l (.lst vs)) H' ⟨x.ff.trans s,x.hh,λc o z=>?_,λc o z=>?_,x.tab,λt=>(x.nts t).upd rfl⟩ (.lst (.of ZB) q.1 (q.mono s).2)
  ·by_cases hc:c=l
   ·subst hc; rw[ZB]at z; cases z; exact hl
   ·rw[ZA hc]at z; exact x.sub c o z
  ·by_cases hc:c=l
   ·subst hc; exact .inr (.inl (hn c (by simp)).2)
   ·rw[ZA hc]at z; exact x.new c o z
 | @ot l kvs vvs hl hk q =>
  cases h2;have hF:F' l=none:=(hn l (by simp)).1;have s:Zp F' (upd F' l (.dT vvs)):=Zp.upd' hF;refine k _ (upd F' l (.dT vvs)) H' ⟨x.ff.trans s,x.hh,λc o z=>?_,λc o z=>?_,x.tab,λt=>(x.nts t).upd rfl⟩ (.dct (.inl ZB) rfl hk (q.mono s).2)
  ·by_cases hc:c=l
   ·subst hc; rw[ZB]at z; cases z; exact hl
   ·rw[ZA hc]at z; exact x.sub c o z
  ·by_cases hc:c=l
   ·subst hc; exact .inr (.inl (hn c (by simp)).2)
   ·rw[ZA hc]at z; exact x.new c o z
 | ok _ _ _=>cases h2
 | hd h3 h4 h5 h6=>cases h2; exact k _ F' H' x (.dct (.inr ⟨_,h3⟩) h4 h5 h6.2)
 | hf h3=>cases h2; exact k _ F' H' x (.fn h3)
 | otl _ _ _ _=>cases h2
def Bin(K:Zyz)(r:R2)(g:PyData->PyData->Option PyData):Prop:=∀(F H:Hp) (x y z:PyData) (v w:V) (Q:VK),Zp F H->g x y=some z->Rep K F x v->Rep K F y w->(∀u,Rep K F z u->Q u H)->r v w H Q
structure Zo8(X:Cx)(op:Operator)(g:PyData->PyData->Option PyData):Prop where
 ex:∃r,OpR X (ZBc op) r/\Bin X.K r g
structure Zgv(X:Cx)(op:CmpOp)(g:PyData->PyData->Option PyData):Prop where
 ex:∃r,OpR X (ZzJ op) r/\Bin X.K r g
 n1:op≠.In
 n2:op≠.NotIn
theorem Zhz{g:PyData->PyData->Option PyData}{r:HM.Env}{d:PyData}(h:HM.op2 g fa fb r=some d):∃x y,fa r=some x/\fb r=some y/\g x y=some d:=by
 unfold HM.op2 at h;split at h
 ·split at h
  ·exact⟨_,_,by assumption,by assumption,h⟩
  ·cases h
 ·cases h
theorem two{K:Zyz}{r:HM.Env}{x y:PyData}{P:Hp->Hp->Hp->V->Prop}{σ:L2.St}{H:Hp}{Q:VK}{R:V->V->Hp->VK->Prop}(h:tAt K r P σ H Q)
  (hk:∀H F2 H2 v w,Zp F2 H2->Rep K F2 x v->Rep K F2 y w->(∀u F3 H3,Ext F2 H2 F3 H3->P H F3 H3 u->Q u H3)->Zay H H2->R v w H2 Q) :
  tOp R (tAt K r λ_ F' _ v=>Rep K F' x v) (tAt K r λ_ F' _ v=>Rep K F' y v) σ H Q:=by
 obtain⟨F0,H0,F,at_,k⟩:=h;refine⟨F0,H0,F,at_,λv F1 H1 x1 r1=>⟨F0,H0,F1,at_.grow x1,λw F2 H2 x2 r2=>?_⟩⟩;exact hk H F2 H2 v w x2.sub (r1.mono x2.ff) r2 (λu F3 H3 x3 q=>k u F3 H3 ((x1.trans x2).trans x3) q) (x1.hh.trans x2.hh)
theorem ZF{op:Operator}{g:PyData->PyData->Option PyData}(o:Zo8 X op g)(ha:XE X a fa)(hb:XE X b fb):XE X (.BinOp a op b pos) (HM.op2 g fa fb):=by intro r d h;obtain⟨x,y,h1,h2,h3⟩:=Zhz h;obtain⟨R,o1,o2⟩:=o.ex;refine PE.imp (Zm6 o1 (ha r x h1) (hb r y h2)) λσ H Q q=>?_;exact two q λ_ F2 H2 v w s r1 r2 k _=>o2 F2 H2 x y d v w Q s h3 r1 r2 λu ru=>k u F2 H2 (.refl s) ru
theorem Zir{op:CmpOp}{g:PyData->PyData->Option PyData}(o:Zgv X op g)(ha:XE X a fa)(hb:XE X b fb):XE X (.Compare a [op] [b] pos) (HM.op2 g fa fb):=by intro r d h;obtain⟨x,y,h1,h2,h3⟩:=Zhz h;obtain⟨R,o1,o2⟩:=o.ex;refine PE.imp (Zp1 o1 (ha r x h1) (hb r y h2) (Zkp _ o.n1 o.n2)) λσ H Q q=>?_;exact two q λ_ F2 H2 v w s r1 r2 k _=>o2 F2 H2 x y d v w Q s h3 r1 r2 λu ru=>k u F2 H2 (.refl s) ru
theorem Zgf{r:HM.Env}{c:Bool}(h:HM.tV fa r=some c):fa r=some (.bool c):=by
 unfold HM.tV at h;split at h
 ·rename_i q; cases h; exact q
 ·cases h
theorem Rep.bool_inv{K:Zyz}{F:Hp}{c:Bool}{v:V}(h:Rep K F (.bool c) v):v=.bl c:=by cases h; rfl
theorem Rep.int_inv{K:Zyz}{F:Hp}{i:Int}{v:V}(h:Rep K F (.int i) v):v=.int i:=by cases h; rfl
theorem Rep.none_inv{K:Zyz}{F:Hp}{v:V}(h:Rep K F .none v):v=.non:=by cases h; rfl
theorem Z6{op:CmpOp}{g:PyData->PyData->Option PyData}(o:Zgv X op g)(ha:XE X a fa)(hb:XE X b fb):XT X (.Compare a [op] [b] pos) (HM.tV (HM.op2 g fa fb)):=by intro r d h;obtain⟨x,y,h1,h2,h3⟩:=Zhz (Zgf h);obtain⟨R,o1,o2⟩:=o.ex;refine PT.imp (ZlA o1 (ha r x h1) (hb r y h2) (Zkp _ o.n1 o.n2)) λσ H Q ⟨F0,H0,F,at_,k⟩=>?_;refine⟨F0,H0,F,at_,λv F1 H1 x1 r1=>⟨F0,H0,F1,at_.grow x1,λw F2 H2 x2 r2=>?_⟩⟩;refine o2 F2 H2 x y _ v w _ x2.sub h3 (r1.mono x2.ff) r2 λu ru=>?_;exact⟨d,ru.bool_inv,k F2 H2 (x1.trans x2)⟩
theorem ZbD(h:XE X e fa)(he:∀whole,isTrue e X.env whole=(do let v <-whole; standAt e.pos; holding [v] (truthy v)):=by intro _; rfl):XT X e (HM.tV fa):=by intro r c hc;refine PT.imp (Zwq (h r _ (Zgf hc)) he) λσ H Q ⟨F0,H0,F,at_,k⟩=>?_;exact⟨F0,H0,F,at_,λv F1 H1 x1 r1=>⟨c,r1.bool_inv,k F1 H1 x1⟩⟩
theorem Zc7{t:HM.TF}(h:XT X a t):XT X (.UnaryOp .Not a pos) (HM.ZdD t):=by intro r c hc;obtain⟨d,h1,h2⟩:=ZyB.mp hc;subst h2;refine PT.imp (ZvJ (h r d h1)) λσ H Q ⟨F0,H0,F,at_,k⟩=>?_;exact⟨F0,H0,F,at_,λF1 H1 x1=>k F1 H1 x1⟩
theorem Zlc{t:HM.TF}(h:XW X e t):XT X e t:=λr c hc=>(h r c hc).pt
theorem ZuB{t:HM.TF}(h:XT X a t):XW X (.BoolOp .And [a] pos) t:=λr c hc=>ZuY (h r c hc)
theorem Zis{t:HM.TF}(h:XT X a t):XW X (.BoolOp .Or [a] pos) t:=λr c hc=>ZvS (h r c hc)
theorem Zoq{e:Expr}:PW X e λ_ _ _=>False:=λ_ _ _ _ _ _ _ h=>h.elim
theorem Zif{e:Expr}:PE X e λ_ _ _=>False:=λ_ _ _ _ _ _ h=>h.elim
theorem Zvy{t u:HM.TF}{rest:List Expr}(ha:XT X a t)(hb:XW X (.BoolOp .And (b::rest) pos) u):XW X (.BoolOp .And (a::b::rest) pos) (HM.ZnX t u):=by
 intro r c hc;unfold HM.ZnX at hc;split at hc
 ·rename_i q
  refine PW.imp (ZsA (ha r true q) (hb r c hc)) λσ H Q ⟨F0,H0,F,at_,k⟩=>?_;exact⟨F0,H0,F,at_,λF1 H1 x1=>ZlF ⟨F0,H0,F1,at_.grow x1,λF2 H2 x2=>k F2 H2 (x1.trans x2)⟩⟩
 ·rename_i q
  cases hc;refine PW.imp (ZsA (ha r false q) Zoq) λσ H Q ⟨F0,H0,F,at_,k⟩=>?_;exact⟨F0,H0,F,at_,λF1 H1 x1=>ZlT (k F1 H1 x1)⟩
 ·cases hc
theorem Zkv{t u:HM.TF}{rest:List Expr}(ha:XT X a t)(hb:XW X (.BoolOp .Or (b::rest) pos) u):XW X (.BoolOp .Or (a::b::rest) pos) (HM.tOr t u):=by
 intro r c hc;unfold HM.tOr at hc;split at hc
 ·rename_i q
  cases hc;refine PW.imp (Zus (ha r true q) Zoq) λσ H Q ⟨F0,H0,F,at_,k⟩=>?_;exact⟨F0,H0,F,at_,λF1 H1 x1=>ZlF (k F1 H1 x1)⟩
 ·rename_i q
  refine PW.imp (Zus (ha r false q) (hb r c hc)) λσ H Q ⟨F0,H0,F,at_,k⟩=>?_;exact⟨F0,H0,F,at_,λF1 H1 x1=>ZlT ⟨F0,H0,F1,at_.grow x1,λF2 H2 x2=>k F2 H2 (x1.trans x2)⟩⟩
 ·cases hc
theorem Zd8{op:BoolOp}(h:XE X a fa):XE X (.BoolOp op [a] pos) fa:=λr d hd=>Zv3 (h r d hd)
theorem Zd9{rest:List Expr}(ha:XE X a fa)(hb:XE X (.BoolOp .And (b::rest) pos) fb):XE X (.BoolOp .And (a::b::rest) pos) (HM.Zgr fa fb):=by
 intro r d hd;unfold HM.Zgr at hd;split at hd
 ·rename_i q
  refine PE.imp (ZrU (ha r _ q) (hb r d hd)) λσ H Q ⟨F0,H0,F,at_,k⟩=>?_;exact⟨F0,H0,F,at_,λv F1 H1 x1 r1=>⟨true,r1.bool_inv,ZlF ⟨F0,H0,F1,at_.grow x1,λw F2 H2 x2 r2=>k w F2 H2 (x1.trans x2) r2⟩⟩⟩
 ·rename_i q
  cases hd;refine PE.imp (ZrU (ha r _ q) Zif) λσ H Q ⟨F0,H0,F,at_,k⟩=>?_;exact⟨F0,H0,F,at_,λv F1 H1 x1 r1=>⟨false,r1.bool_inv,ZlT (k _ F1 H1 x1 (.bl false))⟩⟩
 ·cases hd
theorem Zvz(ha:XE X a fa):XE X (.UnaryOp .Not a pos) (HM.ZtY fa):=by
 intro r d hd;unfold HM.ZtY at hd;split at hd
 ·rename_i c q
  cases hd;refine PE.imp (ZwA (ha r _ q)) λσ H Q ⟨F0,H0,F,at_,k⟩=>?_;exact⟨F0,H0,F,at_,λv F1 H1 x1 r1=>⟨c,r1.bool_inv,k _ F1 H1 x1 (.bl _)⟩⟩
 ·cases hd
theorem Zqy{t:HM.TF}(hc:XT X c t)(ha:XE X a fa)(hb:XE X b fb):XE X (.IfExp c a b pos) (HM.eIf t fa fb):=by
 intro r d hd;unfold HM.eIf at hd;split at hd
 ·rename_i q
  refine PE.imp (Zn7 (hc r _ q) (ha r d hd) Zif) λσ H Q ⟨F0,H0,F,at_,k⟩=>?_;exact⟨F0,H0,F,at_,λF1 H1 x1=>ZlF ⟨F0,H0,F1,at_.grow x1,λw F2 H2 x2 r2=>k w F2 H2 (x1.trans x2) r2⟩⟩
 ·rename_i q
  refine PE.imp (Zn7 (hc r _ q) Zif (hb r d hd)) λσ H Q ⟨F0,H0,F,at_,k⟩=>?_;exact⟨F0,H0,F,at_,λF1 H1 x1=>ZlT ⟨F0,H0,F1,at_.grow x1,λw F2 H2 x2 r2=>k w F2 H2 (x1.trans x2) r2⟩⟩
 ·cases hd
theorem Zm9{op op':CmpOp}{g g':PyData->PyData->Option PyData}(o:Zgv X op g)(o':Zgv X op' g')(ha:XE X a fa)(hb:XE X b fb)(hc:XE X c fc)
  (hm:lastMarks [op,op'] [b,c]=false:=by with_unfolding_all rfl):XE X (.Compare a [op,op'] [b,c] pos) (HM.Zk0 g g' fa fb fc):=by
 intro r d hd;unfold HM.Zk0 at hd;obtain⟨R,o1,o2⟩:=o.ex;obtain⟨R',o1',o2'⟩:=o'.ex;split at hd
 ·rename_i x hx
  split at hd
  ·rename_i y hy
   split at hd
   ·rename_i hg
    split at hd
    ·rename_i z hz
     refine PE.imp (ZoA o1 o1' (ha r x hx) (hb r y hy) (hc r z hz) hm) λσ H Q ⟨F0,H0,F,at_,k⟩=>?_;refine⟨F0,H0,F,at_,λv F1 H1 x1 r1=>⟨F0,H0,F1,at_.grow x1,λw F2 H2 x2 r2=>?_⟩⟩;refine o2 F2 H2 x y _ v w _ x2.sub hg (r1.mono x2.ff) r2 λu ru=>?_;refine⟨true,ru.bool_inv,ZlF ⟨F0,H0,F2,(at_.grow x1).grow x2,λw' F3 H3 x3 r3=>?_⟩⟩;exact o2' F3 H3 y z d w w' Q x3.sub hd (r2.mono x3.ff) r3 λu' ru'=>k u' F3 H3 ((x1.trans x2).trans x3) ru'
    ·cases hd
   ·rename_i hg
    cases hd;refine PE.imp (ZoA o1 o1' (ha r x hx) (hb r y hy) Zif hm) λσ H Q ⟨F0,H0,F,at_,k⟩=>?_;refine⟨F0,H0,F,at_,λv F1 H1 x1 r1=>⟨F0,H0,F1,at_.grow x1,λw F2 H2 x2 r2=>?_⟩⟩;refine o2 F2 H2 x y _ v w _ x2.sub hg (r1.mono x2.ff) r2 λu ru=>?_;exact⟨false,ru.bool_inv,ZlT (k _ F2 H2 (x1.trans x2) (.bl false))⟩
   ·cases hd
  ·cases hd
 ·cases hd
theorem Zg:XA X [] HM.Zn:=by refine⟨λr ds h=>by cases h; rfl,λr ds h=>?_⟩;cases h;exact PA.imp ZbI λσ H Q ⟨F0,H0,F,at_,k⟩=>k [] F H at_.refl .nil
theorem Zc{es:List Expr}{f:HM.AF}(ha:XE X e fa)(hr:XA X es f)(hs:ZyK (e::es) X.env=(false,eval e X.env)::ZyK es X.env:=by rfl):XA X (e::es) (HM.Zd fa f):=by
 refine⟨λr ds h=>?_,λr ds h=>?_⟩
 ·unfold HM.Zd at h
  split at h
  ·obtain⟨xs,h1,h2⟩:=ZyB.mp h
   subst h2;rw[ZyP,ZyP,hr.len r xs h1]
  ·cases h
 unfold HM.Zd at h;split at h
 ·rename_i x hx
  obtain⟨xs,h1,h2⟩:=ZyB.mp h;subst h2;refine PA.imp (Zag (ha r x hx) (hr.pa r xs h1) hs) λσ H Q ⟨F0,H0,F,at_,k⟩=>?_;exact⟨F0,H0,F,at_,λv F1 H1 x1 r1=>⟨F0,H0,F1,at_.grow x1,λvs F2 H2 x2 r2=>k (v::vs) F2 H2 (x1.trans x2) (.cons (r1.mono x2.ff) r2)⟩⟩
 ·cases h
theorem Ze2{es:List Expr}{f:HM.AF}{x1:Nat}(h:XA X es f)(hl:es.length<=100:=by exact Nat.le_of_ble_eq_true rfl):XE X (.Tuple es x1 pos) (HM.Zg8 f):=by
 intro r d hd;obtain⟨ds,h1,h2⟩:=ZyB.mp hd;subst h2;refine PE.imp (ZvR (h.pa r ds h1)) λσ H Q ⟨F0,H0,F,at_,k⟩=>⟨F0,H0,F,at_,λvs F1 H1 x1 r1=>⟨?_,λp hp=>?_⟩⟩
 ·have e1:=h.len r ds h1
  have e2:=r1.1;have e3:(100:Nat)<=sizeLine:=by decide
  omega
 ·have hF:F1 p=none:=x1.sub.free hp
  exact k _ (upd F1 p (.tup vs)) _ (x1.lay hp) (.tup ZB r1.1 (r1.mono (Zp.upd' hF)).2)
theorem Zb2{es:List Expr}{f:HM.AF}(h:XA X es f)(hl:es.length<=100:=by exact Nat.le_of_ble_eq_true rfl):XF X (.List es pos) (HM.Zew f):=by
 intro r d hd;obtain⟨ds,h1,h2⟩:=ZyB.mp hd;subst h2;refine PE.imp (ZvZ (h.pa r ds h1)) λσ H Q ⟨F0,H0,F,at_,k⟩=>⟨F0,H0,F,at_,λvs F1 H1 x1 r1=>⟨?_,λp hp=>?_⟩⟩
 ·have e1:=h.len r ds h1
  have e2:=r1.1;have e3:(100:Nat)<=sizeLine:=by decide
  omega
 ·have hF:F1 p=none:=x1.sub.free hp
  refine k _ F1 _ (x1.lay' hp) ⟨[p],.ol ZB r1,by simp,λa ha=>?_⟩;have:a=p:=by simpa using ha
  subst this;exact⟨hF,x1.hh.free hp⟩
end
end HP
namespace HP
open PySem PySem.Spec PyProof.Rows L2
variable[FX]
section
variable{X:Cx}{a b c e:Expr}{fa fb fc:HM.EF}{pos p:Pos}{st:Stmt}{rest:List Stmt}{g u:HM.SF}
theorem Zl8(h:X.xe=λ_ _=>False):PassesOwn (model X.prog X.w) X.A X.env X.xe:=by rw[h]; exact PassesOwn.never
theorem ZU:XSs X [] HM.Zae:=by intro r o h;cases h;exact PSs.imp Zu9 λE σ H ⟨F0,H0,F,at_,k⟩=>k σ F H at_
theorem Zh(h:XS X st g):XSs X [st] g:=λr o ho=>Zqn (h r o ho)
theorem Zf(h1:XS X st g)(h2:XSs X rest u):XSs X (st::rest) (HM.Zr g u):=by
  intro r o h
  unfold HM.Zr at h
  split at h
  · rename_i r' q
    refine PSs.imp (Zh2 (h1 r _ q) (h2 r' o h)) λE σ H ⟨F0,H0,F,at_,k⟩=>?_
    exact⟨F0,H0,F,at_,λσ' F' H' at'=>⟨F0,H0,F',at',k⟩⟩
  all_goals first
    | cases h
      rename_i q
      refine PSs.imp (Zh2 (h1 r _ q) ZgC) λE σ H ⟨F0,H0,F,at_,k⟩=>?_
      exact⟨F0,H0,F,at_,k⟩
    | cases h
theorem Zj6:XS X st HM.ZkO:=λr o h=>nomatch h
theorem Zy(h:XE X e fa):XS X (.Return (some e) pos) (HM.ZC fa):=by intro r o ho;obtain⟨d,h1,h2⟩:=ZyB.mp ho;subst h2;refine PS.imp (ZoY (h r d h1)) λE σ H ⟨F0,H0,F,at_,k⟩=>?_;exact⟨F0,H0,F,at_,λv F' H' x q=>k v F' H' (at_.ext.trans x) q⟩
theorem Zjn(h:XE X e fa)(hs:ZAI e none pos.line X.env=pure false:=by rfl):XS X (.Expr e pos) (HM.ZkJ fa):=by intro r o ho;obtain⟨d,h1,h2⟩:=ZyB.mp ho;subst h2;refine PS.imp (Zhy (h r d h1) hs) λE σ H ⟨F0,H0,F,at_,k⟩=>?_;exact⟨F0,H0,F,at_,λv F' H' x q=>k σ F' H' (at_.grow x)⟩
theorem Zah{t:HM.TF}{sa sb:List Stmt}(hc:XT X c t)(ha:XSs X sa g)(hb:XSs X sb u):XS X (.If c sa sb pos) (HM.sIf t g u):=by
 intro r o ho;unfold HM.sIf at ho;split at ho
 ·rename_i q
  refine PS.imp (ZuA (hc r _ q) (ha r o ho) ZgC) λE σ H ⟨F0,H0,F,at_,k⟩=>?_;exact⟨F0,H0,F,at_,λF' H' x=>ZlF ⟨F0,H0,F',at_.grow x,k⟩⟩
 ·rename_i q
  refine PS.imp (ZuA (hc r _ q) ZgC (hb r o ho)) λE σ H ⟨F0,H0,F,at_,k⟩=>?_;exact⟨F0,H0,F,at_,λF' H' x=>ZlT ⟨F0,H0,F',at_.grow x,k⟩⟩
 ·cases ho
theorem Zc8(i:Nat)(h:XS X st g):XS X st (HM.ZeJ i g):=by intro r o ho;refine PS.imp (h (HM.Zk5 i r) o ho) λE σ H ⟨F0,H0,F,at_,k⟩=>?_;obtain⟨F',_,_,a'⟩:=at_.freeze i;exact⟨F0,H0,F',a',k⟩
theorem ZI(i:Nat){x:Str}{p':Pos}(hN:X.N.Nodup)(h:XE X e fa)(hi:X.N[i]?=some x:=by rfl)(hx:Loc X.env.scope x:=by first | exact ZzA rfl | exact Zzc rfl)
  (hs:ZAI e (some (.Name x p')) pos.line X.env=pure false:=by rfl) (hf:X.fn x=true\/X.env.scope.names.lookup x=some .local:=by first | exact .inl rfl | exact .inr rfl) :
  XS X (.Assign [.Name x p'] e pos) (HM.Z0 i fa):=by
 intro r o ho;obtain⟨d,h1,h2⟩:=ZyB.mp ho;subst h2;refine PS.imp (Zn8 hN hi hx (h r d h1) hs hf) λE σ H ⟨F0,H0,F,at_,k⟩=>?_;exact⟨F0,H0,F,at_,λv F' H' x q=>k _ F' H' ((at_.grow x).set q)⟩
theorem Zaj(i:Nat){x:Str}{p':Pos}{f:HM.BF}(hN:X.N.Nodup)(h:XF X e f)(hi:X.N[i]?=some x:=by rfl)(hx:Loc X.env.scope x:=by first | exact ZzA rfl | exact Zzc rfl)
  (hs:ZAI e (some (.Name x p')) pos.line X.env=pure false:=by rfl) (hf:X.fn x=true\/X.env.scope.names.lookup x=some .local:=by first | exact .inl rfl | exact .inr rfl) :
  XS X (.Assign [.Name x p'] e pos) (HM.ZT i f):=by
 intro r o ho;obtain⟨d,h1,h2⟩:=ZyB.mp ho;subst h2;refine PS.imp (Zn8 hN hi hx (h r d h1) hs hf) λE σ H ⟨F0,H0,F,at_,k⟩=>?_;exact⟨F0,H0,F,at_,λv F' H' x ⟨fp,q,nd,hn⟩=>k _ F' H' ((at_.grow x).storeNew at_ x.hh q nd hn)⟩
theorem Zbc(i:Nat){x:Str}{p':Pos}{iter:Expr}{body:List Stmt}{fi:HM.IF}(hN:X.N.Nodup)(hxe:X.xe=λ_ _=>False)(hc:X.calm=true)(hi:XI X (.Name x p') iter fi)(hb:XSs X body g)(hix:X.N[i]?=some x:=by rfl)
  (hx:Loc X.env.scope x:=by first | exact ZzA rfl | exact Zzc rfl) (hf:X.fn x=true\/X.env.scope.names.lookup x=some .local:=by first | exact .inl rfl | exact .inr rfl)
  (hs:∀x,ZAm iter X.env x=pure x:=by intro _; rfl):XS X (.For (.Name x p') iter body [] pos) (HM.Za2 i fi g):=by
 intro r o ho;unfold HM.Za2 at ho;split at ho
 ·rename_i ds hds
  split at ho
  ·rename_i hbig
   have pb:PSs X body (λE σ H=>∃r o,g r=some o/\tSt X.K r o E σ H):=λpins s σ H E I ⟨r,o,h1,h2⟩=>hb r o h1 pins s σ H E I h2;refine PS.imp (Zws (Zl8 hxe) hc (hi r ds hds) (ZjA hN hix hx hf) pb hs) λE σ H ⟨F0,H0,F,at_,k⟩=>?_;refine⟨F0,H0,F,at_,λJ F1 H1 x1 it=>?_⟩;refine⟨λn m σ H=>∃F r,At X.K F0 H0 F H r σ/\Zp F1 F/\n+m=ds.length/\HM.Z1 i g (ds.drop n) r=some o,⟨ds.length,F1,r,at_.grow x1,Zp.refl _,by omega,ho⟩,?_⟩
   rintro n m σ H ⟨F2,r2,at2,s2,hn,go⟩
   obtain⟨it1,it2⟩:=it F2 H s2 at2.sub;cases m with
   | zero =>
    have e:n=ds.length:=by omega
    subst e;rw[List.drop_length]at go;cases go;exact .inl ⟨it2,k σ F2 H at2⟩
   | succ m =>
    have hlt:n<ds.length:=by omega
    rw[ZBr hlt]at go;obtain⟨j1,j2⟩:=it1 n ds[n] (ZyO hlt);refine .inr ⟨j1,λσ' H'=>∃F r,At X.K F0 H0 F H' r σ'/\Zp F1 F/\HM.Z1 i g (ds.drop (n+1)) r=some o,λσ' H' ⟨F,r,a1,a2,a3⟩=>⟨m,by omega,F,r,a1,a2,by omega,a3⟩,λy H' hy=>?_⟩;obtain⟨e1,ry⟩:=j2 y H' hy;subst e1;obtain⟨F3,at3,s3,ry⟩:∃F3,At X.K F0 H0 F3 H' r2 σ/\Zp F1 F3/\Rep X.K F3 ds[n] y:=⟨_,at2.grow at2.refl.tups,s2.trans (Zdz at2.sub),ry⟩;have a3:=at3.set (i:=i) ry;have a4:=a3.rebase;unfold HM.Z1 at go;split at go
    ·rename_i r' hr
     exact⟨_,_,hr,F3,H0,F3,a4,λσ' F' H' a'=>⟨F',r',a'.unbase at3.ext at3.nt0,s3.trans a'.ext.ff,go⟩⟩
    ·rename_i r' hr
     exact⟨_,_,hr,F3,H0,F3,a4,λσ' F' H' a'=>⟨F',r',a'.unbase at3.ext at3.nt0,s3.trans a'.ext.ff,go⟩⟩
    ·rename_i r' hr
     cases go;exact⟨_,_,hr,F3,H0,F3,a4,λσ' F' H' a'=>k σ' F' H' (a'.unbase at3.ext at3.nt0)⟩
    ·rename_i d hr
     cases go;exact⟨_,_,hr,F3,H0,F3,a4,λv F' H' x q=>k v F' H' (at3.ext.unbase x) q⟩
    ·cases go
  ·cases ho
 ·cases ho
end
def spD(K:Zyz)(n:Nat)(M:List PyData->Option PyData):Sp:=λvs H Q _=>∃F ds d,vs.length=n/\Zp F H/\Tb H/\NoT F/\Zu K F ds vs/\M ds=some d/\∀v F' H',Ext F H F' H'->Rep K F' d v->Q v H'
structure Callee(P:Program)(w:World)(K:Zyz)(mg:Str->Option Value)(base:Heap)(k:Nat)(x:Str)(M:List PyData->Option PyData):Prop where
 ex:∃f fd ps,(∀ds d,M ds=some d->ds.length=ps.length)/\Zdm P w K mg base CX0 k f fd ps (spD K ps.length M)/\mg x=some (.ref f)/\Zz0 K (.ref f)=true/\Binds K fd ps []
theorem Callee.mono{P:Program}{w:World}{K:Zyz}{mg:Str->Option Value}{base:Heap}{j k:Nat}{x:Str}{M:List PyData->Option PyData}(C:Callee P w K mg base j x M)(h:j<=k):Callee P w K mg base k x M:=by obtain⟨f,fd,ps,l,F,r⟩:=C.ex;exact⟨f,fd,ps,l,F.mono h,r⟩
section
variable{X:Cx}{pos p:Pos}{e:Expr}{es:List Expr}{f:HM.AF}
theorem Zj{k:Nat}{x:Str}{M:List PyData->Option PyData}(C:Callee X.prog X.w X.K X.mg X.base k x M)(hr:Zal k X.A)(ha:XA X (e::es) f)(hg:Gl X x:=by rfl)(hdb:(x==("__debug__":Str))=false:=by decide)
  (he:ZyK (e::es) X.env=(false,eval e X.env)::ZyK es X.env:=by rfl) (hpl:(backTo pos (ZyK es X.env)).any (·.1)=false:=by rfl):XE X (.Call (.Name x p) (e::es) [] pos) (HM.Zl M f):=by
 intro r d hd;unfold HM.Zl at hd;split at hd
 ·rename_i ds hds
  obtain⟨fa,fd,ps,hl,F,hm,hk,hb⟩:=C.ex;refine PE.imp (ZjF (E:=E0) F hr hg hm hk hb .nil Zm7 (ha.pa r ds hds) hdb he hpl) λσ H Q ⟨F0,H0,F1,at_,k⟩=>?_;refine⟨F0,H0,F1,at_,λvs F' H' x q=>?_⟩;show spD X.K ps.length M (vs++[]) H' Q E0;rw[Zzb];exact⟨F',ds,d,by rw[<-q.1]; exact hl ds d hd,x.sub,at_.tbx x,at_.ntx x,q,hd,λv F2 H2 x2 q2=>k v F2 H2 (x.trans x2) q2⟩
 ·cases hd
end
theorem Zgk{K:Zyz}{F H:Hp}{N:List Str}{ds:List PyData}{vs:List V}(s:Zp F H)(tb:Tb H)(nt:NoT F)(q:Zu K F ds vs)(hl:ds.length<=N.length):At K F H F H (HM.Zer N.length ds) (L2.start N vs):=by
 have hv:=q.1;refine⟨λ_=>[],.refl s,?_,λi b h=>?_,λ_ _=>rfl,λi a h=>by simp at h,λ_=>ZAj,λi j a _ h=>by simp at h,tb,nt⟩
 ·unfold HM.Zer L2.start
  rw[ZyS,ZyS,ZyA,ZyA,Zzp,Zzp,hv]
 ·unfold HM.Zer at h
  by_cases hi:i<ds.length
  ·rw[Zy9 (by rw[ZyA]; exact hi),Zy1,ZyO hi]at h
   cases h;obtain⟨v,h1,h2⟩:=q.get (ZyO hi);refine⟨v,?_,.pl h2⟩;unfold L2.start;rw[Zy9 (by rw[ZyA,<-hv]; exact hi),Zy1,h1];rfl
  ·rw[Zzn (by rw[ZyA]; omega),ZA6]at h
   split at h<;>cases h
theorem Zqs{P:Program}{w:World}{K:Zyz}{mg:Str->Option Value}{base:Heap}{k:Nat}{x qual:Str}{st:Stmt}{f:Addr}{fd:FuncData}{N ps:List Str}{g:HM.SF}(Fn:Fun K x qual st f fd)(S:Zv N ps (Ze st))
  (body:∀(cdv:Value) (A:Around) (outer:List Env) (s:Shared) (H:Hp) (E:XK),Zal k (A.deeper (envOfC qual (Ze st) s.heap.objs.size f cdv))->XSs (Zgd CX0 P w K mg base N qual (Ze st) f cdv A outer s H E).nox (ZaQ st) g) :
  Zdm P w K mg base CX0 (k+1) f fd ps (spD K ps.length (HM.fnOf ps.length N.length g)):=by
 have hpl:ps.length<=N.length:=by have:=congrArg Zzo S.pre; rw[ZzO]at this; omega
 refine Fn.ok S (λvs H Q E h=>?_) (λcdv A outer s H vs Q E hr h=>?_)
 ·obtain⟨_,_,_,h,_⟩:=h
  exact h
 ·obtain⟨F,ds,d,hl,sub,tb,nt,q,hM,kk⟩:=h
  unfold HM.fnOf at hM;split at hM
  ·rename_i hds
   have a0:=Zgk (N:=N) sub tb nt q (by omega);split at hM
   ·rename_i r hr'
    cases hM;exact⟨_,body cdv A outer s H E hr _ _ hr',F,H,F,a0,λσ F' H' a'=>kk .non F' H' a'.ext .non⟩
   ·rename_i d' hr'
    cases hM;exact⟨_,body cdv A outer s H E hr _ _ hr',F,H,F,a0,λv F' H' x q=>kk v F' H' x q⟩
   ·cases hM
  ·cases hM
theorem Zs{P:Program}{w:World}{K:Zyz}{mg:Str->Option Value}{base:Heap}{k:Nat}{x qual:Str}{st:Stmt}{f:Addr}{fd:FuncData}{N ps:List Str}{g:HM.SF}(Fn:Fun K x qual st f fd)(S:Zv N ps (Ze st))(hm:mg x=some (.ref f))(hb:Binds K fd ps [])
  (body:∀(cdv:Value) (A:Around) (outer:List Env) (s:Shared) (H:Hp) (E:XK),Zal k (A.deeper (envOfC qual (Ze st) s.heap.objs.size f cdv))->XSs (Zgd CX0 P w K mg base N qual (Ze st) f cdv A outer s H E).nox (ZaQ st) g) :
  Callee P w K mg base (k+1) x (HM.fnOf ps.length N.length g):=by
 refine⟨f,fd,ps,λds d h=>?_,Zqs Fn S body,hm,Fn.kp,hb⟩;unfold HM.fnOf at h;split at h
 ·assumption
 ·cases h
end HP
namespace HP
open PySem PySem.Spec PyProof.Rows L2
variable[FX]
section
variable{X:Cx}{a b c e:Expr}{fa fb fc:HM.EF}{pos p:Pos}
theorem Zgq{h:Int->Int->Option PyData}{x y z:PyData}(e:HM.Zfm h x y=some z):∃i j,x=.int i/\y=.int j/\h i j=some z:=by
 unfold HM.Zfm at e;split at e
 ·exact⟨_,_,rfl,rfl,e⟩
 ·cases e
theorem Zol{K:Zyz}{g:Int->Int->V}{h:Int->Int->PyData}(hr:∀F i j,Rep K F (h i j) (g i j)):Bin K (rI0 g) (HM.Zfm λi j=>some (h i j)):=by intro F H x y z v w Q s e r1 r2 k;obtain⟨i,j,rfl,rfl,e⟩:=Zgq e;cases e;exact⟨i,j,r1.int_inv,r2.int_inv,k _ (hr F i j)⟩
theorem ZbP:Zo8 X .Add HM.Zbb:=⟨_,Zwp,Zol λ_ _ _=>.int _⟩
theorem Zls:Zo8 X .Sub HM.Zfr:=⟨_,Zwi,Zol λ_ _ _=>.int _⟩
theorem Zfs:Zo8 X .Mult HM.Zdl:=by
 refine⟨_,ZwE,λF H x y z v w Q s e r1 r2 k=>?_⟩;obtain⟨i,j,rfl,rfl,e'⟩:=Zgq e;split at e'
 ·rename_i hs
  cases e';refine⟨i,j,r1.int_inv,r2.int_inv,?_,k _ (.int _)⟩;unfold HM.ZY at hs;rw[ZAn,ZBE,ZBE]at hs;unfold Zrk;omega
 ·cases e'
theorem oMod:Zo8 X .Mod HM.Ztl:=by
 refine⟨_,ZwP,λF H x y z v w Q s e r1 r2 k=>?_⟩;obtain⟨i,j,rfl,rfl,e'⟩:=Zgq e;split at e'
 ·rename_i hs
  cases e';exact⟨i,j,r1.int_inv,r2.int_inv,hs,k _ (.int _)⟩
 ·cases e'
theorem cLt:Zgv X .Lt HM.gLt:=⟨⟨_,Zxl,Zol λ_ _ _=>.bl _⟩,by decide,by decide⟩
theorem cLe:Zgv X .LtE HM.gLe:=⟨⟨_,Zxr,Zol λ_ _ _=>.bl _⟩,by decide,by decide⟩
theorem cGt:Zgv X .Gt HM.gGt:=⟨⟨_,Zxp,Zol λ_ _ _=>.bl _⟩,by decide,by decide⟩
theorem Rep.non_iff{K:Zyz}{F:Hp}{d:PyData}{v:V}(h:Rep K F d v):decide (v=.non)=match d with | .none=>true | _=>false:=by cases h<;>first | rfl | exact decide_eq_false (λz=>nomatch z)
theorem ZnV:Zgv X .Is HM.Zi9:=by
 refine⟨⟨_,Zwu,λF H x y z v w Q s e r1 r2 k=>?_⟩,by decide,by decide⟩;unfold HM.Zi9 at e;split at e
 ·refine⟨r2.none_inv,k _ ?_⟩
  rw[r1.non_iff];split at e
  ·cases e; exact .bl _
  ·rename_i hx
   cases e;cases x<;>first | exact .bl _ | exact absurd rfl hx
 ·cases e
theorem ZkN:Zgv X .IsNot HM.ZeY:=by
 refine⟨⟨_,Zu7,λF H x y z v w Q s e r1 r2 k=>?_⟩,by decide,by decide⟩;unfold HM.ZeY at e;split at e
 ·refine⟨r2.none_inv,k _ ?_⟩
  rw[r1.non_iff];split at e
  ·cases e; exact .bl _
  ·rename_i hx
   cases e;cases x<;>first | exact .bl _ | exact absurd rfl hx
 ·cases e
theorem Zhi{h:Heap}:∀{ds:List PyData} {us:List Value},ds.length=us.length->(∀(i:Nat) d u,ds[i]?=some d->us[i]?=some u->∃as,Reads h u d as)->∃as,ReadsAll h us ds as
 | [],[],_,_=>⟨[],.nil⟩
 | [],_::_,hl,_=>by simp at hl
 | _::_,[],hl,_=>by simp at hl
 | d::ds,u::us,hl,k=>by obtain⟨as,h1⟩:=k 0 d u rfl rfl;obtain⟨bs,h2⟩:=Zhi (ds:=ds) (us:=us) (by simpa using hl) λi d u e1 e2=>k (i+1) d u (by simpa using e1) (by simpa using e2);exact⟨_,.cons h1 h2⟩
theorem Zqb:∀{ds:List PyData},ZBe ds=true->∀{i:Nat} {d:PyData},ds[i]?=some d->d.canLay0=true
 | [],_,i,d,e=>by simp at e
 | x::ds,h,i,d,e=>by
  have h':(x.canLay0&&ZBe ds)=true:=h;rw[ZyT]at h';cases i with
  | zero=>rw[ZA7]at e; cases e; exact h'.1
  | succ i=>rw[Zzh]at e; exact Zqb h'.2 e
theorem Zom{ds:List PyData}(h:ZBe ds=true){i:Nat}{d:PyData}(e:ds[i]?=some d):d.canLay0=true:=Zqb h e
theorem Rep.reads{pins:List (Addr × Obj)}{s:Shared}{σ:L2.St}{H F:Hp}{d:PyData}{v:V}(I:Inv X pins σ H s)(sub:Zp F H)(r:Rep X.K F d v):d.canLay0=true->∀u,RelV v u->∃as,Reads s.heap u d as:=by
 induction r with
 | non=>intro _ u ru; cases ru; exact⟨[],.none⟩
 | bl b=>intro _ u ru; cases ru; exact⟨[],.bool b⟩
 | int i=>intro _ u ru; obtain⟨t,rfl⟩:=ru; exact⟨[],.int i t⟩
 | str x=>intro _ u ru; obtain⟨t,rfl⟩:=ru; exact⟨[],.str x t⟩
 | dct _ _ _ _ _=>intro z; cases z
 | fn _=>intro z; cases z
 | @tupk a x h=>intro z u ru;cases ru;obtain⟨its,rv,⟨o,ho,hc,n,hd⟩,_⟩:=I.tuple (.inr h);obtain⟨u,rfl,t,rfl⟩:=rv.one;exact⟨_,.tuple ho hc hd (by simpa using ReadsAll.cons (.str x t) .nil)⟩
 | @tup a ds vs h hl _ ih =>
  intro z u ru;cases ru;obtain⟨its,rv,⟨o,ho,hc,n,hd⟩,_⟩:=I.tuple (.of (sub _ _ h));obtain⟨as,hr⟩:=Zhi (h:=s.heap) (ds:=ds) (us:=its) (hl.trans rv.length) λi d u e1 e2=>by
   have hi:i<vs.length:=by rw[<-hl]; exact(ZyM.mp e1).1
   obtain⟨u',q1,q2⟩:=rv.get (ZyO hi);rw[e2]at q1;cases q1;exact ih i d _ e1 (ZyO hi) (Zom z e1) u q2
  exact⟨_,.tuple ho hc hd (by simpa using hr)⟩
 | @lst a ds vs h hl _ ih =>
  intro z u ru;cases ru;obtain⟨its,rv,⟨o,n,ho,hc,_,hd⟩,_⟩:=I.list (sub.seq h);obtain⟨as,hr⟩:=Zhi (h:=s.heap) (ds:=ds) (us:=its) (hl.trans rv.length) λi d u e1 e2=>by
   have hi:i<vs.length:=by rw[<-hl]; exact(ZyM.mp e1).1
   obtain⟨u',q1,q2⟩:=rv.get (ZyO hi);rw[e2]at q1;cases q1;exact ih i d _ e1 (ZyO hi) (Zom z e1) u q2
  exact⟨_,.list ho hc hd (by simpa using hr)⟩
def Zwy(K:Zyz)(neg:Bool):R2:=λv w H Q=>∃F x y,Zp F H/\Rep K F x v/\Rep K F y w/\HM.Zan x=true/\HM.Zan y=true/\Q (.bl (if neg then !PyData.eqv x y else Zzv x y)) H
theorem ZdA{d:PyData}(h:HM.Zan d=true):d.canLay0=true/\d.depth<=60:=by unfold HM.Zan at h;simpa using h
theorem Zxf{k:Nat}(hr:Zal k X.A):OpR X (ZzJ .Eq) (Zwy X.K false):=by intro pins s σ H v w u u' Q I r1 r2 ⟨F,x,y,sub,q1,q2,p1,p2,q⟩;obtain⟨a1,a2⟩:=ZdA p1;obtain⟨b1,b2⟩:=ZdA p2;obtain⟨as,h1⟩:=q1.reads I sub a1 u r1;obtain⟨bs,h2⟩:=q2.reads I sub b1 u' r2;refine PySem.SeqAt.eqOverData X.prog X.w X.A X.xe s u u' x y as bs _ h1 h2 a1 b1 ?_ ⟨.bl _,H,I,rfl,q⟩;have:=hr.un;have:min x.depth y.depth<=60:=Zzl (ZC4 _ _) a2;omega
theorem Zxs{k:Nat}(hr:Zal k X.A):OpR X (ZzJ .NotEq) (Zwy X.K true):=by intro pins s σ H v w u u' Q I r1 r2 ⟨F,x,y,sub,q1,q2,p1,p2,q⟩;obtain⟨a1,a2⟩:=ZdA p1;obtain⟨b1,b2⟩:=ZdA p2;obtain⟨as,h1⟩:=q1.reads I sub a1 u r1;obtain⟨bs,h2⟩:=q2.reads I sub b1 u' r2;refine PySem.SeqAt.neOverData X.prog X.w X.A X.xe s u u' x y as bs _ h1 h2 a1 b1 ?_ ⟨.bl _,H,I,rfl,q⟩;have:=hr.un;have:min x.depth y.depth<=60:=Zzl (ZC4 _ _) a2;omega
theorem cEq{k:Nat}(hr:Zal k X.A):Zgv X .Eq HM.gEq:=by
 refine⟨⟨_,Zxf hr,λF H x y z v w Q s e r1 r2 k=>?_⟩,by decide,by decide⟩;unfold HM.gEq at e;split at e
 ·rename_i hp
  cases e;rw[ZyT]at hp;exact⟨F,x,y,s,r1,r2,hp.1,hp.2,k _ (.bl _)⟩
 ·cases e
theorem cNe{k:Nat}(hr:Zal k X.A):Zgv X .NotEq HM.gNe:=by
 refine⟨⟨_,Zxs hr,λF H x y z v w Q s e r1 r2 k=>?_⟩,by decide,by decide⟩;unfold HM.gNe at e;split at e
 ·rename_i hp
  cases e;rw[ZyT]at hp;exact⟨F,x,y,s,r1,r2,hp.1,hp.2,k _ (.bl _)⟩
 ·cases e
theorem Zge{K:Zyz}{F H:Hp}{q:HM.B}{v:V}{fp:List Addr}{ds:List PyData}(sub:Zp F H)(r:Zac K F H q v fp)(h:HM.Za9 q=some ds):∃a vs,v=.ref a/\(SqL K H a vs\/SqT K H a vs)/\Zu K F ds vs:=by
 cases r with
 | pl r =>
  cases r with
  | tup h1 h2 h3=>cases h; exact⟨_,_,rfl,.inr (.of (sub _ _ h1)),h2,h3⟩
  | @tupk a x h1=>cases h; exact⟨_,_,rfl,.inr (.inr h1),.one (.str x)⟩
  | lst h1 h2 h3=>cases h; exact⟨_,_,rfl,.inl (sub.seq h1),h2,h3⟩
  | dct _ _ _ _=>cases h
  | fn _=>cases h
  | non=>cases h
  | bl _=>cases h
  | int _=>cases h
  | str _=>cases h
 | ol h1 r=>cases h; exact⟨_,_,rfl,.inl (.of h1),r⟩
 | ok _ _ _=>cases h
 | hd _ _ _ _=>cases h
 | hf _=>cases h
 | ot _ _ _=>cases h
 | otl _ _ _ _=>cases h
theorem ZuS{K:Zyz}{F:Hp}{ds:List PyData}{vs:List V}{i:Int}{d:PyData}(r:Zu K F ds vs)(h:HM.atD ds i=some d):∃v,atI vs i=some v/\Rep K F d v:=by
 unfold HM.atD at h;split at h
 ·rename_i j hj
  obtain⟨v,h1,h2⟩:=r.get h;refine⟨v,?_,h2⟩;unfold atI;rw[<-r.1,show ixN ds.length i=some j from hj];exact h1
 ·cases h
theorem Z9{fb':HM.BF}(ha:XB X a fb')(hb:XE X b fb)(hs:Zqw b:=by intro _ _; rfl):XE X (.Subscript a b pos) (HM.eIx fb' fb):=by
 intro r d h;unfold HM.eIx at h;split at h
 ·rename_i x hx
  split at h
  ·rename_i ds hds
   split at h
   ·rename_i i hi
    refine PE.imp (Zxj Zwb (ha r x hx) (hb r _ hi) hs) λσ H Q ⟨F0,H0,F,at_,k⟩=>?_;refine⟨F0,H0,F,at_,λv F1 H1 x1 ⟨fp,r1⟩=>⟨F0,H0,F1,at_.grow x1,λw F2 H2 x2 r2=>?_⟩⟩;obtain⟨l,vs,e1,hq,rs⟩:=Zge x2.sub (r1.mono x2.ff λ_ _ _ z=>x2.hh _ _ z) hds;obtain⟨u,hu,ru⟩:=ZuS rs h;have fin:=k u F2 H2 (x1.trans x2) ru;rcases hq with hq | hq
    ·exact .inl ⟨l,vs,i,u,e1,r2.int_inv,hq,hu,fin⟩
    ·exact .inr (.inl ⟨l,vs,i,u,e1,r2.int_inv,hq,hu,fin⟩)
   ·cases h
  ·cases h
 ·cases h
def PAB(X:Cx)(e:Expr)(r:HM.Env)(q:HM.B):Prop:=PA X [e] λσ H Q=>Now X.K r σ H λF0 H0 F=>∀v fp F' H',Ext F H F' H'->Zac X.K F' H' q v fp->Q [v] H'
theorem Ze5{f:HM.BF}{r:HM.Env}{q:HM.B}(ha:XB X e f)(h:f r=some q)(hs:ZyK [e] X.env=[(false,eval e X.env)]:=by rfl):PAB X e r q:=by refine PA.imp (Zag (ha r q h) ZbI hs) λσ H Q ⟨F0,H0,F,at_,k⟩=>?_;exact⟨F0,H0,F,at_,λv F1 H1 x1 ⟨fp,r1⟩=>k v fp F1 H1 x1 r1⟩
end
end HP
namespace HP
open PySem PySem.Spec PyProof.Rows L2
variable[FX]
theorem ZwN:Zzz "all" = some (.builtin "all"):=by decide +kernel
theorem Zw1:Zzz "len" = some (.builtin "len"):=by decide +kernel
theorem Zsi:Zzz "max" = some (.builtin "max"):=by decide +kernel
theorem ZrX:Zzz "min" = some (.builtin "min"):=by decide +kernel
theorem Zl9:Zzz "sorted" = some (.builtin "sorted"):=by decide +kernel
theorem ZmW:Zzz "isinstance" = some (.builtin "isinstance"):=by decide +kernel
theorem Zo7:Zzz "int" = some (.type "int"):=by decide +kernel
theorem Zvp:Zzz "bool" = some (.type "bool"):=by decide +kernel
theorem Zqg:Zzz "list" = some (.type "list"):=by decide +kernel
theorem Zko:Zzz "tuple" = some (.type "tuple"):=by decide +kernel
theorem Zwn:Zzz "set" = some (.type "set"):=by decide +kernel
section
variable{X:Cx}{a b c e:Expr}{fa fb fc:HM.EF}{pos p:Pos}{f:HM.BF}
theorem Zbi(hm:X.mg "len" = none)(ha:XB X a f)(hg:Gl X "len":=by rfl)(hs:ZyK [a] X.env=[(false,eval a X.env)]:=by rfl):XE X (.Call (.Name "len" p) [a] [] pos) (HM.ZaJ f):=by
 intro r d h;unfold HM.ZaJ at h;split at h
 ·rename_i x hx
  obtain⟨n,h1,h2⟩:=ZyB.mp h;subst h2;refine PE.imp (Zdo (ZoZ.or ZsB) hg hm Zw1 (Ze5 ha hx hs) (he:=hs)) λσ H Q ⟨F0,H0,F,at_,k⟩=>?_;refine⟨F0,H0,F,at_,λv fp F1 H1 x1 r1=>?_⟩;have fin:=λ(m:Nat) (e:m=n)=>k (.int m) F1 H1 x1 (by rw[e]; exact .int _);cases r1 with
  | pl q =>
   cases q with
   | tup q1 q2 q3=>cases h1; exact .inl ⟨_,_,rfl,.inr (.of (x1.sub _ _ q1)),fin _ q2.symm⟩
   | tupk q1=>cases h1; exact .inl ⟨_,_,rfl,.inr (.inr q1),fin _ rfl⟩
   | lst q1 q2 q3=>cases h1; exact .inl ⟨_,_,rfl,.inl (x1.sub.seq q1),fin _ q2.symm⟩
   | dct _ _ _ _=>cases h1
   | fn _=>cases h1
   | non=>cases h1
   | bl _=>cases h1
   | int _=>cases h1
   | str _=>cases h1
  | ol q1 q2=>cases h1; exact .inl ⟨_,_,rfl,.inl (.of q1),fin _ q2.1.symm⟩
  | ok q1 q2 q3=>cases h1;refine .inr ⟨_,_,rfl,q1,fin _ ?_⟩;have:=congrArg Zzo q2;rw[ZyA,ZyA]at this;exact this.symm
  | ot _ _ _=>cases h1
  | otl _ _ _ _=>cases h1
  | hd _ _ _ _=>cases h1
  | hf _=>cases h1
 ·cases h
theorem Zai(hm:X.mg "tuple" = none)(ha:XB X a f)(hg:Gl X "tuple":=by rfl)(hs:ZyK [a] X.env=[(false,eval a X.env)]:=by rfl):XE X (.Call (.Name "tuple" p) [a] [] pos) (HM.Zaq f):=by
 intro r d h;unfold HM.Zaq at h;split at h
 ·rename_i x hx
  obtain⟨ds,h1,h2⟩:=ZyB.mp h;subst h2;refine PE.imp (Zdp ZmV hg hm Zko (Ze5 ha hx hs) (he:=hs)) λσ H Q ⟨F0,H0,F,at_,k⟩=>?_;refine⟨F0,H0,F,at_,λv fp F1 H1 x1 r1=>?_⟩;have new:∀(vs:List V),Zu X.K F1 ds vs->∀l,H1 l=none->Q (.ref l) (upd H1 l (.tup vs)):=λvs q l hl=>k _ (upd F1 l (.tup vs)) _ (x1.lay hl) (.tup ZB q.1 (q.mono (Zp.upd' (x1.sub.free hl))).2);cases r1 with
  | pl q =>
   cases q with
   | tup q1 q2 q3=>cases h1; exact⟨_,_,rfl,.inr ⟨.of (x1.sub _ _ q1),k _ F1 H1 x1 (.tup q1 q2 q3)⟩⟩
   | tupk q1=>cases h1; exact⟨_,_,rfl,.inr ⟨.inr q1,k _ F1 H1 x1 (.tupk q1)⟩⟩
   | lst q1 q2 q3=>cases h1; exact⟨_,_,rfl,.inl ⟨x1.sub.seq q1,new _ ⟨q2,q3⟩⟩⟩
   | dct _ _ _ _=>cases h1
   | fn _=>cases h1
   | non=>cases h1
   | bl _=>cases h1
   | int _=>cases h1
   | str _=>cases h1
  | ol q1 q2=>cases h1; exact⟨_,_,rfl,.inl ⟨.of q1,new _ q2⟩⟩
  | ok _ _ _=>cases h1
  | ot _ _ _=>cases h1
  | otl _ _ _ _=>cases h1
  | hd _ _ _ _=>cases h1
  | hf _=>cases h1
 ·cases h
theorem ZeP{K:Zyz}{F H F1 H1:Hp}{ds:List PyData}{vs:List V}{l:Addr}{P:V->Hp->Hp->Prop}(x1:Ext F H F1 H1)(q:Zu K F1 ds vs)(hl:H1 l=none)
  (k:∀v F' H',Ext F H F' H'->(∃fp,Zac K F' H' (.ol ds) v fp/\fp.Nodup/\∀a∈fp,F' a=none/\H a=none)->P v F' H'):P (.ref l) F1 (upd H1 l (.lst vs)):=by
 refine k _ F1 _ (x1.lay' hl) ⟨[l],.ol ZB q,by simp,λa ha=>?_⟩;have:a=l:=by simpa using ha
 subst this;exact⟨x1.sub.free hl,x1.hh.free hl⟩
theorem Zit(hm:X.mg "list" = none)(ha:XB X a f)(hg:Gl X "list":=by rfl)(hs:ZyK [a] X.env=[(false,eval a X.env)]:=by rfl):XF X (.Call (.Name "list" p) [a] [] pos) (HM.ZhA f):=by
 intro r d h;unfold HM.ZhA at h;split at h
 ·rename_i x hx
  obtain⟨ds,h1,h2⟩:=ZyB.mp h;subst h2;refine PE.imp (Zdp Zoy hg hm Zqg (Ze5 ha hx hs) (he:=hs)) λσ H Q ⟨F0,H0,F,at_,k⟩=>?_;refine⟨F0,H0,F,at_,λv fp F1 H1 x1 r1=>?_⟩;obtain⟨l,vs,e1,hq,rs⟩:=Zge x1.sub r1 h1;subst e1;exact⟨l,vs,rfl,hq,λl' hl'=>ZeP (P:=λv _ H'=>Q v H') x1 rs hl' k⟩
 ·cases h
theorem ZkK{K:Zyz}{F:Hp}:∀{ds:List PyData} {vs:List V} {bs:List Bool},HM.Zfa ds=some bs->Zu K F ds vs->vs=bs.map V.bl
 | [],vs,bs,h,r=>by cases h;exact r.nil_inv
 | d::ds,vs,bs,h,r=>by
  obtain⟨v,us,rfl,r1,r2⟩:=r.cons_inv;cases d with
  | bool b=>obtain⟨bs',h1,h2⟩:=ZyB.mp h;subst h2;rw[r1.bool_inv,ZkK h1 r2];rfl
  | none=>cases h
  | int _=>cases h
  | str _=>cases h
  | list _=>cases h
  | tuple _=>cases h
  | dict _=>cases h
end
end HP
namespace HP
open PySem PySem.Spec PyProof.Rows L2
variable[FX]
section
variable{X:Cx}{a b c e:Expr}{fa fb fc:HM.EF}{pos p:Pos}{f:HM.BF}
theorem ZpU:∀{bs:List Bool} {us:List Value},Vals (bs.map V.bl) us->LSm.BoolsAre us bs:=by
 intro bs
 induction bs with
 | nil=>intro us r; rw[ZAA]at r; cases r; exact .nil
 | cons b bs ih =>
  intro us r;rw[ZyH]at r;cases r with
  | cons r1 r2=>cases r1;exact .cons b (ih r2)
theorem ZwR{A:Around}{s:Shared}{l:Addr}{vs:List Value}{bs:List Bool}{dflt:Bool}(hh:A.handled=none)(hl:s.heap.IsList l vs.toArray)(hb:LSm.BoolsAre vs bs){E:Value->Shared->Prop}{Q:Value->Shared->Prop}{prog:Program}{w:World}
  (h:∀it fp wr (P:Nat->Value->Prop) St,Walks prog w A it fp wr vs.length P St->St 0 (s.heap.push { cls:=.type "list_iterator",data:=.fields #[.ref l,rawInt 0] })->TruthOf prog w A P (λi=>(bs[i]?).getD dflt)->wr=[s.heap.objs.size]->it=s.heap.objs.size->Q (.ref it) { s with heap:=s.heap.push { cls:=.type "list_iterator",data:=.fields #[.ref l,rawInt 0] } }) :
  wpAny (model prog w) A (pyIter (.ref l)) Q E s:=by
 have hlt:l<s.heap.objs.size:=let ⟨_,e,_⟩:=hl; ZyR e
 refine ZCE hl ?_;have W:=Walks.list (prog:=prog) (w:=w) hh s.heap.objs.size l (ZyX hlt) vs.toArray;rw[ZyQ]at W;refine h _ _ _ _ _ W ⟨⟨_,ZyU _ rfl,rfl,rfl⟩,hl.push _⟩ (λi v s' Q' E' hP hQ=>?_) rfl rfl;obtain⟨b,e,rfl⟩:=hb.get i v (by simpa using hP);simp only[e,Option.getD_some]at hQ;exact ZAl hQ
theorem Zr4(hc:X.calm=true):ZaU X (.builtin "all") (λxs H Q=>∃(p:Addr) (bs:List Bool),xs=[.ref p]/\SqL X.K H p (bs.map V.bl)/\Q (.bl (bs.all id)) H):=by intro pins s σ H xs us Q I r h;obtain⟨p,bs,rfl,hq,q⟩:=h;obtain⟨u,rfl,rx⟩:=vals1 r;cases rx;obtain⟨its,rv,pl,hz⟩:=I.list hq;have hb:=ZpU rv;refine call_all_walk (ZwR (dflt:=true) (A:=X.A.in1) (I.ok.hd hc) pl.isList hb λit fp wr P St W st tr e1 e2=>?_);subst e1 e2;refine⟨_,_,_,_,P,St,_,rfl,W,st,tr,λh' tk hk=>?_⟩;rw[hb.length,LSm.range_all bs];exact⟨.bl _,H,I.kept (LSm.kept_iter hk),rfl,q⟩
theorem Zgu{K:Zyz}{F H:Hp}{q:HM.B}{v:V}{fp:List Addr}{ds:List PyData}(sub:Zp F H)(r:Zac K F H q v fp)(h:HM.ZlP q=some ds):∃a vs,v=.ref a/\SqL K H a vs/\Zu K F ds vs:=by
 cases r with
 | pl r =>
  cases r with
  | lst h1 h2 h3=>cases h; exact⟨_,_,rfl,sub.seq h1,h2,h3⟩
  | dct _ _ _ _=>cases h
  | fn _=>cases h
  | tupk _=>cases h
  | tup _ _ _=>cases h
  | non=>cases h
  | bl _=>cases h
  | int _=>cases h
  | str _=>cases h
 | ol h1 r=>cases h; exact⟨_,_,rfl,.of h1,r⟩
 | ok _ _ _=>cases h
 | hd _ _ _ _=>cases h
 | hf _=>cases h
 | ot _ _ _=>cases h
 | otl _ _ _ _=>cases h
theorem Zhl(hm:X.mg "all" = none)(hc:X.calm=true)(ha:XB X a f)(hg:Gl X "all":=by rfl)(hs:ZyK [a] X.env=[(false,eval a X.env)]:=by rfl):XE X (.Call (.Name "all" p) [a] [] pos) (HM.Zjb f):=by
 intro r d h;unfold HM.Zjb at h;split at h
 ·rename_i x hx
  split at h
  ·rename_i ds hds
   obtain⟨bs,h1,h2⟩:=ZyB.mp h;subst h2;refine PE.imp (Zdo (Zr4 hc) hg hm ZwN (Ze5 ha hx hs) (he:=hs)) λσ H Q ⟨F0,H0,F,at_,k⟩=>?_;refine⟨F0,H0,F,at_,λv fp F1 H1 x1 r1=>?_⟩;obtain⟨l,vs,e1,hq,rs⟩:=Zgu x1.sub r1 hds;rw[ZkK h1 rs]at hq;exact⟨l,bs,by rw[e1],hq,k _ F1 H1 x1 (.bl _)⟩
  ·cases h
 ·cases h
theorem ZkV{tyn:String}{t:HM.Ty}(hr:∀(s:Shared) (d:PyData) (v:V) (u:Value) (Q:Value->Shared->Prop),RelV v u->(∃(K:Zyz) (F:Hp),Rep K F d v)->(∀es,d≠.dict es)->(∀x,v=.ref x->∃o,s.heap.get? x=some o/\((∃ds,d=.tuple ds/\o.cls=.type "tuple")\/(∃ds,d=.list ds/\o.cls=.type "list")\/∃ds,d=.dict ds/\o.cls=.type "dict")) ->
   (∀tk,Q (.bool (HM.Zih t d)) { s with toks:=tk })->wpAny (model X.prog X.w) X.A (call (.builtin "isinstance") [u,.type tyn]) Q X.xe s) :
  ZaU X (.builtin "isinstance") (λxs H Q=>∃F d v,xs=[v,.ty tyn]/\Zp F H/\Rep X.K F d v/\(∀es,d≠.dict es)/\Q (.bl (HM.Zih t d)) H):=by
 intro pins s σ H xs us Q I r h;obtain⟨F,d,v,rfl,sub,rp,nd,q⟩:=h;obtain⟨u,u',rfl,ru,ru'⟩:=vals2 r;cases(show u'=ZBA tyn from ru');refine hr s d v u _ ru ⟨_,_,rp⟩ nd (λx e=>?_) λtk=>⟨.bl _,H,I.tok tk,rfl,q⟩;subst e;cases rp with
 | tup h1 h2 h3=>obtain⟨its,rv,⟨o,ho,hc,n,hd⟩,_⟩:=I.tuple (.of (sub _ _ h1));exact⟨o,ho,.inl ⟨_,rfl,hc⟩⟩
 | tupk h1=>obtain⟨its,rv,⟨o,ho,hc,n,hd⟩,_⟩:=I.tuple (.inr h1);exact⟨o,ho,.inl ⟨_,rfl,hc⟩⟩
 | lst h1 h2 h3=>obtain⟨its,rv,⟨o,n,ho,hc,_,hd⟩,_⟩:=I.list (sub.seq h1);exact⟨o,ho,.inr (.inl ⟨_,rfl,hc⟩)⟩
 | @dct a es kvs vvs h1 _ _ _=>obtain⟨_,_,xs,_,o,es,ep,q1,q2,_⟩:=(show Zab X.prog X.w H s.heap x (.dT vvs) from Zla I.hok (Zju h1 sub));exact⟨o,q1,.inr (.inr ⟨_,rfl,q2.1⟩)⟩
 | fn _=>exact absurd rfl (nd _)
theorem Zt6:ZaU X (.builtin "isinstance") (λxs H Q=>∃F d v,xs=[v,.ty "bool"]/\Zp F H/\Rep X.K F d v/\(∀es,d≠.dict es)/\Q (.bl (HM.Zih .bool d)) H):=by
 refine ZkV λs d v u Q ru ⟨K,F,rp⟩ nd ho k=>?_;cases rp with
 | non=>cases ru; exact IsiPair.NoneType_bool (k _)
 | bl _=>cases ru; exact IsiPair.bool_bool (k _)
 | int _=>obtain⟨t,rfl⟩:=ru; exact IsiPair.int_bool (k _)
 | str _=>obtain⟨t,rfl⟩:=ru; exact IsiPair.str_bool (k _)
 | tup _ _ _ | tupk _ =>
  cases ru;obtain⟨o,h1,⟨_,_,h2⟩ | ⟨_,e,_⟩ | ⟨_,e,_⟩⟩:=ho _ rfl
  ·exact IsiPair.tuple_bool h1 h2 (k _)
  ·cases e
  ·cases e
 | lst _ _ _ =>
  cases ru;obtain⟨o,h1,⟨_,e,_⟩ | ⟨_,_,h2⟩ | ⟨_,e,_⟩⟩:=ho _ rfl
  ·cases e
  ·exact IsiPair.list_bool h1 h2 (k _)
  ·cases e
 | dct _ _ _ _ =>
  cases ru;obtain⟨o,h1,⟨_,e,_⟩ | ⟨_,e,_⟩ | ⟨_,_,h2⟩⟩:=ho _ rfl
  ·cases e
  ·cases e
  ·exact IsiPair.dict_bool h1 h2 (k _)
 | fn _=>exact absurd rfl (nd _)
theorem ZuG:ZaU X (.builtin "isinstance") (λxs H Q=>∃F d v,xs=[v,.ty "int"]/\Zp F H/\Rep X.K F d v/\(∀es,d≠.dict es)/\Q (.bl (HM.Zih .int d)) H):=by
 refine ZkV λs d v u Q ru ⟨K,F,rp⟩ nd ho k=>?_;cases rp with
 | non=>cases ru; exact IsiPair.NoneType_int (k _)
 | bl _=>cases ru; exact IsiPair.bool_int (k _)
 | int _=>obtain⟨t,rfl⟩:=ru; exact IsiPair.int_int (k _)
 | str _=>obtain⟨t,rfl⟩:=ru; exact IsiPair.str_int (k _)
 | tup _ _ _ | tupk _ =>
  cases ru;obtain⟨o,h1,⟨_,_,h2⟩ | ⟨_,e,_⟩ | ⟨_,e,_⟩⟩:=ho _ rfl
  ·exact IsiPair.tuple_int h1 h2 (k _)
  ·cases e
  ·cases e
 | lst _ _ _ =>
  cases ru;obtain⟨o,h1,⟨_,e,_⟩ | ⟨_,_,h2⟩ | ⟨_,e,_⟩⟩:=ho _ rfl
  ·cases e
  ·exact IsiPair.list_int h1 h2 (k _)
  ·cases e
 | dct _ _ _ _ =>
  cases ru;obtain⟨o,h1,⟨_,e,_⟩ | ⟨_,e,_⟩ | ⟨_,_,h2⟩⟩:=ho _ rfl
  ·cases e
  ·cases e
  ·exact IsiPair.dict_int h1 h2 (k _)
 | fn _=>exact absurd rfl (nd _)
theorem ZrZ:ZaU X (.builtin "isinstance") (λxs H Q=>∃F d v,xs=[v,.ty "tuple"]/\Zp F H/\Rep X.K F d v/\(∀es,d≠.dict es)/\Q (.bl (HM.Zih .tuple d)) H):=by
 refine ZkV λs d v u Q ru ⟨K,F,rp⟩ nd ho k=>?_;cases rp with
 | non=>cases ru; exact IsiPair.NoneType_tuple (k _)
 | bl _=>cases ru; exact IsiPair.bool_tuple (k _)
 | int _=>obtain⟨t,rfl⟩:=ru; exact IsiPair.int_tuple (k _)
 | str _=>obtain⟨t,rfl⟩:=ru; exact IsiPair.str_tuple (k _)
 | tup _ _ _ | tupk _ =>
  cases ru;obtain⟨o,h1,⟨_,_,h2⟩ | ⟨_,e,_⟩ | ⟨_,e,_⟩⟩:=ho _ rfl
  ·exact IsiPair.tuple_tuple h1 h2 (k _)
  ·cases e
  ·cases e
 | lst _ _ _ =>
  cases ru;obtain⟨o,h1,⟨_,e,_⟩ | ⟨_,_,h2⟩ | ⟨_,e,_⟩⟩:=ho _ rfl
  ·cases e
  ·exact IsiPair.list_tuple h1 h2 (k _)
  ·cases e
 | dct _ _ _ _ =>
  cases ru;obtain⟨o,h1,⟨_,e,_⟩ | ⟨_,e,_⟩ | ⟨_,_,h2⟩⟩:=ho _ rfl
  ·cases e
  ·cases e
  ·exact IsiPair.dict_tuple h1 h2 (k _)
 | fn _=>exact absurd rfl (nd _)
theorem ZtB:ZaU X (.builtin "isinstance") (λxs H Q=>∃F d v,xs=[v,.ty "list"]/\Zp F H/\Rep X.K F d v/\(∀es,d≠.dict es)/\Q (.bl (HM.Zih .list d)) H):=by
 refine ZkV λs d v u Q ru ⟨K,F,rp⟩ nd ho k=>?_;cases rp with
 | non=>cases ru; exact IsiPair.NoneType_list (k _)
 | bl _=>cases ru; exact IsiPair.bool_list (k _)
 | int _=>obtain⟨t,rfl⟩:=ru; exact IsiPair.int_list (k _)
 | str _=>obtain⟨t,rfl⟩:=ru; exact IsiPair.str_list (k _)
 | tup _ _ _ | tupk _ =>
  cases ru;obtain⟨o,h1,⟨_,_,h2⟩ | ⟨_,e,_⟩ | ⟨_,e,_⟩⟩:=ho _ rfl
  ·exact IsiPair.tuple_list h1 h2 (k _)
  ·cases e
  ·cases e
 | lst _ _ _ =>
  cases ru;obtain⟨o,h1,⟨_,e,_⟩ | ⟨_,_,h2⟩ | ⟨_,e,_⟩⟩:=ho _ rfl
  ·cases e
  ·exact IsiPair.list_list h1 h2 (k _)
  ·cases e
 | dct _ _ _ _ =>
  cases ru;obtain⟨o,h1,⟨_,e,_⟩ | ⟨_,e,_⟩ | ⟨_,_,h2⟩⟩:=ho _ rfl
  ·cases e
  ·cases e
  ·exact IsiPair.dict_list h1 h2 (k _)
 | fn _=>exact absurd rfl (nd _)
theorem Zkw{tyn:Str}{tys:String}{t:HM.Ty}{p2:Pos}(hR:ZaU X (.builtin "isinstance") (λxs H Q=>∃F d v,xs=[v,.ty tys]/\Zp F H/\Rep X.K F d v/\(∀es,d≠.dict es)/\Q (.bl (HM.Zih t d)) H))(bt:Zzz tyn=some (.type tys))
  (hm:X.mg "isinstance" = none) (hm2:X.mg tyn=none) (ha:XE X a fa) (hg:Gl X "isinstance") (hg2:Gl X tyn) (hn:tyn ≠ "__name__") (hd:(tyn==("__debug__":Str))=false)
  (hs1:ZyK [a,.Name tyn p2] X.env=(false,eval a X.env)::ZyK [.Name tyn p2] X.env) (hs2:ZyK [.Name tyn p2] X.env=[(false,eval (.Name tyn p2) X.env)]):XE X (.Call (.Name "isinstance" p) [a,.Name tyn p2] [] pos) (HM.ZdF fa t):=by
 intro r d h;have key:∃x,fa r=some x/\(∀es,x≠.dict es)/\d=.bool (HM.Zih t x):=by
  unfold HM.ZdF at h;split at h
  ·cases h
  ·rename_i x hn hx
   cases h;exact⟨x,hx,λes z=>hn es (by rw[z]),rfl⟩
  ·cases h
 obtain⟨x,h1,nd,h2⟩:=key;subst h2;refine PE.imp (Zdo hR hg hm ZmW (Zag (ha r x h1) (Zag (Zvw (v:=.ty tys) hg2 hm2 bt rfl hn hd) ZbI (by rw[hs2]; rfl)) hs1) (he:=hs1) (hpl:=by rw[hs2]; rfl)) λσ H Q ⟨F0,H0,F,at_,k⟩=>?_;exact⟨F0,H0,F,at_,λv F1 H1 x1 r1=>⟨F1,x,v,rfl,x1.sub,r1,nd,k _ F1 H1 x1 (.bl _)⟩⟩
theorem ZgM{p2:Pos}(hm:X.mg "isinstance" = none)(hm2:X.mg "bool" = none)(ha:XE X a fa)(hg:Gl X "isinstance":=by rfl)(hg2:Gl X "bool":=by rfl)(hs1:ZyK [a,.Name "bool" p2] X.env=(false,eval a X.env)::ZyK [.Name "bool" p2] X.env:=by rfl) :
  XE X (.Call (.Name "isinstance" p) [a,.Name "bool" p2] [] pos) (HM.ZdF fa .bool):=Zkw Zt6 Zvp hm hm2 ha hg hg2 (by decide) (by decide) hs1 rfl
theorem Zkx{p2:Pos}(hm:X.mg "isinstance" = none)(hm2:X.mg "int" = none)(ha:XE X a fa)(hg:Gl X "isinstance":=by rfl)(hg2:Gl X "int":=by rfl)(hs1:ZyK [a,.Name "int" p2] X.env=(false,eval a X.env)::ZyK [.Name "int" p2] X.env:=by rfl) :
  XE X (.Call (.Name "isinstance" p) [a,.Name "int" p2] [] pos) (HM.ZdF fa .int):=Zkw ZuG Zo7 hm hm2 ha hg hg2 (by decide) (by decide) hs1 rfl
theorem Ziu{p2:Pos}(hm:X.mg "isinstance" = none)(hm2:X.mg "tuple" = none)(ha:XE X a fa)(hg:Gl X "isinstance":=by rfl)(hg2:Gl X "tuple":=by rfl)(hs1:ZyK [a,.Name "tuple" p2] X.env=(false,eval a X.env)::ZyK [.Name "tuple" p2] X.env:=by rfl) :
  XE X (.Call (.Name "isinstance" p) [a,.Name "tuple" p2] [] pos) (HM.ZdF fa .tuple):=Zkw ZrZ Zko hm hm2 ha hg hg2 (by decide) (by decide) hs1 rfl
theorem Zpe{p2:Pos}(hm:X.mg "isinstance" = none)(hm2:X.mg "list" = none)(ha:XE X a fa)(hg:Gl X "isinstance":=by rfl)(hg2:Gl X "list":=by rfl)(hs1:ZyK [a,.Name "list" p2] X.env=(false,eval a X.env)::ZyK [.Name "list" p2] X.env:=by rfl) :
  XE X (.Call (.Name "isinstance" p) [a,.Name "list" p2] [] pos) (HM.ZdF fa .list):=Zkw ZtB Zqg hm hm2 ha hg hg2 (by decide) (by decide) hs1 rfl
theorem ZvA(hm:X.mg "max" = none)(hc:X.calm=true)(ha:XE X a fa)(hb:XE X b fb)(hg:Gl X "max":=by rfl)(hs1:ZyK [a,b] X.env=(false,eval a X.env)::ZyK [b] X.env:=by rfl)(hs2:ZyK [b] X.env=[(false,eval b X.env)]:=by rfl) :
  XE X (.Call (.Name "max" p) [a,b] [] pos) (HM.op2 HM.Zwa fa fb):=by
 intro r d h;obtain⟨x,y,h1,h2,h3⟩:=Zhz h;obtain⟨i,j,rfl,rfl,e⟩:=Zgq h3;cases e;refine PE.imp (Zdo (ZrJ hc) hg hm Zsi (Zag (ha r _ h1) (Zag (hb r _ h2) ZbI hs2) hs1) (he:=hs1) (hpl:=by rw[hs2]; rfl)) λσ H Q ⟨F0,H0,F,at_,k⟩=>?_;exact⟨F0,H0,F,at_,λv F1 H1 x1 r1=>⟨F0,H0,F1,at_.grow x1,λw F2 H2 x2 r2=>⟨i,j,by rw[r1.int_inv,r2.int_inv],k _ F2 H2 (x1.trans x2) (.int _)⟩⟩⟩
theorem ZvB(hm:X.mg "min" = none)(hc:X.calm=true)(ha:XE X a fa)(hb:XE X b fb)(hg:Gl X "min":=by rfl)(hs1:ZyK [a,b] X.env=(false,eval a X.env)::ZyK [b] X.env:=by rfl)(hs2:ZyK [b] X.env=[(false,eval b X.env)]:=by rfl) :
  XE X (.Call (.Name "min" p) [a,b] [] pos) (HM.op2 HM.Zwz fa fb):=by
 intro r d h;obtain⟨x,y,h1,h2,h3⟩:=Zhz h;obtain⟨i,j,rfl,rfl,e⟩:=Zgq h3;cases e;refine PE.imp (Zdo (Zsh hc) hg hm ZrX (Zag (ha r _ h1) (Zag (hb r _ h2) ZbI hs2) hs1) (he:=hs1) (hpl:=by rw[hs2]; rfl)) λσ H Q ⟨F0,H0,F,at_,k⟩=>?_;exact⟨F0,H0,F,at_,λv F1 H1 x1 r1=>⟨F0,H0,F1,at_.grow x1,λw F2 H2 x2 r2=>⟨i,j,by rw[r1.int_inv,r2.int_inv],k _ F2 H2 (x1.trans x2) (.int _)⟩⟩⟩
theorem Zs1(hm:X.mg "int" = none)(ha:XE X a fa)(hg:Gl X "int":=by rfl)(hs:ZyK [a] X.env=[(false,eval a X.env)]:=by rfl):XE X (.Call (.Name "int" p) [a] [] pos) (HM.Zpb fa):=by
 intro r d h;unfold HM.Zpb at h;split at h
 ·rename_i i hi
  cases h;refine PE.imp (Zdp Zl2 hg hm Zo7 (Zag (ha r _ hi) ZbI hs) (he:=hs)) λσ H Q ⟨F0,H0,F,at_,k⟩=>?_;exact⟨F0,H0,F,at_,λv F1 H1 x1 r1=>.inl ⟨i,by rw[r1.int_inv],k _ F1 H1 x1 (.int _)⟩⟩
 ·rename_i q hq
  cases h;refine PE.imp (Zdp Zl2 hg hm Zo7 (Zag (ha r _ hq) ZbI hs) (he:=hs)) λσ H Q ⟨F0,H0,F,at_,k⟩=>?_;exact⟨F0,H0,F,at_,λv F1 H1 x1 r1=>.inr ⟨q,by rw[r1.bool_inv],k _ F1 H1 x1 (.int _)⟩⟩
 ·cases h
end
end HP
namespace HP
open PySem PySem.Spec PyProof.Rows L2
variable[FX]
section
variable{X:Cx}{a b c e:Expr}{fa fb fc:HM.EF}{pos p:Pos}{f:HM.BF}{tg:Expr}
theorem PI.imp{X:Cx}{tg e:Expr}{t u:TI}(h:PI X tg e t)(hi:∀σ H R,u σ H R->t σ H R):PI X tg e u:=λpins s σ H R I q=>h pins s σ H R I (hi σ H R q)
theorem Zwf{l:Expr}{tl:TE}(hl:PE X l tl):PI X tg l (λσ H R=>tl σ H λx H1=>∃a,x=.ref a/\((∃xs,SqL X.K H1 a xs)/\R (Itl X.K a) H1\/(∃xs,SqT X.K H1 a xs)/\R (Itt X.K a) H1)):=by
 intro pins s σ H R I h;refine thn (hl pins s σ H _ I h) λv s1 ⟨x,H1,I1,r1,q1⟩=>?_;obtain⟨a,e,q1⟩:=q1;subst e;cases r1;rcases q1 with⟨⟨xs,hq⟩,q⟩ | ⟨⟨xs,hq⟩,q⟩
 ·obtain⟨its,rv,p,hz⟩:=I1.list hq
  refine ZCE p.isList ⟨s1.heap.objs.size,[s1.heap.objs.size],_,_,H1,rfl,I1.kept (t':=s1.toks) λb o e=>ZyG _ e,ZsE a _,⟨_,ZyU _ rfl,rfl,rfl⟩,λb hb=>?_,q⟩;obtain rfl:b=s1.heap.objs.size:=by simpa using hb
  exact I1.fpOk (ZyI _) (I1.hok.fresh (ZyI _))
 ·obtain⟨its,rv,p,hz⟩:=I1.tuple hq
  refine wpAny_pyIter_tuple (show s1.heap.IsTuple a its.toArray from p) ⟨s1.heap.objs.size,[s1.heap.objs.size],_,_,H1,rfl,I1.kept (t':=s1.toks) λb o e=>ZyG _ e,ZqU a _,⟨_,ZyU _ rfl,rfl,rfl⟩,λb hb=>?_,q⟩;obtain rfl:b=s1.heap.objs.size:=by simpa using hb
  exact I1.fpOk (ZyI _) (I1.hok.fresh (ZyI _))
theorem Zuq{K:Zyz}{F:Hp}{a:Addr}{ds:List PyData}{vs:List V}(h:SqL K F a vs)(r:Zu K F ds vs):ItD K (Itl K a) ds F:=by intro F' H s1 s2;have hq:SqL K H a vs:=(s1.trans s2).seq h;refine⟨λi d hd=>?_,⟨vs,hq,by rw[r.1]; exact ZyI _⟩⟩;obtain⟨v,h1,h2⟩:=r.get hd;refine⟨⟨vs,v,hq,h1⟩,λx H' hy=>?_⟩;obtain⟨e,y⟩:=hy;refine⟨e,?_⟩;have:=y vs hq;rw[h1]at this;cases this;exact h2.mono (s1.trans (Zdz s2))
theorem Ztt{K:Zyz}{F:Hp}{a:Addr}{ds:List PyData}{vs:List V}(h:SqT K F a vs)(r:Zu K F ds vs):ItD K (Itt K a) ds F:=by intro F' H s1 s2;have hq:SqT K H a vs:=Zia h (s1.trans s2);refine⟨λi d hd=>?_,⟨vs,hq,by rw[r.1]; exact ZyI _⟩⟩;obtain⟨v,h1,h2⟩:=r.get hd;refine⟨⟨vs,v,hq,h1⟩,λx H' hy=>?_⟩;obtain⟨e,y⟩:=hy;refine⟨e,?_⟩;have:=y vs hq;rw[h1]at this;cases this;exact h2.mono (s1.trans (Zdz s2))
theorem Zu3{K:Zyz}{F:Hp}{a:Addr}{ds:List PyData}{vs:List V}(h:F a=some (.tup vs))(r:Zu K F ds vs):ItD K (Itt K a) ds F:=by intro F' H s1 s2;have hq:SqT K H a vs:=.of (s2 _ _ (s1 _ _ h));refine⟨λi d hd=>?_,⟨vs,hq,by rw[r.1]; exact ZyI _⟩⟩;obtain⟨v,h1,h2⟩:=r.get hd;refine⟨⟨vs,v,hq,h1⟩,λx H' hy=>?_⟩;obtain⟨e,y⟩:=hy;refine⟨e,?_⟩;have:=y vs hq;rw[h1]at this;cases this;exact h2.mono (s1.trans (Zdz s2))
theorem ZO(h:XE X e fa):XI X tg e (HM.Z4 (HM.bOf fa)):=by
 intro r ds hd;unfold HM.Z4 HM.bOf at hd;cases hx:fa r with
 | none=>rw[hx]at hd; cases hd
 | some d =>
  rw[hx]at hd;have hd:HM.Za9 (.pl d)=some ds:=hd;refine PI.imp (Zwf (h r d hx)) λσ H R ⟨F0,H0,F,at_,k⟩=>?_;refine⟨F0,H0,F,at_,λv F1 H1 x1 r1=>?_⟩;cases r1 with
  | @tupk a x h1=>cases hd;exact⟨a,rfl,.inr ⟨⟨_,.inr h1⟩,k _ F1 H1 x1 (Ztt (.inr h1) (.one (.str x)))⟩⟩
  | @tup a ds' vs h1 h2 h3=>cases hd;exact⟨a,rfl,.inr ⟨⟨vs,.of (x1.sub _ _ h1)⟩,k _ F1 H1 x1 (Zu3 h1 ⟨h2,h3⟩)⟩⟩
  | @lst a ds' vs h1 h2 h3=>cases hd;exact⟨a,rfl,.inl ⟨⟨vs,x1.sub.seq h1⟩,k _ F1 H1 x1 (Zuq h1 ⟨h2,h3⟩)⟩⟩
  | dct _ _ _ _=>cases hd
  | fn _=>cases hd
  | non=>cases hd
  | bl _=>cases hd
  | int _=>cases hd
  | str _=>cases hd
theorem Zqp{K:Zyz}{F:Hp}(lo:Int)(n:Nat):ItD K (Itr lo n) (HM.ZbK lo n) F:=by
 intro F' H s1 s2;have hl:(HM.ZbK lo n).length=n:=by unfold HM.ZbK; rw[ZyA,Zz6]
 refine⟨λi d hd=>?_,?_⟩
 ·have hi:i<n:=by rw[<-hl]; exact(ZyM.mp hd).1
  unfold HM.ZbK at hd;rw[Zy1,List.getElem?_range hi]at hd;cases hd;exact⟨hi,λx H' ⟨e1,e2⟩=>⟨e1,by rw[e2]; exact .int _⟩⟩
 ·rw[hl]; exact ZyI _
theorem Zjw{j:Int}(h:HM.okR j=true):-1000000<j/\j<1000000:=by unfold HM.okR at h;rw[ZBE]at h;omega
theorem Zcf(hm:X.mg "range" = none)(ha:XE X a fa)(hg:Gl X "range":=by rfl)(hs:ZyK [a] X.env=[(false,eval a X.env)]:=by rfl):XI X tg (.Call (.Name "range" p) [a] [] pos) (HM.ZbW fa):=by
 intro r ds hd;unfold HM.ZbW at hd;split at hd
 ·rename_i j hj
  split at hd
  ·rename_i hok
   cases hd;obtain⟨k1,k2⟩:=Zjw hok;refine PI.imp (Zsj hg hm (Zag (ha r _ hj) ZbI hs) hs) λσ H R ⟨F0,H0,F,at_,k⟩=>?_;exact⟨F0,H0,F,at_,λv F1 H1 x1 r1=>⟨j,by rw[r1.int_inv],by omega,by omega,k _ F1 H1 x1 (Zqp 0 j.toNat)⟩⟩
  ·cases hd
 ·cases hd
theorem Zrx(hm:X.mg "range" = none)(ha:XE X a fa)(hb:XE X b fb)(hg:Gl X "range":=by rfl)(hs:ZyK [a,b] X.env=[(false,eval a X.env),(false,eval b X.env)]:=by rfl)(hs2:ZyK [b] X.env=[(false,eval b X.env)]:=by rfl) :
  XI X tg (.Call (.Name "range" p) [a,b] [] pos) (HM.Zjx fa fb):=by
 intro r ds hd;unfold HM.Zjx at hd;split at hd
 ·rename_i i hi
  split at hd
  ·rename_i j hj
   split at hd
   ·rename_i hok
    cases hd;rw[ZyT]at hok;obtain⟨k1,k2⟩:=Zjw hok.1;obtain⟨k3,k4⟩:=Zjw hok.2;refine PI.imp (Zsl hg hm (Zag (ha r _ hi) (Zag (hb r _ hj) ZbI hs2) (by rw[hs,hs2])) hs hs2) λσ H R ⟨F0,H0,F,at_,k⟩=>?_;exact⟨F0,H0,F,at_,λv F1 H1 x1 r1=>⟨F0,H0,F1,at_.grow x1,λw F2 H2 x2 r2=>⟨i,j,by rw[r1.int_inv,r2.int_inv],⟨by omega,by omega,by omega,by omega⟩,k _ F2 H2 (x1.trans x2) (Zqp i (j-i).toNat)⟩⟩⟩
   ·cases hd
  ·cases hd
 ·cases hd
theorem Zky{ga gb:HM.BF}(ha:XB X a ga)(hb:XB X b gb):XF X (.BinOp a .Add b pos) (HM.ZlR ga gb):=by
 intro r d h;unfold HM.ZlR at h;split at h
 ·rename_i xs hx
  split at h
  ·rename_i ys hy
   split at h
   ·rename_i hz
    cases h;refine PE.imp (Zm6 Zv7 (ha r _ hx) (hb r _ hy)) λσ H Q ⟨F0,H0,F,at_,k⟩=>?_;refine⟨F0,H0,F,at_,λv F1 H1 x1 ⟨fp,r1⟩=>⟨F0,H0,F1,at_.grow x1,λw F2 H2 x2 ⟨fq,r2⟩=>?_⟩⟩;cases r1 with
    | ol h1 q1 =>
     cases r2 with
     | ol h2 q2 =>
      have q1':=q1.mono x2.ff;refine⟨_,_,_,_,rfl,rfl,x2.hh _ _ h1,h2,?_,λl hl=>ZeP (P:=λv _ H'=>Q v H') (x1.trans x2) (q1'.append q2) hl k⟩;have e1:=q1.1;have e2:=q2.1;have e3:(1000000:Nat)<=sizeLine:=by decide
      unfold HM.big at hz;omega
   ·cases h
  ·cases h
 ·cases h
theorem ZvC{ga:HM.BF}(ha:XB X a ga)(hb:XE X b fb):XF X (.BinOp a .Mult b pos) (HM.Zub ga fb):=by
 intro r d h;unfold HM.Zub at h;split at h
 ·rename_i xs hx
  split at h
  ·rename_i i hy
   split at h
   ·rename_i hz
    cases h;rw[ZyT,decide_eq_true_eq,decide_eq_true_eq]at hz;refine PE.imp (Zm6 ZwI (ha r _ hx) (hb r _ hy)) λσ H Q ⟨F0,H0,F,at_,k⟩=>?_;refine⟨F0,H0,F,at_,λv F1 H1 x1 ⟨fp,r1⟩=>⟨F0,H0,F1,at_.grow x1,λw F2 H2 x2 r2=>?_⟩⟩;cases r1 with
    | ol h1 q1 =>
     have q1':=q1.mono x2.ff;refine⟨_,i,_,rfl,r2.int_inv,x2.hh _ _ h1,by omega,by omega,?_,λl hl=>ZeP (P:=λv _ H'=>Q v H') (x1.trans x2) (q1'.rep i.toNat) hl k⟩;have e1:=q1.1;have e3:(1000*1000:Nat)<=sizeLine:=by decide
     refine Zzl (Nat.mul_le_mul (?_:_<=1000) (?_:_<=1000)) e3<;>omega
   ·cases h
  ·cases h
 ·cases h
def XO(X:Cx)(e:Option Expr)(f:Option HM.EF):Prop:=∀r o,HM.ZlH f r=some o->PO X e λσ H Q=>Now X.K r σ H λF0 H0 F=>∀F' H',Ext F H F' H'->Q o H'
theorem ZlS:XO X none none:=by intro r o h;cases h;intro pins s σ H Q I q;obtain⟨F0,H0,F,at_,k⟩:=q;exact Zvi pins s σ H Q I (k F H at_.refl)
theorem ZlN(h:XE X e fa):XO X (some e) (some fa):=by
 intro r o ho;unfold HM.ZlH at ho;split at ho
 ·rename_i z; cases z
 ·rename_i g z
  cases z;split at ho
  ·rename_i i hi
   cases ho;intro pins s σ H Q I q;obtain⟨F0,H0,F,at_,k⟩:=q;exact Zu8 (h r _ hi) pins s σ H Q I ⟨F0,H0,F,at_,λv F1 H1 x1 r1=>⟨i,r1.int_inv,k F1 H1 x1⟩⟩
  ·cases ho
theorem ZvD{ga:HM.BF}{lo hi:Option Expr}{fl fh:Option HM.EF}{p2:Pos}(ha:XB X a ga)(hl:XO X lo fl)(hh:XO X hi fh):XF X (.Subscript a (.Slice lo hi none p2) pos) (HM.Ztu ga fl fh):=by
 intro r d h;unfold HM.Ztu at h;split at h
 ·rename_i x hx
  split at h
  ·rename_i xs hxs
   split at h
   ·rename_i l hl'
    split at h
    ·rename_i u hu'
     cases h;refine PE.imp (Zoh ZuO (ha r _ hx) (hl r _ hl') (hh r _ hu')) λσ H Q ⟨F0,H0,F,at_,k⟩=>?_;refine⟨F0,H0,F,at_,λv F1 H1 x1 ⟨fp,r1⟩=>⟨F0,H0,F1,at_.grow x1,λF2 H2 x2=>⟨F0,H0,F2,(at_.grow x1).grow x2,λF3 H3 x3=>?_⟩⟩⟩;have x23:=x2.trans x3;obtain⟨l',vs,e1,hq,rs⟩:=Zgu x3.sub (r1.mono x23.ff λ_ _ _ z=>x23.hh _ _ z) hxs;refine⟨l',vs,e1,hq,λl2 hl2=>ZeP (P:=λv _ H'=>Q v H') (x1.trans x23) ?_ hl2 k⟩;unfold HM.cutD Zhk;rw[<-rs.1];exact(rs.drop _).take _
    ·cases h
   ·cases h
  ·cases h
 ·cases h
theorem Zbl.val{K:Zyz}{F0 H0 F H:Hp}{r:HM.Env}{σ:L2.St}{fp:Nat->List Addr}{i:Nat}{ds:List PyData}(e:Zbl K F0 H0 F H r σ fp)(h:r[i]?=some (some (.ol ds))) :
  ∃l vs,σ[i]?=some (some (.ref l))/\H l=some (.lst vs)/\Zu K F ds vs/\fp i=[l]:=by
 obtain⟨v,h1,h2⟩:=e.at_ i _ h;generalize hf:fp i=q at h2;cases h2 with
 | ol k1 k2=>exact⟨_,_,h1,k1,k2,rfl⟩
theorem At.chgList{K:Zyz}{F0 H0 F H:Hp}{r:HM.Env}{σ:L2.St}{i:Nat}{ds es:List PyData}(e:At K F0 H0 F H r σ)(h:r[i]?=some (some (.ol ds))) :
  ∃l vs,σ[i]?=some (some (.ref l))/\H l=some (.lst vs)/\Zu K F ds vs/\∀us,Zu K F es us->At K F0 H0 F (upd H l (.lst us)) (r.set i (some (.ol es))) σ:=by
 obtain⟨fp,e⟩:=e;obtain⟨l,vs,h1,h2,h3,h4⟩:=e.val h;refine⟨l,vs,h1,h2,h3,λus q=>e.change (fp':=[l]) h1 (.ol ZB q) (by simp) (λa ha=>.inl (by rw[h4]; exact ha)) λa o z hn=>?_⟩;rw[ZA (λz=>hn (by rw[h4,z]; simp))];exact z
theorem Zc9(i:Nat){x:Str}{p1 p2 p3:Pos}(ha:XE X a fa)(hN:X.N[i]?=some x:=by rfl)(hv:Vis X.env.scope x:=by first | exact ZzA rfl | exact Zzc (ZzA rfl) | exact Zzc (Zzc rfl))(hd:(x==("__debug__":Str))=false:=by decide)(hcd:(x==("__classdict__":Str))=false:=by decide)
  (hbase:ZAQ (.Name x p1) "append" X.env (eval (.Name x p1) X.env)=eval (.Name x p1) X.env:=by rfl)
  (hfew:((backTo p3 (ZyK [a] X.env)).all (λx=>!x.1)&&(ZCT p3 (ZBR [] X.env)).all (λx=>x.1.isSome)&&decide (([a]:List Expr).length+([]:List Keyword).length+(if([]:List Keyword).isEmpty then 0 else 1)<30))=true:=by rfl)
  (hline:(p2.endLine==p3.line)=true:=by rfl) (hs:ZyK [a] X.env=[(false,eval a X.env)]:=by rfl):XS X (.Expr (.Call (.Attribute (.Name x p1) "append" p2) [a] [] p3) pos) (HM.Zdy i fa):=by
 intro r o h;unfold HM.Zdy at h;split at h
 ·rename_i ds hds
  split at h
  ·rename_i d hd'
   split at h
   ·rename_i hz
    cases h;refine PS.imp (Zhy (Zm2 ZAF ZBw ZBx ZgK (Zb7 hN hv hd hcd) (Zag (ha r d hd') ZbI hs) hbase hfew hline hs rfl)) λE σ H ⟨F0,H0,F,at_,k⟩=>?_;obtain⟨l,vs,e1,e2,e3,_⟩:=at_.chgList (es:=ds) hds;refine⟨.ref l,e1,.inl ⟨rfl,_,SqL.of e2⟩,F0,H0,F,at_,λv F1 H1 x1 r1=>?_⟩;have at1:=at_.grow x1;obtain⟨l',vs',f1,f2,f3,f4⟩:=at1.chgList (es:=ds++[d]) hds;rw[e1]at f1;cases f1;refine⟨_,vs',v,rfl,rfl,f2,?_,k _ F1 _ (f4 _ (f3.append (.one r1)))⟩;have e4:=f3.1;have e5:(1000000:Nat)<=sizeLine:=by decide
    unfold HM.big at hz;omega
   ·cases h
  ·cases h
 ·cases h
theorem ZuC(i:Nat){x:Str}{p1 p2:Pos}(hk:XE X b fb)(ha:XE X a fa)(hN:X.N[i]?=some x:=by rfl)(hv:Vis X.env.scope x:=by first | exact ZzA rfl | exact Zzc (ZzA rfl) | exact Zzc (Zzc rfl))(hd:(x==("__debug__":Str))=false:=by decide)(hcd:(x==("__classdict__":Str))=false:=by decide)
  (hsub:∀v,assign (.Subscript (.Name x p1) b p2) X.env v=(do
   let ov <-holding [v] (eval (.Name x p1) X.env)
   let iv <-holding [v,ov] (eval b X.env)
   standAt p2
   holding [v,ov,iv] (setItem ov iv v)
   release [v,ov,iv] []):=by intro _; rfl)
  (hs:swapsWithSole [.Subscript (.Name x p1) b p2] a pos.line X.env=pure false:=by rfl) (hw:swappedStores [.Subscript (.Name x p1) b p2] a X.env=pure none:=by rfl)
  (h1:(ZBB [.Subscript (.Name x p1) b p2] X.env).map (·.2)=[assign (.Subscript (.Name x p1) b p2) X.env]:=by rfl):XS X (.Assign [.Subscript (.Name x p1) b p2] a pos) (HM.Zq4 i fb fa):=by
 intro r o h;unfold HM.Zq4 at h;split at h
 ·rename_i d hd'
  split at h
  ·rename_i ds hds
   split at h
   ·rename_i n hn
    split at h
    ·rename_i j hj
     cases h;refine PS.imp (ZwF (ha r d hd') (ZwL (Zb7 hN hv hd hcd) (hk r _ hn) set_list hsub) hs hw h1) λE σ H ⟨F0,H0,F,at_,k⟩=>?_;refine⟨F0,H0,F,at_,λv F1 H1 x1 r1=>?_⟩;have at1:=at_.grow x1;obtain⟨l,vs,e1,e2,e3,_⟩:=at1.chgList (es:=ds) hds;refine⟨.ref l,e1,F0,H0,F1,at1,λw F2 H2 x2 r2=>?_⟩;obtain⟨l',vs',f1,f2,f3,f4⟩:=(at1.grow x2).chgList (es:=ds.set j d) hds;rw[e1]at f1;cases f1;refine⟨_,vs',n,j,rfl,r2.int_inv,f2,?_,k _ F2 _ (f4 _ (f3.set (r1.mono x2.ff) j))⟩;rw[<-f3.1];exact hj
    ·cases h
   ·cases h
  ·cases h
 ·cases h
end
end HP
namespace HP
open PySem PySem.Spec PyProof.Rows L2
variable[FX]
section
variable{K:Zyz}{F:Hp}{κ:Type}[DecidableEq κ]
def ZaC(K:Zyz)(F:Hp)(kvs:List (κ × PyData))(vvs:List (κ × V)):Prop:=kvs.map (·.1)=vvs.map (·.1)/\Zu K F (kvs.map (·.2)) (vvs.map (·.2))
theorem ZaC.nil:ZaC K F ([]:List (κ × PyData)) []:=⟨rfl,.nil⟩
theorem ZaC.cons{k:κ}{d:PyData}{v:V}{kvs:List (κ × PyData)}{vvs:List (κ × V)}(r:Rep K F d v)(q:ZaC K F kvs vvs):ZaC K F ((k,d)::kvs) ((k,v)::vvs) :=
 ⟨by rw[ZyH,ZyH,q.1],by rw[ZyH,ZyH]; exact .cons r q.2⟩
theorem ZaC.inv{kvs:List (κ × PyData)}{vvs:List (κ × V)}(q:ZaC K F kvs vvs):(kvs=[]/\vvs=[])\/∃k d v kvs' vvs',kvs=(k,d)::kvs'/\vvs=(k,v)::vvs'/\Rep K F d v/\ZaC K F kvs' vvs':=by
 cases kvs with
 | nil =>
  cases vvs with
  | nil=>exact .inl ⟨rfl,rfl⟩
  | cons p r=>exact absurd q.1 (by simp)
 | cons p kvs' =>
  cases vvs with
  | nil=>exact absurd q.1 (by simp)
  | cons p' vvs' =>
   obtain⟨k,d⟩:=p;obtain⟨k',v⟩:=p';obtain⟨q1,q2⟩:=q;rw[ZyH,ZyH]at q1 q2;injection q1 with e1 e2
   have e1:k=k':=e1;subst e1;obtain⟨v',us,e3,r1,r2⟩:=q2.cons_inv;injection e3 with e3 e4
   refine .inr ⟨k,d,v,kvs',vvs',rfl,rfl,?_,e2,?_⟩
   ·rw[show v=v' from e3]; exact r1
   ·rw[e4]; exact r2
theorem ZaC.len{kvs:List (κ × PyData)}{vvs:List (κ × V)}(q:ZaC K F kvs vvs):kvs.length=vvs.length:=by
 have:=congrArg Zzo q.1
 rwa [ZyA,ZyA]at this
theorem ZaC.any{kvs:List (κ × PyData)}{vvs:List (κ × V)}(k:κ)(q:ZaC K F kvs vvs):(kvs.any λp=>decide (p.1=k))=vvs.any λp=>decide (p.1=k):=by
 have e:∀{β:Type} (l:List (κ × β)),(l.any λp=>decide (p.1=k))=(l.map (·.1)).any λx=>decide (x=k):=λl=>by rw[List.any_map]; rfl
 rw[e,e,q.1]
theorem ZaC.repl{d:PyData}{v:V}(k:κ)(r:Rep K F d v):∀{kvs:List (κ × PyData)} {vvs:List (κ × V)},ZaC K F kvs vvs->ZaC K F (kvs.map λp=>if p.1=k then(p.1,d)else p) (vvs.map λp=>if p.1=k then(p.1,v)else p)
 | [],vvs,q=>by
  rcases q.inv with⟨_,e⟩ | ⟨_,_,_,_,_,e,_⟩
  ·subst e; exact .nil
  ·cases e
 | p::kvs,vvs,q=>by
  rcases q.inv with⟨e,_⟩ | ⟨k',d',v',kvs',vvs',e1,e2,r1,r2⟩
  ·cases e
  ·cases e1
   subst e2;have ih:=ZaC.repl k r r2;rw[ZyH,ZyH]
   by_cases h:k'=k
   ·rw[if_pos h,if_pos h]; exact .cons r ih
   ·rw[if_neg h,if_neg h]; exact .cons r1 ih
theorem ZaC.snoc{kvs:List (κ × PyData)}{vvs:List (κ × V)}{k:κ}{d:PyData}{v:V}(q:ZaC K F kvs vvs)(r:Rep K F d v):ZaC K F (kvs++[(k,d)]) (vvs++[(k,v)]) :=
 ⟨by rw[Zzd,Zzd,q.1]; rfl,by rw[Zzd,Zzd]; exact q.2.append (.one r)⟩
theorem ZaC.put{kvs:List (κ × PyData)}{vvs:List (κ × V)}{d:PyData}{v:V}(q:ZaC K F kvs vvs)(k:κ)(r:Rep K F d v):ZaC K F (HM.putD kvs k d) (putK vvs k v):=by
 unfold HM.putD putK;rw[q.any k]
 by_cases h:(vvs.any λp=>decide (p.1=k))=true
 ·rw[if_pos h,if_pos h]; exact q.repl k r
 ·rw[if_neg h,if_neg h]; exact q.snoc r
theorem ZaC.look{k:κ}:∀{kvs:List (κ × PyData)} {vvs:List (κ × V)},ZaC K F kvs vvs->(∀d,HM.Zi kvs k=some d->∃v,ZaL vvs k=some v/\Rep K F d v)/\(HM.Zi kvs k=none->ZaL vvs k=none)
 | [],vvs,q=>by
  rcases q.inv with⟨_,e⟩ | ⟨_,_,_,_,_,e,_⟩
  ·subst e; exact⟨λd h=>(by cases h),λ_=>rfl⟩
  ·cases e
 | p::kvs,vvs,q=>by
  rcases q.inv with⟨e,_⟩ | ⟨k',d',v',kvs',vvs',e1,e2,r1,r2⟩
  ·cases e
  ·cases e1
   subst e2;obtain⟨i1,i2⟩:=ZaC.look (k:=k) r2
   by_cases h:k'=k
   ·have e3:HM.Zi ((k',d')::kvs) k=some d':=by simp[HM.Zi,Zzy,h]
    rw[e3,ZdW (p:=(k',v')) h];exact⟨λd hd=>(by cases hd; exact⟨v',rfl,r1⟩),λhd=>by cases hd⟩
   ·have e3:HM.Zi ((k',d')::kvs) k=HM.Zi kvs k:=by simp[HM.Zi,Zzy,h]
    rw[e3,ZdX (p:=(k',v')) h];exact⟨i1,i2⟩
theorem ZaC.some_iff{k:κ}{kvs:List (κ × PyData)}{vvs:List (κ × V)}(q:ZaC K F kvs vvs):(ZaL vvs k).isSome=(HM.Zi kvs k).isSome:=by
 obtain⟨i1,i2⟩:=q.look (k:=k);cases h:HM.Zi kvs k with
 | none=>rw[i2 h]; rfl
 | some d=>obtain⟨v,h1,_⟩:=i1 d h; rw[h1]; rfl
end
section
variable{K:Zyz}{F:Hp}
theorem Zgh{d:PyData}{k:Key}{v:V}(h:HM.ZhR d=some k)(r:Rep K F d v):v=kV k:=by cases r<;>first | (cases h; rfl) | cases h
theorem Zl7:∀{ds:List PyData} {ks:List Key} {vs:List V},HM.ZgD ds=some ks->Zu K F ds vs->vs=ks.map kV
 | [],ks,vs,h,r=>by cases h; exact r.nil_inv
 | d::ds,ks,vs,h,r=>by
  obtain⟨v,us,rfl,r1,r2⟩:=r.cons_inv;unfold HM.ZgD at h;split at h
  ·rename_i k hk
   obtain⟨ks',h1,h2⟩:=ZyB.mp h;subst h2;rw[Zgh hk r1,Zl7 h1 r2];rfl
  ·cases h
theorem Zp8:∀{ds:List PyData} {ks:List Key},HM.Zlv ds=some ks->HM.ZgD ds=some ks
 | [],ks,h=>h
 | d::ds,ks,h=>by
  unfold HM.Zlv at h;split at h
  ·cases ‹_=[]›
  ·rename_i i r e
   injection e with e1 e2
   subst e1 e2;obtain⟨ks',h1,h2⟩:=ZyB.mp h;subst h2;show(match HM.ZhR (.int i)with | some k=>(HM.ZgD ds).map (k::·) | none=>none)=_;rw[Zp8 h1];rfl
  ·cases h
theorem ZbQ{d:PyData}{ks:List Key}{v:V}(h:HM.ZaS d=some ks)(r:Rep K F d v):∃b,v=.ref b/\F b=some (.tup (ks.map kV)):=by
 cases r with
 | tup h1 h2 h3=>refine⟨_,rfl,?_⟩;rw[<-Zl7 (Zp8 h) ⟨h2,h3⟩];exact h1
 | tupk _=>cases h
 | lst _ _ _=>cases h
 | dct _ _ _ _=>cases h
 | fn _=>cases h
 | non=>cases h
 | bl _=>cases h
 | int _=>cases h
 | str _=>cases h
end
section
variable{X:Cx}{a b c e:Expr}{fa fb fc:HM.EF}{pos p:Pos}{f:HM.BF}
theorem fresh_one{K:Zyz}{F H F1 H1:Hp}{o:HO}{q:HM.B}{l:Addr}{P:V->Hp->Hp->Prop}(x1:Ext F H F1 H1)(hl:H1 l=none)(hq:Zac K F1 (upd H1 l o) q (.ref l) [l])
  (k:∀v F' H',Ext F H F' H'->(∃fp,Zac K F' H' q v fp/\fp.Nodup/\∀a∈fp,F' a=none/\H a=none)->P v F' H'):P (.ref l) F1 (upd H1 l o):=by
 refine k _ F1 _ (x1.lay' hl) ⟨[l],hq,by simp,λa ha=>?_⟩;obtain rfl:a=l:=by simpa using ha
 exact⟨x1.sub.free hl,x1.hh.free hl⟩
theorem Zw5:XF X (.Dict [] [] pos) HM.fDk:=by intro r d h;cases h;exact PE.imp Zt4 λσ H Q ⟨F0,H0,F,at_,k⟩ l hl=>fresh_one (P:=λv _ H'=>Q v H') at_.refl hl (.ok ZB rfl .nil) k
theorem ZmY:XF X (.Dict [] [] pos) HM.fDt:=by intro r d h;cases h;exact PE.imp ZoB λσ H Q ⟨F0,H0,F,at_,k⟩ l hl=>fresh_one (P:=λv _ H'=>Q v H') at_.refl hl (.ot ZB rfl .nil) k
theorem Zry:XF X (.Dict [] [] pos) HM.ZtN:=by intro r d h;cases h;exact PE.imp ZoB λσ H Q ⟨F0,H0,F,at_,k⟩ l hl=>fresh_one (P:=λv _ H'=>Q v H') at_.refl hl (.otl ZB rfl rfl λi ds l' h=>by simp at h) k
theorem Zs2(ha:XE X a fa)(hb:XE X b fb):XF X (.Dict [some a] [b] pos) (HM.ZnW fa fb):=by
 intro r d h;unfold HM.ZnW at h;split at h
 ·rename_i x hx
  split at h
  ·rename_i y hy
   split at h
   ·rename_i k hk
    cases h;refine PE.imp (Zu4 (Zum (ha r x hx) (hb r y hy) Zu6) rfl rfl (by simp) (by simp)) λσ H Q ⟨F0,H0,F,at_,kk⟩ l hl=>?_;have hFl:F l=none:=at_.sub.free hl;have x0:Ext F H F (upd H l (.dK [])):=at_.refl.lay' hl;refine⟨F0,H0,F,at_.grow x0,λv F1 H1 x1 r1=>⟨F0,H0,F1,(at_.grow x0).grow x1,λw F2 H2 x2 r2=>?_⟩⟩;have x12:=x1.trans x2;have hl2:H2 l=some (.dK []):=x12.hh l _ ZB;have hF2:F2 l=none:=by
     cases q:F2 l with
     | none=>rfl
     | some o =>
      rcases x12.new l o q with z | z
      ·rw[hFl]at z; cases z
      ·exact(z.no ZB λ_ q=>by cases q).elim
    refine⟨hl2,[(k,w)],?_,by simp,?_⟩
    ·rw[Zgh hk r1]
     rfl
    have xe:Ext F H F2 (upd H2 l (.dK (Zhw [] [(k,w)]))):=by
     refine⟨x12.ff,λc o z=>?_,λc o z=>?_,λc o z=>?_,λt=>(x12.tab (t.same (Zkn hl))).keep λa u z hu=>?_,x12.nts⟩
     ·have hc:c≠l:=Zap z hl
      exact(x12.hh c o (by rw[ZA hc]; exact z)).cong (ZA hc)
     ·rw[ZA (λe=>by rw[e,hF2]at z; cases z)]
      exact x12.sub c o z
     ·rcases x12.new c o z with q | q
      ·exact .inl q
      ·exact .inr (q.back (.of (Zp.upd' hl)))
     ·rw[ZA (λe=>by subst e; rw[hl2]at z; cases z; cases hu)]; exact z
    refine kk _ F2 _ xe ⟨[l],.ok ZB rfl (.one r2),by simp,λc hc=>?_⟩;obtain rfl:c=l:=by simpa using hc
    exact⟨hF2,hl⟩
   ·cases h
  ·cases h
 ·cases h
end
end HP
namespace HP
open PySem PySem.Spec PyProof.Rows L2
variable[FX]
theorem At.chgOne{K:Zyz}{F0 H0 F H:Hp}{r:HM.Env}{σ:L2.St}{i:Nat}{q:HM.B}{l:Addr}(e:At K F0 H0 F H r σ)(h:r[i]?=some (some q))(hv:σ[i]?=some (some (.ref l)))(hone:∀v fp,Zac K F H q v fp->∃a,v=.ref a/\fp=[a]) :
  ∀o q',Zac K F (upd H l o) q' (.ref l) [l]->At K F0 H0 F (upd H l o) (r.set i (some q')) σ:=by
 intro o q' hq;obtain⟨fp,e⟩:=e;obtain⟨v,h1,h2⟩:=e.at_ i _ h;obtain⟨a,e1,e2⟩:=hone v _ h2;subst e1;rw[hv]at h1;cases h1;refine e.change (fp':=[l]) hv hq (by simp) (λc hc=>.inl (by rw[e2]; exact hc)) λc o' z hn=>?_;rw[ZA (λz=>hn (by rw[e2,z]; simp))];exact z
section
variable{X:Cx}{a b c e:Expr}{fa fb fc:HM.EF}{pos p:Pos}{f:HM.BF}
theorem ZeS{n:Nat}(h:n<HM.big):n<sizeLine:=by
 have e5:(1000000:Nat)<=sizeLine:=by decide
 unfold HM.big at h;omega
theorem ZfN(hu:X.A.units+1<cLine)(i:Nat){x:Str}{p1 p2:Pos}(hk:XE X b fb)(ha:XE X a fa)(hN:X.N[i]?=some x:=by rfl)(hv:Vis X.env.scope x:=by first | exact ZzA rfl | exact Zzc (ZzA rfl) | exact Zzc (Zzc rfl))(hd:(x==("__debug__":Str))=false:=by decide)(hcd:(x==("__classdict__":Str))=false:=by decide)
  (hs:ZAI a (some (.Subscript (.Name x p1) b p2)) pos.line X.env=pure false:=by rfl):XS X (.Assign [.Subscript (.Name x p1) b p2] a pos) (HM.Zhd i fb fa):=by
 intro r o h;unfold HM.Zhd at h;split at h
 ·rename_i d hd'
  split at h
  ·rename_i y hy
   split at h
   ·rename_i kvs hb
    split at h
    ·rename_i k hk'
     split at h
     ·rename_i hz
      cases h;refine PS.imp (ZlG hu (Zb7 hN hv hd hcd) (hk r y hy) (ha r d hd') hs) λE σ H ⟨F0,H0,F,at_,kk⟩=>?_;refine⟨F0,H0,F,at_,λv F1 H1 x1 r1=>?_⟩;have at1:=at_.grow x1;obtain⟨u,fp,e1,e2⟩:=at1.any hb;refine⟨u,e1,F0,H0,F1,at1,λw F2 H2 x2 r2=>?_⟩;have at2:=at1.grow x2;cases e2 with
      | @ok l _ vvs e2 e3 e4=>have T:ZaC X.K F2 kvs vvs:=⟨e3,e4.mono x2.ff⟩;have T':=T.put k (r1.mono x2.ff);rw[Zgh hk' r2];have hH:H2 l=some (.dK vvs):=x2.hh _ _ e2;refine⟨l,_,rfl,Zij.k hH (by rw[<-T.len]; exact ZeS hz),kk _ F2 _ (at2.chgOne hb e1 (λv fp q=>by cases q; exact⟨_,rfl,rfl⟩) _ _ (.ok ZB T'.1 T'.2))⟩
     ·cases h
    ·cases h
   ·rename_i kvs hb
    split at h
    ·rename_i k hk'
     split at h
     ·rename_i hz
      cases h;refine PS.imp (ZlG hu (Zb7 hN hv hd hcd) (hk r y hy) (ha r d hd') hs) λE σ H ⟨F0,H0,F,at_,kk⟩=>?_;refine⟨F0,H0,F,at_,λv F1 H1 x1 r1=>?_⟩;have at1:=at_.grow x1;obtain⟨u,fp,e1,e2⟩:=at1.any hb;refine⟨u,e1,F0,H0,F1,at1,λw F2 H2 x2 r2=>?_⟩;have at2:=at1.grow x2;cases e2 with
      | @ot l _ vvs e2 e3 e4=>have T:ZaC X.K F2 kvs vvs:=⟨e3,e4.mono x2.ff⟩;have T':=T.put k (r1.mono x2.ff);obtain⟨bb,rfl,hbb⟩:=ZbQ hk' r2;have hH:H2 l=some (.dT vvs):=x2.hh _ _ e2;refine⟨l,_,rfl,Zij.t hH (x2.sub _ _ hbb) (by rw[<-T.len]; exact ZeS hz),kk _ F2 _ (at2.chgOne hb e1 (λv fp q=>by cases q; exact⟨_,rfl,rfl⟩) _ _ (.ot ZB T'.1 T'.2))⟩
     ·cases h
    ·cases h
   ·cases h
  ·cases h
 ·cases h
theorem Zkg{K:Zyz}{F H:Hp}(k:List Key):∀(kvs:List (List Key × List PyData)) (vvs:List (List Key × V)) (ls:List Addr),kvs.map (·.1)=vvs.map (·.1)->vvs.map (·.2)=ls.map V.ref ->
  (∀(i:Nat) (ds:List PyData) (l:Addr),(kvs.map (·.2))[i]?=some ds->ls[i]?=some l->∃vs,H l=some (.lst vs)/\Zu K F ds vs) ->
  (∀ds,HM.Zi kvs k=some ds->∃l' vs,ZaL vvs k=some (.ref l')/\l'∈ls/\H l'=some (.lst vs)/\Zu K F ds vs)/\(HM.Zi kvs k=none->ZaL vvs k=none)
 | [],[],_,_,_,_=>⟨(λds h=>by cases h),λ_=>rfl⟩
 | [],_::_,_,hk,_,_=>by simp at hk
 | _::_,[],_,hk,_,_=>by simp at hk
 | _::_,_::_,[],_,hv,_=>by simp at hv
 | (k1,ds1)::kvs,(k2,v2)::vvs,l1::ls,hk,hv,r=>by
  rw[ZyH,ZyH]at hk hv;injection hk with e1 e2
  injection hv with e3 e4
  have e1:k1=k2:=e1;have e3:v2=.ref l1:=e3;subst e1 e3;obtain⟨i1,i2⟩:=Zkg k kvs vvs ls e2 e4 λi ds l h1 h2=>r (i+1) ds l (by simpa using h1) (by simpa using h2)
  by_cases hkk:k1=k
  ·have e5:HM.Zi ((k1,ds1)::kvs) k=some ds1:=by simp[HM.Zi,Zzy,hkk]
   rw[e5,ZdW (p:=(k1,V.ref l1)) hkk];obtain⟨vs,q1,q2⟩:=r 0 ds1 l1 rfl rfl;exact⟨(λds h=>by cases h; exact⟨l1,vs,rfl,by simp,q1,q2⟩),(λh=>by cases h)⟩
  ·have e5:HM.Zi ((k1,ds1)::kvs) k=HM.Zi kvs k:=by simp[HM.Zi,Zzy,hkk]
   rw[e5,ZdX (p:=(k1,V.ref l1)) hkk];exact⟨λds h=>let ⟨l',vs,a1,a2,a3⟩:=i1 ds h; ⟨l',vs,a1,ZyD _ a2,a3⟩,i2⟩
theorem Zou{K:Zyz}{F H:Hp}{kvs:List (List Key × List PyData)}{v:V}{fp:List Addr}(q:Zac K F H (.otl kvs) v fp) :
  ∃l vvs ls,v=.ref l/\fp=l::ls/\H l=some (.dT vvs)/\kvs.map (·.1)=vvs.map (·.1)/\vvs.map (·.2)=ls.map V.ref /\
   ∀k,(∀ds,HM.Zi kvs k=some ds->∃l' vs,ZaL vvs k=some (.ref l')/\l'∈ls/\H l'=some (.lst vs)/\Zu K F ds vs)/\(HM.Zi kvs k=none->ZaL vvs k=none):=by
 cases q with
 | @otl l _ vvs ls h hk hv r=>exact⟨l,vvs,ls,rfl,rfl,h,hk,hv,λk=>Zkg k kvs vvs ls hk hv r⟩
theorem Zun{K:Zyz}{F H:Hp}{q:HM.B}{v w:V}{fp:List Addr}{x:PyData}{c:Bool}(sub:Zp F H)(rq:Zac K F H q v fp)(rx:Rep K F x w)(h:HM.hasB q x=some c):∃l o,v=.ref l/\Zb8 H l w o/\o.isSome=c:=by
 cases rq with
 | pl _=>cases h
 | hd _ _ _ _=>cases h
 | hf _=>cases h
 | ol _ _=>cases h
 | @ok l kvs vvs h1 h2 h3=>obtain⟨k,e1,e2⟩:=ZyB.mp h;rw[Zgh e1 rx];exact⟨l,_,rfl,Zb8.k h1,by rw[ZaC.some_iff (K:=K) (F:=F) ⟨h2,h3⟩,<-e2]⟩
 | @ot l kvs vvs h1 h2 h3=>obtain⟨k,e1,e2⟩:=ZyB.mp h;obtain⟨bb,rfl,hbb⟩:=ZbQ e1 rx;exact⟨l,_,rfl,Zb8.t h1 (sub _ _ hbb),by rw[ZaC.some_iff (K:=K) (F:=F) ⟨h2,h3⟩,<-e2]⟩
 | @otl l kvs vvs ls h1 h2 h3 h4 =>
  obtain⟨k,e1,e2⟩:=ZyB.mp h;obtain⟨bb,rfl,hbb⟩:=ZbQ e1 rx;refine⟨l,_,rfl,Zb8.t h1 (sub _ _ hbb),?_⟩;obtain⟨l2,vvs2,ls2,e3,e4,e5,_,_,hl⟩:=Zou (Zac.otl h1 h2 h3 h4);cases e3;rw[h1]at e5;cases e5;obtain⟨i1,i2⟩:=hl k;rw[<-e2];cases hq:HM.Zi kvs k with
  | none=>rw[i2 hq]; rfl
  | some ds=>obtain⟨_,_,h5,_⟩:=i1 ds hq; rw[h5]; rfl
theorem Zrs{r:HM.Env}{d:PyData}(h:HM.Zk6 fa f r=some d):∃x q c,fa r=some x/\f r=some q/\HM.hasB q x=some c/\d=.bool (!c):=by
 unfold HM.Zk6 at h;split at h
 ·split at h
  ·obtain⟨c,h1,h2⟩:=ZyB.mp h
   exact⟨_,_,c,by assumption,by assumption,h1,h2.symm⟩
  ·cases h
 ·cases h
theorem Zs3(hu:X.A.units+1<cLine)(ha:XE X a fa)(hb:XB X b f)(hm:ZzL .NotIn b=false:=by rfl):XT X (.Compare a [.NotIn] [b] pos) (HM.tV (HM.Zk6 fa f)):=by intro r d h;obtain⟨x,q,c,h1,h2,h3,e⟩:=Zrs (Zgf h);cases e;refine PT.imp (Zo6 (Zmj hu (ha r x h1) (hb r q h2)) hm) λσ H Q ⟨F0,H0,F,at_,k⟩=>?_;refine⟨F0,H0,F,at_,λv F1 H1 x1 r1=>⟨F0,H0,F1,at_.grow x1,λw F2 H2 x2 ⟨fp,r2⟩=>?_⟩⟩;obtain⟨l,o,e1,e2,e3⟩:=Zun x2.sub r2 (r1.mono x2.ff) h3;exact⟨l,o,e1,e2,_,rfl,by rw[e3]; exact k F2 H2 (x1.trans x2)⟩
theorem ZtX{i:Nat}{r:HM.Env}{q:HM.B}(h:HM.Zoi i fa r=some q):∃x bb,fa r=some x/\r[i]?=some (some bb) /\
  ((∃kvs k d,bb=.ok kvs/\HM.ZhR x=some k/\HM.Zi kvs k=some d/\q=.pl d)\/(∃kvs k d,bb=.ot kvs/\HM.ZaS x=some k/\HM.Zi kvs k=some d/\q=.pl d)\/∃kvs k ds,bb=.otl kvs/\HM.ZaS x=some k/\HM.Zi kvs k=some ds/\q=.ol ds):=by
 unfold HM.Zoi at h;split at h
 ·rename_i x hx
  split at h
  ·rename_i kvs hb
   split at h
   ·rename_i k hk
    obtain⟨d,h1,h2⟩:=ZyB.mp h;exact⟨x,_,hx,hb,.inl ⟨kvs,k,d,rfl,hk,h1,h2.symm⟩⟩
   ·cases h
  ·rename_i kvs hb
   split at h
   ·rename_i k hk
    obtain⟨d,h1,h2⟩:=ZyB.mp h;exact⟨x,_,hx,hb,.inr (.inl ⟨kvs,k,d,rfl,hk,h1,h2.symm⟩)⟩
   ·cases h
  ·rename_i kvs hb
   split at h
   ·rename_i k hk
    obtain⟨d,h1,h2⟩:=ZyB.mp h;exact⟨x,_,hx,hb,.inr (.inr ⟨kvs,k,d,rfl,hk,h1,h2.symm⟩)⟩
   ·cases h
  ·cases h
 ·cases h
theorem Zrz(hu:X.A.units+1<cLine)(i:Nat){x:Str}{p1:Pos}(hk:XE X b fb)(hN:X.N[i]?=some x:=by rfl)(hv:Vis X.env.scope x:=by first | exact ZzA rfl | exact Zzc (ZzA rfl) | exact Zzc (Zzc rfl))(hd:(x==("__debug__":Str))=false:=by decide)(hcd:(x==("__classdict__":Str))=false:=by decide)
  (hs:Zof b:=by intro _ _; rfl):XB X (.Subscript (.Name x p1) b pos) (HM.Zoi i fb):=by
 intro r q h;obtain⟨y,bb,h1,h2,h3⟩:=ZtX h;refine PE.imp (Zlu hu (Zb7 hN hv hd hcd) (hk r y h1) hs) λσ H Q ⟨F0,H0,F,at_,kk⟩=>?_;obtain⟨u,fp,e1,e2⟩:=at_.any h2;refine⟨u,e1,F0,H0,F,at_,λw F2 H2 x2 r2=>?_⟩;have e2':=e2.mono x2.ff λ_ _ _ z=>x2.hh _ _ z;rcases h3 with⟨kvs,k,d,rfl,hk',hl,rfl⟩ | ⟨kvs,k,d,rfl,hk',hl,rfl⟩ | ⟨kvs,k,ds,rfl,hk',hl,rfl⟩
 ·cases e2' with
  | @ok l _ vvs g1 g2 g3=>obtain⟨v,q1,q2⟩:=(ZaC.look (k:=k) (K:=X.K) (F:=F2) ⟨g2,g3⟩).1 d hl;rw[Zgh hk' r2];exact⟨l,v,rfl,by rw[<-q1]; exact Zb8.k g1,kk v F2 H2 x2 ⟨[],.pl q2⟩⟩
 ·cases e2' with
  | @ot l _ vvs g1 g2 g3=>obtain⟨v,q1,q2⟩:=(ZaC.look (k:=k) (K:=X.K) (F:=F2) ⟨g2,g3⟩).1 d hl;obtain⟨bb',rfl,hbb⟩:=ZbQ hk' r2;exact⟨l,v,rfl,by rw[<-q1]; exact Zb8.t g1 (x2.sub _ _ hbb),kk v F2 H2 x2 ⟨[],.pl q2⟩⟩
 ·obtain⟨l,vvs,ls,rfl,_,g1,_,_,hlk⟩:=Zou e2'
  obtain⟨l',vs,q1,_,q2,q3⟩:=(hlk k).1 ds hl;obtain⟨bb',rfl,hbb⟩:=ZbQ hk' r2;exact⟨l,_,rfl,by rw[<-q1]; exact Zb8.t g1 (x2.sub _ _ hbb),kk _ F2 H2 x2 ⟨[l'],.ol q2 q3⟩⟩
end
end HP
namespace HP
open PySem PySem.Spec PyProof.Rows L2
variable[FX]
abbrev No:Value->Shared->Prop:=λ_ _=>False
abbrev Zqa(ifs:List Expr)(env:Env):Sem Bool :=
 forIn ifs true λc r=>if r=true then do let ok <-isTrue c env (eval c env); pure (ZB9 ok)else pure (ZB9 r)
theorem ZsC{prog:Program}{w:World}{A:Around}{R:Result->Shared->Prop}{s:Shared}{elt target iter:Expr}{ifs:List Expr}{scope:Scope}{pos:Pos}{it acc:Value}{env:Env}(J:Nat->Shared->Prop)
  (turn:∀n s,J n s->wpAny (model prog w) A (pyNext it) (λr s1=>match r with
   | none=>R (.ok .next) s1
   | some v=>wpAny (model prog w) A (ZB6 target it v) (λ_ s2=>wpAny (model prog w) A (assign target env v) (λ_ s3=>wpAny (model prog w) A (Zqa ifs env) (λok s4=>if ok=true then wpAny (model prog w) A (eval elt env) (λx s5=>wpAny (model prog w) A (call (.builtin "list.append") [acc,x]) (λ_ s6=>∃m,m<n/\J m s6) No s5) No s4 else ∃m,m<n/\J m s4) No s3) No s2) No s1) No s)
  (n:Nat) (h:J n s):codeAny (model prog w) A (.compLoop (.ListComp elt [⟨target,iter,ifs,0⟩] scope pos) 0 it acc env) R s:=by
 refine codeAny_loop rfl J (λn s hI=>?_) n h;show wpAny _ A ((compTurn (.ListComp elt [⟨target,iter,ifs,0⟩] scope pos) 0 it acc env).onRaise (λx=>do noteFrame x env; theTreesLotGoes x)) _ _ s;refine wpAny_noted ?_;rw[compTurn_list];refine Zyy (wpAny_standAt (Zyy (ZzS (turn n s hI) (λr s1 h1=>?_) λ_ _ z=>z.elim)));cases r with
 | none=>exact ZyC h1
 | some v =>
  refine Zyy (ZzS h1 (λ_ s2 h2=>Zyy (ZzS h2 (λ_ s3 h3=>Zyy (ZzS h3 (λok s4 h4=>?_) λ_ _ z=>z.elim)) λ_ _ z=>z.elim)) λ_ _ z=>z.elim);cases ok with
  | false=>exact ZyC ⟨rfl,h4⟩
  | true=>refine Zyy (Zyy (ZzS h4 (λx s5 h5=>?_) λ_ _ z=>z.elim));exact Zyy (ZzS h5 (λ_ s6 h6=>ZyC (ZyC ⟨rfl,h6⟩)) λ_ _ z=>z.elim)
def ZS(X:Cx)(N:List Str)(scope:Scope)(cl:List (Str × Addr))(C:Addr)(s₀:Shared)(H₀:Hp)(ex:List Addr):Cx where
 prog:=X.prog
 w:=X.w
 K:=X.K
 mg:=X.mg
 base:=X.base
 A:=X.A
 N:=N
 s₀:=s₀
 H₀:=H₀
 env:=compEnvC scope cl C X.env
 outer:=X.stack
 stack:=X.stack
 ex:=ex
 fn:=λ_=>false
 calm:=true
 pn:=[]
 xe:=λ_ _=>False
theorem Zik{env:Env}:∀(names:List (Str × NameKind)) (cs:List (Str × Addr)),(∀y∈names,y.2=.free->∃c,env.cells.lookup y.1=some c)->(∀x c,cs.lookup x=some c->env.cells.lookup x=some c) ->
  ∃cl,(forIn names cs λ(x:Str × NameKind) r=>(match x with | (name,kind)=>if kind==.free then do let c <-cellOf env name; pure (ZB9 ((name,c)::r))else pure (ZB9 r):Sem (ForInStep (List (Str × Addr)))))=pure cl /\
   (∀x c,cl.lookup x=some c->env.cells.lookup x=some c)/\(∀x,(cs.lookup x).isSome=true->(cl.lookup x).isSome=true)/\∀y∈names,y.2=.free->(cl.lookup y.1).isSome=true
 | [],cs,_,h2=>⟨cs,rfl,h2,λ_ h=>h,λy hy=>by simp at hy⟩
 | (n,k)::r,cs,h1,h2=>by
  rw[List.forIn_cons]
  by_cases hk:(k==ZAR)=true
  ·obtain⟨c,hc⟩:=h1 (n,k) (ZyE ..) (by simpa using hk)
   have ec:cellOf env n=pure c:=by unfold cellOf; rw[hc]
   obtain⟨cl,e1,e2,e3,e4⟩:=Zik r ((n,c)::cs) (λy hy=>h1 y (ZyD _ hy)) (λx d hx=>by
    rw[ZAs]at hx;split at hx
    ·rename_i hb
     have:x=n:=by simpa using hb
     cases hx; rw[this]; exact hc
    ·exact h2 x d hx)
   refine⟨cl,?_,e2,λx hx=>e3 x ?_,λy hy hf=>?_⟩
   ·simp only[hk,if_true,ec,pure_bind]
    exact e1
   ·rw[ZAs]
    split
    ·rfl
    ·exact hx
   ·rcases ZyY.mp hy with e | hy
    ·subst e
     exact e3 n (by rw[ZAs]; simp)
    ·exact e4 y hy hf
  ·obtain⟨cl,e1,e2,e3,e4⟩:=Zik r cs (λy hy=>h1 y (ZyD _ hy)) h2
   refine⟨cl,?_,e2,e3,λy hy hf=>?_⟩
   ·simp only[hk,if_false,pure_bind,ZAw]
    exact e1
   ·rcases ZyY.mp hy with e | hy
    ·subst e
     exact absurd (by simpa using hf) hk
    ·exact e4 y hy hf
theorem Zft{scope:Scope}{env:Env}(h:∀y∈scope.names,y.2=.free->∃c,env.cells.lookup y.1=some c) :
  ∃cl,closureFor scope env=pure cl/\(∀x c,cl.lookup x=some c->env.cells.lookup x=some c)/\∀y∈scope.names,y.2=.free->(cl.lookup y.1).isSome=true:=by
 obtain⟨cl,e1,e2,_,e4⟩:=Zik (env:=env) scope.names [] h (λx c hx=>by simp at hx);refine⟨cl,?_,e2,e4⟩;unfold closureFor;exact(congrArg (λm:Sem (List (Str × Addr))=>m >>= λcs=>pure cs) e1).trans (pure_bind cl λcs=>pure cs)
theorem Ext.chg{F H F' H':Hp}(x:Ext F H F' H'){p:Addr}(o:HO)(h1:H p=none)(h2:F' p=none)(h3:∀u,H' p=some u->Zlx u=true):Ext F H F' (upd H' p o) :=
 ⟨x.ff,λb q z=>by
  have hb:b≠p:=Zap z h1;have y:=x.hh b q z;unfold Zc6 at y ⊢;rw[ZA hb];exact y,λb q z=>by rw[ZA (Zap z h2)]; exact x.sub b q z,x.new,λt=>(x.tab t).keep λa u z hu=>by
   have ha:a≠p:=λe=>by subst e; exact Zso (h3 u z) hu
   rw[ZA ha]; exact z,x.nts⟩
theorem At.push{K:Zyz}{F0 H0 F H:Hp}{r:HM.Env}{σ:L2.St}{d:PyData}{v:V}(e:At K F0 H0 F H r σ)(q:Rep K F d v):At K F0 H0 F H (some (.pl d)::r) (some v::σ):=by
 obtain⟨fp,e⟩:=e;refine⟨λi=>match i with | 0=>[] | i+1=>fp i,e.ext,by rw[ZyP,ZyP,e.len],λi b h=>?_,λi h=>?_,λi a h=>?_,λi=>?_,λi j a hij h=>?_,e.tb,e.nt⟩
 ·cases i with
  | zero=>rw[ZA7]at h;cases h;exact⟨v,rfl,.pl q⟩
  | succ i=>rw[Zzh]at h;obtain⟨u,h1,h2⟩:=e.at_ i b h;exact⟨u,by rw[Zzh]; exact h1,h2⟩
 ·cases i with
  | zero=>rfl
  | succ i=>exact e.emp i λb z=>h b (by rw[Zzh]; exact z)
 ·cases i with
  | zero=>simp at h
  | succ i=>exact e.own i a h
 ·cases i with
  | zero=>exact ZAj
  | succ i=>exact e.nd i
 ·cases i with
  | zero=>simp at h
  | succ i =>
   cases j with
   | zero=>simp
   | succ j=>exact e.dis i j a (by omega) h
theorem At.chgNew{K:Zyz}{F0 H0 F H:Hp}{r:HM.Env}{σ:L2.St}{p:Addr}(o:HO){Hs Fs:Hp}(e:At K F0 H0 F H r σ)(es:At K F0 H0 Fs Hs r σ)(hs:Zay Hs H)(h1:Hs p=none)(h2:F p=none)(h3:∀u,H p=some u->Zlx u=true):At K F0 H0 F (upd H p o) r σ:=by
 obtain⟨fp,e⟩:=e;obtain⟨fq,es⟩:=es;have hp:∀i,¬p∈fp i:=λi hm=>by
  obtain⟨b,hb⟩:=e.bound hm;obtain⟨v,q1,q2⟩:=e.at_ i b hb;obtain⟨v',q3,q4⟩:=es.at_ i b hb;rw[q1]at q3;cases q3;generalize fp i=f1 at q2 hm;generalize fq i=f2 at q4;cases q2 with
  | pl _=>simp at hm
  | hd _ _ _ _=>simp at hm
  | hf _=>simp at hm
  | ol k _=>cases q4 with | ol k' _=>simp at hm; subst hm; rw[h1]at k'; cases k'
  | ok k _ _=>cases q4 with | ok k' _ _=>simp at hm; subst hm; rw[h1]at k'; cases k'
  | ot k _ _=>cases q4 with | ot k' _ _=>simp at hm; subst hm; rw[h1]at k'; cases k'
  | otl k _ v1 _ =>
   cases q4 with
   | otl k' hk' v2 r2' =>
    have eo:=hs.back k' k λ_ z=>by cases z
    cases eo;have v2':=v2;rw[v1]at v2;rcases ZyY.mp hm with z2 | z2
    ·subst z2; rw[h1]at k'; cases k'
    ·have:V.ref p∈ZCj V.ref _:=ZyN.mpr ⟨p,z2,rfl⟩
     rw[v2]at this;obtain⟨a',m1,m2⟩:=ZyN.mp this;injection m2 with m2
     subst m2;obtain⟨o,ho⟩:=Zac.there (Zac.otl k' hk' v2' r2') (ZyD _ m1);rw[h1]at ho; cases ho
 have hH0:H0 p=none:=es.ext.hh.free h1;refine⟨fp,e.ext.chg o hH0 h2 h3,e.len,λi b h=>?_,e.emp,e.own,e.nd,e.dis,e.tb,e.nt⟩;obtain⟨v,q1,q2⟩:=e.at_ i b h;refine⟨v,q1,q2.mono (Zp.refl F) λa ha o' z=>?_⟩;have hne:a≠p:=λe=>hp i (by rw[<-e]; exact ha);exact .of (by rw[ZA hne]; exact z)
end HP
namespace HP
open PySem PySem.Spec PyProof.Rows L2
variable[FX]
structure ZdB(X:Cx)(N:List Str)(scope:Scope)(fr:List Str):Prop where
 kind:scope.kind=.function
 cell:∀y∈scope.names,y.2≠.cell
 names:∀y∈scope.names,y.2=.local->scope.names.lookup y.1=some .local
 loc:∀x∈fr,scope.names.lookup x=some .local
 first:∀(i:Nat) (x:Str),fr[i]?=some x->N[i]?=some x
 nd:N.Nodup
 len:N.length=X.N.length+fr.length
 cap:∀y∈scope.names,y.2=.free->X.env.kindOf y.1=some .cell\/X.env.kindOf y.1=some .free
 same:∀(i:Nat) (y:Str),N[i+fr.length]?=some y->scope.names.lookup y=some .free->X.N[i]?=some y
 vis:∀(i:Nat) (y:Str),N[i+fr.length]?=some y->Vis scope y->scope.names.lookup y=some .free
def goG(dec:PyData->Option (List PyData))(c:HM.TF)(e:HM.EF)(r:HM.Env):List PyData->Option (List PyData)
 | []=>some []
 | x::xs=>match dec x with
  | some ys=>match c (ys.map (λd=>some (HM.B.pl d))++r)with
   | some true=>match e (ys.map (λd=>some (HM.B.pl d))++r)with
    | some y=>(goG dec c e r xs).map (y::·)
    | none=>none
   | some false=>goG dec c e r xs
   | none=>none
  | none=>none
def Ze7(dec:PyData->Option (List PyData))(i:HM.IF)(c:HM.TF)(e:HM.EF):HM.BF:=λr=>match i r with
 | some xs=>if xs.length<HM.big then(goG dec c e r xs).map λys=>HM.B.ol ys else none
 | none=>none
def ZiQ(Y:Cx)(m:Nat)(tg:Expr)(dec:PyData->Option (List PyData)):Prop:=∀(pins:List (Addr × Obj)) (s:Shared) (σ:L2.St) (sv:List (Option V)) (H F:Hp) (d:PyData) (ys:List PyData) (xv:V) (u:Value),sv.length=m->Inv Y pins (sv++σ) H s->RelV xv u->Zp F H->Rep Y.K F d xv->dec d=some ys ->
 wpAny (model Y.prog Y.w) Y.A (assign tg Y.env u) (λ_ s'=>∃vs:List V,vs.length=m/\Inv Y pins (vs.map some++σ) H s'/\Zu Y.K F ys vs) Y.xe s
theorem At.pushes{K:Zyz}{F0 H0 F H:Hp}{r:HM.Env}{σ:L2.St}:∀{ds:List PyData} {vs:List V},At K F0 H0 F H r σ->Zu K F ds vs->At K F0 H0 F H (ds.map (λd=>some (HM.B.pl d))++r) (vs.map some++σ)
 | [],vs,e,q=>by rw[q.nil_inv];exact e
 | d::ds,vs,e,q=>by obtain⟨v,us,rfl,r1,r2⟩:=q.cons_inv;exact(At.pushes e r2).push r1
section
variable{X:Cx}{N:List Str}{scope:Scope}{fr:List Str}{cl:List (Str × Addr)}{C:Addr}
theorem Zby{env:Env}{y:Str}{k:NameKind}:∀{names:List (Str × NameKind)},(names.map λ(n,k)=>if(k==ZAR&&env.scope.kind==.function&&env.kindOf n==some .cell)then(n,NameKind.cell)else(n,k)).lookup y=some k ->
  names.lookup y=some k\/(k=.cell/\names.lookup y=some .free)
 | [],h=>by simp at h
 | (n,k')::r,h=>by
  have ih:=@Zby env y k r;rw[ZyH]at h;dsimp only at h
  by_cases hc:(k'==ZAR&&env.scope.kind==.function&&env.kindOf n==some .cell)=true
  ·rw[if_pos hc,ZAs]at h
   rw[ZAs];split at h
   ·cases h
    refine .inr ⟨rfl,?_⟩;have:(k'==ZAR)=true:=by rw[ZyT,ZyT]at hc;exact hc.1.1
    rw[show k'=ZAR by simpa using this]
   ·exact ih h
  ·rw[if_neg hc,ZAs]at h
   rw[ZAs];split at h
   ·cases h
    exact .inl rfl
   ·exact ih h
theorem lookup_mem{y:Str}{k:NameKind}:∀{names:List (Str × NameKind)},names.lookup y=some k->(y,k)∈names
 | [],h=>by simp at h
 | (n,k')::r,h=>by
  rw[ZAs]at h;split at h
  ·cases h
   rename_i hb;rw[show y=n by simpa using hb];exact ZyE ..
  ·exact ZyD _ (lookup_mem h)
theorem Zvn{pins:List (Addr × Obj)}{σ:L2.St}{H:Hp}{s:Shared}{fp:List Addr}(T:ZdB X N scope fr)(hcl:∀y c,cl.lookup y=some c->X.env.cells.lookup y=some c)(hfr:∀y∈scope.names,y.2=.free->(cl.lookup y.1).isSome=true)
  (I:Inv X pins σ H s) (hc:X.calm=true) (hf:∀b∈fp,Zgo X pins H b) (hfl:∀b∈fp,b<s.heap.objs.size) (hC:s.heap.objs.size<=C):(ZS X N scope cl C s H fp).Ok:=by
 refine⟨I.ok.mod,T.kind,I.ok.glob,I.ok.blt,hC,λy z c h1 h2=>I.ok.inj y z c (hcl y c h1) (hcl z c h2),λy h=>?_,λy c h=>?_,λ_=>I.ok.hd hc,I.ok.frames,.inl rfl,λb hb=>⟨?_,λy c h=>?_⟩,λb o h=>I.bs b o h,
  Zzl I.ok.bsz I.sz,λb o h hb=>?_,λb hb hs=>?_,I.stack,I.stkFree⟩
 ·have h':(relabel scope X.env).names.lookup y=some .cell\/(relabel scope X.env).names.lookup y=some .free:=h
  have hm:(y,ZAR)∈scope.names:=by
   rcases h' with h' | h'
   ·rcases Zby h' with q | ⟨_,q⟩
    ·exact absurd rfl (T.cell _ (lookup_mem q))
    ·exact lookup_mem q
   ·rcases Zby h' with q | ⟨e,_⟩
    ·exact lookup_mem q
    ·cases e
  exact Zzm.mp (hfr _ hm rfl)
 ·exact absurd h (by show ¬false=true; simp)
 ·exact ZyX (Zy4 (hfl b hb) hC)
 ·obtain⟨_,_,_,_,q,_⟩:=hf b hb
  exact q y c (hcl y c h)
 ·obtain⟨_,_,_,q,_⟩:=hf b hb
  rcases q with q | q
  ·exact I.ok.noex b o h q
  ·exact absurd (Zy4 (ZyR h) (Zzl I.ok.bsz q)) (ZAq _)
 ·obtain⟨_,q1,q2,_⟩:=hf b hb
  rcases ZyY.mp (I.stkSub b hs)with z | z
  ·exact q1 z
  ·exact q2 z
theorem ZnS{pins:List (Addr × Obj)}{σ:L2.St}{H:Hp}{s:Shared}{fp:List Addr}{D:Addr}{h1:Heap}{tk:Nat}(T:ZdB X N scope fr)(hcl:∀y c,cl.lookup y=some c->X.env.cells.lookup y=some c)(hfr:∀y∈scope.names,y.2=.free->(cl.lookup y.1).isSome=true)
  (I:Inv X pins σ H s) (hc:X.calm=true) (hf:∀b∈fp,Zgo X pins H b) (hfl:∀b∈fp,b<s.heap.objs.size) (hD:s.heap.objs.size=D) (hC:D<C) (ns:h1.Ns C (λ_=>none)) (hl:h1.get? D=some { cls:=.type "list",data:=.seq #[] 0 })
  (k:∀b o,s.heap.get? b=some o->h1.get? b=some o):Inv (ZS X N scope cl C s H fp) [] (Zy8 fr.length none++σ) (upd H D (.lst [])) { s with heap:=h1,toks:=tk }:=by
 have hn:H D=none:=I.hok.fresh (ZCa hD);have hDC:s.heap.objs.size<=C:=Zzl (ZCa hD) (ZAx hC);have hCn:H C=none:=I.hok.fresh hDC;refine⟨Zvn T hcl hfr I hc hf hfl hDC,rfl,I.bare,Un.laid k (ZCa hD) hn,⟨_,ns,λi y v e1 e2 e3=>?_⟩,λy c h=>?_,?_,λy c h=>?_,λp hp=>absurd (show p∈([]:List (Addr × Obj)) from hp) (by simp),I.hok.laid k (ZCa hD) ⟨Zz2 _,[],0,.nil,hl⟩,?_⟩
 ·have hge:fr.length<=i:=by
   apply ZBk;intro hlt;rw[Zy9 (by rw[Zzp]; exact hlt),ZA6,if_pos hlt]at e2;cases e2
  rw[Zzn (by rw[Zzp]; exact hge),Zzp]at e2;obtain⟨j,rfl⟩:∃j,i=j+fr.length:=⟨i-fr.length,by omega⟩;rw[Nat.add_sub_cancel]at e2
  ·have e3':Vis scope y:=by
    have e3:Vis (relabel scope X.env) y:=e3;rcases e3 with q | q | q
    ·rcases Zby q with q | ⟨z,_⟩
     ·exact .inl q
     ·cases z
    ·rcases Zby q with q | ⟨_,q⟩
     ·exact .inr (.inl q)
     ·exact .inr (.inr q)
    ·rcases Zby q with q | ⟨z,_⟩
     ·exact .inr (.inr q)
     ·cases z
   have hfree:=T.vis j y e1 e3';have hm:=lookup_mem hfree;have hN:=T.same j y e1 hfree;have hcap:=T.cap _ hm rfl;obtain⟨m,_,hl⟩:=I.loc;obtain⟨u,ru,lu⟩:=hl j y v hN e2 (by
    rcases hcap with q | q
    ·exact .inr (.inl q)
    ·exact .inr (.inr q))
   refine⟨u,ru,?_⟩;obtain⟨c,hcc⟩:=Zzm.mp (hfr _ hm rfl);rcases lu with⟨q,_⟩ | ⟨_,c',e,z⟩
   ·rcases hcap with q' | q'<;>(rw[q']at q; cases q)
   ·refine .inr ⟨?_,c,hcc,?_⟩
    ·rcases e3 with q | q | q
     ·have q:(relabel scope X.env).names.lookup y=some .local:=q
      rcases Zby q with q | ⟨z,_⟩
      ·rw[hfree]at q; cases q
      ·cases z
     ·exact .inl q
     ·exact .inr q
    ·rw[hcl y c hcc]at e
     cases e;obtain⟨o,ho,hd⟩:=z;exact⟨o,k _ _ ho,hd⟩
 ·obtain⟨v,o,ho,hd⟩:=I.cell y c (hcl y c h)
  exact⟨v,o,k _ _ ho,hd⟩
 ·show upd H D (.lst []) C=none
  rw[ZA (ZBu hC)];exact hCn
 ·have hq:=I.freeC y c (hcl y c h)
  obtain⟨v,o,ho,_⟩:=I.cell y c (hcl y c h);have:c≠D:=ZyX (by rw[<-hD]; exact ZyR ho);rw[ZA this];exact hq
 ·show(Zy8 fr.length none++σ).length=N.length
  rw[ZyS,Zzp,I.len,T.len,Nat.add_comm]
def XTs(Y:Cx)(ifs:List Expr)(f:HM.TF):Prop:=∀r c,f r=some c->∀(pins:List (Addr × Obj)) (s:Shared) (σ:L2.St) (H:Hp) (Q:Bool->Hp->Prop),Inv Y pins σ H s->(Now Y.K r σ H λF0 H0 F=>∀F' H',Ext F H F' H'->Q c H') ->
 wpAny (model Y.prog Y.w) Y.A (Zqa ifs Y.env) (TP Y pins σ Q) Y.xe s
theorem Zbj{Y:Cx}:XTs Y [] HM.Zaa:=by intro r c h pins s σ H Q I ⟨F0,H0,F,at_,k⟩;cases h;exact wpAny_tests_nil ⟨H,I,k F H at_.refl⟩
theorem Zcs{Y:Cx}{e:Expr}{f:HM.TF}(h:XT Y e f):XTs Y [e] f:=λr c hc pins s σ H Q I q=>wpAny_tests_one (h r c hc pins s σ H Q I q)
def ItE(K:Zyz)(J:It)(ds:List PyData)(F:Hp):Prop:=∀F' H,Zp F F'->Zp F' H ->
 (∀(i:Nat) (d:PyData),ds[i]?=some d->J.go i H/\∀x H',J.yld i H x H'->∃F2,Ext (ZcK F' H) H F2 H'/\Rep K F2 d x)/\J.stop ds.length H
theorem ItD.e{K:Zyz}{J:It}{ds:List PyData}{F:Hp}(h:ItD K J ds F):ItE K J ds F:=λF' H s1 s2=>by obtain⟨a,b⟩:=h F' H s1 s2;refine⟨λi d hd=>⟨(a i d hd).1,λx H' hy=>?_⟩,b⟩;obtain⟨e,r⟩:=(a i d hd).2 x H' hy;subst e;exact⟨_,.refl (Ext.refl s2).tups.sub,r⟩
def XIE(X:Cx)(tg e:Expr)(f:HM.IF):Prop:=∀r ds,f r=some ds->PI X tg e λσ H R=>Now X.K r σ H λF0 H0 F=>∀J F' H',Ext F H F' H'->ItE X.K J ds F'->R J H'
theorem XI.e{X:Cx}{tg e:Expr}{f:HM.IF}(h:XI X tg e f):XIE X tg e f:=λr ds hr pins s σ H R I ⟨F0,H0,F,at_,k⟩=>h r ds hr pins s σ H R I ⟨F0,H0,F,at_,λJ F' H' x q=>k J F' H' x q.e⟩
theorem Zo9{pins:List (Addr × Obj)}{σ:L2.St}{H1:Hp}{s2:Shared}{fp:List Addr}{it D:Addr}{tn:Nat->Heap->Prop}{J:It}{elt iter:Expr}{ifs:List Expr}{tg:Expr}{pos:Pos}{dec:PyData->Option (List PyData)}{fc:HM.TF}{fe:HM.EF}{s4:Shared}{r:HM.Env}{ds out:List PyData}{Fs Hs F0 H0 F1:Hp}
  {R:Result->Shared->Prop} (T:ZdB X N scope fr) (I2:Inv X pins σ H1 s2) (W:Turn X.prog X.w X.K tg J fp it tn) (hf:∀b∈fp,Zgo X pins H1 b)
  (I4:Inv (ZS X N scope cl C s2 H1 fp) [] (Zy8 fr.length none++σ) (upd H1 D (.lst [])) s4) (tn0:tn 0 s4.heap) (hD:s2.heap.objs.size<=D) (hfl:∀b∈fp,b<s2.heap.objs.size) (hbl:X.calm=true)
  (hc:XTs (ZS X N scope cl C s2 H1 fp) ifs fc) (he:XE (ZS X N scope cl C s2 H1 fp) elt fe) (at_:At X.K F0 H0 Fs Hs r σ) (x1:Ext Fs Hs F1 H1) (itd:ItE X.K J ds F1) (hbind:ZiQ (ZS X N scope cl C s2 H1 fp) fr.length tg dec) (hbig:ds.length<HM.big) (go:goG dec fc fe r ds=some out)
  (hR:∀s',(∃F H vs,Inv (ZS X N scope cl C s2 H1 fp) [] (Zy8 fr.length none++σ) H s'/\Ext Fs Hs F H/\H D=some (.lst vs)/\F D=none/\Zu X.K F out vs)->R (.ok .next) s') :
  codeAny (model X.prog X.w) X.A (.compLoop (.ListComp elt [⟨tg,iter,ifs,0⟩] scope pos) 0 (.ref it) (.ref D) (compEnvC scope cl C X.env)) R s4:=by
 have hH1D:H1 D=none:=I2.hok.fresh hD;have hHsD:Hs D=none:=x1.hh.free hH1D;have hF1D:F1 D=none:=x1.sub.free hH1D;have hfpD:∀b∈fp,b≠D:=λb hb=>ZyX (Zy4 (hfl b hb) hD);have okY:=I4.ok;have stat:∀{H:Hp},(∀b∈fp,H b=none)->∀b∈fp,Zgo (ZS X N scope cl C s2 H1 fp) [] H b:=λhn b hb=>⟨hn b hb,(okY.exf b hb).1,okY.exfs b hb,.inl hb,(okY.exf b hb).2,λp hp=>absurd (show p∈([]:List (Addr × Obj)) from hp) (by simp)⟩;refine ZsC (λn s'=>∃(j:Nat) (sv:List (Option V)) (F H:Hp) (ys:List PyData) (vs:List V) (rest:List PyData),sv.length=fr.length/\Inv (ZS X N scope cl C s2 H1 fp) [] (sv++σ) H s'/\tn j s'.heap/\(∀b∈fp,H b=none)/\Ext Fs Hs F H/\Zp F1 F/\At X.K F0 H0 F H r σ /\
  H D=some (.lst vs)/\F D=none/\Zu X.K F ys vs/\j+n=ds.length/\ys.length<=j/\goG dec fc fe r (ds.drop j)=some rest/\out=ys++rest) ?_ ds.length
  ⟨0,Zy8 fr.length none,F1,_,[],[],out,Zzp,I4,tn0,λb hb=>by rw[ZA (hfpD b hb)]; exact(hf b hb).1,x1.lay' hH1D,Zp.refl _,(at_.grow x1).grow ((at_.grow x1).refl.lay' hH1D),ZB,hF1D,.nil,by omega,ZyI _,go,rfl⟩
 rintro n s5 ⟨j,sv,F,H,ys,vs,rest,hsv,I5,tn5,hfp5,x5,sF,at5,hHD,hFD,rys,hjn,hyl,hgo,hout⟩
 obtain⟨it1,it2⟩:=itd F H sF at5.sub;cases n with
 | zero =>
  have ej:j=ds.length:=by omega
  subst ej;rw[List.drop_length]at hgo;cases hgo;rw[Zzb]at hout;subst hout;refine thn (W.done (ZS X N scope cl C s2 H1 fp) rfl rfl rfl rfl _ [] s5 _ H No I5 (stat hfp5) tn5 it2) λrv s6 ⟨e,I6⟩=>?_;subst e;refine hR s6 ⟨F,H,vs,I6.weak (by rw[ZyS,ZyS,Zzp,hsv]) λi v hv=>?_,x5,hHD,hFD,rys⟩
  by_cases hi:i<fr.length
  ·rw[Zy9 (by rw[Zzp]; exact hi),ZA6,if_pos hi]at hv
   cases hv
  ·rw[Zzn (by rw[Zzp]; omega),Zzp]at hv
   rw[Zzn (by omega),hsv];exact hv
 | succ n =>
  have hlt:j<ds.length:=by omega
  obtain⟨jg,jy⟩:=it1 j ds[j] (ZyO hlt);obtain⟨F2,x5,sF,at5,hFD,rys,jy⟩:∃F2,Ext Fs Hs F2 H/\Zp F1 F2/\At X.K F0 H0 F2 H r σ/\F2 D=none/\Zu X.K F2 ys vs/\∀x H',J.yld j H x H'->∃F3,Ext F2 H F3 H'/\Rep X.K F3 ds[j] x :=
   ⟨ZcK F H,x5.tups,sF.trans (Zdz at5.sub),at5.grow at5.refl.tups,by unfold ZcK; rw[hHD]; exact hFD,rys.mono (Zdz at5.sub),jy⟩
  clear it1 it2
  rw[ZBr hlt]at hgo;refine thn (W.item (ZS X N scope cl C s2 H1 fp) rfl rfl rfl rfl j [] s5 _ H No I5 (stat hfp5) tn5 jg) λrv s6 ⟨u,e,h6⟩=>?_;subst e;refine thn h6 λ_ s7 ⟨xv,H7,I7,r7,y7,tn7,fr7⟩=>?_;obtain⟨F7,x7,rx⟩:=jy xv H7 y7;obtain⟨F2,x5,sF,at5,hHD,hFD,rys,rx⟩:∃F2,Ext Fs Hs F2 H7/\Zp F1 F2/\At X.K F0 H0 F2 H7 r σ/\H7 D=some (.lst vs)/\F2 D=none/\Zu X.K F2 ys vs/\Rep X.K F2 ds[j] xv:=by
   refine⟨F7,x5.trans x7,sF.trans x7.ff,at5.grow x7,x7.hh _ _ hHD,?_,rys.mono x7.ff,rx⟩;cases q:F7 D with
   | none=>rfl
   | some o =>
    rcases x7.new D o q with z | z
    ·rw[hFD]at z; cases z
    ·exact(z.no hHD λ_ q=>by cases q).elim
  have I7':=I7.pinned (stat fr7) (W.obj _ _ tn7);unfold goG at hgo;split at hgo
  case h_2=>cases hgo
  rename_i zs hzs;have dok:=hbind _ s7 σ sv H7 F2 ds[j] zs xv u hsv I7' r7 at5.sub rx hzs;refine thn dok λ_ s8 ⟨ws,hws,I8,rws⟩=>?_;have atp:=at5.pushes rws;have again:∀{s9:Shared} {F9 H9:Hp} {zs9:List PyData} {ws9:List V} {rest':List PyData},Inv (ZS X N scope cl C s2 H1 fp) ([]++Zjg fp s7.heap) (ws.map some++σ) H9 s9->Ext Fs Hs F9 H9->Zp F2 F9->At X.K F0 H0 F9 H9 r σ->H9 D=some (.lst ws9)->F9 D=none->Zu X.K F9 zs9 ws9->zs9.length<=j+1->goG dec fc fe r (ds.drop (j+1))=some rest'->out=zs9++rest' ->
    ∃m,m<n+1/\∃(j:Nat) (sv:List (Option V)) (F2 H:Hp) (ys:List PyData) (vs:List V) (rest:List PyData),sv.length=fr.length/\Inv (ZS X N scope cl C s2 H1 fp) [] (sv++σ) H s9/\tn j s9.heap/\(∀b∈fp,H b=none)/\Ext Fs Hs F2 H/\Zp F1 F2/\At X.K F0 H0 F2 H r σ /\
     H D=some (.lst vs)/\F2 D=none/\Zu X.K F2 ys vs/\j+m=ds.length/\ys.length<=j/\goG dec fc fe r (ds.drop j)=some rest/\out=ys++rest:=by
   intro s9 F9 H9 zs9 ws9 rest' I9 x9 s9F a9 h9 f9 r9 l9 g9 o9;refine⟨n,ZAZ n,j+1,ws.map some,F9,H9,zs9,ws9,rest',by rw[ZyA]; exact hws,I9.unpinned,W.keep _ _ _ tn7 λb hb o e=>(I9.pin (b,o) (Zy5 _ (Zy5 _ (ZfI hb e)))).1,λb hb=>?_,x9,sF.trans s9F,a9,h9,f9,r9,by omega,l9,g9,o9⟩;obtain⟨o,e,d⟩:=W.obj _ _ tn7 b hb;exact(I9.pin (b,o) (Zy5 _ (Zy5 _ (ZfI hb e)))).2.1
  have noD:∀{F' H':Hp},Ext F2 H7 F' H'->F' D=none:=λ{F' H'} y=>by
   cases q:F' D with
   | none=>rfl
   | some o =>
    rcases y.new D o q with z | z
    ·rw[hFD]at z; cases z
    ·exact(z.no hHD λ_ q=>by cases q).elim
  split at hgo
  ·rename_i hcv
   split at hgo
   ·rename_i y hy
    obtain⟨rest',g1,g2⟩:=ZyB.mp hgo;subst g2;refine thn (hc _ _ hcv _ s8 _ H7 (λc' H'=>c'=true/\∃F',Ext F2 H7 F' H') I8 ⟨F0,H0,F2,atp,λF' H' y=>⟨rfl,F',y⟩⟩) λok s9 ⟨H9,I9,eok,F9,x9⟩=>?_;subst eok;rw[if_pos rfl];refine thn (he _ _ hy _ s9 _ H9 (λv' H'=>∃F',Ext F9 H9 F' H'/\Rep X.K F' y v') I9 ⟨F0,H0,F9,atp.grow x9,λv' F' H' x q=>⟨F',x,q⟩⟩) λu' s10 ⟨v',H10,I10,r10,F10,x10,q10⟩=>?_;have x910:=x9.trans x10;have hHD':H10 D=some (.lst vs):=x910.hh _ _ hHD;have hFD':=noD x910;refine thn (ZgK (X:=ZS X N scope cl C s2 H1 fp) _ s10 _ H10 (.ref D) [v'] (.ref D) [u'] (λ_ H'=>H'=upd H10 D (.lst (vs++[v']))) I10 rfl (.cons r10 .nil) ⟨D,vs,v',rfl,rfl,hHD',?_,rfl⟩) λ_ s11 ⟨_,H11,I11,_,e11⟩=>?_
    ·have:=rys.1
     exact ZeS (by omega)
    subst e11;refine again (zs9:=ys++[y]) I11 ((x5.trans x910).chg _ hHsD hFD' λu z=>by rw[hHD']at z; cases z; rfl) x910.ff ((at5.grow x910).chgNew _ at_ (x5.trans x910).hh hHsD hFD' λu z=>by rw[hHD']at z; cases z; rfl) ZB hFD' ((rys.mono x910.ff).append (.one q10)) (by rw[ZyS]; show ys.length+1<=j+1; omega) g1 (by rw[hout,ZzT]; rfl)
   ·cases hgo
  ·rename_i hcv
   refine thn (hc _ _ hcv _ s8 _ H7 (λc' H'=>c'=false/\∃F',Ext F2 H7 F' H') I8 ⟨F0,H0,F2,atp,λF' H' y=>⟨rfl,F',y⟩⟩) λok s9 ⟨H9,I9,eok,F9,x9⟩=>?_;subst eok;rw[if_neg (by simp)];exact again (zs9:=ys) I9 (x5.trans x9) x9.ff (at5.grow x9) (x9.hh _ _ hHD) (noD x9) (rys.mono x9.ff) (by omega) hgo hout
  ·cases hgo
theorem Zor{pins:List (Addr × Obj)}{σ:L2.St}{H1 H:Hp}{s2 s':Shared}{fp:List Addr}{sv:List (Option V)}{h':Heap}(I2:Inv X pins σ H1 s2)(hf:∀b∈fp,Zgo X pins H1 b)(hC:s2.heap.objs.size<=C)
  (I:Inv (ZS X N scope cl C s2 H1 fp) [] (sv++σ) H s') (hs:ZAy C s'.heap h'):Inv X pins σ H { s' with heap:=h' }:=by
 have u:Un (frs X.stack) fp H1 H s2.heap s'.heap:=I.base;have hCn:H C=none:=I.free;have ne:∀b o,s2.heap.get? b=some o->b≠C:=λb o e=>ZyX (Zy4 (ZyR e) hC);refine I2.call' (s':={ s' with heap:=h' }) (ch:=fp) I.os ⟨λb o e n hb hx=>(hs.2 b (ne b o e)).trans (u.keep b o e n hb hx),λb o e n hb hx=>?_,u.free,λb o e hx=>?_,u.tups,u.frzs,u.tbls⟩ (λb o e=>?_) I.bare λb hb=>?_
 ·obtain⟨sl,q⟩:=u.slot b o e n hb hx
  exact⟨sl,(hs.2 b (ne b o e)).trans q⟩
 ·obtain⟨o',q⟩:=u.there b o e hx
  exact⟨o',(hs.2 b (ne b o e)).trans q⟩
 ·refine(I.hok b o e).stay (λc w' hc q=>(hs.2 c ?_).trans q) (λ_ q=>q) λ_ _ q=>q
  rintro rfl
  rcases hc with rfl | hc
  ·rw[hCn]at e; cases e
  ·rw[hCn]at hc; cases hc
 ·obtain⟨q0,q1,q2,q3,q4,q5⟩:=hf b hb
  exact⟨q3,q1,q4,q5⟩
variable{elt iter:Expr}{ifs:List Expr}{tg:Expr}{pos:Pos}{fi:HM.IF}{dec:PyData->Option (List PyData)}{fc:HM.TF}{fe:HM.EF}
theorem ZnN{pins:List (Addr × Obj)}{σ:L2.St}{H:Hp}{s:Shared}(T:ZdB X N scope fr)(I:Inv X pins σ H s):∀y∈scope.names,y.2=.free->∃c,X.env.cells.lookup y.1=some c:=λy hy e=>I.ok.has y.1 (T.cap y hy e)
theorem Zna(hxe:X.xe=λ_ _=>False)(hcalm:X.calm=true)(T:ZdB X N scope fr)(hbind:∀cl C s H ex,ZiQ (ZS X N scope cl C s H ex) fr.length tg dec)(hi:XIE X tg iter fi)(hc:∀cl C s H ex,XTs (ZS X N scope cl C s H ex) ifs fc)(he:∀cl C s H ex,XE (ZS X N scope cl C s H ex) elt fe)
  (hs:∀x,ZAm iter X.env x=pure x:=by intro _; rfl):XF X (.ListComp elt [⟨tg,iter,ifs,0⟩] scope pos) (Ze7 dec fi fc fe):=by
 intro r b h;unfold Ze7 at h;split at h
 ·rename_i ds hds
  split at h
  ·rename_i hbig
   obtain⟨out,hgo,e⟩:=ZyB.mp h;subst e;intro pins s σ H Q I ⟨F0,H0,F,at_,k⟩;obtain⟨cl,hclos,hcl,hfr⟩:=Zft (ZnN T I);rw[eval_ListComp];refine wpAny_comprehension_free (use:=none) rfl hs hclos T.kind T.names (thn (hi r ds hds pins s σ H (λJ H'=>∃F',Ext F H F' H'/\ItE X.K J ds F') I ⟨F0,H0,F,at_,λJ F' H' x q=>⟨F',x,q⟩⟩) λv s1 h1=>thn h1 λitv s2 h2=>?_);obtain⟨it,fp,tn,J,H1,rfl,I2,W,st2,f2,F1,x1,itd⟩:=h2;have hfl:∀b∈fp,b<s2.heap.objs.size:=λb hb=>let ⟨o,ho,_⟩:=W.obj 0 _ st2 b hb; ZyR ho
   refine Zzi (ZCb T.cell (by intro y hy; simp at hy) (λh1 hns hsb=>?_) T.kind);dsimp only at hns hsb ⊢;generalize hP:s2.heap.push { cls:=.type "list",dict:=none,data:=.seq ([]:List Value).toArray }=h0 at hns hsb ⊢;have hsz:h0.objs.size=s2.heap.objs.size+1:=by rw[<-hP,ZBh]
   have hDC:s2.heap.objs.size<h0.objs.size:=by rw[hsz]; exact ZAZ _
   have old:∀b o,s2.heap.get? b=some o->h1.get? b=some o:=λb o e=>hsb.extBut b o (ZyX (ZAB (ZyR e) hDC)) (ZyG _ (by rw[<-hP]; exact ZyG _ e));have hl:h1.get? s2.heap.objs.size=some { cls:=.type "list",data:=.seq #[] 0 }:=hsb.extBut _ _ (ZyX hDC) (ZyG _ (by rw[<-hP]; exact ZyU _ rfl));have I4:Inv (ZS X N scope cl h0.objs.size s2 H1 fp) [] (Zy8 fr.length none++σ) (upd H1 s2.heap.objs.size (.lst [])) { s2 with heap:=h1,toks:=s2.toks+([]:List (Str × Value)).length }:=ZnS T hcl hfr I2 hcalm f2 hfl rfl hDC hns hl old;have tn1:tn 0 h1:=W.keep _ _ _ st2 λb _ o e=>old b o e;have hHsD:H s2.heap.objs.size=none:=x1.hh.free (I2.hok.fresh (ZyI _));have loop:codeAny (model X.prog X.w) X.A (.compLoop (.ListComp elt [⟨tg,iter,ifs,0⟩] scope pos) 0 (.ref it) (.ref s2.heap.objs.size) (compEnvC scope cl h0.objs.size X.env)) (compPost (model X.prog X.w) X.A X.xe none (EP X pins σ Q) (.ref s2.heap.objs.size) h0.objs.size)
     { s2 with heap:=h1,toks:=s2.toks+([]:List (Str × Value)).length }:=by
    refine Zo9 T I2 W f2 I4 tn1 (ZyI _) hfl hcalm (hc _ _ _ _ _) (he _ _ _ _ _) at_ x1 itd (hbind _ _ _ _ _) hbig hgo λs' ⟨F',H',vs,I',x',hD',hFD',rs⟩=>?_;obtain⟨m,hn,_⟩:=id I'.loc;refine⟨m,hn,λh2 hs2=>⟨.ref s2.heap.objs.size,H',Zor I2 f2 (ZAx hDC) I' hs2,rfl,k _ F' H' x' ⟨[s2.heap.objs.size],.ol hD' rs,by simp,λa ha=>?_⟩⟩⟩;obtain rfl:a=s2.heap.objs.size:=by simpa using ha
    exact⟨hFD',hHsD⟩
   exact codeAny_compStart_list loop (W.self _ 0 _ _ _ tn1 loop)
  ·cases h
 ·cases h
theorem ZjO(i:Nat){y:Str}{py spos:Pos}(hN:X.N.Nodup)(hxe:X.xe=λ_ _=>False)(hcalm:X.calm=true)(T:ZdB X N scope fr)(hbind:∀cl C s H ex,ZiQ (ZS X N scope cl C s H ex) fr.length tg dec)(hi:XIE X tg iter fi)(hc:∀cl C s H ex,XTs (ZS X N scope cl C s H ex) ifs fc)(he:∀cl C s H ex,XE (ZS X N scope cl C s H ex) elt fe)
  (hiy:X.N[i]?=some y:=by rfl) (hy:X.env.scope.names.lookup y=some .local:=by rfl) (hsw:ZAI (.ListComp elt [⟨tg,iter,ifs,0⟩] scope pos) (some (.Name y py)) spos.line X.env=pure true:=by rfl)
  (hs:∀x,ZAm iter X.env x=pure x:=by intro _; rfl):XS X (.Assign [.Name y py] (.ListComp elt [⟨tg,iter,ifs,0⟩] scope pos) spos) (HM.ZT i (Ze7 dec fi fc fe)):=by
 intro r o h;obtain⟨b,hb,e⟩:=ZyB.mp h;subst e;unfold Ze7 at hb;split at hb
 ·rename_i ds hds
  split at hb
  ·rename_i hbig
   obtain⟨out,hgo,e⟩:=ZyB.mp hb;subst e;intro pins s σ H E I ⟨F0,H0,F,at_,k⟩;obtain⟨cl,hclos,hcl,hfr⟩:=Zft (ZnN T I);rw[exec_Assign_Name_used _ _ _ _ hsw];refine Zyy (wpAny_standAt (Zyy ?_));show wpAny _ X.A (do let _ <-comprehension (.ListComp elt [⟨tg,iter,ifs,0⟩] scope pos) scope X.env _ (newList []) false (eval iter X.env) (some (assign (.Name y py) X.env))) _ _ s;refine Zyy (ZzS (wpAny_comprehension_free (use:=some (assign (.Name y py) X.env)) (Q:=λ_ s'=>SP X pins E .next s') rfl hs hclos T.kind T.names (thn (hi r ds hds pins s σ H (λJ H'=>∃F',Ext F H F' H'/\ItE X.K J ds F') I ⟨F0,H0,F,at_,λJ F' H' x q=>⟨F',x,q⟩⟩) λv s1 h1=>thn h1 λitv s2 h2=>?_)) (λ_ s' hq=>ZyC (ZyC hq)) λ_ _ e=>e)
   obtain⟨it,fp,tn,J,H1,rfl,I2,W,st2,f2,F1,x1,itd⟩:=h2;have hfl:∀b∈fp,b<s2.heap.objs.size:=λb hb=>let ⟨o,ho,_⟩:=W.obj 0 _ st2 b hb; ZyR ho
   refine Zzi (ZCb T.cell (by intro y hy; simp at hy) (λh1 hns hsb=>?_) T.kind);dsimp only at hns hsb ⊢;generalize hP:s2.heap.push { cls:=.type "list",dict:=none,data:=.seq ([]:List Value).toArray }=h0 at hns hsb ⊢;have hsz:h0.objs.size=s2.heap.objs.size+1:=by rw[<-hP,ZBh]
   have hDC:s2.heap.objs.size<h0.objs.size:=by rw[hsz]; exact ZAZ _
   have old:∀b o,s2.heap.get? b=some o->h1.get? b=some o:=λb o e=>hsb.extBut b o (ZyX (ZAB (ZyR e) hDC)) (ZyG _ (by rw[<-hP]; exact ZyG _ e));have hl:h1.get? s2.heap.objs.size=some { cls:=.type "list",data:=.seq #[] 0 }:=hsb.extBut _ _ (ZyX hDC) (ZyG _ (by rw[<-hP]; exact ZyU _ rfl));have I4:Inv (ZS X N scope cl h0.objs.size s2 H1 fp) [] (Zy8 fr.length none++σ) (upd H1 s2.heap.objs.size (.lst [])) { s2 with heap:=h1,toks:=s2.toks+([]:List (Str × Value)).length }:=ZnS T hcl hfr I2 hcalm f2 hfl rfl hDC hns hl old;have tn1:tn 0 h1:=W.keep _ _ _ st2 λb _ o e=>old b o e;have hHsD:H s2.heap.objs.size=none:=x1.hh.free (I2.hok.fresh (ZyI _));have loop:codeAny (model X.prog X.w) X.A (.compLoop (.ListComp elt [⟨tg,iter,ifs,0⟩] scope pos) 0 (.ref it) (.ref s2.heap.objs.size) (compEnvC scope cl h0.objs.size X.env)) (compPost (model X.prog X.w) X.A X.xe (some (assign (.Name y py) X.env)) (λ_ s'=>SP X pins E .next s') (.ref s2.heap.objs.size) h0.objs.size)
     { s2 with heap:=h1,toks:=s2.toks+([]:List (Str × Value)).length }:=by
    refine Zo9 T I2 W f2 I4 tn1 (ZyI _) hfl hcalm (hc _ _ _ _ _) (he _ _ _ _ _) at_ x1 itd (hbind _ _ _ _ _) hbig hgo λs' ⟨F',H',vs,I',x',hD',hFD',rs⟩=>?_;obtain⟨m,hn,_⟩:=id I'.loc;have IX:Inv X pins σ H' s':=Zor (h':=s'.heap) I2 f2 (ZAx hDC) I' (ZDE _ _);have hCn:H' h0.objs.size=none:=I'.free;have neL:h0.objs.size≠X.env.locals:=ZBu (ZAB I2.lt hDC);have neC:∀z c,X.env.cells.lookup z=some c->c≠h0.objs.size:=λz c hz=>by obtain⟨v,o,ho,_⟩:=I2.cell z c hz;exact ZyX (ZAB (ZyR ho) hDC)
    have neP:∀p∈X.pn++pins,p.1≠h0.objs.size:=λp hp=>ZyX (ZAB (ZyR (I2.pin p hp).1) hDC);show wpAny _ X.A (assign (.Name y py) X.env (.ref s2.heap.objs.size)) _ _ _;refine wpAny_assign_Name (ZlZ IX hN hiy (.inl hy) (v:=.ref s2.heap.objs.size) rfl (λs3 I3 hsa=>?_) (.inr hy));obtain⟨a,sa,ea⟩:=hsa;have neA:h0.objs.size≠a:=by
     rcases ea with e | e
     ·rw[e]; exact neL
     ·exact ZzB (neC _ _ e)
    refine⟨m,hn.sameBut sa neA,λh2 hs2=>?_⟩;refine⟨_,H',I3.turned (t':=s3.toks) (it:=h0.objs.size) (λb o hb e=>(hs2.2 b hb).trans e) hCn neL (.inr (Zzl I2.sz (ZAx hDC))) neC neP,k _ F' H' ((at_.grow x').storeNew at_ x'.hh (fp':=[s2.heap.objs.size]) (.ol hD' rs) (by simp) λa ha=>?_)⟩;obtain rfl:a=s2.heap.objs.size:=by simpa using ha
    exact⟨hFD',hHsD⟩
   exact codeAny_compStart_list loop (W.self _ 0 _ _ _ tn1 loop)
  ·cases hb
 ·cases hb
end
end HP
namespace HP
open PySem PySem.Spec PyProof.Rows L2
variable[FX]
def ZtD(d:PyData):Option (List PyData):=some [d]
def ZlE:PyData->Option (List PyData)
 | .tuple [x,y]=>some [x,y]
 | _=>none
theorem Zwl(c:HM.TF)(e:HM.EF)(r:HM.Env):∀xs,HM.Zax c e r xs=goG ZtD c e r xs
 | []=>rfl
 | x::xs=>by unfold HM.Zax goG;rw[Zwl c e r xs];rfl
theorem ZwT(c:HM.TF)(e:HM.EF)(r:HM.Env):∀xs,HM.ZcB c e r xs=goG ZlE c e r xs
 | []=>rfl
 | x::xs=>by
  have ih:=ZwT c e r xs;unfold HM.ZcB goG;split
  ·rename_i h; cases h
  ·rename_i a b q h
   cases h;rw[ih];rfl
  ·rename_i h1
   have hn:ZlE x=none:=by
    unfold ZlE;split
    ·exact(h1 _ _ _ rfl).elim
    ·rfl
   rw[hn]
theorem Zqv(i:HM.IF)(c:HM.TF)(e:HM.EF):HM.ZL i c e=Ze7 ZtD i c e:=by
 funext r
 unfold HM.ZL Ze7;cases i r with
 | none=>rfl
 | some xs=>dsimp only; rw[Zwl]
theorem Zqe(i:HM.IF)(c:HM.TF)(e:HM.EF):HM.Ze3 i c e=Ze7 ZlE i c e:=by
 funext r
 unfold HM.Ze3 Ze7;cases i r with
 | none=>rfl
 | some xs=>dsimp only; rw[ZwT]
theorem Zto{K:Zyz}{F:Hp}{d1 d2:PyData}{v:V}(h:Rep K F (.tuple [d1,d2]) v):∃a v1 v2,v=.ref a/\F a=some (.tup [v1,v2])/\Rep K F d1 v1/\Rep K F d2 v2:=by
 cases h with
 | @tup a ds vs h1 h2 h3 =>
  cases vs with
  | nil=>simp at h2
  | cons v1 vs=>cases vs with
   | nil=>simp at h2
   | cons v2 vs=>cases vs with
    | nil=>exact⟨a,v1,v2,rfl,h1,h3 0 _ _ rfl rfl,h3 1 _ _ rfl rfl⟩
    | cons _ _=>simp at h2
section
variable{X:Cx}{N:List Str}{scope:Scope}{x x2:Str}{px px2 pt:Pos}{kt:Nat}
theorem ZsZ(T:ZdB X N scope [x])(cl:List (Str × Addr))(C:Addr)(s₀:Shared)(H₀:Hp)(ex:List Addr):ZiQ (ZS X N scope cl C s₀ H₀ ex) 1 (.Name x px) ZtD:=by
 intro pins s σ sv H F d ys xv u hsv I r sub q hd;cases hd;have hx:=T.loc x (ZyW.mpr rfl);refine thn (ZjA (X:=ZS X N scope cl C s₀ H₀ ex) (i:=0) T.nd (T.first 0 x rfl) (.inl (ZAC hx)) (.inr (ZAC hx)) _ s _ H xv u (λσ' H'=>σ'=(sv++σ).set 0 (some xv)/\H'=H) I r ⟨rfl,rfl⟩) λ_ s' ⟨σ',H',I',e1,e2⟩=>?_
 subst e1 e2;refine⟨[xv],rfl,?_,.one q⟩;cases sv with
 | nil=>simp at hsv
 | cons a sv=>cases sv with
  | nil=>exact I'
  | cons _ _=>simp at hsv
theorem ZrL(T:ZdB X N scope [x,x2])(cl:List (Str × Addr))(C:Addr)(s₀:Shared)(H₀:Hp)(ex:List Addr):ZiQ (ZS X N scope cl C s₀ H₀ ex) 2 (.Tuple [.Name x px,.Name x2 px2] kt pt) ZlE:=by
 intro pins s σ sv H F d ys xv u hsv I r sub q hd;have hx:=T.loc x (ZyE ..);have hx2:=T.loc x2 (ZyD _ (ZyE ..));unfold ZlE at hd;split at hd
 ·rename_i d1 d2
  cases hd;obtain⟨pa,v1,v2,e7,hpa,rx1,rx2⟩:=Zto q;subst e7;refine thn (Zwj (X:=ZS X N scope cl C s₀ H₀ ex) (n:=2) rfl (Zoa (ZjA (X:=ZS X N scope cl C s₀ H₀ ex) (i:=0) T.nd (T.first 0 x rfl) (.inl (ZAC hx)) (.inr (ZAC hx))) (Zoa (ZjA (X:=ZS X N scope cl C s₀ H₀ ex) (i:=1) T.nd (T.first 1 x2 rfl) (.inl (ZAC hx2)) (.inr (ZAC hx2))) ZuW)) rfl rfl _ s _ H (.ref pa) u (λσ' H'=>σ'=((sv++σ).set 0 (some v1)).set 1 (some v2)/\H'=H) I r ⟨pa,[v1,v2],rfl,.of (sub _ _ hpa),rfl,v1,[v2],rfl,v2,[],rfl,rfl,rfl,rfl⟩) λ_ s' ⟨σ',H',I',e1,e2⟩=>?_
  subst e1 e2;refine⟨[v1,v2],rfl,?_,.cons rx1 (.one rx2)⟩;cases sv with
  | nil=>simp at hsv
  | cons a sv=>cases sv with
   | nil=>simp at hsv
   | cons b sv=>cases sv with
    | nil=>exact I'
    | cons _ _=>simp at hsv
 ·cases hd
def ZsN(kinds:Str->Option NameKind)(XN N:List Str)(names:List (Str × NameKind))(fr:List Str):Bool :=
 names.all (λy=>y.2 != .cell)&&names.all (λy=>y.2 != .local||names.lookup y.1==some .local)&&fr.all (λx=>names.lookup x==some .local)&&(ZyF fr.length).all (λi=>N[i]?==fr[i]?)&&decide N.Nodup&&N.length==XN.length+fr.length &&
 names.all (λy=>y.2 != .free||kinds y.1==some .cell||kinds y.1==some .free) &&
 (ZyF (N.length-fr.length)).all (λi=>match N[i+fr.length]? with
  | some y=>(names.lookup y != some .free||XN[i]?==some y)&&(names.lookup y==some .free||(names.lookup y != some .local&&names.lookup y != some .cell))
  | none=>true)
theorem ZE{X:Cx}{N XN:List Str}{scope sc:Scope}{fr:List Str}(hs:X.env.scope=sc:=by rfl)(hN:X.N=XN:=by rfl)(hk:scope.kind=.function:=by rfl)(h:ZsN (λy=>sc.names.lookup y) XN N scope.names fr=true:=by decide +kernel):ZdB X N scope fr:=by
 subst hN;unfold ZsN at h;simp only[ZyT,ZyL,ZAn,bne_iff_ne,beq_iff_eq,decide_eq_true_eq]at h;obtain⟨⟨⟨⟨⟨⟨⟨h1,h2⟩,h3⟩,h4⟩,h5⟩,h6⟩,h7⟩,h8⟩:=h;have at_:∀(i:Nat) (y:Str),N[i+fr.length]?=some y->(scope.names.lookup y≠some .free\/X.N[i]?=some y)/\(scope.names.lookup y=some .free\/(scope.names.lookup y≠some .local/\scope.names.lookup y≠some .cell)):=λi y e=>by have hi:i+fr.length<N.length:=(ZyM.mp e).1;have:=h8 i (ZyZ.mpr (by omega));rw[e]at this;simpa only[ZyT,ZAn,bne_iff_ne,beq_iff_eq]using this
 refine⟨hk,h1,λy hy e=>(h2 y hy).resolve_left (λz=>z e),h3,λi x e=>?_,h5,h6,λy hy e=>?_,λi y e q=>(at_ i y e).1.resolve_left (λz=>z q),λi y e v=>?_⟩
 ·rw[h4 i (ZyZ.mpr (ZyM.mp e).1)]
  exact e
 ·have:=h7 y hy
  rw[show X.env.kindOf y.1=sc.names.lookup y.1 by rw[<-hs]; rfl];rcases this with(z | z) | z
  ·exact absurd e z
  ·exact .inl z
  ·exact .inr z
 ·rcases(at_ i y e).2 with z | ⟨z1,z2⟩
  ·exact z
  ·rcases v with v | v | v
   ·exact absurd v z1
   ·exact absurd v z2
   ·exact v
variable{elt iter:Expr}{ifs:List Expr}{pos:Pos}{fi:HM.IF}{fc:HM.TF}{fe:HM.EF}
theorem Zaz(hxe:X.xe=λ_ _=>False)(hcalm:X.calm=true)(T:ZdB X N scope [x])(hi:XI X (.Name x px) iter fi)(hc:∀cl C s H ex,XTs (ZS X N scope cl C s H ex) ifs fc)(he:∀cl C s H ex,XE (ZS X N scope cl C s H ex) elt fe)
  (hs:∀x,ZAm iter X.env x=pure x:=by intro _; rfl):XF X (.ListComp elt [⟨.Name x px,iter,ifs,0⟩] scope pos) (HM.ZL fi fc fe):=by
 rw[Zqv];exact Zna hxe hcalm T (ZsZ T) hi.e hc he hs
theorem Znb(hxe:X.xe=λ_ _=>False)(hcalm:X.calm=true)(T:ZdB X N scope [x,x2])(hi:XI X (.Tuple [.Name x px,.Name x2 px2] kt pt) iter fi)(hc:∀cl C s H ex,XTs (ZS X N scope cl C s H ex) ifs fc)(he:∀cl C s H ex,XE (ZS X N scope cl C s H ex) elt fe)
  (hs:∀x,ZAm iter X.env x=pure x:=by intro _; rfl):XF X (.ListComp elt [⟨.Tuple [.Name x px,.Name x2 px2] kt pt,iter,ifs,0⟩] scope pos) (HM.Ze3 fi fc fe):=by
 rw[Zqe];exact Zna hxe hcalm T (ZrL T) hi.e hc he hs
theorem Zea(i:Nat){y:Str}{py spos:Pos}(hN:X.N.Nodup)(hxe:X.xe=λ_ _=>False)(hcalm:X.calm=true)(T:ZdB X N scope [x])(hi:XI X (.Name x px) iter fi)(hc:∀cl C s H ex,XTs (ZS X N scope cl C s H ex) ifs fc)(he:∀cl C s H ex,XE (ZS X N scope cl C s H ex) elt fe)
  (hiy:X.N[i]?=some y:=by rfl) (hy:X.env.scope.names.lookup y=some .local:=by rfl) (hsw:ZAI (.ListComp elt [⟨.Name x px,iter,ifs,0⟩] scope pos) (some (.Name y py)) spos.line X.env=pure true:=by rfl)
  (hs:∀x,ZAm iter X.env x=pure x:=by intro _; rfl):XS X (.Assign [.Name y py] (.ListComp elt [⟨.Name x px,iter,ifs,0⟩] scope pos) spos) (HM.ZT i (HM.ZL fi fc fe)):=by
 rw[Zqv];exact ZjO i hN hxe hcalm T (ZsZ T) hi.e hc he hiy hy hsw hs
theorem ZjP(i:Nat){y:Str}{py spos:Pos}(hN:X.N.Nodup)(hxe:X.xe=λ_ _=>False)(hcalm:X.calm=true)(T:ZdB X N scope [x,x2])(hi:XI X (.Tuple [.Name x px,.Name x2 px2] kt pt) iter fi)(hc:∀cl C s H ex,XTs (ZS X N scope cl C s H ex) ifs fc)(he:∀cl C s H ex,XE (ZS X N scope cl C s H ex) elt fe)
  (hiy:X.N[i]?=some y:=by rfl) (hy:X.env.scope.names.lookup y=some .local:=by rfl) (hsw:ZAI (.ListComp elt [⟨.Tuple [.Name x px,.Name x2 px2] kt pt,iter,ifs,0⟩] scope pos) (some (.Name y py)) spos.line X.env=pure true:=by rfl)
  (hs:∀x,ZAm iter X.env x=pure x:=by intro _; rfl):XS X (.Assign [.Name y py] (.ListComp elt [⟨.Tuple [.Name x px,.Name x2 px2] kt pt,iter,ifs,0⟩] scope pos) spos) (HM.ZT i (HM.Ze3 fi fc fe)):=by
 rw[Zqe];exact ZjO i hN hxe hcalm T (ZrL T) hi.e hc he hiy hy hsw hs
end
end HP
namespace HP
open PySem PySem.Spec PyProof.Rows L2
variable[FX]
section
variable{prog:Program}{w:World}{K:Type}[DecidableEq K]{knd:HeapKind prog w K}{A:Around}{E:Value->Shared->Prop}{s:Shared}
theorem Zlw{d a:Addr}{xs:List (K × Addr × Value)}{k:K}{v:Value}{Q:Value->Shared->Prop}(hu:knd.room A)(hkey:knd.is s.heap k a)(hm:s.heap.DictOfH knd d xs)(hsz:xs.length<=sizeLine)
  (h1:∀p,atKey xs k=some p->Q p.2 { s with toks:=s.toks+knd.draws k })
  (h2:atKey xs k=none->∀h',h'.DictOfH knd d (storedH xs k a v)->ZAy d s.heap h'->Q v { s with heap:=h',toks:=s.toks+knd.draws k }) :
  wpAny (model prog w) A (dictSetDefault d (.ref a) v) Q E s:=by
 obtain⟨o,es,ep,ho,hc,hd,he,his,hn⟩:=hm;unfold dictSetDefault
 try with_reducible refine ZzF ?_
 refine Zyy (knd.pyHash hu hkey ?_);refine Zyy (wpAny_dictFind_heap (s:={ s with toks:=s.toks+knd.draws k }) hu hkey ho hd he his hn ?_ ?_)
 ·intro hno
  have hnot:k ∉ xs.map (·.1):=not_mem_keys_of_get hno;have hnk:=atKey_none_of_get hno;refine Zyy (wpAny_rule (Zyy (wpAny_updateDictKeys (hz:=by have e:=size_of_entries he; omega) (s:={ s with toks:=s.toks+knd.draws k }) ho hd (ZyC (h2 hnk _ ⟨_,_,ep+1,ZzK _ ho (Obj.isFreed_of_dict (Obj.data_mapDictKeys hd _)),
   hc.mapDictKeys _,Obj.data_mapDictKeys hd _,?_,?_,?_⟩ (ZzI ..))))))
  ·rw[storedH_new hnk]
   simp[he,entryOfKey]
  ·rw[storedH_new hnk]
   intro x hx;rcases Zy6.mp hx with hx | hx
   ·exact knd.keeps (his x hx) ho hd (ZzI ..)
   ·simp only[ZyW]at hx
    subst hx;exact knd.keeps hkey ho hd (ZzI ..)
  ·rw[storedH_new hnk]
   rw[Zzd,ZAU];refine⟨hn,by simp,?_⟩;intro x hx y hy;simp only[ZyH,ZAA,ZyW]at hy;subst hy;exact λe=>hnot (e▸hx)
 ·intro j p hj
  refine Zyy (ZBL (s:={ s with toks:=s.toks+knd.draws k }) ho hd ?_);rw[entry_at he j,hj];exact Zyy (wpAny_rule (ZyC (h1 p (atKey_of_get hn hj))))
theorem ZjM(d a:Addr)(hd:(d==ZAb)=false)(dflt:Value) :
  MeetsIn prog w (Builtin.«dict.setdefault» ⟨[.ref d,.ref a,dflt],[]⟩) (λA R s=>knd.room A.in1/\∃k xs,knd.is s.heap k a/\s.heap.DictOfH knd d xs/\xs.length<=sizeLine /\
   (∀p,atKey xs k=some p->R (.ok (.ret p.2)) { s with toks:=s.toks+knd.draws k }) /\
   (atKey xs k=none->∀h',h'.DictOfH knd d (storedH xs k a dflt)->ZAy d s.heap h'->R (.ok (.ret dflt)) { s with heap:=h',toks:=s.toks+knd.draws k })) :=
 .of_wp λA R s ⟨hu,k,xs,hkey,hm,hz,h1,h2⟩=>by unfold Builtin.«dict.setdefault»;refine Zyy ?_;unfold Builtin.Dict.keyAndDefault;refine Zyy (wpAny_notOrdered_dict hm.typeIs ?_);show wpAny _ _ (pure (d,Zzr a,some dflt)) _ _ s;refine ZyC ?_;show wpAny _ _ (if(d==ZAb)=true then _ else(dictSetDefault d (.ref a) dflt >>= _)) _ _ s;rw[if_neg (by rw[hd]; exact Zzj)];exact Zyy (Zlw hu hkey hm hz (λp hp=>ZyC ⟨p.2,rfl,h1 p hp⟩) λhn h' hm' hs'=>ZyC ⟨dflt,rfl,h2 hn h' hm' hs'⟩)
end
section
variable{X:Cx}{pins:List (Addr × Obj)}{σ:L2.St}{H:Hp}{s:Shared}{a b:Addr}{z:V}{r:Value}{A:Around}{E:Value->Shared->Prop}{kvs:List (List Key × V)}{k:List Key}
theorem ZwO{Q:Value->Shared->Prop}(hu:A.units+1<cLine)(I:Inv X pins σ H s)(e:H a=some (.dT kvs))(eb:H b=some (.tup (k.map kV)))(hl:kvs.length<sizeLine)(rz:RelV z r)
  (h1:∀v,ZaL kvs k=some v->∀w' s',Inv X pins σ H s'->RelV v w'->Q w' s') (h2:ZaL kvs k=none->∀s',Inv X pins σ (upd H a (.dT (kvs++[(k,z)]))) s'->Q r s') :
  wpAny (model X.prog X.w) A (call (.builtin "dict.setdefault") [.ref a,.ref b,r]) Q E s:=by
 obtain⟨zz,hd,xs,rel,dd⟩:=Zuz I.hok e;have hz:xs.length<=sizeLine:=by rw[<-ZA9 rel]; exact zz
 have hv:=rel.val k;refine call_meetsIn ZCk dd.typeIs PySem.F.entry_dict_setdefault (PySem.F.args_dict_setdefault_3 _ _ _) (ZjM (knd:=ZBt (Zao X.prog X.w)) a b hd r) ⟨ZAM hu,k,xs,Zgg I.hok eb,dd,hz,λp hp=>?_,λhn h' dd' hs=>?_⟩
 ·rw[hp]at hv
  cases hvv:ZaL kvs k with
  | none=>rw[hvv]at hv; exact hv.elim
  | some v=>rw[hvv]at hv; exact h1 v hvv _ _ (I.tok _) hv
 ·rw[hn]at hv
  have hvv:ZaL kvs k=none:=by
   cases hvv:ZaL kvs k with
   | none=>rfl
   | some v=>rw[hvv]at hv; exact hv.elim
  refine h2 hvv _ ?_;have hp:=rel.put k eb rz;have epk:putK kvs k z=kvs++[(k,z)]:=by unfold putK;rw[if_neg];rw[Zh6,hvv];simp
  rw[epk]at hp;obtain⟨q,es,ep,hq,g2,g3,g4,_,g5⟩:=dd';refine ZjG I (by rw[e]; exact ZBD) hs ⟨q,hq⟩ ⟨by rw[ZyS]; exact hl,hd,_,hp.keeps λc ys ec=>?_,q,es,ep,hq,g2,g3,g4,g5⟩;rw[ZA (Zuv ec e (λz=>nomatch z))];exact ec
end
def Zye(td ty tx:TE):TE:=λσ H Q=>td σ H λx H1=>∃a,x=.ref a/\IsD H1 a/\ty σ H1 λy H2=>tx σ H2 λz H3=>∃kvs k b,H3 a=some (.dT kvs)/\y=.ref b/\H3 b=some (.tup (k.map kV))/\kvs.length<sizeLine /\
 (∀v,ZaL kvs k=some v->Q v H3)/\(ZaL kvs k=none->Q z (upd H3 a (.dT (kvs++[(k,z)]))))
section
variable{X:Cx}{o e f:Expr}{apos cpos:Pos}{td ty tx:TE}
theorem Zwd(hu:X.A.units+1<cLine)(ho:PE X o td)(he:PE X e ty)(hf:PE X f tx)(m:M2 X o "setdefault" apos e f cpos):PE X (.Call (.Attribute o "setdefault" apos) [e,f] [] cpos) (Zye td ty tx):=by intro pins s σ H Q I h;refine wpAny_Call_method m.base m.few m.line ZCZ ZCk PySem.F.type_dict_setdefault (thn (ho pins s σ H _ I h) λu s1 ⟨x,H1,I1,rx,a,ex,d,q1⟩=>?_);subst ex;obtain rfl:u=Zzr a:=rx;obtain⟨t1,t2,_⟩:=Zr2 I1 d;refine⟨t1,t2,?_⟩;rw[m.trees];refine ZBd rfl (ZB7 (ZBa (thn (he pins s1 σ H1 _ I1 q1) λiv s2 ⟨y,H2,I2,ry,q2⟩=>ZBa (thn (hf pins s2 σ H2 _ I2 q2) λfv s3 ⟨z,H3,I3,rz,kvs,k,b,ea,ey,eb,hl,q3,q4⟩=>ZCD ?_))));subst ey;obtain rfl:iv=Zzr b:=ry;exact ZwO hu I3 ea eb hl rz (λv hv w' s4 I4 rw'=>⟨v,H3,I4,rw',q3 v hv⟩) λhn s4 I4=>⟨z,_,I4,rz,q4 hn⟩
end
def OT(K:Zyz)(F H:Hp)(kvs:List (List Key × List PyData))(vvs:List (List Key × V))(ls:List Addr):Prop:=kvs.map (·.1)=vvs.map (·.1)/\vvs.map (·.2)=ls.map V.ref /\
 ∀(i:Nat) (ds:List PyData) (l:Addr),(kvs.map (·.2))[i]?=some ds->ls[i]?=some l->∃vs,H l=some (.lst vs)/\Zu K F ds vs
section
variable{K:Zyz}{F F' H H':Hp}{kvs:List (List Key × List PyData)}{vvs:List (List Key × V)}{ls:List Addr}
theorem OT.len(q:OT K F H kvs vvs ls):kvs.length=ls.length/\kvs.length=vvs.length:=by have e1:=congrArg Zzo q.1;have e2:=congrArg Zzo q.2.1;rw[ZyA,ZyA]at e1 e2;omega
theorem OT.mono(q:OT K F H kvs vvs ls)(s:Zp F F')(k:∀a∈ls,∀o,H a=some o->H' a=some o):OT K F' H' kvs vvs ls :=
 ⟨q.1,q.2.1,λi ds l h1 h2=>let ⟨vs,q1,q2⟩:=q.2.2 i ds l h1 h2; ⟨vs,k l (Zy3 h2) _ q1,q2.mono s⟩⟩
theorem OT.snoc(q:OT K F H kvs vvs ls)(k:List Key){p:Addr}(hp:H p=some (.lst [])):OT K F H (kvs++[(k,[])]) (vvs++[(k,.ref p)]) (ls++[p]):=by
 refine⟨by rw[Zzd,Zzd,q.1]; rfl,by rw[Zzd,Zzd,q.2.1]; rfl,λi ds l h1 h2=>?_⟩;have hl:=q.len;rw[Zzd]at h1
 by_cases hi:i<kvs.length
 ·rw[Zy9 (by rw[ZyA]; exact hi)]at h1
  rw[Zy9 (by omega)]at h2;exact q.2.2 i ds l h1 h2
 ·rw[Zzn (by rw[ZyA]; omega),ZyA]at h1
  rw[Zzn (by omega),<-hl.1]at h2;cases hj:i-kvs.length with
  | zero=>rw[hj]at h1 h2;cases h1; cases h2;exact⟨[],hp,.nil⟩
  | succ j=>rw[hj]at h1; cases h1
theorem OT.look(q:OT K F H kvs vvs ls)(k:List Key):(∀ds,HM.Zi kvs k=some ds->∃l' vs,ZaL vvs k=some (.ref l')/\l'∈ls/\H l'=some (.lst vs)/\Zu K F ds vs)/\(HM.Zi kvs k=none->ZaL vvs k=none):=Zkg k kvs vvs ls q.1 q.2.1 q.2.2
theorem OT.app(k:List Key){d:PyData}{v:V}:∀{kvs:List (List Key × List PyData)} {vvs:List (List Key × V)} {ls:List Addr},OT K F H kvs vvs ls->ls.Nodup->Rep K F d v->∀{l':Addr} {vs:List V},ZaL vvs k=some (.ref l')->H l'=some (.lst vs) ->
  OT K F (upd H l' (.lst (vs++[v]))) (HM.Zdk kvs k d) vvs ls
 | [],[],_,q,_,_,l',vs,hv,_=>by cases hv
 | [],_::_,_,q,_,_,_,_,_,_=>by have:=q.len; simp at this
 | _::_,[],_,q,_,_,_,_,_,_=>by have:=q.len; simp at this
 | _::_,_::_,[],q,_,_,_,_,_,_=>by have:=q.len; simp at this
 | (k1,ds1)::kvs,(k2,v2)::vvs,l1::ls,q,nd,rd,l',vs,hv,hl=>by
  obtain⟨q1,q2,q3⟩:=q;rw[ZyH,ZyH]at q1 q2;injection q1 with e1 e2
  injection q2 with e3 e4
  have e1:k1=k2:=e1;have e3:v2=.ref l1:=e3;subst e1 e3;have rest:OT K F H kvs vvs ls:=⟨e2,e4,λi ds l h1 h2=>q3 (i+1) ds l (by simpa using h1) (by simpa using h2)⟩;obtain⟨n1,n2⟩:=Zzx.mp nd;obtain⟨us,f1,f2⟩:=q3 0 ds1 l1 rfl rfl;unfold HM.Zdk
  by_cases hk:k1=k
  ·rw[if_pos hk]
   rw[ZdW (p:=(k1,V.ref l1)) hk]at hv;cases hv;rw[hl]at f1;cases f1;refine⟨by rw[ZyH,ZyH,e2],by rw[ZyH,ZyH,e4],λi ds l h1 h2=>?_⟩;cases i with
   | zero=>cases h1; cases h2;exact⟨_,ZB,f2.append (.one rd)⟩
   | succ i=>rw[ZyH,Zzh]at h1;rw[Zzh]at h2;obtain⟨us,g1,g2⟩:=rest.2.2 i ds l h1 h2;exact⟨us,by rw[ZA (λz=>n1 (by rw[<-z]; exact Zy3 h2))]; exact g1,g2⟩
  ·rw[if_neg hk]
   rw[ZdX (p:=(k1,V.ref l1)) hk]at hv;have ih:=OT.app k rest n2 rd hv hl;have hne:l1≠l':=by
    rintro rfl
    have:∀(vvs:List (List Key × V)) (ls:List Addr),vvs.map (·.2)=ls.map V.ref->∀l',ZaL vvs k=some (.ref l')->l'∈ls:=by
     intro vvs
     induction vvs with
     | nil=>intro ls _ l' h; cases h
     | cons p vvs ih =>
      intro ls he l' h;cases ls with
      | nil=>simp at he
      | cons l ls =>
       rw[ZyH,ZyH]at he;injection he with he1 he2
       by_cases hp:p.1=k
       ·rw[ZdW hp]at h
        rw[he1]at h;cases h;exact ZyE
       ·rw[ZdX hp]at h
        exact ZyD _ (ih ls he2 l' h)
    exact n1 (this vvs ls e4 _ hv)
   refine⟨by rw[ZyH,ZyH,ih.1],by rw[ZyH,ZyH,e4],λi ds l h1 h2=>?_⟩;cases i with
   | zero=>cases h1; cases h2;exact⟨us,by rw[ZA hne]; exact f1,f2⟩
   | succ i=>rw[ZyH,Zzh]at h1;rw[Zzh]at h2;exact ih.2.2 i ds l h1 h2
end
theorem Zbl.otl{K:Zyz}{F0 H0 F H:Hp}{r:HM.Env}{σ:L2.St}{fp:Nat->List Addr}{i:Nat}{kvs:List (List Key × List PyData)}(e:Zbl K F0 H0 F H r σ fp)(h:r[i]?=some (some (.otl kvs))) :
  ∃a vvs ls,σ[i]?=some (some (.ref a))/\H a=some (.dT vvs)/\OT K F H kvs vvs ls/\fp i=a::ls:=by
 obtain⟨v,h1,h2⟩:=e.at_ i _ h;generalize hf:fp i=q at h2;cases h2 with
 | otl k1 k2 k3 k4=>exact⟨_,_,_,h1,k1,⟨k2,k3,k4⟩,rfl⟩
theorem Zbl.otlNew{K:Zyz}{F0 H0 Fb Hb F H:Hp}{r:HM.Env}{σ:L2.St}{fp:Nat->List Addr}{i:Nat}{kvs:List (List Key × List PyData)}{p:Addr}(k:List Key)(eb:Zbl K F0 H0 Fb Hb r σ fp)(x:Ext Fb Hb F H)(h:r[i]?=some (some (.otl kvs)))(hp:H p=some (.lst []))(hF:F p=none)(hb:Hb p=none) :
  ∃a vvs,σ[i]?=some (some (.ref a))/\H a=some (.dT vvs)/\vvs.length=kvs.length/\(HM.Zi kvs k=none->ZaL vvs k=none)/\At K F0 H0 F (upd H a (.dT (vvs++[(k,.ref p)]))) (r.set i (some (.otl (kvs++[(k,[])])))) σ:=by
 have e:=eb.grow x;obtain⟨a,vvs,ls,h1,h2,h3,h4⟩:=e.otl h;have hpn:∀j,p ∉ fp j:=λj hj=>by obtain⟨o,ho⟩:=eb.there hj;rw[hb]at ho; cases ho
 have hpa:p≠a:=λz=>hpn i (by rw[h4,z]; exact ZyE);have hal:a ∉ ls:=(Zzx.mp (h4▸e.nd i)).1;have nl:ls.Nodup:=(Zzx.mp (h4▸e.nd i)).2;have hpl:p ∉ ls:=λz=>hpn i (by rw[h4]; exact ZyD _ z);refine⟨a,vvs,h1,h2,h3.len.2.symm,(h3.look k).2,?_⟩;have q:=h3.snoc k hp;have q':OT K F (upd H a (.dT (vvs++[(k,.ref p)]))) (kvs++[(k,[])]) (vvs++[(k,.ref p)]) (ls++[p]):=q.mono (Zp.refl F) λc hc o z=>by
  rw[ZA]
  ·exact z
  ·rintro rfl
   rcases Zy6.mp hc with hc | hc
   ·exact hal hc
   ·exact hpa (ZyW.mp hc).symm
 have nd':(a::(ls++[p])).Nodup:=by
  refine Zzx.mpr ⟨?_,?_⟩
  ·intro z
   rcases Zy6.mp z with z | z
   ·exact hal z
   ·exact hpa (ZyW.mp z).symm
  ·rw[ZAU]
   refine⟨nl,by simp,λx hx y hy=>?_⟩;obtain rfl:y=p:=by simpa using hy
   rintro rfl
   exact hpl hx
 refine e.changeW h1 (fp':=a::(ls++[p])) (.otl ZB q'.1 q'.2.1 q'.2.2) nd' (λc hc=>?_) λc o z hn=>?_
 ·rcases ZyY.mp hc with z | z
  ·subst z; exact .inl (by rw[h4]; exact ZyE)
  ·rcases Zy6.mp z with z | z
   ·exact .inl (by rw[h4]; exact ZyD _ z)
   ·obtain rfl:c=p:=ZyW.mp z
    exact .inr ⟨hF,eb.ext.hh.free hb,hpn⟩
 ·rw[ZA (λy=>hn (by rw[h4,y]; exact ZyE))]
  exact z
theorem At.otlApp{K:Zyz}{F0 H0 F H:Hp}{r:HM.Env}{σ:L2.St}{i:Nat}{kvs:List (List Key × List PyData)}{ds:List PyData}(k:List Key)(e:At K F0 H0 F H r σ)(h:r[i]?=some (some (.otl kvs)))(hd:HM.Zi kvs k=some ds) :
  ∃a vvs l vs,σ[i]?=some (some (.ref a))/\H a=some (.dT vvs)/\ZaL vvs k=some (.ref l)/\H l=some (.lst vs)/\Zu K F ds vs/\∀d v,Rep K F d v->At K F0 H0 F (upd H l (.lst (vs++[v]))) (r.set i (some (.otl (HM.Zdk kvs k d)))) σ:=by
 obtain⟨fp,e⟩:=e;obtain⟨a,vvs,ls,h1,h2,h3,h4⟩:=e.otl h;obtain⟨l,vs,g1,g2,g3,g4⟩:=(h3.look k).1 ds hd;have hal:a ∉ ls:=(Zzx.mp (h4▸e.nd i)).1;have nl:ls.Nodup:=(Zzx.mp (h4▸e.nd i)).2;have hne:a≠l:=λz=>hal (by rw[z]; exact g2);refine⟨a,vvs,l,vs,h1,h2,g1,g3,g4,λd v rd=>?_⟩;have q:=h3.app k nl rd g1 g3;refine e.change h1 (fp':=a::ls) (.otl (by rw[ZA hne]; exact h2) q.1 q.2.1 q.2.2) (h4▸e.nd i) (λc hc=>.inl (by rw[h4]; exact hc)) λc o z hn=>?_;rw[ZA (λy=>hn (by rw[h4,y]; exact ZyD _ g2))];exact z
section
variable{X:Cx}{a b c e:Expr}{fa fb fc:HM.EF}{pos p:Pos}{f:HM.BF}
theorem ZrA(hu:X.A.units+1<cLine)(i:Nat){x:Str}{p1 p2 p3:Pos}(hk:XE X b fb)(hN:X.N[i]?=some x:=by rfl)(hv:Vis X.env.scope x:=by first | exact ZzA rfl | exact Zzc (ZzA rfl) | exact Zzc (Zzc rfl))(hd:(x==("__debug__":Str))=false:=by decide)(hcd:(x==("__classdict__":Str))=false:=by decide)
  (hs:ZAI (.List [] p3) (some (.Subscript (.Name x p1) b p2)) pos.line X.env=pure false:=by rfl):XS X (.Assign [.Subscript (.Name x p1) b p2] (.List [] p3) pos) (HM.Zlm i fb):=by
 intro r o h;unfold HM.Zlm at h;split at h
 ·rename_i y hy
  split at h
  ·rename_i kvs hb
   split at h
   ·rename_i k hk'
    split at h
    ·rename_i hz
     split at h
     ·rename_i hl
      cases h;refine PS.imp (ZlG hu (Zb7 hN hv hd hcd) (hk r y hy) (Zb2 (X:=X) Zg (by simp) r (.ol []) rfl) hs) λE σ H ⟨F0,H0,F,at_,kk⟩=>?_;refine⟨F0,H0,F,at_,λv F1 H1 x1 ⟨fp,r1,nd,hn⟩=>?_⟩;cases r1 with
      | @ol l _ vs hl1 rs =>
       obtain rfl:vs=[]:=rs.nil_inv;have at1:=at_.grow x1;obtain⟨u,fp,e1,e2⟩:=at1.any hb;refine⟨u,e1,F0,H0,F1,at1,λw F2 H2 x2 r2=>?_⟩;obtain⟨fq,eb⟩:=at_;have hlF:F2 l=none:=by
        cases q:F2 l with
        | none=>rfl
        | some o =>
         rcases x2.new l o q with z | z
         ·rw[(hn l (by simp)).1]at z; cases z
         ·exact(z.no hl1 λ_ q=>by cases q).elim
       obtain⟨aa,vvs,g1,g2,g3,g4,g5⟩:=eb.otlNew k (x1.trans x2) hb (x2.hh _ _ hl1) hlF (hn l (by simp)).2;rw[e1]at g1;cases g1;obtain⟨bb,rfl,hbb⟩:=ZbQ hk' r2;have hpk:putK vvs k (V.ref l)=vvs++[(k,.ref l)]:=by unfold putK;rw[if_neg];rw[Zh6,g4 hl];simp
       refine⟨aa,_,rfl,Zij.t g2 (x2.sub _ _ hbb) (by rw[g3]; exact ZeS hz),?_⟩;rw[hpk];exact kk _ F2 _ g5
     ·cases h
    ·cases h
   ·cases h
  ·cases h
 ·cases h
theorem Zs4(hu:X.A.units+1<cLine)(i:Nat){x:Str}{p1 p2 p3 p4:Pos}(hk:XE X b fb)(ha:XE X a fa)(hN:X.N[i]?=some x:=by rfl)(hv:Vis X.env.scope x:=by first | exact ZzA rfl | exact Zzc (ZzA rfl) | exact Zzc (Zzc rfl))(hd:(x==("__debug__":Str))=false:=by decide)(hcd:(x==("__classdict__":Str))=false:=by decide)
  (hsl:Zof b:=by intro _ _; rfl)
  (hbase:ZAQ (.Subscript (.Name x p1) b p2) "append" X.env (eval (.Subscript (.Name x p1) b p2) X.env)=eval (.Subscript (.Name x p1) b p2) X.env:=by rfl)
  (hfew:((backTo p4 (ZyK [a] X.env)).all (λx=>!x.1)&&(ZCT p4 (ZBR [] X.env)).all (λx=>x.1.isSome)&&decide (([a]:List Expr).length+([]:List Keyword).length+(if([]:List Keyword).isEmpty then 0 else 1)<30))=true:=by rfl)
  (hline:(p3.endLine==p4.line)=true:=by rfl) (hs:ZyK [a] X.env=[(false,eval a X.env)]:=by rfl):XS X (.Expr (.Call (.Attribute (.Subscript (.Name x p1) b p2) "append" p3) [a] [] p4) pos) (HM.ZnU i fb fa):=by
 intro r o h;unfold HM.ZnU at h;split at h
 ·rename_i y hy
  split at h
  ·rename_i kvs hb
   split at h
   ·rename_i k hk'
    split at h
    ·rename_i d hd'
     split at h
     ·rename_i ds hds
      split at h
      ·rename_i hz
       cases h;refine PS.imp (Zhy (Zm2 ZAF ZBw ZBx ZgK (Zlu hu (Zb7 hN hv hd hcd) (hk r y hy) hsl) (Zag (ha r d hd') ZbI hs) hbase hfew hline hs rfl)) λE σ H ⟨F0,H0,F,at_,kk⟩=>?_;obtain⟨aa,vvs,l,vs,e1,e2,e3,e4,e5,_⟩:=at_.otlApp k hb hds;refine⟨.ref aa,e1,F0,H0,F,at_,λw F1 H1 x1 r1=>?_⟩;obtain⟨bb,rfl,hbb⟩:=ZbQ hk' r1;have at1:=at_.grow x1;refine⟨aa,.ref l,rfl,by rw[<-e3]; exact Zb8.t (x1.hh _ _ e2) (x1.sub _ _ hbb),.inl ⟨rfl,_,SqL.of (x1.hh _ _ e4)⟩,F0,H0,F1,at1,λv F2 H2 x2 r2=>?_⟩;obtain⟨aa',vvs',l',vs',g1,g2,g3,g4,g5,g6⟩:=(at1.grow x2).otlApp k hb hds;rw[e1]at g1;cases g1;have:=(x1.trans x2).hh _ _ e2;rw[this]at g2;cases g2;rw[e3]at g3;cases g3;refine⟨_,vs',v,rfl,rfl,g4,?_,kk _ F2 _ (g6 d v r2)⟩;rw[<-g5.1];exact ZeS hz
      ·cases h
     ·cases h
    ·cases h
   ·cases h
  ·cases h
 ·cases h
theorem ZrP{k:List Key}{kvs:List (List Key × List PyData)}{ds:List PyData}(h:HM.Zi kvs k=some ds):HM.ZbH kvs k=kvs:=by unfold HM.ZbH; rw[h]
theorem Zst{k:List Key}{kvs:List (List Key × List PyData)}(h:HM.Zi kvs k=none):HM.ZbH kvs k=kvs++[(k,[])]:=by unfold HM.ZbH; rw[h]
theorem Zs5(hu:X.A.units+1<cLine)(i:Nat){x:Str}{p0 p1 p2 p3 p4 p5:Pos}(hk:XE X b fb)(ha:XE X a fa)(m:M2 X (.Name x p0) "setdefault" p1 b (.List [] p2) p3)(hN:X.N[i]?=some x:=by rfl)(hv:Vis X.env.scope x:=by first | exact ZzA rfl | exact Zzc (ZzA rfl) | exact Zzc (Zzc rfl))(hd:(x==("__debug__":Str))=false:=by decide)(hcd:(x==("__classdict__":Str))=false:=by decide)
  (hbase:ZAQ (.Call (.Attribute (.Name x p0) "setdefault" p1) [b,.List [] p2] [] p3) "append" X.env (eval (.Call (.Attribute (.Name x p0) "setdefault" p1) [b,.List [] p2] [] p3) X.env)=eval (.Call (.Attribute (.Name x p0) "setdefault" p1) [b,.List [] p2] [] p3) X.env:=by rfl)
  (hfew:((backTo p5 (ZyK [a] X.env)).all (λx=>!x.1)&&(ZCT p5 (ZBR [] X.env)).all (λx=>x.1.isSome)&&decide (([a]:List Expr).length+([]:List Keyword).length+(if([]:List Keyword).isEmpty then 0 else 1)<30))=true:=by rfl)
  (hline:(p4.endLine==p5.line)=true:=by rfl) (hs:ZyK [a] X.env=[(false,eval a X.env)]:=by rfl):XS X (.Expr (.Call (.Attribute (.Call (.Attribute (.Name x p0) "setdefault" p1) [b,.List [] p2] [] p3) "append" p4) [a] [] p5) pos) (HM.Zop i fb fa):=by
 intro r o h;unfold HM.Zop at h;split at h
 ·rename_i y hy
  split at h
  ·rename_i kvs hb
   split at h
   ·rename_i k hk'
    split at h
    ·rename_i hzz
     split at h
     ·rename_i d hd'
      split at h
      ·rename_i ds hds
       split at h
       ·rename_i hz
        cases h;have hi:i<r.length:=(ZyM.mp hb).1;have hb':(r.set i (some (.otl (HM.ZbH kvs k))))[i]?=some (some (.otl (HM.ZbH kvs k))):=Zzs hi;refine PS.imp (Zhy (Zm2 ZAF ZBw ZBx ZgK (Zwd hu (Zb7 hN hv hd hcd) (hk r y hy) (Zb2 (X:=X) Zg (by simp) r (.ol []) rfl) m) (Zag (ha _ d hd') ZbI hs) hbase hfew hline hs rfl)) λE σ H ⟨F0,H0,F,at_,kk⟩=>?_;have fin:∀{F3 H3:Hp} {l:Addr},At X.K F0 H0 F3 H3 (r.set i (some (.otl (HM.ZbH kvs k)))) σ->(∃vs,SqL X.K H3 l vs)->(∀a' vvs',σ[i]?=some (some (.ref a'))->H3 a'=some (.dT vvs')->ZaL vvs' k=some (.ref l)) ->
          tyV X.K "list" (.ref l) H3/\Now X.K (r.set i (some (.otl (HM.ZbH kvs k)))) σ H3 λF0 H0 F=>∀v F' H',Ext F H3 F' H'->Rep X.K F' d v->Zp7 (.ref l) [v] H' λ_ H'=>E.nx σ H':=by
         intro F3 H3 l at3 hl hat;refine⟨.inl ⟨rfl,hl⟩,F0,H0,F3,at3,λv F4 H4 x4 r4=>?_⟩;obtain⟨aa',vvs',l',vs',g1,g2,g3,g4,g5,g6⟩:=(at3.grow x4).otlApp k hb' hds;obtain⟨aa2,vvs2,l2,vs2,f1,f2,f3,_⟩:=at3.otlApp k hb' hds;rw[f1]at g1;cases g1;rw[x4.hh _ _ f2]at g2;cases g2;rw[hat _ _ f1 f2]at g3;cases g3;have g7:=g6 d v r4;rw[ZB8]at g7;refine⟨_,vs',v,rfl,rfl,g4,?_,kk _ F4 _ g7⟩;rw[<-g5.1];exact ZeS hz
        obtain⟨fq,eb⟩:=at_;obtain⟨aa,vvs,ls,e1,e2,e3,e4⟩:=eb.otl hb;refine⟨.ref aa,e1,aa,rfl,.inr ⟨vvs,.inl e2⟩,F0,H0,F,⟨fq,eb⟩,λw F1 H1 x1 r1=>⟨F0,H0,F1,At.grow ⟨fq,eb⟩ x1,λv F2 H2 x2 ⟨fp,r2,nd,hn⟩=>?_⟩⟩;obtain⟨bb,rfl,hbb⟩:=ZbQ hk' r1;have x12:=x1.trans x2;have hz0:vvs.length<sizeLine:=by rw[<-e3.len.2]; exact ZeS hzz
        refine⟨vvs,k,bb,x12.hh _ _ e2,rfl,x2.hh _ _ (x1.sub _ _ hbb),hz0,λu hu'=>?_,λhno=>?_⟩
        ·have hls:∃ds0,HM.Zi kvs k=some ds0:=by
          cases hq:HM.Zi kvs k with
          | some ds0=>exact⟨ds0,rfl⟩
          | none=>rw[(e3.look k).2 hq]at hu'; cases hu'
         obtain⟨ds0,hls⟩:=hls;have ead:=ZrP hls;obtain⟨l0,vs0,q1,q2,q3,q4⟩:=(e3.look k).1 ds0 hls;rw[q1]at hu';cases hu';refine fin (F3:=F2) ?_ ⟨vs0,SqL.of (x12.hh _ _ q3)⟩ λa' vvs' z1 z2=>?_
         ·rw[ead]
          have:r.set i (some (.otl kvs))=r:=by obtain⟨h1,h2⟩:=ZyM.mp hb;rw[<-h2];exact ZBg h1
          rw[this];exact At.grow ⟨fq,eb⟩ x12
         ·rw[e1]at z1
          cases z1;rw[x12.hh _ _ e2]at z2;cases z2;exact q1
        ·have hls:HM.Zi kvs k=none:=by
          cases hq:HM.Zi kvs k with
          | none=>rfl
          | some ds0=>obtain⟨l0,vs0,q1,_⟩:=(e3.look k).1 ds0 hq;rw[hno]at q1; cases q1
         have ead:=Zst hls;cases r2 with
         | @ol l _ vs hl1 rs =>
          obtain rfl:vs=[]:=rs.nil_inv;have hHl:H l=none:=x1.hh.free (hn l (by simp)).2;obtain⟨aa2,vvs2,g1,g2,g3,g4,g5⟩:=eb.otlNew k x12 hb hl1 (hn l (by simp)).1 hHl;rw[e1]at g1;cases g1;rw[x12.hh _ _ e2]at g2;cases g2;have hne:l≠aa:=λz=>by rw[z,e2]at hHl; cases hHl
          refine fin (F3:=F2) (by rw[ead]; exact g5) ⟨[],SqL.of (by rw[ZA hne]; exact hl1)⟩ λa' vvs' z1 z2=>?_;rw[e1]at z1;cases z1;rw[ZB]at z2;cases z2;unfold ZaL at hno ⊢;rw[Option.map_eq_none_iff]at hno;rw[ZCF,hno];simp
       ·cases h
      ·cases h
     ·cases h
    ·cases h
   ·cases h
  ·cases h
 ·cases h
end
end HP
namespace HP
open PySem PyProof.Rows
def Zex(xs:Array Nat):Prop:=xs.toList.Pairwise (· < ·)
theorem Zex.lt{xs:Array Nat}(h:Zex xs){i k:Nat}(hk:k<xs.size)(hik:i<k):xs.getD i 0<xs.getD k 0:=by have:=ZCM.mp h i k (by simpa using ZAB hik hk) (by simpa using hk) hik;simpa [ZAH,hk,ZAB hik hk]using this
theorem Zkr{xs:Array Nat}(h:Zex xs)(j:Nat):∀(fuel lo hi:Nat),lo<=hi->hi<=xs.size->hi-lo<=fuel->(∀i,i<lo->xs.getD i 0<j)->(∀i,hi<=i->i<xs.size->j<=xs.getD i 0) ->
  ZBM xs j fuel lo hi<=xs.size/\(∀i,i<ZBM xs j fuel lo hi->xs.getD i 0<j)/\∀i,ZBM xs j fuel lo hi<=i->i<xs.size->j<=xs.getD i 0
 | 0,lo,hi,h1,h2,h3,a,b=>by
  obtain rfl:lo=hi:=by omega
  exact⟨h2,a,b⟩
 | fuel+1,lo,hi,h1,h2,h3,a,b=>by
  unfold ZBM;split
  ·rename_i hlt
   have hm:(lo+hi) / 2<xs.size:=by omega
   have e:xs.getD ((lo+hi) / 2) j=xs.getD ((lo+hi) / 2) 0:=by simp[ZAH,hm]
   dsimp only;rw[e]
   by_cases q:xs.getD ((lo+hi) / 2) 0<j
   ·rw[if_pos q]
    refine Zkr h j fuel ((lo+hi) / 2+1) hi (by omega) h2 (by omega) (λi hi'=>?_) b
    by_cases c:i=(lo+hi) / 2
    ·rw[c]; exact q
    ·exact ZAB (h.lt hm (by omega)) q
   ·rw[if_neg q]
    refine Zkr h j fuel lo ((lo+hi) / 2) (by omega) (by omega) (by omega) a (λi hi' hs=>?_)
    by_cases c:i=(lo+hi) / 2
    ·rw[c]; omega
    ·have:=h.lt hs (show(lo+hi) / 2<i by omega); omega
  ·obtain rfl:lo=hi:=by omega
   exact⟨h2,a,b⟩
theorem ZfE{xs:Array Nat}(h:Zex xs)(j:Nat):ZyJ xs j<=xs.size/\(∀i,i<ZyJ xs j->xs.getD i 0<j)/\∀i,ZyJ xs j<=i->i<xs.size->j<=xs.getD i 0 :=
 Zkr h j xs.size 0 xs.size (Zz2 _) (ZyI _) (by omega) (λi hi=>by omega) λi h1 h2=>by omega
theorem Zq5{xs:Array Nat}(h:Zex xs){i:Nat}(hi:i<xs.size):ZyJ xs (xs.getD i 0+1)=i+1:=by
 obtain⟨a,b,c⟩:=ZfE h (xs.getD i 0+1);apply Nat.le_antisymm
 ·apply ZBk
  intro q;have h1:=b (i+1) q;have h2:=h.lt (show i+1<xs.size by omega) (ZAZ i);omega
 ·apply ZBk
  intro q;have h1:=c (ZyJ xs (xs.getD i 0+1)) (ZyI _) (by omega)
  by_cases e:ZyJ xs (xs.getD i 0+1)=i
  ·rw[e]at h1; omega
  ·have:=h.lt hi (show ZyJ xs (xs.getD i 0+1)<i by omega); omega
theorem ZqT{xs:Array Nat}(h:Zex xs):ZyJ xs 0=0:=by obtain⟨a,b,c⟩:=ZfE h 0;apply Nat.eq_zero_of_not_pos;intro q;have:=b 0 q;omega
theorem Zj0{xs:Array Nat}(h:Zex xs){j:Nat}(hn:xs[ZyJ xs j]?≠some j):Zex (Zy2 xs (ZyJ xs j) j):=by
 obtain⟨a,b,c⟩:=ZfE h j;unfold Zex;rw[ZBy];have gt:∀i,ZyJ xs j<=i->i<xs.size->j<xs.getD i 0:=by
  intro i h1 h2
  by_cases e:ZyJ xs j=i
  ·subst e
   have h3:=c _ h1 h2;have:xs.getD (ZyJ xs j) 0≠j:=λq=>hn (by
    have z:xs[ZyJ xs j]?=some (xs.getD (ZyJ xs j) 0):=by simp[ZAH,h2]
    rw[z,q])
   omega
  ·have h3:=h.lt h2 (show ZyJ xs j<i by omega)
   have h4:=c _ (ZyI _) (show ZyJ xs j<xs.size by omega);omega
 rw[List.pairwise_append];refine⟨h.sublist (List.take_sublist ..),Zzq.mpr ⟨λx hx=>?_,h.sublist (List.drop_sublist ..)⟩,λx hx y hy=>?_⟩
 ·obtain⟨i,hi,rfl⟩:=ZA3 hx
  rw[ZAr,Zy0]at hi;rw[List.getElem_drop];have:=gt (ZyJ xs j+i) (by omega) (by omega);simpa [ZAH,show ZyJ xs j+i<xs.size by omega]using this
 ·obtain⟨i,hi,rfl⟩:=ZA3 hx
  rw[ZzO,Zy0]at hi;rw[List.getElem_take];have h1:=b i (by omega);have h1':xs.toList[i]'(by simp; omega)<j:=by simpa [ZAH,show i<xs.size by omega]using h1
  rcases ZyY.mp hy with e | e
  ·rw[e]; exact h1'
  ·obtain⟨k,hk,rfl⟩:=ZA3 e
   rw[ZAr,Zy0]at hk;rw[List.getElem_drop];have h2:=gt (ZyJ xs j+k) (by omega) (by omega);have h2':j<xs.toList[ZyJ xs j+k]'(by simp; omega):=by simpa [ZAH,show ZyJ xs j+k<xs.size by omega]using h2
   exact ZAB h1' h2'
theorem has_none(j:Nat):SetTable.has #[] j=false:=by simp[SetTable.has]
structure Tab(b:Bool)(t:SetTable):Prop where
 dum:t.dummies=#[]
 rise:Zex t.place
 led:t.led=b
 plain:t.plain=true
 low:∀j∈t.place.toList,j<8
 mask:t.mask=if t.place.size<=4 then 7 else 31
theorem Tab.fresh(b:Bool):Tab b (SetTable.fresh 0 0 b):=⟨rfl,.nil,rfl,rfl,λj hj=>by simp[SetTable.fresh]at hj,rfl⟩
theorem Tab.few{b:Bool}{t:SetTable}(h:Tab b t):t.place.size<=8:=by
 have key:∀(l:List Nat) (lo:Nat),l.Pairwise (· < ·)->(∀j∈l,lo<=j/\j<8)->l.length<=8-lo:=by
  intro l
  induction l with
  | nil=>intro lo _ _; simp
  | cons x l ih=>intro lo hp hb;have h1:=hb x (ZyE ..);have h2:=ih (x+1) (Zzq.mp hp).2 λy hy=>⟨(Zzq.mp hp).1 y hy,(hb y (ZyD _ hy)).2⟩;rw[ZyP]; omega
 have:=key t.place.toList 0 h.rise λj hj=>⟨Zz2 _,h.low j hj⟩;simpa using this
theorem ZhZ{b:Bool}{t:SetTable}(h:Tab b t){j:Nat}(hj:j ∉ t.place.toList):t.slot j=.empty/\t.place[ZyJ t.place j]?≠some j:=by have q:t.place[ZyJ t.place j]?≠some j:=λe=>hj (by rw[<-Zzt]at e;exact Zy3 e);unfold SetTable.slot;dsimp only;rw[if_neg (by simpa using q),h.dum,has_none,if_neg (by simp)];exact⟨rfl,q⟩
theorem ZwY{b:Bool}{t:SetTable}(h:Tab b t)(j:Nat):t.put j=({ t with place:=Zy2 t.place (ZyJ t.place j) j },ZyJ t.place j):=by
 unfold SetTable.put;dsimp only;rw[h.dum,has_none];cases t;have:=h.dum
 simp_all
theorem size_insert{α:Type}(xs:Array α)(p:Nat)(x:α):(Zy2 xs p x).size=xs.size+1:=by rw[<-Zy0,(ZAp xs p x).length_eq];simp
theorem Zv5{b:Bool}{t:SetTable}(h:Tab b t){es:Array (Int × Value)}(he:es.size=t.place.size){j:Nat}(h8:j<8)(hj:j ∉ t.place.toList)(v:Value) :
  layNew t es (j:Int) v=(Zy2 es (ZyJ t.place j) ((j:Int),v),{ t with place:=Zy2 t.place (ZyJ t.place j) j },false,false):=by
 obtain⟨e1,e2⟩:=ZhZ h hj;have hfew:=h.few;have hm:t.mask=7\/t.mask=31:=by rw[h.mask]; split<;>simp
 have hbits:ZDp (j:Int) % (t.mask+1)=j:=by
  have hb:ZDp (j:Int)=j:=by unfold ZDp; omega
  rw[hb];rcases hm with e | e<;>rw[e]<;>omega
 have hfree:t.freeSlot (j:Int)=some (j,false):=by
  unfold SetTable.freeSlot SetTable.probe;have hf:10*ZDi t.mask=(10*ZDi t.mask-1)+1:=by unfold ZDi; omega
  rw[hf];unfold SetTable.probe.go;have hp:(t.probeStart (j:Int)).j=j:=hbits;rw[hp,e1];rfl
 have hle:t.place.size<=7:=by
  apply ZBk;intro q;have h8':t.place.size=8:=by omega
  have:=ZAc (l₁:=j::t.place.toList) (l₂:=ZyF 8) (Zzx.mpr ⟨hj,h.rise.imp λq=>ZyX q⟩) (λx hx=>by
   rcases ZyY.mp hx with e | e
   ·rw[e]; exact ZyZ.mpr h8
   ·exact ZyZ.mpr (h.low x e))
  simp at this;omega
 have hfit:(ZBU { t with place:=Zy2 t.place (ZyJ t.place j) j } (Zy2 es (ZyJ t.place j) ((j:Int),v)).size)=true:=by unfold ZBU ZBV;simp only[size_insert,he,h.dum];simp;rw[h.mask];split<;>omega
 unfold layNew;rw[hfree];dsimp only;rw[ZwY h];dsimp only;unfold SetTable.orStandIn;rw[hfit];rfl
theorem Tab.ins{b:Bool}{t:SetTable}(h:Tab b t){j:Nat}(h8:j<8)(hj:j ∉ t.place.toList)(hs:t.place.size≠4):Tab b { t with place:=Zy2 t.place (ZyJ t.place j) j }:=by
 obtain⟨_,e2⟩:=ZhZ h hj;refine⟨h.dum,Zj0 h.rise e2,h.led,h.plain,λx hx=>?_,?_⟩
 ·have:=(ZAp t.place (ZyJ t.place j) j).mem_iff.mp hx
  rw[ZAV]at this;rcases Zy6.mp this with q | q
  ·exact h.low x q
  ·rw[ZyW.mp q]; exact h8
 ·dsimp only
  rw[size_insert,h.mask];split<;>split<;>omega
def ZlI:List (List Nat):=(ZyF 8).flatMap λa=>(ZyF 8).flatMap λb=>(ZyF 8).flatMap λc=>(ZyF 8).flatMap λd=>(ZyF 8).filterMap λe=>if a<b/\b<c/\c<d/\d<e then some [a,b,c,d,e]else none
theorem ZpS{l:List Nat}(h:l.Pairwise (· < ·))(h8:∀j∈l,j<8)(h5:l.length=5):l∈ZlI:=by
 match l,h5 with
 | [a,b,c,d,e],_=>simp at h h8;unfold ZlI;simp only[ZA0,ZyZ,ZzY];refine⟨a,by omega,b,by omega,c,by omega,d,by omega,e,by omega,?_⟩;rw[if_pos (by omega)]
theorem ZvK:∀l∈ZlI,(SetTable.layClean 31 (l.map λ(n:Nat)=>(n:Int)).toArray).map (λowner=>(ZyF 32).filterMap λj=>(owner.getD j none).map (j,·))=some (l.zip (ZyF 5)):=by decide +kernel
end HP
namespace HP
open PySem PyProof.Rows
def Zey(e:Int × Value):Int:=match e.2 with
 | .int n _=>n
 | _=>0
section
variable(prog:Program)(w:World)
def Zo5(es:List (Int × Value)):Prop:=∀e∈es,∃n t,e=((intKind prog w).hash n,ZAv n t)
def ZdG(h:Heap)(a:Addr)(L:List Int):Prop:=∃o es ep t,h.get? a=some o/\o.ExactSet/\o.data=.set es ep t/\Zo5 prog w es.toList/\(es.toList.map Zey).Perm L/\es.toList.map Zey=t.place.toList.map (λ(j:Nat)=>(j:Int))/\Tab (!w.params.followText "set-order") t
end
section
variable{prog:Program}{w:World}{A:Around}{E:Value->Shared->Prop}{s:Shared}{a:Addr}{L:List Int}
theorem Zo5.elems{es:List (Int × Value)}(h:Zo5 prog w es):ElemsOf (intKind prog w) es:=λe he=>by obtain⟨n,t,rfl⟩:=h e he;exact⟨⟨n,ZCN _ _ _ _,rfl⟩,rfl⟩
theorem ZdG.at'{h h':Heap}(x:ZdG prog w h a L)(k:∀o,h.get? a=some o->h'.get? a=some o):ZdG prog w h' a L:=let ⟨o,es,ep,t,e,r⟩:=x; ⟨o,es,ep,t,k o e,r⟩
def stp(L:List Int)(n:Int):List Int:=if L.contains n then L else L++[n]
theorem ZsS{k n:Int}{t:Tok}:(intKind prog w).is k (.int n t)=true↔n=k:=by
 constructor
 ·intro h
  exact(intKind prog w).inj _ _ _ (ZCN _ _ _ _) h
 ·rintro rfl; exact ZCN _ _ _ _
theorem Zib:∀(j:Nat),j<8->(intKind prog w).hash (j:Int)=(j:Int)
 | 0,_=>rfl
 | 1,_=>rfl
 | 2,_=>rfl
 | 3,_=>rfl
 | 4,_=>rfl
 | 5,_=>rfl
 | 6,_=>rfl
 | 7,_=>rfl
 | n+8,h=>by omega
theorem Tab.fits{b:Bool}{t:SetTable}(h:Tab b t):t.fits t.place.size=true:=by have hf:=h.few;unfold ZBU ZBV;rw[h.dum,h.mask];simp;split<;>omega
theorem size_of{es:Array (Int × Value)}{t:SetTable}(h:es.toList.map Zey=t.place.toList.map (λ(j:Nat)=>(j:Int))):es.size=t.place.size:=by have:=congrArg Zzo h;simpa using this
theorem ZkU{h:Heap}{o:Obj}{es es':Array (Int × Value)}{ep:Nat}{t t':SetTable}(ho:h.get? a=some o)(hex:o.ExactSet)(hd:o.data=.set es ep t)(hel:Zo5 prog w es'.toList)(hp:(es'.toList.map Zey).Perm L)
  (hs:es'.toList.map Zey=t'.place.toList.map (λ(j:Nat)=>(j:Int))) (ht:Tab (!w.params.followText "set-order") t') :
  (h.update a (ZBF es' t')).get? a=some { o with data:=.set es' (ep+1) t' }/\ZdG prog w (h.update a (ZBF es' t')) a L:=by
 have hg:(h.update a (ZBF es' t')).get? a=some { o with data:=.set es' (ep+1) t' }:=by
  have:=ZzK (ZBF es' t') ho (by rw[putSet_of es' t' hd]; rfl)
  rwa [putSet_of es' t' hd]at this
 exact⟨hg,_,es',ep+1,t',hg,hex,rfl,hel,hp,hs,ht⟩
theorem Ztw{b:Bool}{t:SetTable}{es:Array (Int × Value)}(hr:Zex t.place)(h8:∀j∈t.place.toList,j<8)(h5:t.place.size=5)(he:es.map (·.1)=(t.place.toList.map (λ(j:Nat)=>(j:Int))).toArray)(hl:t.led=b)(hp:t.plain=true) :
  ∃t',relayAll t es 20=(es,t',false)/\t'.place=t.place/\Tab b t':=by
 have hc:=ZvK _ (ZpS hr h8 (by simpa using h5));obtain⟨owner,o1,o2⟩:=ZyB.mp hc;have hsz:es.size=5:=by have:=congrArg Array.size he;simp at this;omega
 have hlen:t.place.toList.length=5:=by simpa using h5
 have z1:(t.place.toList.zip (ZyF 5)).map (·.1)=t.place.toList:=List.map_fst_zip (by rw[hlen]; simp);have z2:(t.place.toList.zip (ZyF 5)).map (·.2)=ZyF 5:=List.map_snd_zip (by rw[hlen]; simp);have hrl:t.relaid (es.map (·.1)) 20=some ({ mask:=31,place:=t.place,dummies:=#[],finger:=t.finger,led:=t.led,moves:=t.movedTo 31,plain:=t.plain },(ZyF 5).toArray):=by
  unfold SetTable.relaid SetTable.laid;have e31:SetTable.sizeAbove 20-1=31:=by decide
  rw[e31,he,o1];show some _=some _;rw[o2,z1,z2]
 refine⟨{ mask:=31,place:=t.place,dummies:=#[],finger:=t.finger,led:=t.led,moves:=t.movedTo 31,plain:=t.plain },?_,rfl,⟨rfl,hr,hl,hp,h8,?_⟩⟩
 ·unfold relayAll
  rw[hrl];dsimp only;have ef:(ZyF 5).toArray.filterMap (λx=>es[x]?)=es:=by apply Array.toList_inj.mp;rw[Array.toList_filterMap];have:=filterMap_getElem?_range es;rw[hsz]at this;simpa using this
  rw[ef];have ec:coversAll (ZyF 5).toArray es.size=true:=by rw[hsz]; decide
  have et:ZBU { mask:=31,place:=t.place,dummies:=#[],finger:=t.finger,led:=t.led,moves:=t.movedTo 31,plain:=t.plain } es.size=true:=by unfold ZBU ZBV;simp[h5,hsz]
  rw[ec,et];rfl
 ·dsimp only
  rw[h5];rfl
theorem Zti{j:Nat}{tk:Tok}{Q:Bool->Shared->Prop}(h8:j<8)(hX:ZdG prog w s.heap a L)
  (h:∀b h',ZAy a s.heap h'->ZdG prog w h' a (stp L j)->Q b { s with heap:=h' }) :
  wpAny (model prog w) A (setAddHashed a (.int j tk) ((intKind prog w).hash j)) Q E s:=by
 obtain⟨o,es,ep,t,ho,hex,hd,hen,hpm,hpl,ht⟩:=hX;have hel:=hen.elems;have hsc:(ZAv (j:Int) tk).scannable=true:=rfl;have hkey:(intKind prog w).is (j:Int) (.int j tk)=true:=ZCN _ _ _ _;have hsz:=size_of hpl;have hfew:=ht.few;have hf:t.fits es.size=true:=by rw[hsz]; exact ht.fits
 have hsb:scanBound=4096:=rfl;have hb:es.size<scanBound:=by omega
 unfold setAddHashed setAddHashedIn;refine ZzF (Zyy (ZBN ho hd hf ?_));dsimp only;rw[byScan_of hsc hb hel];simp only[↓reduceIte];unfold setAddByScan;refine Zyy (Zyy (wpAny_rule (Zyy (wpAny_setScan_of hkey ho hd hf hel ?_))));cases hr:List.findIdx? (λe=>(intKind prog w).is (j:Int) e.2) es.toList with
 | some i =>
  dsimp only;obtain⟨hi,hpi,_⟩:=List.findIdx?_eq_some_iff_getElem.mp hr;have hmem:(j:Int)∈L:=by refine hpm.mem_iff.mp (ZyN.mpr ⟨es.toList[i],ZAt hi,?_⟩);obtain⟨m,u,e⟩:=hen _ (ZAt hi);rw[e]at hpi ⊢;exact ZsS.mp hpi
  refine ZyC (ZyC ?_);have e:s={ s with heap:=s.heap }:=by cases s; rfl
  have q:=h false s.heap (ZDE a s.heap) ⟨o,es,ep,t,ho,hex,hd,hen,by unfold stp; rw[if_pos (by simpa using hmem)]; exact hpm,hpl,ht⟩;rw[e];exact q
 | none =>
  dsimp only;have hne:∀e∈es.toList,Zey e≠(j:Int):=λe he hv=>by obtain⟨m,u,e1⟩:=hen e he;have no:=List.findIdx?_eq_none_iff.mp hr e he;rw[e1]at no hv;have yes:(intKind prog w).is (j:Int) (.int m u)=true:=ZsS.mpr hv;exact absurd (yes.symm.trans no) (by simp)
  have hnm:(j:Int) ∉ L:=λhm=>by obtain⟨e,he,hv⟩:=ZyN.mp (hpm.mem_iff.mpr hm);exact hne e he hv
  have hj:j ∉ t.place.toList:=λhm=>by
   have:(j:Int)∈es.toList.map Zey:=by rw[hpl]; exact ZyN.mpr ⟨j,hm,rfl⟩
   obtain⟨e,he,hv⟩:=ZyN.mp this;exact hne e he hv
  obtain⟨mk,pl,dm,fg,ld,mv,pn⟩:=t;obtain rfl:pn=true:=ht.plain;obtain rfl:dm=#[]:=ht.dum;rw[Zib j h8,Zv5 ht hsz h8 hj];dsimp only;obtain⟨_,hnj⟩:=ZhZ ht hj;obtain⟨hle,_,_⟩:=ZfE ht.rise j;have hen1:Zo5 prog w (Zy2 es (ZyJ pl j) ((j:Int),ZAv j tk)).toList:=λe he=>by
   have:=(ZAp _ _ _).mem_iff.mp he;rw[ZAV]at this;rcases Zy6.mp this with q | q
   ·exact hen e q
   ·exact⟨j,tk,by rw[Zib j h8]; exact ZyW.mp q⟩
  have hpm1:((Zy2 es (ZyJ pl j) ((j:Int),ZAv j tk)).toList.map Zey).Perm (stp L j):=by unfold stp;rw[if_neg (by simpa using hnm)];refine((ZAp _ _ _).map Zey).trans ?_;rw[ZAV,Zzd];exact hpm.append_right _
  have hpl1:(Zy2 es (ZyJ pl j) ((j:Int),ZAv j tk)).toList.map Zey=(Zy2 pl (ZyJ pl j) j).toList.map (λ(j:Nat)=>(j:Int)):=by rw[ZBy,ZBy,Zzd,Zzd,ZyH,ZyH,ZDq,ZDq,ZDr,ZDr,hpl];rfl
  have hs1:(Zy2 es (ZyJ pl j) ((j:Int),ZAv j tk)).size=es.size+1:=size_insert _ _ _;generalize hE:Zy2 es (ZyJ pl j) ((j:Int),ZAv j tk)=es1 at hen1 hpm1 hpl1 hs1 ⊢;have hz1:es1.size<=sizeLine:=by rw[ZzZ]; omega
  refine Zyy (ZyC ?_);simp only[↓reduceIte];refine Zyy ?_;rw[hashByValue_scannable 8 hsc];refine ZyC ?_;rw[show plainKind (ZAv (j:Int) tk)=true from rfl];simp only[↓reduceIte];show wpAny (model prog w) A (do
    storeSet a es1 (⟨mk,Zy2 pl (ZyJ pl j) j,#[],fg,ld,mv,true⟩:SetTable)
    if(!false&&ZBl (⟨mk,Zy2 pl (ZyJ pl j) j,#[],fg,ld,mv,true⟩:SetTable))=true then _ else _) _ E s
  refine Zyy (wpAny_storeSet_of ho hd ?_ hz1);have hsb1:=ZzI s.heap a (ZBF es1 (⟨mk,Zy2 pl (ZyJ pl j) j,#[],fg,ld,mv,true⟩:SetTable))
  by_cases h4:pl.size=4
  ·have hm:mk=7:=by have q:=ht.mask; dsimp only at q; rw[h4]at q; exact q
   have htf:ZBl (⟨mk,Zy2 pl (ZyJ pl j) j,#[],fg,ld,mv,true⟩:SetTable)=true:=by unfold ZBl ZBV;simp[size_insert,h4,ht.dum,hm]
   have hg:(s.heap.update a (ZBF es1 (⟨mk,Zy2 pl (ZyJ pl j) j,#[],fg,ld,mv,true⟩:SetTable))).get? a=some { o with data:=.set es1 (ep+1) (⟨mk,Zy2 pl (ZyJ pl j) j,#[],fg,ld,mv,true⟩:SetTable) }:=by
    have:=ZzK (ZBF es1 (⟨mk,Zy2 pl (ZyJ pl j) j,#[],fg,ld,mv,true⟩:SetTable)) ho (by rw[putSet_of _ _ hd]; rfl)
    rwa [putSet_of _ _ hd]at this
   have hh:es1.map (·.1)=((Zy2 pl (ZyJ pl j) j).toList.map (λ(j:Nat)=>(j:Int))).toArray:=by
    apply Array.toList_inj.mp;rw[Array.toList_map,<-hpl1];refine Zz9 λe he=>?_;obtain⟨m,u,e1⟩:=hen1 e he;have hm:m∈es1.toList.map Zey:=ZyN.mpr ⟨e,he,by rw[e1]; rfl⟩;rw[hpl1]at hm;obtain⟨k,hk,rfl⟩:=ZyN.mp hm;have hk8:k<8:=by
     have:=(ZAp _ _ _).mem_iff.mp hk;rw[ZAV]at this;rcases Zy6.mp this with q | q
     ·exact ht.low k q
     ·rw[ZyW.mp q]; exact h8
    rw[e1];exact Zib (prog:=prog) (w:=w) k hk8
   obtain⟨t',r1,r2,r3⟩:=Ztw (b:=!w.params.followText "set-order") (t:=(⟨mk,Zy2 pl (ZyJ pl j) j,#[],fg,ld,mv,true⟩:SetTable)) (es:=es1) (Zj0 ht.rise hnj)
    (λk hk=>by
     have:=(ZAp _ _ _).mem_iff.mp hk;rw[ZAV]at this;rcases Zy6.mp this with q | q
     ·exact ht.low k q
     ·rw[ZyW.mp q]; exact h8) (by dsimp only; rw[size_insert,h4]) hh ht.led ht.plain
   have hgr:SetTable.grown es1.size=20:=by rw[hs1,hsz,h4]; rfl
   rw[htf];simp only[Bool.not_false,Bool.and_self,↓reduceIte];rw[hgr,r1];dsimp only;refine Zyy (ZyC (Zyy (wpAny_storeSet_of hg rfl ?_ hz1)));obtain⟨_,hS2⟩:=ZkU (prog:=prog) (t':=t') hg hex rfl hen1 hpm1 (by rw[r2]; exact hpl1) r3;exact ZyC (ZyC (h true _ (hsb1.trans (ZzI _ a _)) hS2))
  ·have htf:ZBl (⟨mk,Zy2 pl (ZyJ pl j) j,#[],fg,ld,mv,true⟩:SetTable)=false:=by
    unfold ZBl ZBV;have q:=ht.mask;dsimp only at q;simp only[size_insert];rw[q];simp;have:=hfew;dsimp only at this;split<;>omega
   rw[htf];simp only[Bool.and_false,ZAw,↓reduceIte];obtain⟨_,hS1⟩:=ZkU (prog:=prog) (t':=(⟨mk,Zy2 pl (ZyJ pl j) j,#[],fg,ld,mv,true⟩:SetTable)) ho hex hd hen1 hpm1 hpl1 (ht.ins h8 hj h4);exact ZyC (ZyC (h true _ hsb1 hS1))
end
section
variable{prog:Program}{w:World}{A:Around}{E:Value->Shared->Prop}{s:Shared}
abbrev Zc3(w:World):Obj:={ cls:=.type "set",dict:=none,data:=.set #[] 0 (.fresh 0 0 (!w.params.followText "set-order")) }
theorem ZmT(v:Value){Q₁:Value->Shared->Prop}(h:Q₁ (.ref s.heap.objs.size) { s with heap:=s.heap.push (Zc3 w) }) :
  codeAny (model prog w) A (.call (.builtin "set.__new__") ⟨[.type "set",v],[]⟩) (wants Q₁ E) s:=by
 refine codeAny_of_tree ?_;show wpAny _ A.in1 (do checkBuiltinCall "set.__new__" ⟨[.type "set",v],[]⟩; again (.builtin "set.__new__" ⟨[.type "set",v],[]⟩)) _ _ s;refine Zyy (ZDd (PySem.F.newCall_set_1 v) (ZyC ⟨ZAS ZDj _,ZzX PySem.F.entry_set_new ?_⟩));rw[ZzE ZDj _];unfold Builtin.«set.__new__» Builtin.Frozenset.newClass;have hsub:=sub_set_self;obtain⟨hp,g,d,tk,os⟩:=s;dsimp only
 wp_walk
 refine ZBm (ZyC ?_);dsimp only;simp only[newObj];exact Zyy (wpAny_alloc (ZyC (ZyC h)))
theorem Ztz(h:Heap):ZdG prog w (h.push (Zc3 w)) h.objs.size [] :=
 ⟨_,#[],0,_,ZyU _ rfl,⟨rfl,rfl,rfl⟩,rfl,λe he=>by simp at he,.nil,rfl,Tab.fresh _⟩
theorem Zig:∀(l acc:List Int) (x:Int),HM.dedup acc (l++[x])=stp (HM.dedup acc l) x
 | [],acc,x=>by show HM.dedup acc [x]=stp acc x;unfold HM.dedup stp;split<;>rfl
 | y::l,acc,x=>by
  show HM.dedup acc (y::(l++[x]))=_;unfold HM.dedup;split
  ·exact Zig l acc x
  ·exact Zig l _ x
variable{R:Result->Shared->Prop}{I:Addr}{fp wr:List Addr}{G:Array GenState->Array GenState->Prop}{P:Nat->Value->Prop}{St:Nat->Shared->Prop}
theorem ZrV{ns:List Int}(W:WalksS prog w A.in1 I fp wr G ns.length P St)(S:Addr)(hSf:S ∉ fp)(hval:∀i v,P i v->∃t,v=.int (ns.getD i 0) t)(hb:∀n∈ns,0<=n/\n<8) :
  ∀(k i:Nat) (s:Shared),ns.length-i=k->i<=ns.length->St i s->ZdG prog w s.heap S (HM.dedup [] (ns.take i)) ->
   (∀s',Moved (S::wr) G s s'->ZdG prog w s'.heap S (HM.dedup [] ns)->R (.ok (.ret .none)) s') ->
   codeAny (model prog w) A (.builtin "set.update.loop" ⟨[.ref S,.ref I],[]⟩) R s:=by
 have hSw:S ∉ wr:=λh=>hSf (W.sub _ h);have hsub:∀b∈wr,b∈S::wr:=λb hb=>ZyD _ hb;intro k
 induction k with
 | zero =>
  intro i s hk hi hst hS hR;obtain rfl:i=ns.length:=by omega
  rw[List.take_length]at hS;refine ZzX F.entry_set_update_loop ?_;rw[ZzE F.plain_set_update_loop _];show wpAny _ A.in1 (pyNext (.ref I) >>= _) _ _ s;refine Zyy (W.done s _ _ hst λs' hm=>?_);show wpAny _ A.in1 (ret ZzC) _ _ s';exact ZyC (hR s' (hm.mono hsub) (hS.at' λo e=>hm.heap S o hSw e))
 | succ k ih =>
  intro i s hk hi hst hS hR;have hlt:i<ns.length:=by omega
  refine ZzX F.entry_set_update_loop ?_;rw[ZzE F.plain_set_update_loop _];show wpAny _ A.in1 (pyNext (.ref I) >>= _) _ _ s;refine Zyy (W.item i s _ _ hlt hst λv s' hP hst' hm=>?_);obtain⟨t,rfl⟩:=hval i v hP;have hS':=hS.at' (h':=s'.heap) λo e=>hm.heap S o hSw e;show wpAny _ A.in1 (holding [ZAv (ns.getD i 0) t] (setAdd S (.int (ns.getD i 0) t)) >>= _) _ _ s';refine Zyy (ZzF ?_);unfold setAdd;refine ZzF (Zyy ((intKind prog w).pyHash (k:=ns.getD i 0) (ZCN _ _ _ _) ?_));have hbi:=hb (ns.getD i 0) (by rw[Zz7,ZyO hlt]; exact ZAt hlt);obtain⟨j,ej⟩:∃j:Nat,ns.getD i 0=(j:Int):=⟨(ns.getD i 0).toNat,by omega⟩;have e:stp (HM.dedup [] (ns.take i)) (ns.getD i 0)=HM.dedup [] (ns.take (i+1)):=by rw[<-Zig,List.take_succ,Zz7];simp[hlt]
  rw[ej]at e hbi ⊢;refine Zti (s:={ s' with toks:=s'.toks+1 }) (by omega) hS' λb h' hsb hS2=>?_;rw[e]at hS2;refine ZyC ⟨ZAS F.plain_set_update_loop _,ih (i+1) _ (by omega) hlt (W.frame _ s' _ _ hst' (Nat.le_succ _) λb hb o e=>?_) hS2 λs'' hm'' hS''=>?_⟩
  ·rw[hsb.2 b (λh:b=S=>hSf (by rw[<-h]; exact hb))]; exact e
  ·refine hR s'' (Moved.trans W.gtrans ((hm.mono hsub).then_heap (Nat.le_succ _) λb o hb e=>?_) hm'') hS''
   rw[hsb.2 b (λh:b=S=>hb (by rw[h]; exact ZyE))]; exact e
set_option maxHeartbeats 3200000 in
theorem Zsn{l:Addr}{items:Array Value}{ns:List Int}{Q:Value->Shared->Prop}(hh:A.handled=none)(hl:s.heap.IsList l items)(hi:IntsAre items.toList ns)(hb:∀n∈ns,0<=n/\n<8)
  (h:∀(h':Heap) (tk:Nat),ZdG prog w h' s.heap.objs.size (HM.dedup [] ns)->(∀b o,b<s.heap.objs.size->s.heap.get? b=some o->h'.get? b=some o)->Q (.ref s.heap.objs.size) { s with heap:=h',toks:=tk }) :
  wpAny (model prog w) A (call (.type "set") [.ref l]) Q E s:=by
 have hsz:items.size=ns.length:=by rw[<-hi.length,Zy0]
 obtain⟨c,tl,hmro⟩:=ZAf.mro;have hmade:=ZAf.made;have hsub:=ZAf.sub;refine wpAny_call (codeAny_of_tree ?_);show wpAny _ _ (callAny (.type "set") _) _ _ _;refine ZyC ⟨Code.quiet_builtin _ (by decide +kernel),ZzX PySem.F.entry_type_call ?_⟩;rw[Around.under_plain (weight_type_call_type "set" [.ref l] []) rfl];have h1:=ZAf.notType;have h2:=ZAf.canCreate;have hct:=PySem.F.typeCall_set_1 (.ref l)
 repeat (any_goals (first | assumption | wp_step))
 refine ZAJ (ZmT (.ref l) (E:=E) (Q₁:=λobj s₁=>obj=.ref s.heap.objs.size/\s₁={ s with heap:=s.heap.push (Zc3 w) }) ⟨rfl,rfl⟩) λr s₁ hr=>?_;cases r with
 | error e=>exact hr
 | ok fl =>
  cases fl with
  | ret obj =>
   obtain⟨rfl,rfl⟩:=hr;have hX:=Ztz (prog:=prog) (w:=w) s.heap;have hS:(s.heap.push (Zc3 w)).get? s.heap.objs.size=some (Zc3 w):=ZyU _ rfl;have hT:Shared.TypeIs { s with heap:=s.heap.push (Zc3 w) } (.ref s.heap.objs.size) "set":=⟨_,hS,rfl⟩;have hli:=ZAf.init.lookup;have hbi:=ZAf.init.bind (.ref s.heap.objs.size)
   repeat (any_goals (first | assumption | wp_step))
   refine ZAJ (codeAny_call_builtin (R:=wants (λr s₂=>r=.none/\∃h' tk,s₂={ s with heap:=h',toks:=tk }/\ZdG prog w h' s.heap.objs.size (HM.dedup [] ns) /\
     (∀b o,b<s.heap.objs.size->s.heap.get? b=some o->h'.get? b=some o)) E) ZAf.init.plain PySem.F.entry_set_init (check_set_init_1 hT ?_)) λr₂ s₂ hr₂=>?_
   ·obtain⟨⟨ocls,odict,odata,oslots⟩,hol,hcl,nl,hdl⟩:=hl
    simp only at hcl hdl;subst hcl; subst hdl;have hol':(s.heap.push (Zc3 w)).get? l=some { cls:=.type "list",dict:=odict,data:=.seq items nl,slots:=oslots }:=ZyG _ hol;have hsls:=PySem.F.sub_list_set;have hslf:=PySem.F.sub_list_frozenset;have hne:(ZBA "list" == ZBA "dict")=false:=by decide
    have hl1:(s.heap.push (Zc3 w)).IsList l items:=⟨_,hol',rfl,nl,rfl⟩;unfold Builtin.«set.__init__» noKeywords Builtin.Frozenset.updateFrom;generalize hPI:pyIter=PI
    wp_walk
    subst hPI;refine ZCE hl1 (Zyy (wpAny_runValue ?_));have hlS:l<s.heap.objs.size:=ZyR hol;have hh3:A.in1.in1.in1.handled=none:=by simp[hh]
    have hneI:l≠(s.heap.push (Zc3 w)).objs.size:=by rw[ZBh]; exact ZyX (ZBf hlS)
    have hSf:s.heap.objs.size ∉ [(s.heap.push (Zc3 w)).objs.size,l]:=by rw[ZBh]; simp only[ZyY,ZyW,List.not_mem_nil,or_false,not_or];exact⟨ZyX (ZAZ _),ZBu hlS⟩
    have Wl:=(Walks.list (prog:=prog) (w:=w) hh3 _ l hneI items).toS;rw[hsz]at Wl;refine ZrV Wl s.heap.objs.size hSf (λi v hv=>IntsAre.int_at hi i v (by rw[Zzt]; exact hv)) hb (ns.length-0) 0 _ (by omega) (Zz2 _)
     ⟨⟨_,ZyU _ rfl,rfl,rfl⟩,hl1.push _⟩ (hX.at' λo e=>ZyG _ e) λs' hm hS'=>?_
    obtain⟨h',g',d',tk',os'⟩:=s';have eg:g'=s.gens:=hm.gens;have ed:d'=s.drawn:=hm.drawn;have eo:os'=s.os:=hm.os;subst eg; subst ed; subst eo
    show wpAny _ _ _ _ _ _;refine ZyC ?_;show wpAny _ _ (ret ZzC) _ _ _;refine ZyC ⟨rfl,h',tk',rfl,hS',λb o hb e=>?_⟩;refine hm.heap b o ?_ (ZyG _ (ZyG _ e));simp only[ZyY,ZyW,List.not_mem_nil,or_false,not_or];exact⟨ZyX hb,by rw[ZBh]; exact ZyX (ZBf hb)⟩
   ·cases r₂ with
    | error e=>exact hr₂
    | ok fl₂ =>
     cases fl₂ with
     | ret r =>
      obtain⟨rfl,h',tk,rfl,hS',hk'⟩:=hr₂
      repeat (any_goals (first | assumption | wp_step))
      exact h _ _ hS' hk'
     | _=>exact hr₂.elim
  | _=>exact hr.elim
end
end HP
namespace HP
open PySem PyProof.Rows
theorem ZcF:Slot "set_iterator" "__next__" "set_iterator.__next__" :=
 .of (owner:="set_iterator") (n:="__next__") (by rw[typeLookup_type,builtinLookup_eq_fast]; kernel_rfl) (by decide +kernel) (by decide +kernel) (by decide +kernel)
  (by first | exact .inl (by decide +kernel) | exact .inr (by decide +kernel)) (by rw[isSubtype_type]; kernel_rfl)
theorem Ziq:entryFor table "set_iterator.__next__" = some Builtin.«set_iterator.__next__»:=entryFor_of_tree (by kernel_rfl)
theorem Zi2:Slot "set_iterator" "__iter__" "set_iterator.__iter__" :=
 .of (owner:="set_iterator") (n:="__iter__") (by rw[typeLookup_type,builtinLookup_eq_fast]; kernel_rfl) (by decide +kernel) (by decide +kernel) (by decide +kernel)
  (by first | exact .inl (by decide +kernel) | exact .inr (by decide +kernel)) (by rw[isSubtype_type]; kernel_rfl)
theorem ZmR:entryFor table "set_iterator.__iter__" = some Builtin.«dict_keyiterator.__iter__» :=
 entryFor_alias (id':="dict_keyiterator.__iter__") (by kernel_rfl) rfl (by decide +kernel) (by kernel_rfl)
theorem ZkW:entryFor table "set.__iter__" = some Builtin.«frozenset.__iter__» :=
 entryFor_alias (id':="frozenset.__iter__") (by kernel_rfl) rfl (by decide +kernel) (by kernel_rfl)
theorem Zn5:Manifest.owners.lookup (String.ofList ['r','o','t','a','r','e','t','i','_','t','e','s'].reverse)=some Manifest.sig_set_iterator:=by kernel_rfl
theorem ZiV(a:Value):argsOk "set_iterator.__next__" ⟨[a],[]⟩:=by unfold argsOk; rw[signature?_of (id:="set_iterator.__next__") (n:=['_','_','t','x','e','n','_','_']) (o:=['r','o','t','a','r','e','t','i','_','t','e','s']) (by kernel_rfl) Zn5]; kernel_rfl
theorem Zo4(a:Value):argsOk "set_iterator.__iter__" ⟨[a],[]⟩:=by unfold argsOk; rw[signature?_of (id:="set_iterator.__iter__") (n:=['_','_','r','e','t','i','_','_']) (o:=['r','o','t','a','r','e','t','i','_','t','e','s']) (by kernel_rfl) Zn5]; kernel_rfl
theorem Zk9{α:Type}:∀(l:List α) (i:Nat) (h:i<l.length),(l[i]::l.eraseIdx i).Perm l
 | x::l,0,_=>.refl _
 | x::l,i+1,h=>by
  have h':i<l.length:=by simpa using h
  show(l[i]::x::l.eraseIdx i).Perm (x::l);exact(List.Perm.swap x l[i] _).trans ((Zk9 l i h').cons x)
theorem Zmf{α:Type}(next:Nat->Nat):∀(n k:Nat) (left:List α) (out:Array α),left.length=n->(ZC5.go next n k left out).toList.Perm (out.toList++left)
 | 0,k,left,out,h=>by rw[ZAd h,Zzb];exact .refl _
 | n+1,k,left,out,h=>by
  have hl:next k % left.length<left.length:=Nat.mod_lt _ (by omega)
  unfold ZC5.go;rw[ZyO hl];dsimp only;refine(Zmf next n (k+1) _ _ (by rw[List.length_eraseIdx_of_lt hl]; omega)).trans ?_
  rw[ZAV,ZzT];refine List.Perm.append_left _ ?_;exact Zk9 left _ hl
theorem Zll{α:Type}(next:Nat->Nat)(xs:Array α):(ZC5 next xs).toList.Perm xs.toList:=by
 have:=Zmf next xs.size 0 xs.toList #[] (by simp)
 simpa [ZC5]using this
end HP
namespace HP
open PySem PyProof.Rows
structure Zet(w:World)(h:Heap)(a:Addr)(es:Array (Int × Value))(ep:Nat)(t:SetTable):Prop where
 obj:∃o,h.get? a=some o/\o.ExactSet/\o.data=.set es ep t
 fit:t.fits es.size=true
 siz:es.size=t.place.size
 tab:Tab (!w.params.followText "set-order") t
theorem Zet.at'{w:World}{h h':Heap}{a:Addr}{es:Array (Int × Value)}{ep:Nat}{t:SetTable}(x:Zet w h a es ep t)(k:∀o,h.get? a=some o->h'.get? a=some o):Zet w h' a es ep t :=
 ⟨let ⟨o,e,r⟩:=x.obj; ⟨o,k o e,r⟩,x.fit,x.siz,x.tab⟩
def ZdY(w:World)(a:Addr)(es:Array (Int × Value))(ep:Nat):Array (Int × Value):=if w.params.followText "set-order" then ZC5 (w.params.setOrder a ep) es else es
theorem ZiY(w:World)(a:Addr)(es:Array (Int × Value))(ep:Nat):(ZdY w a es ep).toList.Perm es.toList:=by
 unfold ZdY; split
 ·exact Zll _ _
 ·exact .refl _
theorem Zi4(w:World)(a:Addr)(es:Array (Int × Value))(ep:Nat):(ZdY w a es ep).size=es.size:=by have:=(ZiY w a es ep).length_eq;simpa using this
def Zhb(h:Heap)(it a:Addr)(slot i n ep:Nat):Prop:=∃o,h.get? it=some o/\o.cls=.type "set_iterator"/\o.data=.fields #[.int slot 0,.int i 0,.ref a,.int n 0,.int ep 0]
theorem Zhb.typeIs{s:Shared}{it a:Addr}{slot i n ep:Nat}(x:Zhb s.heap it a slot i n ep):s.TypeIs (.ref it) "set_iterator":=let ⟨o,ho,hc,_⟩:=x; ⟨o,ho,hc⟩
theorem Zhb.at'{h h':Heap}{it a:Addr}{slot i n ep:Nat}(x:Zhb h it a slot i n ep)(k:∀o,h.get? it=some o->h'.get? it=some o):Zhb h' it a slot i n ep:=let ⟨o,e,r⟩:=x; ⟨o,k o e,r⟩
section
variable{prog:Program}{w:World}{A:Around}{E:Value->Shared->Prop}{s:Shared}{it a:Addr}{es:Array (Int × Value)}{ep:Nat}{t:SetTable}
theorem Zuh{Q:Value->Shared->Prop}(x:Zet w s.heap a es ep t)
  (hQ:Q (.ref s.heap.objs.size) { s with heap:=s.heap.push { cls:=.type "set_iterator",data:=.fields #[.int 0 0,.int 0 0,.ref a,.int es.size 0,.int ep 0] } }) :
  wpAny (model prog w) A (pyIter (.ref a)) Q E s:=by
 obtain⟨o,ho,hex,hd⟩:=x.obj;have hT:s.TypeIs (.ref a) "set":=⟨o,ho,hex.1⟩;refine ZCG hT ZDk (ZzP ZDk hT ZkW ?_ (PySem.F.args_set_iter_1 _));unfold Builtin.«frozenset.__iter__» Builtin.Frozenset.slot0 slotArgs Builtin.Frozenset.addrOf Builtin.Frozenset.sizeOf;refine Zyy (Zyy (ZyC (ZyC ?_)));dsimp only;refine Zyy (Zyy (ZCf ho hd x.fit (ZyC ?_)));have hdr:∀{R:Bool->Shared->Prop} {A':Around} {E':Value->Shared->Prop},R false s->wpAny (model prog w) A' (setDrawn a) R E' s:=λ{R A' E'} hR=>by unfold setDrawn setsByText;refine Zyy (ZBN ho hd x.fit (Zyy (Zyy (ZBm (ZyC (ZyC ?_))))));obtain⟨mk,pl,dm,fg,ld,mv,pn⟩:=t;obtain rfl:pn=true:=x.tab.plain;show R (!_&&(!true&&_)) s;simpa using hR
 refine Zyy (hdr ?_);rw[if_neg (by simp)];refine Zyy (ZyC (Zyy (wpAny_setEpoch_of ho hd x.fit ?_)));show wpAny (model prog w) A.in1 (newFields "set_iterator" [rawInt 0,rawInt 0,Zzr a,rawInt (es.size:Int),rawInt (ep:Int)] >>= _) _ E s;refine Zyy (Zzi (ZyC ⟨_,rfl,"set_iterator",_,⟨_,ZyU _ rfl,rfl⟩,ZcF.lookup,?_⟩));simpa [rawInt]using hQ
theorem Zj1{slot i:Nat}{R:Option (Value × Nat)->Shared->Prop}(x:Zet w s.heap a es ep t)(hs:w.params.followText "set-order" = false->ZyJ t.place slot=i)
  (hR:R ((ZdY w a es ep)[i]?.map λe=>(e.2,if w.params.followText "set-order" then slot else t.place.getD i 0+1)) s):wpAny (model prog w) A (setNext a slot i ep) R E s:=by
 obtain⟨o,ho,hex,hd⟩:=x.obj;unfold setNext setsByText;refine Zyy (ZBN ho hd x.fit ?_);dsimp only;refine Zyy (Zyy (ZBm (ZyC ?_)));dsimp only;cases hb:w.params.followText "set-order" with
 | true=>have hb':(model prog w).w.params.followText "set-order" = true:=hb;rw[hb',if_pos rfl];unfold ZdY at hR;rw[hb,if_pos rfl]at hR;simp only[if_pos]at hR;refine ZAO (λq=>absurd q (by simp)) λ_=>?_;unfold setWalk setsByText;refine Zyy (Zyy (ZBN ho hd x.fit ?_));dsimp only;refine Zyy (Zyy (ZBm (ZyC ?_)));dsimp only;rw[hb',if_pos rfl];exact Zyy (ZBm (ZyC (ZyC hR)))
 | false =>
  have hb':(model prog w).w.params.followText "set-order" = false:=hb;rw[hb',if_neg (by simp)];unfold ZdY at hR;rw[hb]at hR;simp only[ZAw,if_false]at hR;have hi:=hs hb;have hled:t.led=true:=by rw[x.tab.led,hb]; rfl
  have hsz:=x.siz;obtain⟨mk,pl,dm,fg,ld,mv,pn⟩:=t;obtain rfl:pn=true:=x.tab.plain;obtain rfl:ld=true:=hled;refine ZAO (λq=>absurd (show(!true&&_)=true from q) (by simp)) λ_=>?_;refine Zyy ?_;refine ZAO (λq=>absurd (show(!true&&_)=true from q) (by simp)) λ_=>?_;refine ZyC ?_;dsimp only at hi hsz ⊢;rw[hi];refine ZyC ?_
  by_cases hlt:i<es.size
  ·have h1:es[i]?=some es[i]:=ZAX hlt
   have h2:pl[i]?=some (pl.getD i 0):=by simp[ZAH,show i<pl.size by omega]
   rw[h1]at hR ⊢;rw[h2];exact hR
  ·have h1:es[i]?=none:=ZBS (by omega)
   rw[h1]at hR ⊢;exact hR
theorem Ztb{slot i:Nat}{e:Int × Value}{Q:Option Value->Shared->Prop}(hit:Zhb s.heap it a slot i es.size ep)(x:Zet w s.heap a es ep t)(hs:w.params.followText "set-order" = false->ZyJ t.place slot=i)(he:(ZdY w a es ep)[i]?=some e)
  (hQ:∀h',Zhb h' it a (if w.params.followText "set-order" then slot else t.place.getD i 0+1) (i+1) es.size ep->ZAy it s.heap h'->Q (some e.2) { s with heap:=h' }) :
  wpAny (model prog w) A (pyNext (.ref it)) Q E s:=by
 obtain⟨o,ho,hc,hd⟩:=id hit;obtain⟨os,hos,hex,hds⟩:=x.obj;unfold pyNext;refine Zyy (ZCx (wpAny_callSpecial?_slot (name:=ZAL "__next__") hit.typeIs ZcF
  (ZzP ZcF hit.typeIs Ziq ?_ (ZiV _))))
 unfold Builtin.«set_iterator.__next__» slotArgs;refine Zyy (ZyC ?_);dsimp only;refine Zyy (ZCl ho hd ?_);dsimp only;refine Zyy (ZCf hos hds x.fit ?_);refine ZAO (λq=>absurd q (by simp)) λ_=>?_;simp only[ZAD];refine Zyy (Zj1 x hs ?_);rw[he];dsimp only[Option.map_some];refine Zyy (ZBG ho hd (by simp) ?_);have g1:(s.heap.update it (ZDs (·.setIfInBounds 0 (rawInt ((if w.params.followText "set-order" = true then slot else t.place.getD i 0+1:Nat):Int))))).get? it=some _:=ZzK _ ho (ZB1 (ZAg hd _));refine Zyy (ZBG g1 (ZAg hd _) (by simp) ?_);refine ZyC ⟨_,rfl,ZyC (hQ _ ⟨_,ZzK _ g1 (ZB1 (ZAg (ZAg hd _) _)),?_,?_⟩ ((ZzI ..).trans (ZzI ..)))⟩
 ·rw[ZCH,ZCH]; exact hc
 ·rw[ZAg (ZAg hd _)]; simp[rawInt]
theorem ZtG{slot i:Nat}{Q:Option Value->Shared->Prop}(hh:A.handled=none)(hit:Zhb s.heap it a slot i es.size ep)(x:Zet w s.heap a es ep t)(hs:w.params.followText "set-order" = false->ZyJ t.place slot=i)(he:es.size<=i)
  (hQ:∀h',Heap.ExtBut it s.heap h'->Q none { s with heap:=h' }):wpAny (model prog w) A (pyNext (.ref it)) Q E s:=by
 obtain⟨o,ho,hc,hd⟩:=id hit;obtain⟨os,hos,hex,hds⟩:=x.obj;have hn:(ZdY w a es ep)[i]?=none:=ZBS (by rw[Zi4]; exact he);unfold pyNext;refine Zyy (ZCx (wpAny_callSpecial?_slot (name:=ZAL "__next__") hit.typeIs ZcF
  (ZzP ZcF hit.typeIs Ziq ?_ (ZiV _))))
 unfold Builtin.«set_iterator.__next__» slotArgs;refine Zyy (ZyC ?_);dsimp only;refine Zyy (ZCl ho hd ?_);dsimp only;refine Zyy (ZCf hos hds x.fit ?_);refine ZAO (λq=>absurd q (by simp)) λ_=>?_;simp only[ZAD];refine Zyy (Zj1 x hs ?_);rw[hn];dsimp only[Option.map_none];refine Zyy (ZBG ho hd (by simp) ?_);refine Zyy ?_;simp only[newExc,newTuple];refine Zyy (Zzi ?_ (by size_fits));refine Zyy (m:=ZCm _ _) (ZDd (a:=ZzC) (by first | rfl | (simp only[ZCm]; rfl)) ?_)
 refine Zzi ?_ (by size_fits);simp only[raiseNew];refine Zyy (wpAny_handled ?_);rw[show A.in1.handled=none from hh];refine Zyy (ZyC (wpAny_throw ?_));refine Zyy (ZCV (T:="StopIteration") (b:=true) ⟨_,ZyU _ rfl,rfl⟩ isSubtype_stop ?_);exact ZyC (hQ _ (((ZzI ..).extBut.push _).push _))
theorem Zt7{slot i n:Nat}{Q:Value->Shared->Prop}(hit:Zhb s.heap it a slot i n ep)(h:Q (.ref it) s):wpAny (model prog w) A (pyIter (.ref it)) Q E s:=by refine ZCG hit.typeIs Zi2 (ZzP Zi2 hit.typeIs ZmR ?_ (Zo4 _));show wpAny _ _ (ret (.ref it)) _ _ s;exact ZyC ⟨_,rfl,"set_iterator",_,hit.typeIs,ZcF.lookup,h⟩
theorem ZsU(hh:A.handled=none)(I a:Addr)(hne:a≠I)(es:Array (Int × Value))(ep:Nat)(t:SetTable) :
  Walks prog w A I [I,a] [I] es.size (λi v=>∃e,(ZdY w a es ep)[i]?=some e/\v=e.2) (λi h=>∃slot,Zhb h I a slot i es.size ep/\Zet w h a es ep t/\(w.params.followText "set-order" = false->ZyJ t.place slot=i)) where
 sub:=λb hb=>by simp at hb; simp[hb]
 frame:=λ_ _ _ ⟨slot,h1,h2,h3⟩ hk=>⟨slot,h1.at' λo e=>hk I (by simp) o e,h2.at' λo e=>hk a (by simp) o e,h3⟩
 item:=λi s Q E hi ⟨slot,h1,h2,h3⟩ hQ=>by
  have hlt:i<(ZdY w a es ep).size:=by rw[Zi4]; exact hi
  have hx:(ZdY w a es ep)[i]?=some (ZdY w a es ep)[i]:=ZAX hlt;refine Ztb h1 h2 h3 hx λh' hit' hs'=>?_;refine hQ _ h' s.toks ⟨_,hx,rfl⟩ ⟨_,hit',h2.at' λo e=>hs'.extBut a o hne e,λhb=>?_⟩ λb o hb e=>hs'.extBut b o (λh=>hb (by simp[h])) e;rw[hb];exact Zq5 h2.tab.rise (by rw[<-h2.siz]; exact hi)
 done:=λs Q E ⟨slot,h1,h2,h3⟩ hQ=>ZtG hh h1 h2 h3 (ZyI _) λh' he'=>hQ h' s.toks λb o hb e=>he' b o (λh=>hb (by simp[h])) e
 self:=λ_ _ _ _ ⟨slot,h1,_⟩ hQ=>Zt7 h1 hQ
end
end HP
namespace HP
open PySem PySem.W PyProof.Rows
section
variable{α β:Type}
def ZcJ(o:Nat->Nat->Bool)(n:Nat):KasT α->(α->Prop)->Prop
 | .ret a,Q=>Q a
 | .ask i j k,Q=>i<n/\j<n/\ZcJ o n (k (o i j)) Q
theorem ZcJ.bnd{o:Nat->Nat->Bool}{n:Nat}{f:α->KasT β}{Q:β->Prop}:∀(t:KasT α),ZcJ o n t (λa=>ZcJ o n (f a) Q)->ZcJ o n (t.bind f) Q
 | .ret a,h=>h
 | .ask i j k,h=>⟨h.1,h.2.1,ZcJ.bnd (k (o i j)) h.2.2⟩
end
structure Pm(n:Nat)(p:Array Nat):Prop where
 pos:0<n
 perm:p.Perm (List.toArray (ZyF n))
theorem Pm.size{n:Nat}{p:Array Nat}(h:Pm n p):p.size=n:=by have:=h.perm.size_eq;simpa using this
theorem Pm.lt{n:Nat}{p:Array Nat}(h:Pm n p)(i:Nat):p.getD i 0<n:=by
 by_cases hi:i<p.size
 ·have e:p.getD i 0=p[i]:=by simp[ZAH,hi]
  rw[e];have:=(ZCy.mp h.perm).mem_iff (a:=p[i]);have h2:=this.mp (by simp);simpa using h2
 ·have e:p.getD i 0=0:=by simp[ZAH,hi]
  rw[e]; exact h.pos
theorem Pm.rev{n:Nat}{p:Array Nat}(h:Pm n p)(i j:Nat):Pm n (kas_rev p i j):=⟨h.pos,(mirror_perm _ _ _ _).trans h.perm⟩
theorem Pm.bub{n:Nat}{p:Array Nat}(h:Pm n p)(i j:Nat):Pm n (bubble p i j):=⟨h.pos,(bubble_perm _ _ _).trans h.perm⟩
theorem getD_eq?(p:Array Nat)(i:Nat):p.getD i 0=(p[i]?).getD 0:=by simp[Array.getD_eq_getD_getElem?]
section
variable(O:KeyOrd)(key:Nat->O.α)
def Ka(p:Array Nat)(i:Nat):O.α:=key (p.getD i 0)
def Up(p:Array Nat)(k:Nat):Prop:=∀i j,i<=j->j<k->O.kle (Ka O key p i) (Ka O key p j)
def Dn(p:Array Nat)(k:Nat):Prop:=∀i j,i<=j->j<k->O.kle (Ka O key p j) (Ka O key p i)
def Ev(p:Array Nat)(m q:Nat):Prop:=∀i,m-(q+1)<=i->i<m->Ka O key p i=Ka O key p (m-1)
abbrev orc:Nat->Nat->Bool:=λi j=>O.blt (key i) (key j)
variable{O key}{p:Array Nat}{n:Nat}
theorem Zo1{i j:Nat}(hj:j<=p.size)(k:Nat):Ka O key (kas_rev p i j) k=if i<=k/\k<j then Ka O key p (i+j-1-k)else Ka O key p k:=by unfold Ka kas_rev;rw[getD_eq?,getElem?_mirror_all hj];split<;>rw[<-getD_eq?]
theorem Zje{i j:Nat}(hj:j<=p.size)(h:∀k,i<=k->k<j->Ka O key p k=Ka O key p (j-1))(k:Nat):Ka O key (kas_rev p i j) k=Ka O key p k:=by
 rw[Zo1 hj];split
 ·rename_i hk
  rw[h _ (by omega) (by omega),h k hk.1 hk.2]
 ·rfl
theorem ZsL{s d:Nat}(hs:s<p.size)(hd:d<=s)(k:Nat):Ka O key (bubble p s d) k=if k=s-d then Ka O key p s else if s-d<k/\k<=s then Ka O key p (k-1)else Ka O key p k:=by
 unfold Ka;rw[getD_eq?,getElem?_bubble hs d hd]
 by_cases h1:k=s-d
 ·rw[if_pos h1,if_pos h1,<-getD_eq?]
 ·rw[if_neg h1,if_neg h1]
  by_cases h2:s-d<k/\k<=s
  ·rw[if_pos h2,if_pos h2,<-getD_eq?]
  ·rw[if_neg h2,if_neg h2,<-getD_eq?]
theorem Up.one:Up O key p 1:=λi j h1 h2=>by
 obtain rfl:i=j:=by omega
 exact ZBb _
theorem Up.more{k:Nat}(h:Up O key p k)(hl:O.kle (Ka O key p (k-1)) (Ka O key p k)):Up O key p (k+1):=λi j h1 h2=>by
 by_cases hj:j<k
 ·exact h i j h1 hj
 obtain rfl:j=k:=by omega
 by_cases hi:i=j
 ·subst hi; exact ZBb _
 ·exact ZBY (h i (j-1) (by omega) (by omega)) hl
theorem Dn.more{k:Nat}(h:Dn O key p k)(hl:O.kle (Ka O key p k) (Ka O key p (k-1))):Dn O key p (k+1):=λi j h1 h2=>by
 by_cases hj:j<k
 ·exact h i j h1 hj
 obtain rfl:j=k:=by omega
 by_cases hi:i=j
 ·subst hi; exact ZBb _
 ·exact ZBY hl (h i (j-1) (by omega) (by omega))
theorem Dn.same{p':Array Nat}{k:Nat}(h:Dn O key p k)(e:∀i,Ka O key p' i=Ka O key p i):Dn O key p' k:=λi j h1 h2=>by rw[e,e]; exact h i j h1 h2
theorem Zkm(hp:Pm n p){Q:Nat->Prop}:∀(f m:Nat),Up O key p m->(∀m',m<=m'->m'<=m+f->Up O key p m'->(m'=m+f\/O.klt (Ka O key p m') (Ka O key p (m'-1)))->Q m')->ZcJ (orc O key) n (kas_asc p f m) Q
 | 0,m,hu,hq=>hq m (ZyI _) (by omega) hu (.inl rfl)
 | f+1,m,hu,hq=>by
  refine⟨hp.lt _,hp.lt _,?_⟩;dsimp only;split
  ·rename_i h
   exact hq m (ZyI _) (by omega) hu (.inr h)
  ·rename_i h
   refine Zkm hp f (m+1) (hu.more (ZAP h)) λm' h1 h2 h3 h4=>hq m' (by omega) (by omega) h3 (h4.imp (λe=>by omega) id)
theorem ZgF{Q:Array Nat × Nat × Nat->Prop}:∀(f:Nat) (p:Array Nat) (m q:Nat),Pm n p->Dn O key p m->q+1<=m->Ev O key p m q->m+f<=n ->
  (∀p' m' q',Pm n p'->m<=m'->m'<=m+f->Dn O key p' m'->q'+1<=m'->Ev O key p' m' q'->Q (p',m',q'))->ZcJ (orc O key) n (kas_desc f p m q) Q
 | 0,p,m,q,hp,hd,h1,he,hn,hq=>hq p m q hp (ZyI _) (by omega) hd h1 he
 | f+1,p,m,q,hp,hd,h1,he,hn,hq=>by
  have hz:m<=p.size:=by rw[hp.size]; omega
  have e0:∀p',Ev O key p' (m+1) 0:=λp' i h1 h2=>by congr 1; omega
  refine⟨hp.lt _,hp.lt _,?_⟩;dsimp only;split
  ·rename_i h
   have hd':=hd.more (ZBO h);split
   ·exact ZgF f _ (m+1) 0 (hp.rev _ _) (hd'.same (Zje hz he)) (by omega) (e0 _) (by omega) λp' m' q' a b c d e g=>hq p' m' q' a (by omega) (by omega) d e g
   ·exact ZgF f _ (m+1) 0 hp hd' (by omega) (e0 _) (by omega) λp' m' q' a b c d e g=>hq p' m' q' a (by omega) (by omega) d e g
  ·rename_i h
   refine⟨hp.lt _,hp.lt _,?_⟩;dsimp only;split
   ·exact hq p m q hp (ZyI _) (by omega) hd h1 he
   ·rename_i h'
    have l1:=ZAP h;have l2:=ZAP h';have ee:Ka O key p m=Ka O key p (m-1):=ZDu l2 l1;refine ZgF f p (m+1) (q+1) hp (hd.more l2) (by omega) (λi a b=>?_) (by omega) λp' m' q' a b c d e g=>hq p' m' q' a (by omega) (by omega) d e g;rw[show m+1-1=m by omega]
    by_cases hi:i=m
    ·rw[hi]
    ·rw[ee]; exact he i (by omega) (by omega)
theorem Zme{Q:Nat × Array Nat->Prop}{m:Nat}(hp:Pm n p)(hd:Dn O key p m)(h1:1<=m)(hm:m<=n)(hq:∀m' p',1<=m'->m'<=n->Pm n p'->Up O key p' m'->Q (m',p')):ZcJ (orc O key) n (kas_tail3 m n p) Q:=by
 have hz:m<=p.size:=by rw[hp.size]; omega
 refine ZcJ.bnd _ (Zkm (hp.rev 0 m) (n-m) m (λi j a b=>?_) λm' a b c _=>hq m' _ (by omega) (by omega) (hp.rev 0 m) c);rw[Zo1 hz,Zo1 hz,if_pos (by omega),if_pos (by omega)];exact hd _ _ (by omega) (by omega)
theorem Zl0{Q:Nat × Array Nat->Prop}{m:Nat}(hp:Pm n p)(hd:Dn O key p (m+1))(hm:m+1<=n)(hq:∀m' p',1<=m'->m'<=n->Pm n p'->Up O key p' m'->Q (m',p')):ZcJ (orc O key) n (kas_descPart m n p) Q:=by
 refine ZcJ.bnd _ (ZgF (n-(m+1)) p (m+1) 0 hp hd (by omega) (λi a b=>by congr 1; omega) (by omega) λp' m' q' h1 h2 h3 h4 h5 h6=>?_);have hz:m'<=p'.size:=by rw[h1.size]; omega
 dsimp only;split
 ·exact Zme (h1.rev _ _) (h4.same (Zje hz h6)) (by omega) (by omega) hq
 ·exact Zme h1 h4 (by omega) (by omega) hq
theorem ZqS{Q:Nat × Array Nat->Prop}(hp:Pm n p)(hq:∀m' p',1<=m'->m'<=n->Pm n p'->Up O key p' m'->Q (m',p')):ZcJ (orc O key) n (kas_count n p) Q:=by
 have h0:=hp.pos;refine ZcJ.bnd _ (Zkm hp (n-1) 1 Up.one λm h1 h2 h3 h4=>?_);have hz:m<=p.size:=by rw[hp.size]; omega
 split
 ·exact hq m p (by omega) (by omega) hp h3
 ·rename_i hne
  have hne':m≠n:=by simpa using hne
  have hlt:O.klt (Ka O key p m) (Ka O key p (m-1)):=h4.resolve_left (by omega);split
  ·rename_i hm
   refine⟨hp.lt _,hp.lt _,?_⟩;dsimp only;split
   ·exact hq m p (by omega) (by omega) hp h3
   ·rename_i hr
    have hr':O.kle (Ka O key p (m-1)) (Ka O key p 0):=ZAP hr;have all:∀k,0<=k->k<m->Ka O key p k=Ka O key p (m-1):=λk _ hk=>ZDu (h3 k (m-1) (by omega) (by omega)) (ZBY hr' (h3 0 k (by omega) hk));refine Zl0 (hp.rev _ _) (Dn.same ?_ (Zje hz all)) (by omega) hq;refine Dn.more (λi j a b=>?_) (ZBO hlt);rw[all i (by omega) (by omega),all j (by omega) b]; exact ZBb _
  ·obtain rfl:m=1:=by omega
   refine Zl0 hp (Dn.more (λi j a b=>?_) (ZBO hlt)) (by omega) hq;obtain rfl:i=j:=by omega
   exact ZBb _
theorem Zid{Q:Nat->Prop}{k:Nat}(hp:Pm n p)(hu:Up O key p k):∀(f l r:Nat),l<=r->r<=k->r-l<=f->(∀i,i<l->O.kle (Ka O key p i) (Ka O key p k))->(∀i,r<=i->i<k->O.klt (Ka O key p k) (Ka O key p i)) ->
  (∀l,l<=k->(∀i,i<l->O.kle (Ka O key p i) (Ka O key p k))->(∀i,l<=i->i<k->O.klt (Ka O key p k) (Ka O key p i))->Q l)->ZcJ (orc O key) n (kas_place p k f l r) Q
 | 0,l,r,h1,h2,h3,lo,hi,hq=>by
  obtain rfl:l=r:=by omega
  exact hq l h2 lo hi
 | f+1,l,r,h1,h2,h3,lo,hi,hq=>by
  unfold kas_place;split
  ·obtain rfl:l=r:=by omega
   exact hq l h2 lo hi
  ·refine⟨hp.lt _,hp.lt _,?_⟩
   dsimp only;split
   ·rename_i h
    exact Zid hp hu f l ((l+r) / 2) (by omega) (by omega) (by omega) lo (λi a b=>KeyOrd.klt_of_klt_of_kle h (hu _ _ a b)) hq
   ·rename_i h
    refine Zid hp hu f ((l+r) / 2+1) r (by omega) (by omega) (by omega) (λi a=>ZBY (hu i ((l+r) / 2) (by omega) (by omega)) (ZAP h)) hi hq
theorem ZoM{Q:Array Nat->Prop}:∀(f:Nat) (p:Array Nat) (k:Nat),Pm n p->Up O key p k->k+f=n->(∀p',Pm n p'->Up O key p' n->Q p')->ZcJ (orc O key) n (kas_bin f p k) Q
 | 0,p,k,hp,hu,hn,hq=>by
  obtain rfl:k=n:=by omega
  exact hq p hp hu
 | f+1,p,k,hp,hu,hn,hq=>by
  refine ZcJ.bnd _ (Zid hp hu k 0 k (by omega) (ZyI _) (by omega) (λi a=>by omega) (λi a b=>by omega) λl hl lo hi=>?_);refine ZoM f _ (k+1) (hp.bub _ _) (λi j a b=>?_) (by omega) hq;have hk:k<p.size:=by rw[hp.size]; omega
  rw[ZsL hk (by omega),ZsL hk (by omega),show k-(k-l)=l by omega]
  repeat' split
  all_goals first
   | (exfalso; omega)
   | exact ZBb _
   | exact lo _ (by omega)
   | exact ZBO (hi _ (by omega) (by omega))
   | exact hu _ _ (by omega) (by omega)
theorem ZrS(hn:0<n){Q:Array Nat->Prop}(hq:∀p,Pm n p->Up O key p n->Q p):ZcJ (orc O key) n (kas_sort n) Q:=by
 refine ZcJ.bnd _ (ZqS ⟨hn,.refl _⟩ λm p h1 h2 h3 h4=>?_);dsimp only;rw[show max m 1=m by omega];split
 ·exact ZoM _ p m h3 h4 (by omega) hq
 ·exact hq p h3 (by rwa [show n=m by omega])
end
theorem lex_irrefl:∀a:List Int,HM.lexLt a a=false
 | []=>rfl
 | x::a=>by show(if x=x then HM.lexLt a a else decide (x<x))=false;rw[if_pos rfl]; exact lex_irrefl a
theorem Zgc(x y:Int)(a b:List Int):HM.lexLt (x::a) (y::b)=if x=y then HM.lexLt a b else decide (x<y):=rfl
theorem lex_trans:∀a b c:List Int,HM.lexLt a b=true->HM.lexLt b c=true->HM.lexLt a c=true
 | [],[],_,h,_=>by cases h
 | [],_::_,[],_,h=>by cases h
 | [],_::_,_::_,_,_=>rfl
 | _::_,[],_,h,_=>by cases h
 | _::_,_::_,[],_,h=>by cases h
 | x::a,y::b,z::c,h1,h2=>by
  rw[Zgc]at *;split at h1
  ·rename_i e
   subst e;split at h2
   ·rename_i e; subst e; rw[if_pos rfl]; exact lex_trans a b c h1 h2
   ·rename_i e; rw[if_neg e]; exact h2
  ·split at h2
   ·rename_i e1 e2; subst e2; rw[if_neg e1]; exact h1
   ·rename_i e1 e2
    have h1:=of_decide_eq_true h1;have h2:=of_decide_eq_true h2;rw[if_neg (by omega)]; exact decide_eq_true (by omega)
theorem Zlt:∀a b c:List Int,HM.lexLt a c=true->HM.lexLt a b=true\/HM.lexLt b c=true
 | [],[],_,h=>.inr h
 | [],_::_,_,_=>.inl rfl
 | _::_,_,[],h=>by cases h
 | _::_,[],_::_,_=>.inr rfl
 | x::a,y::b,z::c,h=>by
  rw[Zgc]at *;rw[Zgc];split at h
  ·rename_i e
   subst e
   by_cases e:x=y
   ·subst e; rw[if_pos rfl,if_pos rfl]; exact Zlt a b c h
   ·rw[if_neg e,if_neg (ZzB e)]
    by_cases q:x<y
    ·exact .inl (decide_eq_true q)
    ·exact .inr (decide_eq_true (by omega))
  ·rename_i e
   have h:=of_decide_eq_true h
   by_cases e1:x=y
   ·subst e1; rw[if_neg e]; exact .inr (decide_eq_true h)
   ·rw[if_neg e1]
    by_cases q:x<y
    ·exact .inl (decide_eq_true q)
    ·rw[if_neg (by omega)]; exact .inr (decide_eq_true (by omega))
theorem Zjj:∀a b:List Int,HM.lexLt a b=false->HM.lexLt b a=false->a=b
 | [],[],_,_=>rfl
 | [],_::_,h,_=>by cases h
 | _::_,[],_,h=>by cases h
 | x::a,y::b,h1,h2=>by
  rw[Zgc]at h1 h2
  by_cases e:x=y
  ·subst e
   rw[if_pos rfl]at h1 h2;rw[Zjj a b h1 h2]
  ·rw[if_neg e]at h1
   rw[if_neg (ZzB e)]at h2;have h1:=of_decide_eq_false h1;have h2:=of_decide_eq_false h2;omega
@[reducible] def Zo2:KeyOrd where
 α:=List Int
 blt:=HM.lexLt
 irrefl:=lex_irrefl
 trans:=lex_trans
 negTrans:=Zlt
 total:=Zjj
theorem ZhT{α:Type}{R:α->α->Prop}(anti:∀a b,R a b->R b a->a=b):∀{l m:List α},l.Perm m->l.Pairwise R->m.Pairwise R->l=m
 | [],m,hp,_,_=>(List.nil_perm.mp hp).symm
 | x::l,[],hp,_,_=>absurd hp.symm (by intro q; exact List.cons_ne_nil _ _ (List.nil_perm.mp q))
 | x::l,y::m,hp,hl,hm=>by
  obtain⟨l1,l2⟩:=Zzq.mp hl;obtain⟨m1,m2⟩:=Zzq.mp hm;have e:x=y:=by
   rcases ZyY.mp (hp.mem_iff.mp (ZyE ..))with e | e
   ·exact e
   ·rcases ZyY.mp (hp.mem_iff.mpr (ZyE ..))with e' | e'
    ·exact e'.symm
    ·exact anti x y (l1 y e') (m1 x e)
  subst e;rw[ZhT anti ((List.perm_cons x).mp hp) l2 m2]
def TI(h:Heap)(b:Addr)(t:List Int):Prop:=∃o its n,h.get? b=some o/\o.cls=.type "tuple"/\o.data=.seq its n/\IntsAre its.toList t
theorem TI.keep{h h':Heap}{b:Addr}{t:List Int}(x:TI h b t)(k:∀o,h.get? b=some o->h'.get? b=some o):TI h' b t:=let ⟨o,its,n,e,r⟩:=x; ⟨o,its,n,k o e,r⟩
section
variable{prog:Program}{w:World}{A:Around}{E:Value->Shared->Prop}{s:Shared}
theorem Zsy{fin:Bool}{Q:Bool->Shared->Prop}:∀{vs ws:List Value} {a b:List Int} (i:Nat),IntsAre vs a->IntsAre ws b->fin=decide (vs.length<ws.length)->Q (HM.lexLt a b) s->KatLex prog w A true fin Q (vs.zip ws) i s
 | _,_,_,_,i,.nil,.nil,e,q=>by subst e; exact kat_nil q
 | _,_,_,_,i,.nil,.cons _ _ _,e,q=>by subst e; exact kat_nil q
 | _,_,_,_,i,.cons _ _ _,.nil,e,q=>by subst e; exact kat_nil q
 | _,_,_,_,i,.cons x t hv,.cons y u hw,e,q=>by
  rw[List.zip_cons_cons];refine kat_cons (wpAny_eqBool_int ?_);rw[Zgc]at q
  by_cases h:x=y
  ·rw[if_pos h]at q
   rw[show(x==y)=true by simpa using h];refine kat_yes (Zsy (i+1) hv hw ?_ q);rw[e,ZyP,ZyP];exact decide_eq_decide.mpr (by omega)
  ·rw[if_neg h]at q
   rw[show(x==y)=false by simpa using h];refine kat_no ?_
   by_cases hi:i=0
   ·rw[show(true&&i==0)=true by simpa using hi]
    exact oneLt_int q
   ·rw[show(true&&i==0)=false by simpa using hi]
    exact kat_one _ _ (PyProof.Rows.lt_int q)
theorem Zwh{x y:Addr}{a b:List Int}{Q:Bool->Shared->Prop}(hx:TI s.heap x a)(hy:TI s.heap y b)(h:Q (HM.lexLt a b) s):wpAny (model prog w) A (keyLt' (tuples' true) (.ref x) (.ref y)) Q E s:=by obtain⟨ox,ix,n,e1,_,d1,r1⟩:=hx;obtain⟨oy,iy,k,e2,_,d2,r2⟩:=hy;refine kat_lt e1 d1 e2 d2 (Zsy 0 r1 r2 ?_ h);rw[Zy0,Zy0]
theorem Zqu{α:Type}{cmp:Nat->Nat->(Bool->Shared->Prop)->Shared->Prop}{o:Nat->Nat->Bool}{n:Nat}(hc:∀i j C,i<n->j<n->C (o i j) s->cmp i j C s){G:α->Shared->Prop}:∀(t:KasT α),ZcJ o n t (λa=>G a s)->t.kasWp cmp G s
 | .ret a,h=>h
 | .ask i j k,h=>hc i j _ h.1 h.2.1 (Zqu hc (k (o i j)) h.2.2)
theorem ZtO{a:Addr}{vs:List Value}{ts:List (List Int)}{n:Nat}{P:PySem.Fin->Shared->Prop}(ho:s.heap.get? a=some (seqObj "list" vs.toArray n))(hl:ts.length=vs.length)
  (hT:∀(i:Nat) t,ts[i]?=some t->∃b,vs[i]?=some (.ref b)/\TI s.heap b t) (hne:vs.length<2\/∀t∈ts,t≠[]) (h64:vs.length<64)
  (h:∀p:List Nat,p.Perm (ZyF vs.length)->(p.map λi=>ts.getD i []).Pairwise (λx y=>HM.lexLt y x=false)->P (.done (.ret .none)) { s with heap:=sortedHeap s.heap a vs (p.map λi=>vs.getD i ZzC).toArray }) :
  wpAny (model prog w) A (Builtin.«list.sort» ⟨[.ref a],[]⟩) P E s:=by
 rw[list_sort_plain];have ha:a<s.heap.objs.size:=ZyR ho;refine Zyy (listItems_at ho rfl (Zyy (listUpdate_at ho rfl ?_ (by rw[ZyQ,ZzZ]; omega) (Zz2 _))));obtain⟨e1,ho1⟩:∃e1,(s.heap.update a (ZBC λ_=>#[])).get? a=some (seqObj "list" #[] e1):=⟨_,get?_update_seq ho (λ_=>#[])⟩;refine Zyy (seqEpoch_at ho1 rfl ?_);refine Zyy (wpAny_newTuple ?_ (by show vs.length<=_; rw[ZzZ]; omega));refine Zyy (wpAny_newList ?_ (Zz2 _));refine ZzF ?_;generalize hG:((s.heap.update a (ZBC λ_=>#[])).push (seqObj "tuple" vs.toArray 0)).push (seqObj "list" #[] 0)=g;have ho6:g.get? a=some (seqObj "list" #[] e1):=by rw[<-hG,ZBP _ _ _ (by rw[size_push',ZBZ]; exact ZyX (ZBf ha)),ZBP _ _ _ (by rw[ZBZ]; exact ZyX ha)];exact ho1
 have hold:∀b o,b≠a->s.heap.get? b=some o->g.get? b=some o:=λb o hb e=>by have hlt:=ZyR e;rw[<-hG,ZBP _ _ _ (by rw[size_push',ZBZ]; exact ZyX (ZBf hlt)),ZBP _ _ _ (by rw[ZBZ]; exact ZyX hlt),Heap.get?_update_ne _ _ _ _ hb];exact e
 have hT6:∀(i:Nat) t,ts[i]?=some t->∃b,vs[i]?=some (.ref b)/\TI g b t:=λi t e=>by
  obtain⟨b,e1,x⟩:=hT i t e;refine⟨b,e1,x.keep λo q=>hold b o ?_ q⟩
  rintro rfl
  obtain⟨o',_,_,q1,q2,_⟩:=x;rw[ho]at q1;cases q1;injection q2 with q2
  exact absurd q2 (by decide)
 show wpAny (model prog w) A _ P E { s with heap:=g };dsimp only;have fin:∀(st':SortSt) (p:List Nat),p.Perm (ZyF vs.length)->(p.map λi=>ts.getD i []).Pairwise (λx y=>HM.lexLt y x=false)->(arrOf st').map (·.2)=(p.map λi=>vs.getD i ZzC).toArray->failedOf st'=none ->
   wpAny (model prog w) A (do
    let touched:=(<-seqEpoch a) != e1
    Builtin.List.listUpdate (.ref a) λ_=>(arrOf st').map (·.2)
    if let some e:=failedOf st' then rule "list.sort.comparison-raised"; throw e
    if touched then rule "list.sort.modified"; raiseError "ValueError" "list modified during sort"
    ret .none) P E { s with heap:=g }:=by
  intro st' p hp hs har hf;refine Zyy (seqEpoch_at ho6 rfl ?_);rw[har];refine Zyy (listUpdate_at ho6 rfl ?_ (Zz2 _) (by show(p.map λi=>vs.getD i ZzC).toArray.size<=_; rw[ZyQ,ZyA,hp.length_eq,Zz6,ZzZ]; omega));rw[hf];simp only[bne_self_eq_false,ZAw,if_false];refine ZyC ?_;have:=h p hp hs;unfold sortedHeap at this;rw[hG]at this;exact this
 by_cases h2:vs.toArray.size<2
 ·rw[if_pos h2,if_pos h2]
  refine Zyy (ZyC ?_);rw[StateT.run_pure];refine Zyy (ZyC ?_);refine fin (SortSt.mk' general' (vs.toArray.zip vs.toArray) #[] 7 none) (ZyF vs.length) (.refl _) ?_ ?_ rfl
  ·rw[ZyQ]at h2
   have:vs.length=0\/vs.length=1:=by omega
   rcases this with e | e<;>rw[e]<;>simp
  ·rw[ZyQ]at h2
   show Array.map (·.2) (vs.toArray.zip vs.toArray)=_
   match vs,h2 with
   | [],_=>simp
   | [v],_=>simp
 ·rw[if_neg h2,if_neg h2]
  rw[ZyQ]at h2;have hne':∀t∈ts,t≠[]:=hne.resolve_left h2;have tups:∀(vs:List Value) (ts:List (List Int)),ts.length=vs.length->(∀(i:Nat) t,ts[i]?=some t->∃b,vs[i]?=some (.ref b)/\TI g b t)->(∀t∈ts,t≠[])->∃fs,KatTups g vs fs/\fs.length=vs.length/\∀v∈fs,∃x t,v=ZAv x t:=by
   intro vs
   induction vs with
   | nil=>intro ts hl _ _; exact⟨[],KatTups.nil,rfl,by simp⟩
   | cons v vs ih =>
    intro ts hl hT hn;cases ts with
    | nil=>simp at hl
    | cons t ts =>
     obtain⟨fs,f1,f2,f3⟩:=ih ts (by simpa using hl) (λi t e=>hT (i+1) t (by simpa using e)) λx hx=>hn x (ZyD _ hx);obtain⟨b,eb,o,its,m,g1,g2,g3,g4⟩:=hT 0 t rfl;simp at eb;subst eb;cases t with
     | nil=>exact absurd rfl (hn [] (ZyE ..))
     | cons x t =>
      cases hi:its.toList with
      | nil=>rw[hi]at g4; cases g4
      | cons y ys =>
       rw[hi]at g4;cases g4 with
       | cons _ u _ =>
        refine⟨.int x u::fs,KatTups.cons g1 g2 g3 ?_ f1,by simp[f2],λv hv=>?_⟩
        ·rw[<-Zzt,hi]; rfl
        ·rcases ZyY.mp hv with e | e
         ·exact⟨x,u,e⟩
         ·exact f3 v e
  obtain⟨fs,f1,f2,f3⟩:=tups vs ts hl hT6 hne';refine Zyy (kat_kind (s:={ s with heap:=g }) (T:=.type "int") f1 (by omega) (λv hv=>?_) (by rfl) ?_)
  ·obtain⟨x,t,rfl⟩:=f3 v hv
   exact Looks.of_pure rfl
  rw[show(ZBA "int" != ZBA "tuple")=true by decide];refine Zyy (ZzS (kat_run (ks:=vs) (Q:=λst' s'=>s'={ s with heap:=g }/\∃p:Array Nat,Pm vs.length p/\Up Zo2 (λi=>ts.getD i []) p vs.length/\arrOf st'=p.map (kas_item (vs.toArray.zip vs.toArray))/\failedOf st'=none)
   (G:=λp s'=>s'={ s with heap:=g }/\Pm vs.length p/\Up Zo2 (λi=>ts.getD i []) p vs.length) rfl (by omega) h64 (λp' st' s' a1 a2 a3 a4=>⟨a4.1,p',a4.2.1,a4.2.2,a2,a3⟩) ?_) ?_ λ_ _ e=>e)
  ·refine Zqu (o:=orc Zo2 λi=>ts.getD i []) (n:=vs.length) (λi j C hi hj hC=>?_) _ (ZrS (by omega) λp h1 h2=>⟨rfl,h1,h2⟩)
   have gi:ts[i]?=some (ts.getD i []):=by simp[show i<ts.length by omega]
   have gj:ts[j]?=some (ts.getD j []):=by simp[show j<ts.length by omega]
   obtain⟨b1,v1,x1⟩:=hT6 i _ gi;obtain⟨b2,v2,x2⟩:=hT6 j _ gj;show wpAny (model prog w) A (keyLt' _ (vs.getD i ZzC) (vs.getD j ZzC)) C _ _;rw[show vs.getD i ZzC=.ref b1 by simp[Zz7,v1],show vs.getD j ZzC=.ref b2 by simp[Zz7,v2]];exact Zwh x1 x2 hC
  ·rintro ⟨⟨⟩,st'⟩ s' ⟨rfl,p,hp,hu,har,hf⟩
   refine fin st' p.toList ?_ ?_ (kat_snds rfl har) hf
   ·have:=ZCy.mp hp.perm
    simpa using this
   ·rw[ZCI,ZCM]
    intro i j hi hj hij;have hsz:=hp.size;have q:=hu i j (ZAx hij) (by rw[Zy0]at hj; omega);unfold Ka at q;rw[show p.getD i 0=p.toList[i] by simp[ZAH,show i<p.size by simpa using hi],show p.getD j 0=p.toList[j] by simp[ZAH,show j<p.size by simpa using hj]]at q;exact q
end
def ZeL(h:Heap)(d:Addr)(es:Array DictEntry)(ep:Nat):Prop:=∃o,h.get? d=some o/\o.ExactDict/\o.data=.dict es ep
theorem ZeL.at'{h h':Heap}{d:Addr}{es:Array DictEntry}{ep:Nat}(x:ZeL h d es ep)(e:∀o,h.get? d=some o->h'.get? d=some o):ZeL h' d es ep:=let ⟨o,ho,r⟩:=x; ⟨o,e _ ho,r⟩
theorem ZeL.typeIs{s:Shared}{d:Addr}{es:Array DictEntry}{ep:Nat}(x:ZeL s.heap d es ep):s.TypeIs (.ref d) "dict":=let ⟨o,ho,hc,_⟩:=x; ⟨o,ho,hc.1⟩
theorem ZeL.lt{h:Heap}{d:Addr}{es:Array DictEntry}{ep:Nat}(x:ZeL h d es ep):d<h.objs.size:=let ⟨o,ho,_⟩:=x; ZyR ho
section
variable{prog:Program}{w:World}{A:Around}{E:Value->Shared->Prop}{s:Shared}{it d:Addr}{es:Array DictEntry}{ep i:Nat}
theorem ZoK{Q:Value->Shared->Prop}(hd:(d==ZAb)=false)(hm:ZeL s.heap d es ep)
  (hQ:Q (.ref s.heap.objs.size) { s with heap:=s.heap.push { cls:=.type "dict_keyiterator",data:=.fields #[.ref d,.int 0 0,.int es.size 0,.int ep 0] } }) :
  wpAny (model prog w) A (pyIter (.ref d)) Q E s:=by
 obtain⟨o,ho,hc,hdat⟩:=id hm;have hT:=hm.typeIs;refine ZCG hT F.slot_dict_iter (ZzP F.slot_dict_iter hT F.entry_dict_iter ?_ (F.args_dict_iter_1 _));unfold Builtin.«dict.__iter__»;refine Zyy ?_;unfold Builtin.Dict.dictSlotNone;refine Zyy (wpAny_notOrdered_dict hT ?_);show wpAny _ _ (pure (Zzr d)) _ _ s;refine ZyC ?_;show wpAny _ _ (ZDl d >>= _) _ _ s;unfold ZDl;rw[if_neg (by rw[hd]; exact Zzj)];refine Zyy (ZyC (Zyy (ZBL ho hdat (Zyy (ZC6 ho hdat ?_)))));refine Zyy (Zzi (ZyC ⟨_,rfl,"dict_keyiterator",_,⟨_,ZyU _ rfl,rfl⟩,F.slot_dict_keyiterator_next.lookup,?_⟩));simpa [rawInt]using hQ
theorem Zoc{e:DictEntry}{Q:Option Value->Shared->Prop}(hit:s.heap.IsKeyIter it d i es.size ep)(hm:ZeL s.heap d es ep)(hx:es[i]?=some e)
  (hQ:∀h',h'.IsKeyIter it d (i+1) es.size ep->ZAy it s.heap h'->Q (some e.key) { s with heap:=h' }) :
  wpAny (model prog w) A (pyNext (.ref it)) Q E s:=by
 obtain⟨o,ho,hc,hd⟩:=id hit;obtain⟨od,hod,hcd,hdd⟩:=id hm;unfold pyNext;refine Zyy (ZCx (wpAny_callSpecial?_slot (name:=ZAL "__next__") hit.typeIs F.slot_dict_keyiterator_next
  (ZzP F.slot_dict_keyiterator_next hit.typeIs F.entry_dict_keyiterator_next ?_ (F.args_dict_keyiterator_next_1 _))))
 refine Zyy (ZyC (Zyy (Zyy ?_)))
 first | refine Zyy (ZAE hit.typeIs (ZyC ?_)) | refine Zyy (ZA1 hit.typeIs (ZyC ?_))
 refine Zyy (ZCl ho hd ?_);have hown:ZCn "dict_keyiterator" = false:=by decide
 simp only[hown,ZAw,if_false];show wpAny _ _ (if(Zzr d==ZzC)=true then _ else _) _ _ s;rw[if_neg (show ¬((Zzr d==ZzC)=true) from Zzj)];refine Zyy (ZyC (Zyy (ZBL hod hdd ?_)));rw[if_neg (by simp)];refine Zyy (ZyC (Zyy (ZC6 hod hdd ?_)));rw[if_neg (by simp)];refine ZyC ?_;obtain⟨hlt,he⟩:=Array.getElem?_eq_some_iff.mp hx;simp only[show ¬((i:Int)<0) from by omega,if_false,ZAD,ZAX hlt];refine Zyy ?_
 first | refine Zyy (ZAE hit.typeIs (ZyC ?_)) | refine Zyy (ZA1 hit.typeIs (ZyC ?_))
 refine Zyy (wpAny_isOneOf_keyiter hit.typeIs ?_);show wpAny _ _ (setField (.ref it) 1 (rawInt ((i:Int)+1)) >>= _) _ _ s;refine Zyy (ZBG ho hd (by simp) ?_);have hit':(s.heap.update it (ZDs (·.setIfInBounds 1 (rawInt ((i:Int)+1))))).IsKeyIter it d (i+1) es.size ep :=
  ⟨_,ZzK _ ho (ZB1 (ZAg hd _)),(ZCH ..).trans hc,by rw[ZAg hd]; simp[rawInt]⟩
 refine Zyy (ZzF ?_);refine Zyy (wpAny_isOneOf_keyiter (s:={ s with heap:=s.heap.update it (ZDs (·.setIfInBounds 1 (rawInt ((i:Int)+1)))) }) hit'.typeIs ?_);show wpAny _ _ (pure es[i].key) _ _ _;refine ZyC (ZyC ⟨_,rfl,ZyC ?_⟩);rw[he];exact hQ _ hit' (ZzI ..)
theorem Zqd{Q:Option Value->Shared->Prop}(hh:A.handled=none)(hit:s.heap.IsKeyIter it d i es.size ep)(hm:ZeL s.heap d es ep)(hx:es.size<=i)
  (hQ:∀h',Heap.ExtBut it s.heap h'->Q none { s with heap:=h' }):wpAny (model prog w) A (pyNext (.ref it)) Q E s:=by
 obtain⟨o,ho,hc,hd⟩:=id hit;obtain⟨od,hod,hcd,hdd⟩:=id hm;unfold pyNext;refine Zyy (ZCx (wpAny_callSpecial?_slot (name:=ZAL "__next__") hit.typeIs F.slot_dict_keyiterator_next
  (ZzP F.slot_dict_keyiterator_next hit.typeIs F.entry_dict_keyiterator_next ?_ (F.args_dict_keyiterator_next_1 _))))
 refine Zyy (ZyC (Zyy (Zyy ?_)))
 first | refine Zyy (ZAE hit.typeIs (ZyC ?_)) | refine Zyy (ZA1 hit.typeIs (ZyC ?_))
 refine Zyy (ZCl ho hd ?_);have hown:ZCn "dict_keyiterator" = false:=by decide
 simp only[hown,ZAw,if_false];show wpAny _ _ (if(Zzr d==ZzC)=true then _ else _) _ _ s;rw[if_neg (show ¬((Zzr d==ZzC)=true) from Zzj)];refine Zyy (ZyC (Zyy (ZBL hod hdd ?_)));rw[if_neg (by simp)];refine Zyy (ZyC (Zyy (ZC6 hod hdd ?_)));rw[if_neg (by simp)];refine ZyC ?_;simp only[show ¬((i:Int)<0) from by omega,if_false,ZAD,ZBS hx];refine Zyy ?_
 first | refine Zyy (ZAE hit.typeIs (ZyC ?_)) | refine Zyy (ZA1 hit.typeIs (ZyC ?_))
 show wpAny _ _ (setField (.ref it) 0 .none >>= _) _ _ s;refine Zyy (ZBG ho hd (by simp) ?_);show wpAny _ _ (newExc (.type "StopIteration") [] >>= _) _ _ _;refine Zyy ?_;simp only[newExc,newTuple];refine Zyy (Zzi ?_ (by size_fits));refine Zyy (m:=ZCm _ _) (ZDd (a:=ZzC) (by first | rfl | (simp only[ZCm]; rfl)) ?_)
 refine Zzi ?_ (by size_fits);simp only[raiseNew];refine Zyy (wpAny_handled ?_);rw[show A.in1.handled=none from hh];refine Zyy (ZyC (wpAny_throw ?_));refine Zyy (ZCV (T:="StopIteration") (b:=true) ⟨_,ZyU _ rfl,rfl⟩ isSubtype_stop ?_);exact ZyC (hQ _ (((ZzI ..).extBut.push _).push _))
theorem ZsH(hh:A.handled=none)(I d:Addr)(hne:d≠I)(es:Array DictEntry)(ep:Nat) :
  Walks prog w A I [I,d] [I] es.size (λi v=>∃e,es[i]?=some e/\v=e.key) (λi h=>h.IsKeyIter I d i es.size ep/\ZeL h d es ep) where
 sub:=λb hb=>by simp at hb; simp[hb]
 frame:=λ_ _ _ st hk=>⟨st.1.at λo e=>hk I (by simp) o e,st.2.at' λo e=>hk d (by simp) o e⟩
 item:=λi s Q E hi st hQ=>by have hx:es[i]?=some es[i]:=ZAX hi;refine Zoc st.1 st.2 hx λh' hit' hs'=>?_;exact hQ _ h' s.toks ⟨_,hx,rfl⟩ ⟨hit',st.2.at' λo e=>hs'.extBut d o hne e⟩ λb o hb e=>hs'.extBut b o (λh=>hb (by simp[h])) e
 done:=λs Q E st hQ=>Zqd hh st.1 st.2 (ZyI _) λh' he'=>hQ h' s.toks λb o hb e=>he' b o (λh=>hb (by simp[h])) e
 self:=λ_ _ _ _ st hQ=>wpAny_pyIter_keyiter st.1 hQ
end
end HP
namespace HP
open PySem PySem.Spec PySem.W PySem.Calls PyProof.Rows L2
variable[FX]
section
variable{prog:Program}{w:World}{A:Around}{E:Value->Shared->Prop}{s:Shared}
theorem Zui{r:Addr}{Q:Bool->Shared->Prop}(hT:s.TypeIs (.ref r) "set")(h:Q false s):wpAny (model prog w) A (ZCq (.ref r)) Q E s:=by
 unfold ZCq;refine Zyy (wpAny_specialOf hT PySem.F.slot_set_len.lookup ?_);generalize hid:("set.__len__":String)=id0
 wp_delta
 rw[show splitId id0=some ("set","__len__") from by subst hid; decide +kernel];subst hid;refine Zyy (ZCV (T:="set") (b:=true) hT (by rw[isSubtype_type]; kernel_rfl) ?_);refine ZAO (λq=>absurd q (by decide)) λ_=>?_;refine ZAO (λ_=>?_) (λq=>absurd (by decide +kernel) q);exact Zyy (wpAny_typeOf hT (ZyC h))
theorem ZuI{d:Addr}{es:Array DictEntry}{ep:Nat}(lo:(d==ZAb)=false):KdlSrc prog w "dict" d d es.size (λi v=>∃e,es[i]?=some e/\v=e.key) (λh=>ZeL h d es ep) where
 type:=λ_ hm=>hm.typeIs
 there:=λ_ hm=>⟨hm.lt,hm.lt⟩
 keep:=λ_ _ hm hk=>hm.at' λo e=>hk d (.inl rfl) o e
 notList:=by decide
 notTuple:=by decide
 hint:=λ_ _ _ _ hm hq=>kdl_hint_dict hm.typeIs hq
 iter:=λ_ _ hh hm=>⟨_,_,(λ_ _ hq=>ZoK lo hm hq),ZsH hh _ d (ZyX hm.lt) es ep,⟨⟨_,ZyU _ rfl,rfl,rfl⟩,hm.at' λo e=>ZyG _ e⟩⟩
theorem Zet.typeIs{a:Addr}{es:Array (Int × Value)}{ep:Nat}{t:SetTable}(x:Zet w s.heap a es ep t):s.TypeIs (.ref a) "set":=let ⟨o,ho,hc,_⟩:=x.obj; ⟨o,ho,hc.1⟩
theorem Zet.lt{h:Heap}{a:Addr}{es:Array (Int × Value)}{ep:Nat}{t:SetTable}(x:Zet w h a es ep t):a<h.objs.size:=let ⟨o,ho,_⟩:=x.obj; ZyR ho
theorem ZuL{a:Addr}{es:Array (Int × Value)}{ep:Nat}{t:SetTable}:KdlSrc prog w "set" a a es.size (λi v=>∃e,(ZdY w a es ep)[i]?=some e/\v=e.2) (λh=>Zet w h a es ep t) where
 type:=λ_ hm=>hm.typeIs
 there:=λ_ hm=>⟨hm.lt,hm.lt⟩
 keep:=λ_ _ hm hk=>hm.at' λo e=>hk a (.inl rfl) o e
 notList:=by decide
 notTuple:=by decide
 hint:=λ_ _ _ _ hm hq=>Zui hm.typeIs hq
 iter:=λ_ _ hh hm=>⟨_,_,(λ_ _ hq=>Zuh hm hq),ZsU hh _ a (ZyX hm.lt) es ep t,⟨0,⟨_,ZyU _ rfl,rfl,rfl⟩,hm.at' λo e=>ZyG _ e,λ_=>ZqT hm.tab.rise⟩⟩
theorem Zhg{T:String}{r d:Addr}{n:Nat}{P:Nat->Value->Prop}{OK:Heap->Prop}{R:List Value->Shared->Prop}(K:KdlSrc prog w T r d n P OK)(hh:A.handled=none)(hok:OK s.heap)(hn:n<=sizeLine)
  (h:∀(h':Heap) (tk:Nat) (acc:Array Value),(∀b o,s.heap.get? b=some o->h'.get? b=some o)->s.heap.objs.size<h'.objs.size->ItemsOf P acc n->R acc.toList { s with heap:=h',toks:=tk }) :
  wpAny (model prog w) A (collect (.ref r)) R E s:=by
 have hlt:=K.there _ hok;unfold collect;refine Zyy (wpAny_runValue (ZzX entry_proto_collect' ?_));rw[ZzE ZCr _];show wpAny _ A.in1 (newList [] >>= λl=>again (.builtin "list.__iadd__" ⟨[l,.ref r],[]⟩)) _ _ s;refine Zyy (Zzi (ZyC ⟨ZAS ZA8 _,ZzX entry_list_iadd' ?_⟩));rw[ZzE ZA8 _];have hS₁:(s.heap.push { cls:=.type "list",data:=.seq ([]:List Value).toArray }).get? s.heap.objs.size=some { cls:=.type "list",data:=.seq #[] }:=ZyU _ rfl;show wpAny _ A.in1 (ZCs (.ref s.heap.objs.size) (.ref r) (.ref s.heap.objs.size)) _ _ _;refine ZzS (kdl_extend (A:=A) (s:={ s with heap:=s.heap.push { cls:=.type "list",data:=.seq ([]:List Value).toArray } })
  (R:=λ(q:Result) (s':Shared)=>∃(h':Heap) (tk:Nat) (acc':Array Value) (c':Nat),q=.ok (.ret (.ref s.heap.objs.size))/\s'={ s with heap:=h',toks:=tk } /\
   (∀b o,s.heap.get? b=some o->h'.get? b=some o)/\h'.get? s.heap.objs.size=some { cls:=.type "list",dict:=none,data:=.seq acc' c',slots:=#[] }/\ItemsOf P acc' n)
  K hh (K.keep _ _ hok λb _ o e=>ZyG _ e) s.heap.objs.size (ZBu hlt.1) (ZBu hlt.2) (.ref s.heap.objs.size) 0 hS₁
  (λh' tk acc' c' hk hS' hacc=>⟨h',tk,acc',c',rfl,rfl,λb o e=>hk b o (ZyX (ZyR e)) (ZyG _ e),hS',hacc⟩) hn) (λfin s' x=>?_) λe s' x=>?_
 ·have go:∀(h':Heap) (tk:Nat) (acc':Array Value) (c':Nat),(∀b o,s.heap.get? b=some o->h'.get? b=some o)->h'.get? s.heap.objs.size=some { cls:=.type "list",dict:=none,data:=.seq acc' c',slots:=#[] }->ItemsOf P acc' n ->
    wpAny (model prog w) A (load s.heap.objs.size >>= λo=>match o.data with | .seq xs _=>pure xs.toList | _=>unsupported "internal:collect") R E { s with heap:=h',toks:=tk }:=λh' tk acc' c' hk hS' hacc =>
   Zyy (wpAny_load hS' (ZyC (h h' tk acc' hk (ZyR hS') hacc)))
  cases fin with
  | done f=>obtain⟨h',tk,acc',c',e,rfl,hk,hS',hacc⟩:=x;cases e;exact go h' tk acc' c' hk hS' hacc
  | again c₁=>refine⟨x.1,ZAJ x.2 λq s₂ y=>?_⟩;obtain⟨h',tk,acc',c',rfl,rfl,hk,hS',hacc⟩:=y;exact go h' tk acc' c' hk hS' hacc
 ·obtain⟨_,_,_,_,e',_⟩:=x
  cases e'
end
inductive ZiO(K:Zyz)(F H:Hp)(p:Addr):List PyData->Prop where
 | lst {ds:List PyData} {vs:List V} (h:SqL K H p vs) (r:Zu K F ds vs):ZiO K F H p ds
 | tup {ds:List PyData} {vs:List V} (h:SqT K H p vs) (r:Zu K F ds vs):ZiO K F H p ds
 | dk {kvs:List (Key × V)} (h:H p=some (.dK kvs)):ZiO K F H p (kvs.map λq=>HM.ZaE q.1)
 | dt {kvs:List (List Key × V)} (h:H p=some (.dT kvs)):ZiO K F H p (kvs.map λq=>.tuple (q.1.map HM.ZaE))
theorem ZuV{K:Zyz}{F:Hp}(k:Key):Rep K F (HM.ZaE k) (kV k):=by
 cases k with
 | inl i=>exact .int i
 | inr x=>exact .str x
theorem ZgB{K:Zyz}{F:Hp}:∀(ks:List Key),Zu K F (ks.map HM.ZaE) (ks.map kV)
 | []=>.nil
 | k::ks=>.cons (ZuV k) (ZgB ks)
theorem Zvt{P:Program}{w:World}{k:Key}{u:Value}(h:(Zao P w).is k u=true):RelV (kV k) u:=by
 rw[Zq2]at h;rcases Zbh h with⟨i,t,rfl,rfl⟩ | ⟨x,t,rfl,rfl⟩
 ·exact⟨t,rfl⟩
 ·exact⟨t,rfl⟩
section
variable{X:Cx}{pins:List (Addr × Obj)}{σ:L2.St}{H F:Hp}{s:Shared}{p:Addr}{ds:List PyData}
theorem Zhs:∀{vs:List V} {us:List Value},vs.length=us.length->(∀(i:Nat) v u,vs[i]?=some v->us[i]?=some u->RelV v u)->Vals vs us
 | [],[],_,_=>.nil
 | [],_::_,h,_=>by simp at h
 | _::_,[],h,_=>by simp at h
 | v::vs,u::us,h,k=>.cons (k 0 v u rfl rfl) (Zhs (by simpa using h) λi a b e1 e2=>k (i+1) a b (by simpa using e1) (by simpa using e2))
theorem ZiO.gath(I:Inv X pins σ H s)(sub:Zp F H)(h:ZiO X.K F H p ds):∃vs,Zu X.K (ZcK F H) ds vs/\∀(A:Around) (E:Value->Shared->Prop) (R:List Value->Shared->Prop),A.handled=none ->
  (∀us h' tk,Vals vs us->(∀b o,s.heap.get? b=some o->h'.get? b=some o)->R us { s with heap:=h',toks:=tk })->wpAny (model X.prog X.w) A (collect (.ref p)) R E s:=by
 cases h with
 | @lst _ vs h r=>obtain⟨its,rv,pl,hz⟩:=I.list h;obtain⟨o,ho,hcl,n,hd⟩:=pl.isList;refine⟨vs,r.mono (Zdz sub),λA E R _ k=>wpAny_collect_seq p (.inl rfl) ho hcl hd (λh' kp=>?_) (by rw[ZyQ,<-rv.length]; exact hz)⟩;exact k its h' s.toks rv kp
 | @tup _ vs h r=>obtain⟨its,rv,pl,hz⟩:=I.tuple h;obtain⟨o,ho,hcl,n,hd⟩:=pl;refine⟨vs,r.mono (Zdz sub),λA E R _ k=>wpAny_collect_seq p (.inr rfl) ho hcl hd (λh' kp=>?_) (by rw[ZyQ,<-rv.length]; exact hz)⟩;exact k its h' s.toks rv kp
 | @dk kvs h =>
  obtain⟨z,lo,vs,rel,dd⟩:=Zq8 I.hok h;obtain⟨ep,hat⟩:=dd.dictAt;have hl:kvs.length=vs.length:=ZA9 rel;refine⟨kvs.map λq=>kV q.1,?_,λA E R hh k=>Zhg (kdl_dict (knd:=Zao X.prog X.w) (kvs:=vs) (ep:=ep) lo) hh hat (by omega) λh' tk acc kp hsz hacc=>k _ h' tk ?_ kp⟩
  ·have:=ZgB (K:=X.K) (F:=ZcK F H) (kvs.map (·.1))
   rw[ZyV,ZyV]at this;exact this
  ·refine Zhs (by have q:acc.toList.length=acc.size:=Zy0; rw[ZyA,q,hacc.1,hl]) λi v u e1 e2=>?_
   obtain⟨kk,x,q1,q2⟩:=hacc.2 i u (by rw[<-Zzt]; exact e2);rw[Zy1]at e1;obtain⟨q,e3,e4⟩:=ZyB.mp e1;subst e4;have key:∀{l:List (Key × V)} {m:List (Key × Value)},KV l m->∀(i:Nat) a b,l[i]?=some a->m[i]?=some b->a.1=b.1:=by
    intro l m r
    induction r with
    | nil=>intro i a b e; simp at e
    | cons hq _ ih =>
     intro i a b e1 e2;cases i with
     | zero=>simp at e1 e2; subst e1; subst e2; exact hq.1
     | succ i=>exact ih i a b (by simpa using e1) (by simpa using e2)
   have ek:=key rel i q (kk,x) e3 q1;rw[ek];exact Zvt q2
 | @dt kvs h =>
  obtain⟨z,lo,xs,rel,o,es,ep,h1,h2,h3,h4,h5⟩:=(show Zab X.prog X.w H s.heap p (.dT kvs) from I.hok p _ h);have hl:kvs.length=xs.length:=ZA9 rel;have hes:es.size=xs.length:=by rw[<-Zy0,h4,ZyA]
  have hm:ZeL s.heap p es ep:=⟨o,h1,h2,h3⟩;refine⟨xs.map λq=>V.ref q.2.1,?_,λA E R hh k=>Zhg (ZuI (es:=es) (ep:=ep) lo) hh hm (by omega) λh' tk acc kp hsz hacc=>k _ h' tk ?_ kp⟩
  ·clear h4 hes hl z h h5
   induction rel with
   | nil=>exact .nil
   | @cons p0 _ _ _ hq _ ih=>obtain⟨q1,q2,_⟩:=hq;rw[ZyH,ZyH];refine .cons ?_ ih;have rk:=ZgB (K:=X.K) (F:=ZcK F H) p0.1;exact .tup (ZnT q2) rk.1 rk.2
  ·refine Zhs (by have q:acc.toList.length=acc.size:=Zy0; rw[ZyA,q,hacc.1,hes]) λi v u e1 e2=>?_
   obtain⟨e,q1,q2⟩:=hacc.2 i u (by rw[<-Zzt]; exact e2);subst q2;rw[Zy1]at e1;obtain⟨q,e3,e4⟩:=ZyB.mp e1;subst e4;rw[<-Zzt,h4,Zy1,e3]at q1;cases q1;rfl
theorem ZcM{K:Zyz}{F:Hp}:∀{ds:List PyData} {vs:List V} {ns:List Int},HM.ZaG ds=some ns->Zu K F ds vs->vs=ns.map V.int
 | [],vs,ns,h,r=>by cases h;exact r.nil_inv
 | d::ds,vs,ns,h,r=>by
  obtain⟨v,us,rfl,r1,r2⟩:=r.cons_inv;cases d with
  | int b=>obtain⟨bs',h1,h2⟩:=ZyB.mp h;subst h2;rw[r1.int_inv,ZcM h1 r2];rfl
  | none=>cases h
  | bool _=>cases h
  | str _=>cases h
  | list _=>cases h
  | tuple _=>cases h
  | dict _=>cases h
theorem Zqi:∀(t:List Int),HM.ZaG (HM.ofInts t)=some t
 | []=>rfl
 | x::t=>by show(HM.ZaG (HM.ofInts t)).map (x::·)=_;rw[Zqi t];rfl
theorem Zot:∀{ds:List PyData} {ns:List Int},HM.ZaG ds=some ns->ds=HM.ofInts ns
 | [],ns,h=>by cases h; rfl
 | d::ds,ns,h=>by
  cases d with
  | int b=>obtain⟨bs',h1,h2⟩:=ZyB.mp h;subst h2;rw[Zot h1];rfl
  | none=>cases h
  | bool _=>cases h
  | str _=>cases h
  | list _=>cases h
  | tuple _=>cases h
  | dict _=>cases h
theorem Ze9{K:Zyz}{F:Hp}:∀(ns:List Int),Zu K F (HM.ofInts ns) (ns.map V.int)
 | []=>.nil
 | n::ns=>.cons (.int n) (Ze9 ns)
theorem ZdZ:∀{ns:List Int} {us:List Value},Vals (ns.map V.int) us->IntsAre us ns
 | [],_,r=>by rw[ZAA]at r; cases r; exact .nil
 | n::ns,_,r=>by
  rw[ZyH]at r;cases r with
  | cons h t=>obtain⟨u,rfl⟩:=h; exact .cons n u (ZdZ t)
theorem Zh8:∀{us:List Value} {ns:List Int},IntsAre us ns->Vals (ns.map V.int) us
 | _,_,.nil=>.nil
 | _,_,.cons n t h=>.cons ⟨t,rfl⟩ (Zh8 h)
theorem ZoC:∀{ds:List PyData} {ts:List (List Int)},HM.Zjs ds=some ts->ds=HM.Ze6 ts
 | [],ts,h=>by cases h; rfl
 | d::ds,ts,h=>by
  cases d with
  | tuple es =>
   unfold HM.Zjs at h;split at h
   ·rename_i ns hn
    obtain⟨r',h1,h2⟩:=ZyB.mp h;subst h2;rw[Zot hn,ZoC h1];rfl
   ·cases h
  | none=>cases h
  | bool _=>cases h
  | int _=>cases h
  | str _=>cases h
  | list _=>cases h
  | dict _=>cases h
theorem Zon{ns ms:List Int}(h:ms.Perm ns)(hs:ms.Pairwise (·<=·)):ms=HM.sortI ns:=by refine ZhT (R:=(·<=·)) (λa b h1 h2=>by omega) (h.trans (ZBp ns _).symm) hs ?_;have:=ZBK (le:=λa b:Int=>decide (a<=b)) (λa b c h1 h2=>by simp at *; omega) (λa b=>by simp; omega) ns;exact this.imp λh=>by simpa using h
theorem Zuc{ts us:List (List Int)}(h:us.Perm ts)(hs:us.Pairwise (λx y=>HM.lexLt y x=false)):us=HM.ZdR ts:=by
 refine ZhT (R:=λx y=>HM.lexLt y x=false) (λa b h1 h2=>Zjj a b h2 h1) (h.trans (ZBp ts _).symm) hs ?_;have:=ZBK (le:=λa b:List Int=>!HM.lexLt b a) (λa b c h1 h2=>by
  simp only[Bool.not_eq_true']at *;cases q:HM.lexLt c a with
  | false=>rfl
  | true =>
   rcases Zlt c b a q with z | z
   ·rw[h2]at z; cases z
   ·rw[h1]at z; cases z) (λa b=>by
  cases q:HM.lexLt b a with
  | false=>simp
  | true =>
   cases q2:HM.lexLt a b with
   | false=>simp
   | true=>have:=lex_trans _ _ _ q q2; rw[lex_irrefl]at this; cases this) ts
 exact this.imp λh=>by simpa using h
theorem ZjZ{h:Heap}{a:Addr}{vs:List Value}{out:Array Value}{b:Addr}{o:Obj}(hb:b≠a)(e:h.get? b=some o):(sortedHeap h a vs out).get? b=some o:=by rw[sortedHeap_old hb (ZyR e)]; exact e
theorem ZoQ(hc:X.calm=true):ZaU X (.builtin "sorted") (λxs H Q=>∃p F ds ds',xs=[.ref p]/\Zp F H/\ZiO X.K F H p ds/\HM.Ze1 ds=some ds'/\∀l ws,H l=none->Zu X.K (ZcK F H) ds' ws->Q (.ref l) (upd H l (.lst ws))):=by
 intro pins s σ H xs us Q I r h;obtain⟨p,F,ds,ds',rfl,sub,hsrc,hsort,q⟩:=h;obtain⟨u,rfl,rx⟩:=vals1 r;cases rx;obtain⟨vs,rv,go⟩:=hsrc.gath I sub;unfold HM.Ze1 at hsort;split at hsort
 ·rename_i h64
  have hvl:=rv.1;refine ZCO kind_sorted plain_sorted entry_sorted (args_sorted1 _) ?_;unfold Builtin.«sorted»;refine Zyy (m:=checkCount "sorted" 1 1 _) (ZyC ?_);refine Zyy (go _ _ _ (I.ok.hd hc) λus h' tk ru kp=>?_);have hul:=ru.length;refine Zyy (wpAny_newList ?_ (by rw[ZzZ]; omega));have hoL:(h'.push (seqObj "list" us.toArray 0)).get? h'.objs.size=some (seqObj "list" us.toArray 0):=ZyU _ rfl;have fin:∀(out:Array Value) (ws:List V),Vals ws out.toList->Zu X.K (ZcK F H) ds' ws->ws.length<64->EP X pins σ Q (.ref h'.objs.size) { s with heap:=sortedHeap (h'.push (seqObj "list" us.toArray 0)) h'.objs.size us out,toks:=tk }:=λout ws rw' rd hw=>by obtain⟨e,he⟩:=sortedHeap_at (out:=out) hoL;have I1:Inv X pins σ H { s with heap:=h',toks:=tk }:=I.kept kp;refine⟨.ref h'.objs.size,_,I1.laid (a:=h'.objs.size) (o:=.lst ws) (t':=tk) (λb o e1=>?_) (ZyI _) ⟨by rw[ZzZ]; omega,out.toList,e,rw',by simpa using he⟩,rfl,q _ ws (I1.hok.fresh (ZyI _)) rd⟩;exact ZjZ (ZyX (ZyR e1)) (ZyG _ e1)
  show wpAny _ _ _ _ _ { s with heap:=h'.push (seqObj "list" us.toArray 0),toks:=tk };split at hsort
  ·rename_i ns hns
   cases hsort;have evs:=ZcM hns rv;rw[evs]at ru;have hI:=ZdZ ru;refine Zyy (ZzF (ZzP slot_list_sort ⟨_,hoL,rfl⟩ ZC7 (list_sort_tree hoL hI (by omega) λout ns' a1 a2 a3=>⟨_,rfl,?_⟩) (args_list_sort _)));refine ZyC ⟨_,rfl,?_⟩;have e:=Zon a2 a3;have hl:ns'.length<64:=by rw[a2.length_eq,<-hI.length,<-hul]; omega
   refine fin out (ns'.map V.int) (Zh8 a1) ?_ (by rw[ZyA]; exact hl);rw[<-e];exact Ze9 ns'
  ·split at hsort
   ·rename_i ts hts
    split at hsort
    ·rename_i hne
     cases hsort;have eds:=ZoC hts;have hT:∀(i:Nat) t,ts[i]?=some t->∃b,us[i]?=some (.ref b)/\TI (h'.push (seqObj "list" us.toArray 0)) b t:=λi t e=>by
      have ed:ds[i]?=some (.tuple (HM.ofInts t)):=by rw[eds]; unfold HM.Ze6; rw[Zy1,e]; rfl
      obtain⟨v,hv,rp⟩:=rv.get ed;generalize hq:HM.ofInts t=q at rp;cases rp with
      | @tupk b x h1 =>
       exfalso;cases t with
       | nil=>cases hq
       | cons a t =>
        injection hq with e1 _
        cases e1
      | @tup b _ xs hb hl hr=>subst hq;obtain⟨u,hu,ru'⟩:=ru.get hv;cases ru';have ev:=ZcM (F:=ZcK F H) (Zqi t) ⟨hl,hr⟩;subst ev;have hH:H b=some (.tup (t.map V.int)):=(Ext.refl sub).tups.sub _ _ hb;obtain⟨z,its,rt,o,h1,h2,n,h3⟩:=(show Zab X.prog X.w H s.heap b (.tup (t.map V.int)) from I.hok b _ hH);exact⟨b,hu,o,its.toArray,n,ZyG _ (kp b o h1),h2,h3,by simpa using ZdZ rt⟩
     have hlt:ts.length=us.length:=by have:=congrArg Zzo eds;unfold HM.Ze6 at this;rw[ZyA]at this;omega
     refine Zyy (ZzF (ZzP slot_list_sort ⟨_,hoL,rfl⟩ ZC7 (ZtO hoL hlt hT ?_ (by omega) λpm hp hs=>⟨_,rfl,?_⟩) (args_list_sort _)))
     ·rw[ZAn]at hne
      rcases hne with z | z
      ·left
       have:=of_decide_eq_true z;omega
      ·right
       intro t ht e;have:=ZyL.mp z t ht;rw[e]at this;cases this
     ·refine ZyC ⟨_,rfl,?_⟩
      have hpl:pm.length=us.length:=by rw[hp.length_eq,Zz6]
      have hmem:∀i∈pm,i<us.length:=λi hi=>ZyZ.mp (hp.mem_iff.mp hi);have e:(pm.map λi=>ts.getD i [])=HM.ZdR ts:=by
       refine Zuc ?_ hs;refine(hp.map _).trans ?_;have:(ZyF us.length).map (λi=>ts.getD i [])=ts:=by refine List.ext_getElem (by simp[hlt]) λi h1 h2=>?_;simp at h1;simp[Zz7,show i<ts.length by omega]
       rw[this]
      refine fin _ (pm.map λi=>vs.getD i V.non) ?_ ?_ (by rw[ZyA]; omega)
      ·refine Zhs (by simp) λk v u e1 e2=>?_
       rw[Zy1]at e1;rw[List.toList_toArray,Zy1]at e2;obtain⟨i,hi,rfl⟩:=ZyB.mp e1;rw[hi]at e2;cases e2;have hlt':=hmem i (Zy3 hi);have hv:vs[i]?=some (vs.getD i V.non):=by simp[Zz7,show i<vs.length by omega]
       obtain⟨u,hu,ru'⟩:=ru.get hv;have:us.getD i ZzC=u:=by simp[Zz7,hu]
       show RelV _ (us.getD i ZzC);rw[this];exact ru'
      ·rw[<-e]
       refine⟨by unfold HM.Ze6; simp,λk d v e1 e2=>?_⟩;unfold HM.Ze6 at e1;rw[Zy1,Zy1]at e1;rw[Zy1]at e2;obtain⟨i,hi,rfl⟩:=ZyB.mp e2;rw[hi]at e1;have hlt':=hmem i (Zy3 hi);have hd:ds[i]?=some d:=by
        rw[eds]; unfold HM.Ze6;rw[Zy1];have:ts[i]?=some (ts.getD i []):=by simp[Zz7,show i<ts.length by omega]
        rw[this];exact e1
       have hv:vs[i]?=some (vs.getD i V.non):=by simp[Zz7,show i<vs.length by omega]
       exact rv.2 i d _ hd hv
    ·cases hsort
   ·cases hsort
 ·cases hsort
end
end HP
namespace HP
open PySem PySem.Spec PySem.W PySem.Calls PyProof.Rows L2
variable[FX]
section
variable{prog:Program}{w:World}{A:Around}{E:Value->Shared->Prop}{s:Shared}
theorem ZmX{r:Addr}{a b c:Int}{t u v:Tok}{n:Nat}{R:List Value->Shared->Prop}(hh:A.handled=none)(hr:IsRange s.heap r a b c t u v)(hsmall:ZDv a b c=true)(hn:ZA5 a b c=n)(hlen:n<=2 ^ 24)
  (h:∀(h':Heap) (tk:Nat) (acc:Array Value),(∀b o,s.heap.get? b=some o->h'.get? b=some o)->ItemsOf (λi v=>∃t,v=.int (a+i*c) t) acc n->R acc.toList { s with heap:=h',toks:=tk }) :
  wpAny (model prog w) A (collect (.ref r)) R E s:=by
 unfold collect;refine Zyy (wpAny_runValue (ZzX entry_proto_collect' ?_));rw[ZzE ZCr _];show wpAny _ A.in1 (newList [] >>= λl=>again (.builtin "list.__iadd__" ⟨[l,.ref r],[]⟩)) _ _ s;refine Zyy (Zzi (ZyC ⟨ZAS ZA8 _,ZzX entry_list_iadd' ?_⟩));rw[ZzE ZA8 _];have hS₁:(s.heap.push { cls:=.type "list",data:=.seq ([]:List Value).toArray }).get? s.heap.objs.size=some { cls:=.type "list",data:=.seq #[] }:=ZyU _ rfl;show wpAny _ A.in1 (ZCs (.ref s.heap.objs.size) (.ref r) (.ref s.heap.objs.size)) _ _ _;have hr1:IsRange (s.heap.push { cls:=.type "list",data:=.seq ([]:List Value).toArray }) r a b c t u v:=ZyG _ hr;refine ZzS (wpAny_extend_range (A:=A) (s:={ s with heap:=s.heap.push { cls:=.type "list",data:=.seq ([]:List Value).toArray } })
  (R:=λ(q:Result) (s':Shared)=>∃(h':Heap) (tk:Nat) (acc':Array Value) (c':Nat),q=.ok (.ret (.ref s.heap.objs.size))/\s'={ s with heap:=h',toks:=tk } /\
   (∀b o,s.heap.get? b=some o->h'.get? b=some o)/\h'.get? s.heap.objs.size=some { cls:=.type "list",dict:=none,data:=.seq acc' c',slots:=#[] }/\ItemsOf (λi v=>∃t,v=.int (a+i*c) t) acc' n)
  hh hr1 hsmall hn hlen s.heap.objs.size (.ref s.heap.objs.size) 0 hS₁
  (λh' tk acc' c' hk hS' hacc=>⟨h',tk,acc',c',rfl,rfl,λb o e=>hk b o (ZyX (ZyR e)) (ZyG _ e),hS',hacc⟩)) (λfin s' x=>?_) λe s' x=>?_
 ·have go:∀(h':Heap) (tk:Nat) (acc':Array Value) (c':Nat),(∀b o,s.heap.get? b=some o->h'.get? b=some o)->h'.get? s.heap.objs.size=some { cls:=.type "list",dict:=none,data:=.seq acc' c',slots:=#[] }->ItemsOf (λi v=>∃t,v=.int (a+i*c) t) acc' n ->
    wpAny (model prog w) A (load s.heap.objs.size >>= λo=>match o.data with | .seq xs _=>pure xs.toList | _=>unsupported "internal:collect") R E { s with heap:=h',toks:=tk }:=λh' tk acc' c' hk hS' hacc =>
   Zyy (wpAny_load hS' (ZyC (h h' tk acc' hk hacc)))
  cases fin with
  | done f=>obtain⟨h',tk,acc',c',e,rfl,hk,hS',hacc⟩:=x;cases e;exact go h' tk acc' c' hk hS' hacc
  | again c₁=>refine⟨x.1,ZAJ x.2 λq s₂ y=>?_⟩;obtain⟨h',tk,acc',c',rfl,rfl,hk,hS',hacc⟩:=y;exact go h' tk acc' c' hk hS' hacc
 ·obtain⟨_,_,_,_,e',_⟩:=x
  cases e'
end
theorem ZjL(r:Addr)(a b c:Int)(t u v:Tok)(n:Nat)(hsmall:ZDv a b c=true)(hn:ZA5 a b c=n)(hlen:n<=2 ^ 24) :
  Meets (Builtin.«tuple.__new__» ⟨[.type "tuple",.ref r],[]⟩)
   (λA R s=>A.handled=none/\IsRange s.heap r a b c t u v/\∀(h':Heap) (tk:Nat) (acc:Array Value),(∀b o',s.heap.get? b=some o'->h'.get? b=some o')->ItemsOf (λi v=>∃t,v=.int (a+i*c) t) acc n ->
    R (.ok (.ret (.ref h'.objs.size))) { s with heap:=h'.push { cls:=.type "tuple",data:=.seq acc },toks:=tk }) :=
 .of_wp λprog w A R s h=>by
  obtain⟨hp,g,d,tk,os⟩:=s; obtain⟨hh,ht,h⟩:=h;have hsub:=PySem.sub_tuple_self;have hinit:=PySem.init_tuple_lookup;have hmh:=PySem.madeHere_tuple;have hT:Shared.TypeIs ⟨hp,g,d,tk,os⟩ (.ref r) "range":=⟨_,ht,rfl⟩;have hh1:A.in1.handled=none:=hh
  wp_walk using wpAny_typeOf hT,ZmX hh1 ht hsmall hn hlen
  intro h' tk' acc hk hacc;show wpAny _ _ (ZAe acc.toList.toArray >>= λv=>ret v) _ _ _;unfold ZAe;have e:acc.toList.toArray=acc:=by simp
  rw[e];refine Zyy (Zzi ?_ (by show acc.size<=sizeLine; rw[hacc.1,ZzZ]; omega));exact ZyC ⟨_,rfl,h h' tk' acc hk hacc⟩
section
variable{X:Cx}{a b c e:Expr}{fa fb fc:HM.EF}{pos p:Pos}{f:HM.BF}
theorem ZnR:ZaU X (.type "range") (λxs H Q=>∃j,xs=[.int j]/\∀l,H l=none->Q (.ref l) (upd H l (.rng 0 j))):=by intro pins s σ H xs us Q I r h;obtain⟨j,rfl,q⟩:=h;obtain⟨u,rfl,rx⟩:=vals1 r;obtain⟨t,rfl⟩:=rx;refine call_range_1 ⟨.ref s.heap.objs.size,_,I.laid (a:=s.heap.objs.size) (o:=.rng 0 j) (λb o e=>ZyG _ e) (ZyI _) ?_,rfl,q _ (I.hok.fresh (ZyI _))⟩;exact⟨_,_,_,ZyU _ rfl⟩
theorem ZpH(hc:X.calm=true):ZaU X (.type "tuple") (λxs H Q=>∃p lo hi,xs=[.ref p]/\H p=some (.rng lo hi)/\-1000000<lo/\lo<1000000/\-1000000<hi/\hi<1000000 /\
  ∀l,H l=none->Q (.ref l) (upd H l (.tup ((ZyF (hi-lo).toNat).map λ(k:Nat)=>V.int (lo+k))))):=by
 intro pins s σ H xs us Q I r h;obtain⟨p,lo,hi,rfl,hp,h1,h2,h3,h4,q⟩:=h;obtain⟨u,rfl,rx⟩:=vals1 r;cases rx;obtain⟨t,u,v,ho⟩:=(show Zab X.prog X.w H s.heap p (.rng lo hi) from I.hok p _ hp);have hn:ZA5 lo hi 1=((hi-lo).toNat:Nat):=by rw[rangeSize_one]; split<;>omega
 refine callType_new PySem.F.called_tuple (by decide) (PySem.F.typeCall_tuple_1 _) (PySem.F.newCall_tuple_1 _) (λobj=>PySem.F.args_object_init_2 obj _) PySem.F.entry_tuple_new
  (ZjL p lo hi 1 t u v (hi-lo).toNat (small_one (by omega) (by omega) (by omega) (by omega)) hn (by omega)) ⟨I.ok.hd hc,ho,λh' tk' acc kp hacc=>⟨⟨_,ZyU _ rfl,rfl⟩,?_⟩⟩
 have I1:Inv X pins σ H { s with heap:=h',toks:=tk' }:=I.kept kp;have rv:Vals ((ZyF (hi-lo).toNat).map λ(k:Nat)=>V.int (lo+k)) acc.toList:=by
  refine Zhs (by have z:acc.toList.length=acc.size:=Zy0; rw[ZyA,Zz6,z,hacc.1]) λi v u e1 e2=>?_;rw[Zy1]at e1;obtain⟨k,hk,rfl⟩:=ZyB.mp e1;obtain⟨t,rfl⟩:=hacc.2 i u (by rw[<-Zzt]; exact e2);have:k=i:=by have:=ZyM.mp hk;obtain⟨_,e⟩:=this;simpa using e.symm
  subst this;exact⟨t,by simp⟩
 have I2:=I1.laid (a:=h'.objs.size) (o:=.tup ((ZyF (hi-lo).toNat).map λ(k:Nat)=>V.int (lo+k))) (h':=h'.push { cls:=.type "tuple",data:=.seq acc }) (t':=tk') (λb o e=>ZyG _ e) (ZyI _)
  ⟨by rw[ZyA,Zz6,ZzZ]; omega,acc.toList,rv,by simpa using ZDA _ _⟩
 exact⟨.ref h'.objs.size,_,I2,rfl,q _ (I1.hok.fresh (ZyI _))⟩
theorem ZpM{K:Zyz}{F:Hp}(lo:Int)(n:Nat):Zu K F (HM.ZbK lo n) ((ZyF n).map λ(k:Nat)=>V.int (lo+k)):=by unfold HM.ZbK;refine⟨by simp,λi d v e1 e2=>?_⟩;rw[Zy1]at e1 e2;obtain⟨k,hk,rfl⟩:=ZyB.mp e1;rw[hk]at e2;cases e2;exact .int _
theorem ZgN(hmt:X.mg "tuple" = none)(hm:X.mg "range" = none)(hc:X.calm=true)(ha:XE X a fa){p' pos':Pos}(hgt:Gl X "tuple":=by rfl)(hg:Gl X "range":=by rfl)(hs:ZyK [a] X.env=[(false,eval a X.env)]:=by rfl)
  (hs2:ZyK [ZDB (.Name "range" p') [a] [] pos'] X.env=[(false,eval (ZDB (.Name "range" p') [a] [] pos') X.env)]:=by rfl) :
  XE X (.Call (.Name "tuple" p) [.Call (.Name "range" p') [a] [] pos'] [] pos) (HM.ZeR (HM.ZbW fa)):=by
 intro r d hd;unfold HM.ZeR at hd;split at hd
 ·rename_i ds hds
  split at hd
  ·cases hd
   unfold HM.ZbW at hds;split at hds
   ·rename_i j hj
    split at hds
    ·rename_i hok
     cases hds;obtain⟨k1,k2⟩:=Zjw hok;refine PE.imp (Zdp (ZpH hc) hgt hmt Zko (Zag (Zdp ZnR hg hm boot_range (Zag (ha r _ hj) ZbI hs) (he:=hs)) ZbI hs2) (he:=hs2)) λσ H Q ⟨F0,H0,F,at_,k⟩=>?_;refine⟨F0,H0,F,at_,λv F1 H1 x1 r1=>⟨j,by rw[r1.int_inv],λl hl=>?_⟩⟩;refine⟨l,0,j,rfl,ZB,by omega,by omega,by omega,by omega,λl2 hl2=>?_⟩;have x2:=x1.lay' (o:=.rng 0 j) hl;have x3:=x2.lay (o:=.tup ((ZyF (j-0).toNat).map λ(k:Nat)=>V.int (0+k))) hl2;have rp:=ZpM (K:=X.K) (F:=upd F1 l2 (.tup ((ZyF (j-0).toNat).map λ(k:Nat)=>V.int (0+k)))) 0 j.toNat;have ej:(j-0).toNat=j.toNat:=by omega
     refine k _ _ _ x3 (.tup ZB ?_ ?_)
     ·rw[ej]; exact rp.1
     ·rw[ej]at rp ⊢; exact rp.2
    ·cases hds
   ·cases hds
  ·cases hd
 ·cases hd
theorem Zsw{K:Zyz}{F H:Hp}{q:HM.B}{v:V}{fp:List Addr}{ds:List PyData}(sub:Zp F H)(r:Zac K F H q v fp)(h:HM.Zuu q=some ds):∃a,v=.ref a/\ZiO K F H a ds:=by
 cases r with
 | pl r =>
  cases r with
  | tup h1 h2 h3=>cases h; exact⟨_,rfl,.tup (.of (sub _ _ h1)) ⟨h2,h3⟩⟩
  | @tupk a x h1=>cases h; exact⟨_,rfl,.tup (.inr h1) (.one (.str x))⟩
  | lst h1 h2 h3=>cases h; exact⟨_,rfl,.lst (sub.seq h1) ⟨h2,h3⟩⟩
  | dct _ _ _ _=>cases h
  | fn _=>cases h
  | non=>cases h
  | bl _=>cases h
  | int _=>cases h
  | str _=>cases h
 | ol h1 r=>cases h; exact⟨_,rfl,.lst (.of h1) r⟩
 | hd _ _ _ _=>cases h
 | hf _=>cases h
 | @ok a kvs vvs h1 h2 h3 =>
  cases h;refine⟨_,rfl,?_⟩;have e:(kvs.map λp=>HM.ZaE p.1)=vvs.map λp=>HM.ZaE p.1:=by
   have:=congrArg (ZCj HM.ZaE) h2
   rwa [ZyV,ZyV]at this
  rw[e];exact .dk h1
 | @ot a kvs vvs h1 h2 h3 =>
  cases h;refine⟨_,rfl,?_⟩;have e:(kvs.map λp=>Zzf (p.1.map HM.ZaE))=vvs.map λp=>Zzf (p.1.map HM.ZaE):=by
   have:=congrArg (ZCj λk:List Key=>Zzf (k.map HM.ZaE)) h2
   rwa [ZyV,ZyV]at this
  rw[e];exact .dt h1
 | @otl a kvs vvs ls h1 h2 h3 h4 =>
  cases h;refine⟨_,rfl,?_⟩;have e:(kvs.map λp=>Zzf (p.1.map HM.ZaE))=vvs.map λp=>Zzf (p.1.map HM.ZaE):=by
   have:=congrArg (ZCj λk:List Key=>Zzf (k.map HM.ZaE)) h2
   rwa [ZyV,ZyV]at this
  rw[e];exact .dt h1
theorem Zgx(hm:X.mg "sorted" = none)(hc:X.calm=true)(ha:XB X a f)(hg:Gl X "sorted":=by rfl)(hs:ZyK [a] X.env=[(false,eval a X.env)]:=by rfl):XF X (.Call (.Name "sorted" p) [a] [] pos) (HM.ZfL f):=by
 intro r d h;unfold HM.ZfL at h;split at h
 ·rename_i x hx
  split at h
  ·rename_i ds hds
   obtain⟨ds',h1,h2⟩:=ZyB.mp h;subst h2;refine PE.imp (Zdo (ZoQ hc) hg hm Zl9 (Ze5 ha hx hs) (he:=hs)) λσ H Q ⟨F0,H0,F,at_,k⟩=>?_;refine⟨F0,H0,F,at_,λv fp F1 H1 x1 r1=>?_⟩;obtain⟨l,e1,src⟩:=Zsw x1.sub r1 hds;subst e1;exact⟨l,F1,ds,ds',rfl,x1.sub,src,h1,λl' ws hl' rs=>ZeP (P:=λv _ H'=>Q v H') x1.tups rs hl' k⟩
  ·cases h
 ·cases h
theorem ZrQ(hc:X.calm=true):ZaU X (.type "set") (λxs H Q=>∃p ns,xs=[.ref p]/\SqL X.K H p (ns.map V.int)/\(∀n∈ns,0<=n/\n<8)/\∀l,H l=none->Q (.ref l) (upd H l (.ext λh=>ZdG X.prog X.w h l (HM.dedup [] ns)))):=by intro pins s σ H xs us Q I r h;obtain⟨p,ns,rfl,hq,hb,q⟩:=h;obtain⟨u,rfl,rx⟩:=vals1 r;cases rx;obtain⟨its,rv,pl,hz⟩:=I.list hq;refine Zsn (I.ok.hd hc) pl.isList (by simpa using ZdZ rv) hb λh' tk hS kp=>?_;have hS':=hS;obtain⟨o,es,ep,t,ho,_⟩:=hS';refine⟨.ref s.heap.objs.size,_,I.laid (a:=s.heap.objs.size) (o:=.ext λh=>ZdG X.prog X.w h s.heap.objs.size (HM.dedup [] ns)) (λb o e=>kp b o (ZyR e) e) (ZyI _) ?_,rfl,q _ (I.hok.fresh (ZyI _))⟩;exact⟨hS,⟨o,ho⟩,λh1 h2 x kk=>x.at' kk⟩
theorem Zpc(hc:X.calm=true):ZaU X (.builtin "sorted") (λxs H Q=>∃p L,xs=[.ref p]/\H p=some (.ext λh=>ZdG X.prog X.w h p L)/\∀l,H l=none->Q (.ref l) (upd H l (.lst ((HM.sortI L).map V.int)))):=by
 intro pins s σ H xs us Q I r h;obtain⟨p,L,rfl,hp,q⟩:=h;obtain⟨u,rfl,rx⟩:=vals1 r;cases rx;obtain⟨hX,_,_⟩:=(show Zab X.prog X.w H s.heap p (.ext λh=>ZdG X.prog X.w h p L) from I.hok p _ hp);obtain⟨o,es,ep,t,ho,hex,hd,hen,hpm,hpl,ht⟩:=hX;have hsz:=size_of hpl;have hfew:=ht.few;have raw:Zet X.w s.heap p es ep t:=⟨⟨o,ho,hex,hd⟩,by rw[hsz]; exact ht.fits,hsz,ht⟩;refine ZCO kind_sorted plain_sorted entry_sorted (args_sorted1 _) ?_;unfold Builtin.«sorted»;refine Zyy (m:=checkCount "sorted" 1 1 _) (ZyC ?_);refine Zyy (Zhg (ZuL (es:=es) (ep:=ep) (t:=t)) (I.ok.hd hc) raw (by rw[ZzZ]; omega) λh' tk acc kp _ hacc=>?_);have hal:acc.toList.length=es.size:=by rw[Zy0]; exact hacc.1
 have hI:IntsAre acc.toList ((ZdY X.w p es ep).toList.map Zey):=by
  have key:∀(us:List Value) (xs:List (Int × Value)),us.length=xs.length->(∀(i:Nat) u,us[i]?=some u->∃e,xs[i]?=some e/\u=e.2)->(∀e∈xs,∃n t,e=((intKind X.prog X.w).hash n,ZAv n t))->IntsAre us (xs.map Zey):=by
   intro us
   induction us with
   | nil=>intro xs hl _ _; cases xs with | nil=>exact .nil | cons _ _=>simp at hl
   | cons u us ih =>
    intro xs hl hk he;cases xs with
    | nil=>simp at hl
    | cons x xs=>obtain⟨e,e1,e2⟩:=hk 0 u rfl;simp at e1;subst e1;obtain⟨n,t,e3⟩:=he x (ZyE ..);rw[e2,e3];exact .cons n t (ih xs (by simpa using hl) (λi u e=>hk (i+1) u (by simpa using e)) λe h=>he e (ZyD _ h))
  refine key acc.toList (ZdY X.w p es ep).toList (by rw[hal,Zy0,Zi4]) (λi u e=>?_) λe h=>hen e ((ZiY X.w p es ep).mem_iff.mp h);obtain⟨e',e1,e2⟩:=hacc.2 i u (by rw[<-Zzt]; exact e);exact⟨e',by rw[Zzt]; exact e1,e2⟩
 refine Zyy (wpAny_newList ?_ (by rw[hal,ZzZ]; omega));have hoL:(h'.push (seqObj "list" acc.toList.toArray 0)).get? h'.objs.size=some (seqObj "list" acc.toList.toArray 0):=ZyU _ rfl;show wpAny _ _ _ _ _ { s with heap:=h'.push (seqObj "list" acc.toList.toArray 0),toks:=tk };refine Zyy (ZzF (ZzP slot_list_sort ⟨_,hoL,rfl⟩ ZC7 (list_sort_tree hoL hI (by omega) λout ns' a1 a2 a3=>⟨_,rfl,?_⟩) (args_list_sort _)));refine ZyC ⟨_,rfl,?_⟩;have e:ns'=HM.sortI L:=Zon (a2.trans (((ZiY X.w p es ep).map Zey).trans hpm)) a3;have hl:ns'.length<64:=by rw[a2.length_eq,<-hI.length,hal]; omega
 obtain⟨ee,he⟩:=sortedHeap_at (out:=out) hoL;have I1:Inv X pins σ H { s with heap:=h',toks:=tk }:=I.kept kp;refine⟨.ref h'.objs.size,_,I1.laid (a:=h'.objs.size) (o:=.lst (ns'.map V.int)) (t':=tk) (λb o e1=>?_) (ZyI _) ⟨by rw[ZyA,ZzZ]; omega,out.toList,ee,Zh8 a1,by simpa using he⟩,rfl,?_⟩
 ·exact ZjZ (ZyX (ZyR e1)) (ZyG _ e1)
 ·rw[e]; exact q _ (I1.hok.fresh (ZyI _))
theorem Ziv(hm:X.mg "sorted" = none)(hm2:X.mg "set" = none)(hc:X.calm=true){p' pos':Pos}(ha:XB X a f)(hg:Gl X "sorted":=by rfl)(hg2:Gl X "set":=by rfl)(hs:ZyK [a] X.env=[(false,eval a X.env)]:=by rfl)
  (hs2:ZyK [ZDB (.Name "set" p') [a] [] pos'] X.env=[(false,eval (ZDB (.Name "set" p') [a] [] pos') X.env)]:=by rfl) :
  XF X (.Call (.Name "sorted" p) [.Call (.Name "set" p') [a] [] pos'] [] pos) (HM.ZfG f):=by
 intro r d h;unfold HM.ZfG at h;split at h
 ·rename_i x hx
  split at h
  ·rename_i ds hds
   split at h
   ·rename_i ns hns
    split at h
    ·rename_i hlow
     cases h;refine PE.imp (Zdo (Zpc hc) hg hm Zl9 (Zag (Zdp (ZrQ hc) hg2 hm2 Zwn (Ze5 ha hx hs) (he:=hs)) ZbI hs2) (he:=hs2)) λσ H Q ⟨F0,H0,F,at_,k⟩=>?_;refine⟨F0,H0,F,at_,λv fp F1 H1 x1 r1=>?_⟩;obtain⟨l,vs,e1,hq,rs⟩:=Zgu x1.sub r1 hds;subst e1;rw[ZcM hns rs]at hq;refine⟨l,ns,rfl,hq,λn hn=>?_,λl2 hl2=>⟨l2,_,rfl,ZB,λl3 hl3=>?_⟩⟩
     ·have:=ZyL.mp hlow n hn
      rw[ZyT,decide_eq_true_eq,decide_eq_true_eq]at this;exact this
     ·have x2:=x1.lay' (o:=.ext λh=>ZdG X.prog X.w h l2 (HM.dedup [] ns)) hl2
      exact ZeP (P:=λv _ H'=>Q v H') x2 (Ze9 _) hl3 k
    ·cases h
   ·cases h
  ·cases h
 ·cases h
end
end HP
namespace HP
open PySem PySem.Spec PyProof.Rows L2
variable[FX]
section
variable{X:Cx}{a b:Expr}{fa:HM.EF}{f:HM.BF}{pos:Pos}
theorem Zkk(i:Int):∀ns:List Int,inV (.int i) (ns.map V.int)=ns.contains i
 | []=>rfl
 | n::ns=>by have ih:=Zkk i ns;unfold inV at ih ⊢;rw[ZyH,ZAi,ih,List.contains_cons];show(n==i||_)=(i==n||_);rw[show(n==i)=(i==n) from ZCc.mpr ⟨λh=>beq_iff_eq.mpr (beq_iff_eq.mp h).symm,λh=>beq_iff_eq.mpr (beq_iff_eq.mp h).symm⟩]
theorem Zi5:∀ns:List Int,(ns.map V.int).all Za7=true
 | []=>rfl
 | n::ns=>by rw[ZyH,ZzU,Zi5 ns]; rfl
theorem Ztm{r:HM.Env}{d:PyData}(h:HM.ZoD fa f r=some d):∃i q ds ns,fa r=some (.int i)/\f r=some q/\HM.Za9 q=some ds/\HM.ZaG ds=some ns/\d=.bool (ns.contains i):=by
 unfold HM.ZoD at h;split at h
 ·split at h
  ·split at h
   ·obtain⟨c,h1,h2⟩:=ZyB.mp h
    obtain⟨ns,h3,h4⟩:=ZyB.mp h1;exact⟨_,_,_,ns,by assumption,by assumption,by assumption,h3,by rw[<-h2,<-h4]⟩
   ·cases h
  ·cases h
 ·cases h
theorem ZpQ{r:HM.Env}{d:PyData}(h:HM.Zhr fa f r=some d):∃i q ds ns,fa r=some (.int i)/\f r=some q/\HM.Za9 q=some ds/\HM.ZaG ds=some ns/\d=.bool (!ns.contains i):=by
 unfold HM.Zhr at h;split at h
 ·split at h
  ·split at h
   ·obtain⟨c,h1,h2⟩:=ZyB.mp h
    obtain⟨ns,h3,h4⟩:=ZyB.mp h1;exact⟨_,_,_,ns,by assumption,by assumption,by assumption,h3,by rw[<-h2,<-h4]⟩
   ·cases h
  ·cases h
 ·cases h
theorem Zuo{neg:Bool}{r:HM.Env}{i:Int}{q:HM.B}{ds:List PyData}{ns:List Int}(ha:XE X a fa)(hb:XB X b f)(h1:fa r=some (.int i))(h2:f r=some q)(h3:HM.Za9 q=some ds)(h4:HM.ZaG ds=some ns){op:CmpOp}(ho:OpR X (ZzJ op) (rIn X.K neg))(hm:ZzL op b=false) :
  PE X (.Compare a [op] [b] pos) (tAt X.K r λ_ F' _ v=>v=.bl (if neg then !ns.contains i else ns.contains i)):=by
 refine PE.imp (Zp1 ho (ha r _ h1) (hb r q h2) hm) λσ H Q ⟨F0,H0,F,at_,k⟩=>?_;refine⟨F0,H0,F,at_,λv F1 H1 x1 r1=>⟨F0,H0,F1,at_.grow x1,λw F2 H2 x2 ⟨fp,r2⟩=>?_⟩⟩;obtain⟨p,vs,e1,hq,rs⟩:=Zge x2.sub r2 h3;cases r1;rw[ZcM h4 rs]at hq;refine⟨p,_,e1,hq,rfl,Zi5 ns,k _ F2 H2 (x1.trans x2) ?_⟩;rw[Zkk]
theorem ZtK{neg:Bool}{r:HM.Env}{i:Int}{q:HM.B}{ds:List PyData}{ns:List Int}(ha:XE X a fa)(hb:XB X b f)(h1:fa r=some (.int i))(h2:f r=some q)(h3:HM.Za9 q=some ds)(h4:HM.ZaG ds=some ns){op:CmpOp}(ho:OpR X (ZzJ op) (rIn X.K neg))(hm:ZzL op b=false) :
  PT X (.Compare a [op] [b] pos) λσ H Q=>Now X.K r σ H λF0 H0 F=>∀F' H',Ext F H F' H'->Q (if neg then !ns.contains i else ns.contains i) H':=by
 refine PT.imp (ZlA ho (ha r _ h1) (hb r q h2) hm) λσ H Q ⟨F0,H0,F,at_,k⟩=>?_;refine⟨F0,H0,F,at_,λv F1 H1 x1 r1=>⟨F0,H0,F1,at_.grow x1,λw F2 H2 x2 ⟨fp,r2⟩=>?_⟩⟩;obtain⟨p,vs,e1,hq,rs⟩:=Zge x2.sub r2 h3;cases r1;rw[ZcM h4 rs]at hq;refine⟨p,_,e1,hq,rfl,Zi5 ns,_,rfl,?_⟩;rw[Zkk];exact k F2 H2 (x1.trans x2)
theorem ZvE(ha:XE X a fa)(hb:XB X b f)(hm:ZzL .In b=false:=by rfl):XE X (.Compare a [.In] [b] pos) (HM.ZoD fa f):=by intro r d h;obtain⟨i,q,ds,ns,h1,h2,h3,h4,rfl⟩:=Ztm h;refine PE.imp (Zuo ha hb h1 h2 h3 h4 ZsD hm) λσ H Q ⟨F0,H0,F,at_,k⟩=>⟨F0,H0,F,at_,λv F' H' x e=>k v F' H' x ?_⟩;subst e;exact .bl _
theorem ZrB(ha:XE X a fa)(hb:XB X b f)(hm:ZzL .NotIn b=false:=by rfl):XT X (.Compare a [.NotIn] [b] pos) (HM.tV (HM.Zhr fa f)):=by intro r d h;obtain⟨i,q,ds,ns,h1,h2,h3,h4,e⟩:=ZpQ (Zgf h);cases e;exact ZtK ha hb h1 h2 h3 h4 ZoV hm
end
end HP
namespace HP
open PySem PySem.Spec PyProof.Rows L2
variable[FX]
section
variable{X:Cx}{c e:Expr}{fa:HM.EF}{t:HM.TF}{g:HM.SF}{pos:Pos}{body:List Stmt}
theorem Zj7(n:Nat)(hxe:X.xe=λ_ _=>False)(hc:XT X c t)(hb:XSs X body g):XS X (.While c body [] pos) (HM.Zk8 n t g):=by
 intro r o ho;have ho:HM.ZaW t g n r=some o:=ho;have pb:PSs X body (λE σ H=>∃r o,g r=some o/\tSt X.K r o E σ H):=λpins s σ H E I ⟨r,o,h1,h2⟩=>hb r o h1 pins s σ H E I h2;have pc:PT X c (λσ H Q=>∃r b,t r=some b/\Now X.K r σ H λF0 H0 F=>∀F' H',Ext F H F' H'->Q b H'):=λpins s σ H Q I ⟨r,b,h1,h2⟩=>hc r b h1 pins s σ H Q I h2;refine PS.imp (Ztj (Zl8 hxe) pc pb) λE σ H ⟨F0,H0,F,at_,k⟩=>?_;refine⟨λm σ H=>∃F r,At X.K F0 H0 F H r σ/\HM.ZaW t g m r=some o,⟨n,F,r,at_,ho⟩,?_⟩
 rintro m σ H ⟨F2,r2,at2,go⟩
 cases m with
 | zero=>cases go
 | succ m =>
  unfold HM.ZaW at go;split at go
  ·rename_i ht
   refine⟨r2,true,ht,F0,H0,F2,at2,λF' H' x=>?_⟩;dsimp only;rw[if_pos rfl];have at3:=at2.grow x;have a4:=at3.rebase;refine⟨λσ' H'=>∃F r,At X.K F0 H0 F H' r σ'/\HM.ZaW t g m r=some o,λσ' H' q=>⟨m,ZAZ m,q⟩,?_⟩;split at go
   ·rename_i r' hr
    exact⟨_,_,hr,F',H0,F',a4,λσ' F' H' a'=>⟨F',r',a'.unbase at3.ext at3.nt0,go⟩⟩
   ·rename_i r' hr
    exact⟨_,_,hr,F',H0,F',a4,λσ' F' H' a'=>⟨F',r',a'.unbase at3.ext at3.nt0,go⟩⟩
   ·rename_i r' hr
    cases go;exact⟨_,_,hr,F',H0,F',a4,λσ' F' H' a'=>k σ' F' H' (a'.unbase at3.ext at3.nt0)⟩
   ·rename_i d hr
    cases go;exact⟨_,_,hr,F',H0,F',a4,λv F' H' x q=>k v F' H' (at3.ext.unbase x) q⟩
   ·cases go
  ·rename_i ht
   cases go;refine⟨r2,false,ht,F0,H0,F2,at2,λF' H' x=>?_⟩;dsimp only;rw[if_neg (by simp)];exact k σ F' H' (at2.grow x)
  ·cases go
end
end HP
namespace HP
open PySem PySem.Spec PyProof.Rows L2
variable[FX]
section
variable{X:Cx}{a b:Expr}{fa:HM.EF}{f:HM.BF}{pos:Pos}
theorem Zr1{e:Value->Bool}{f:PyData->Bool}:∀{ds:List PyData} {us:List Value},ds.length=us.length->(∀(i:Nat) d u,ds[i]?=some d->us[i]?=some u->e u=f d)->us.any e=ds.any f
 | [],[],_,_=>rfl
 | [],_::_,hl,_=>by simp at hl
 | _::_,[],hl,_=>by simp at hl
 | d::ds,u::us,hl,k=>by rw[ZAi,ZAi,k 0 d u rfl rfl,Zr1 (ds:=ds) (us:=us) (by simpa using hl) λi d u e1 e2=>k (i+1) d u (by simpa using e1) (by simpa using e2)]
def ZwK(K:Zyz)(neg:Bool):R2:=λvx vy H Q=>∃F p xs x ds,Zp F H/\vy=.ref p/\(SqL K H p xs\/SqT K H p xs)/\Rep K F x vx/\Zu K F ds xs/\HM.Zan x=true/\ds.all HM.Zan=true /\
 Q (.bl (if neg then !ds.any λd=>Zzv d x else ds.any λd=>Zzv d x)) H
open Classical in
noncomputable def Zhe (h:Heap) (x:PyData) (u:Value):Bool:=decide (∃d as,Reads h u d as/\d.canLay0=true/\Zzv d x=true)
theorem ZrK{h:Heap}{x d:PyData}{u:Value}{as:List Addr}(r:Reads h u d as)(hl:d.canLay0=true):Zhe h x u=Zzv d x:=by
 classical
 unfold Zhe;cases q:Zzv d x with
 | true=>exact decide_eq_true ⟨d,as,r,hl,q⟩
 | false=>refine decide_eq_false λ⟨d',as',r',hl',q'⟩=>?_;rw[SeqAt.Reads.unique d d' u as as' hl r r']at q;rw[q]at q';cases q'
theorem ZoH{k:Nat}(hr:Zal k X.A){pins:List (Addr × Obj)}{s:Shared}{σ:L2.St}{H F:Hp}{x:PyData}{vx:V}{u:Value}{ds:List PyData}{xs:List V}{its:List Value}(I:Inv X pins σ H s)(sub:Zp F H)(rx:Rep X.K F x vx)(ru:RelV vx u)(rs:Zu X.K F ds xs)(rv:Vals xs its)(px:HM.Zan x=true)(pd:ds.all HM.Zan=true) :
  (∀y∈its,SeqAt.EqAt X.A.in1 s y u (Zhe s.heap x y))/\its.any (Zhe s.heap x)=ds.any λd=>Zzv d x:=by
 obtain⟨x1,x2⟩:=ZdA px;obtain⟨as,hx⟩:=rx.reads I sub x1 u ru;have hun:=hr.un;have each:∀(i:Nat) d y,ds[i]?=some d->its[i]?=some y->(∃bs,Reads s.heap y d bs)/\d.canLay0=true/\d.depth<=60:=λi d y e1 e2=>by
  have hi:i<xs.length:=by rw[<-rs.1]; exact(ZyM.mp e1).1
  obtain⟨y',q1,q2⟩:=rv.get (ZyO hi);rw[e2]at q1;cases q1;have hp:=ZdA (ZyL.mp pd d (Zy3 e1));exact⟨(rs.2 i d _ e1 (ZyO hi)).reads I sub hp.1 y q2,hp⟩
 have hl:ds.length=its.length:=rs.1.trans rv.length;refine⟨λy hy=>?_,Zr1 hl λi d y e1 e2=>?_⟩
 ·obtain⟨i,hi,e⟩:=ZA3 hy
  have hi':i<ds.length:=by omega
  obtain⟨⟨bs,q⟩,h1,h2⟩:=each i ds[i] y (ZyO hi') (by rw[ZyO hi,e]);rw[ZrK q h1];refine SeqAt.eqAt_reads _ _ _ _ _ _ _ _ q hx h1 x1 ?_;have:min (ds[i]).depth x.depth<=60:=Zzl (ZC4 _ _) h2;show X.A.units+1+_<_;omega
 ·obtain⟨⟨bs,q⟩,h1,_⟩:=each i d y e1 e2
  exact ZrK q h1
theorem Zr9{k:Nat}(hr:Zal k X.A):OpR X (ZzJ .NotIn) (ZwK X.K true):=by
 intro pins s σ H vx vy v u Q I r1 r2 ⟨F,p,xs,x,ds,sub,e,hq,rx,rs,px,pd,q⟩;subst e;cases r2;rcases hq with hq | hq
 ·obtain⟨its,r,pl,hz⟩:=I.list hq
  obtain⟨h1,h2⟩:=ZoH hr I sub rx r1 rs r px pd;refine SeqAt.notIn_listAt (Zhe s.heap x) pl.isList (λw hw=>h1 w (by simpa using hw)) ⟨.bl _,H,I,rfl,?_⟩;rw[show its.toArray.any (Zhe s.heap x)=its.any (Zhe s.heap x) by simp,h2];exact q
 ·obtain⟨its,r,pl,hz⟩:=I.tuple hq
  obtain⟨h1,h2⟩:=ZoH hr I sub rx r1 rs r px pd;refine SeqAt.notIn_tupleAt (Zhe s.heap x) pl (λw hw=>h1 w (by simpa using hw)) ⟨.bl _,H,I,rfl,?_⟩;rw[show its.toArray.any (Zhe s.heap x)=its.any (Zhe s.heap x) by simp,h2];exact q
theorem Zud{ds:List PyData}{x:PyData}{c:Bool}(h:HM.ZnM ds x=some c):HM.Zan x=true/\ds.all HM.Zan=true/\c=ds.any λd=>Zzv d x:=by
 unfold HM.ZnM at h;split at h
 ·rename_i hp
  rw[ZyT]at hp;cases h;exact⟨hp.1,hp.2,rfl⟩
 ·cases h
theorem ZpT{r:HM.Env}{d:PyData}(h:HM.Zhu fa f r=some d):∃x q ds,fa r=some x/\f r=some q/\HM.Za9 q=some ds/\HM.Zan x=true/\ds.all HM.Zan=true/\d=.bool (!ds.any λd=>Zzv d x):=by
 unfold HM.Zhu at h;split at h
 ·split at h
  ·split at h
   ·obtain⟨c,h1,h2⟩:=ZyB.mp h
    obtain⟨h3,h4,h5⟩:=Zud h1;exact⟨_,_,_,by assumption,by assumption,by assumption,h3,h4,by rw[<-h2,<-h5]⟩
   ·cases h
  ·cases h
 ·cases h
theorem Ztk{neg:Bool}{r:HM.Env}{x:PyData}{q:HM.B}{ds:List PyData}(ha:XE X a fa)(hb:XB X b f)(h1:fa r=some x)(h2:f r=some q)(h3:HM.Za9 q=some ds)(p1:HM.Zan x=true)(p2:ds.all HM.Zan=true){op:CmpOp}(ho:OpR X (ZzJ op) (ZwK X.K neg))(hm:ZzL op b=false) :
  PT X (.Compare a [op] [b] pos) λσ H Q=>Now X.K r σ H λF0 H0 F=>∀F' H',Ext F H F' H'->Q (if neg then !ds.any λd=>Zzv d x else ds.any λd=>Zzv d x) H':=by
 refine PT.imp (ZlA ho (ha r _ h1) (hb r q h2) hm) λσ H Q ⟨F0,H0,F,at_,k⟩=>?_;refine⟨F0,H0,F,at_,λv F1 H1 x1 r1=>⟨F0,H0,F1,at_.grow x1,λw F2 H2 x2 ⟨fp,r2⟩=>?_⟩⟩;obtain⟨p,vs,e1,hq,rs⟩:=Zge x2.sub r2 h3;exact⟨F2,p,vs,x,ds,x2.sub,e1,hq,r1.mono x2.ff,rs,p1,p2,_,rfl,k F2 H2 (x1.trans x2)⟩
theorem ZrC{k:Nat}(hr:Zal k X.A)(ha:XE X a fa)(hb:XB X b f)(hm:ZzL .NotIn b=false:=by rfl):XT X (.Compare a [.NotIn] [b] pos) (HM.tV (HM.Zhu fa f)):=by intro r d h;obtain⟨x,q,ds,h1,h2,h3,h4,h5,e⟩:=ZpT (Zgf h);cases e;exact Ztk ha hb h1 h2 h3 h4 h5 (Zr9 hr) hm
end
end HP
namespace HP
open PySem PySem.Spec PyProof.Rows L2
variable[FX]
section
variable{X:Cx}{a b c e:Expr}{fa fb fc:HM.EF}{f:HM.BF}{pos p:Pos}{es:List Expr}
theorem rdT{F F':Hp}{a:Addr}{vvs:List (List Key × V)}(r:Rd F a (.dT vvs))(s:Zay F F'):Rd F' a (.dT vvs):=r.imp (λh=>s _ _ h) λ⟨o,h⟩=>⟨o,s _ _ h⟩
theorem Zm8{H:Hp}{a b:Addr}{kvs:List (List Key × V)}{k:List Key}(e:Rd H a (.dT kvs))(eb:H b=some (.tup (k.map kV))):Zb8 H a (.ref b) (ZaL kvs k):=.inr ⟨kvs,k,b,e,rfl,eb,rfl⟩
theorem Zii{K:Zyz}{F H:Hp}{q:HM.B}{v:V}{fp:List Addr}{kvs:List (List Key × PyData)}(sub:Zp F H)(r:Zac K F H q v fp)(h:HM.Zkd q=some kvs):∃l vvs,v=.ref l/\Rd H l (.dT vvs)/\ZaC K F kvs vvs:=by
 cases r with
 | pl r =>
  cases r with
  | @dct l es kvs' vvs h1 h2 h3 h4=>subst h2;have h:HM.Zfj (HM.Zk kvs')=some kvs:=h;rw[HM.dec_enc]at h;cases h;refine⟨l,vvs,rfl,Zju h1 sub,h3,?_,h4⟩;have:=congrArg Zzo h3;rw[ZyA,ZyA]at this;rw[ZyA,ZyA,this]
  | fn _=>cases h
  | tupk _=>cases h
  | tup _ _ _=>cases h
  | lst _ _ _=>cases h
  | non=>cases h
  | bl _=>cases h
  | int _=>cases h
  | str _=>cases h
 | ol _ _=>cases h
 | ok _ _ _=>cases h
 | @ot l kvs vvs h1 h2 h3=>cases h; exact⟨l,vvs,rfl,.inl h1,h2,h3⟩
 | @hd l o es kvs' vvs h1 h2 h3 h4=>subst h2;have h:HM.Zfj (HM.Zk kvs')=some kvs:=h;rw[HM.dec_enc]at h;cases h;exact⟨l,vvs,rfl,.inr ⟨o,sub _ _ h1⟩,h3,h4⟩
 | hf _=>cases h
 | otl _ _ _ _=>cases h
theorem ZtT{r:HM.Env}{d:PyData}(h:HM.Zn0 fa f r=some d):∃x q kvs y,fa r=some x/\f r=some q/\HM.Zkd q=some kvs/\HM.ZaS x=some y/\d=.bool (HM.Zi kvs y).isSome:=by
 unfold HM.Zn0 at h;split at h
 ·split at h
  ·split at h
   ·obtain⟨y,h1,h2⟩:=ZyB.mp h
    exact⟨_,_,_,y,by assumption,by assumption,by assumption,h1,h2.symm⟩
   ·cases h
  ·cases h
 ·cases h
theorem ZpR{r:HM.Env}{d:PyData}(h:HM.Zce fa f r=some d):∃x q kvs y,fa r=some x/\f r=some q/\HM.Zkd q=some kvs/\HM.ZaS x=some y/\d=.bool (!(HM.Zi kvs y).isSome):=by
 unfold HM.Zce at h;split at h
 ·split at h
  ·split at h
   ·obtain⟨y,h1,h2⟩:=ZyB.mp h
    exact⟨_,_,_,y,by assumption,by assumption,by assumption,h1,h2.symm⟩
   ·cases h
  ·cases h
 ·cases h
theorem ZvF(hu:X.A.units+1<cLine)(ha:XE X a fa)(hb:XB X b f)(hm:ZzL .In b=false:=by rfl):XT X (.Compare a [.In] [b] pos) (HM.tV (HM.Zn0 fa f)):=by intro r d h;obtain⟨x,q,kvs,y,h1,h2,h3,h4,e⟩:=ZtT (Zgf h);cases e;refine PT.imp (Zo6 (Zv2 hu (ha r x h1) (hb r q h2)) hm) λσ H Q ⟨F0,H0,F,at_,k⟩=>?_;refine⟨F0,H0,F,at_,λv F1 H1 x1 r1=>⟨F0,H0,F1,at_.grow x1,λw F2 H2 x2 ⟨fp,r2⟩=>?_⟩⟩;obtain⟨l,vvs,e1,e2,T⟩:=Zii x2.sub r2 h3;obtain⟨bb,rfl,hbb⟩:=ZbQ h4 (r1.mono x2.ff);exact⟨l,_,e1,Zm8 e2 (x2.sub _ _ hbb),_,rfl,by rw[T.some_iff]; exact k F2 H2 (x1.trans x2)⟩
theorem Zgy(hu:X.A.units+1<cLine)(ha:XE X a fa)(hb:XB X b f)(hm:ZzL .NotIn b=false:=by rfl):XT X (.Compare a [.NotIn] [b] pos) (HM.tV (HM.Zce fa f)):=by intro r d h;obtain⟨x,q,kvs,y,h1,h2,h3,h4,e⟩:=ZpR (Zgf h);cases e;refine PT.imp (Zo6 (Zmj hu (ha r x h1) (hb r q h2)) hm) λσ H Q ⟨F0,H0,F,at_,k⟩=>?_;refine⟨F0,H0,F,at_,λv F1 H1 x1 r1=>⟨F0,H0,F1,at_.grow x1,λw F2 H2 x2 ⟨fp,r2⟩=>?_⟩⟩;obtain⟨l,vvs,e1,e2,T⟩:=Zii x2.sub r2 h3;obtain⟨bb,rfl,hbb⟩:=ZbQ h4 (r1.mono x2.ff);exact⟨l,_,e1,Zm8 e2 (x2.sub _ _ hbb),_,rfl,by rw[T.some_iff]; exact k F2 H2 (x1.trans x2)⟩
theorem Zhm(hu:X.A.units+1<cLine)(ha:XB X a f)(hk:XE X b fb)(hs:Zof b:=by intro _ _; rfl):XE X (.Subscript a b pos) (HM.Zbt f fb):=by
 intro r d h;unfold HM.Zbt at h;split at h
 ·rename_i q hq
  split at h
  ·rename_i kvs hd
   split at h
   ·rename_i x hx
    split at h
    ·rename_i y hy
     refine PE.imp (Zlu hu (ha r q hq) (hk r x hx) hs) λσ H Q ⟨F0,H0,F,at_,kk⟩=>?_;refine⟨F0,H0,F,at_,λv F1 H1 x1 ⟨fp,r1⟩=>⟨F0,H0,F1,at_.grow x1,λw F2 H2 x2 r2=>?_⟩⟩;obtain⟨l,vvs,e1,e2,T⟩:=Zii x1.sub r1 hd;have e2':=rdT e2 x2.hh;have T':ZaC X.K F2 kvs vvs:=⟨T.1,T.2.mono x2.ff⟩;obtain⟨bb,rfl,hbb⟩:=ZbQ hy r2;obtain⟨u,q1,q2⟩:=T'.look.1 d h;exact⟨l,u,e1,by rw[<-q1]; exact Zm8 e2' (x2.sub _ _ hbb),kk u F2 H2 (x1.trans x2) q2⟩
    ·cases h
   ·cases h
  ·cases h
 ·cases h
theorem Zs6{apos:Pos}(hu:X.A.units+1<cLine)(ha:XB X a f)(hk:XE X b fb)(hz:XE X c fc)(m:M2 X a "get" apos b c pos):XE X (.Call (.Attribute a "get" apos) [b,c] [] pos) (HM.ZiZ f fb fc):=by
 intro r d h;unfold HM.ZiZ at h;split at h
 ·rename_i q hq
  split at h
  ·rename_i kvs hd
   split at h
   ·rename_i x hx
    split at h
    ·rename_i z hz'
     split at h
     ·rename_i y hy
      cases h;refine PE.imp (ZtW hu (ha r q hq) (hk r x hx) (hz r z hz') m) λσ H Q ⟨F0,H0,F,at_,kk⟩=>?_;refine⟨F0,H0,F,at_,λv F1 H1 x1 ⟨fp,r1⟩=>?_⟩;obtain⟨l,vvs,e1,e2,T⟩:=Zii x1.sub r1 hd;refine⟨l,e1,.inr ⟨vvs,e2⟩,F0,H0,F1,at_.grow x1,λw F2 H2 x2 r2=>⟨F0,H0,F2,(at_.grow x1).grow x2,λw' F3 H3 x3 r3=>?_⟩⟩;have e3:=rdT (rdT e2 x2.hh) x3.hh;have T':ZaC X.K F3 kvs vvs:=⟨T.1,(T.2.mono x2.ff).mono x3.ff⟩;obtain⟨bb,rfl,hbb⟩:=ZbQ hy (r2.mono x3.ff);refine⟨_,Zm8 e3 (x3.sub _ _ hbb),kk _ F3 H3 ((x1.trans x2).trans x3) ?_⟩;obtain⟨t1,t2⟩:=T'.look (k:=y);cases hl:HM.Zi kvs y with
      | none=>rw[t2 hl]; exact r3
      | some dd=>obtain⟨u,q1,q2⟩:=t1 dd hl; rw[q1]; exact q2
     ·cases h
    ·cases h
   ·cases h
  ·cases h
 ·cases h
structure XAL(X:Cx)(es:List Expr)(f:HM.AF):Prop where
 len:∀r ds,f r=some ds->ds.length=es.length
 pa:∀r ds,f r=some ds->PA X es λσ H Q=>Now X.K r σ H λF0 H0 F=>∀vs F' H',Ext F H F' H'->Zu X.K H' ds vs->Q vs H'
theorem Zac.lent{K:Zyz}{F H:Hp}{q:HM.B}{v:V}{fp:List Addr}{d:PyData}(sub:Zp F H)(r:Zac K F H q v fp)(h:HM.frz q=some d):Rep K H d v:=by
 cases r with
 | pl r=>cases h; exact r.mono sub
 | ol h1 r=>cases h; exact .lst (.of h1) r.1 (r.mono sub).2
 | ok _ _ _=>cases h
 | hd h1 he hk r=>cases h; exact(Rep.dct (.inr ⟨_,h1⟩) he hk r.2).mono sub
 | hf h1=>cases h; exact(Rep.fn h1).mono sub
 | ot h1 hk r=>cases h; exact .dct (.inl h1) rfl hk (r.mono sub).2
 | otl _ _ _ _=>cases h
end
end HP
namespace HP
open PySem PySem.Spec PyProof.Rows L2
variable[FX]
section
variable{X:Cx}{a b c e:Expr}{fa fb fc:HM.EF}{f:HM.BF}{pos p:Pos}{es:List Expr}
theorem ZrD{g:HM.AF}(h:XA X es g):XAL X es g :=
 ⟨h.len,λr ds hd=>PA.imp (h.pa r ds hd) λσ H Q ⟨F0,H0,F,at_,k⟩=>⟨F0,H0,F,at_,λvs F' H' x q=>k vs F' H' x (q.mono x.sub)⟩⟩
theorem ZfO{g:HM.AF}(ha:XE X e fa)(hr:XAL X es g)(hs:ZyK (e::es) X.env=(false,eval e X.env)::ZyK es X.env:=by rfl):XAL X (e::es) (HM.Zd fa g):=by
 refine⟨λr ds h=>?_,λr ds h=>?_⟩
 ·unfold HM.Zd at h
  split at h
  ·obtain⟨xs,h1,h2⟩:=ZyB.mp h
   subst h2;rw[ZyP,ZyP,hr.len r xs h1]
  ·cases h
 unfold HM.Zd at h;split at h
 ·rename_i x hx
  obtain⟨xs,h1,h2⟩:=ZyB.mp h;subst h2;refine PA.imp (Zag (ha r x hx) (hr.pa r xs h1) hs) λσ H Q ⟨F0,H0,F,at_,k⟩=>?_;exact⟨F0,H0,F,at_,λv F1 H1 x1 r1=>⟨F0,H0,F1,at_.grow x1,λvs F2 H2 x2 r2=>k (v::vs) F2 H2 (x1.trans x2) (.cons ((r1.mono x2.ff).mono x2.sub) r2)⟩⟩
 ·cases h
theorem Znc{g:HM.AF}(ha:XB X e f)(hr:XAL X es g)(hs:ZyK (e::es) X.env=(false,eval e X.env)::ZyK es X.env:=by rfl):XAL X (e::es) (HM.Zd (HM.Zm3 f) g):=by
 refine⟨λr ds h=>?_,λr ds h=>?_⟩
 ·unfold HM.Zd at h
  split at h
  ·obtain⟨xs,h1,h2⟩:=ZyB.mp h
   subst h2;rw[ZyP,ZyP,hr.len r xs h1]
  ·cases h
 unfold HM.Zd at h;split at h
 ·rename_i x hx
  obtain⟨xs,h1,h2⟩:=ZyB.mp h;subst h2;obtain⟨q,hq,hf⟩:=ZBJ.mp hx;refine PA.imp (Zag (ha r q hq) (hr.pa r xs h1) hs) λσ H Q ⟨F0,H0,F,at_,k⟩=>?_;exact⟨F0,H0,F,at_,λv F1 H1 x1 ⟨fp,r1⟩=>⟨F0,H0,F1,at_.grow x1,λvs F2 H2 x2 r2=>k (v::vs) F2 H2 (x1.trans x2) (.cons ((r1.lent x1.sub hf).monoT x2.hh) r2)⟩⟩
 ·cases h
theorem Rep.flat{K:Zyz}{F F':Hp}{d:PyData}{v:V}(r:Rep K F d v)(h:HM.Zjq d=true):Rep K F' d v:=by
 cases r with
 | non=>exact .non
 | bl b=>exact .bl b
 | int i=>exact .int i
 | str x=>exact .str x
 | tupk _=>cases h
 | tup _ _ _=>cases h
 | lst _ _ _=>cases h
 | dct _ _ _ _=>cases h
 | fn _=>cases h
theorem Ext.forget{F H F'' H'':Hp}(s:Zp F H)(n:NoT F)(x:Ext (Zcp H) H F'' H''):Ext F H F H'' :=
 ⟨Zp.refl F,x.hh,(n.sub s).trans (x.ff.trans x.sub),λ_ _ z=>.inl z,x.tab,id⟩
theorem Zs7{k:Nat}{x:Str}{g:HM.AF}{M:List PyData->Option PyData}(C:Callee X.prog X.w X.K X.mg X.base k x M)(hr:Zal k X.A)(ha:XAL X (e::es) g)(hg:Gl X x:=by rfl)(hdb:(x==("__debug__":Str))=false:=by decide)
  (he:ZyK (e::es) X.env=(false,eval e X.env)::ZyK es X.env:=by rfl) (hpl:(backTo pos (ZyK es X.env)).any (·.1)=false:=by rfl):XE X (.Call (.Name x p) (e::es) [] pos) (HM.Zos M g):=by
 intro r d hd;unfold HM.Zos at hd;split at hd
 ·rename_i ds hds
  split at hd
  ·rename_i d' hM
   split at hd
   ·rename_i hflat
    cases hd;obtain⟨fa,fd,ps,hl,F,hm,hk,hb⟩:=C.ex;refine PE.imp (ZjF (E:=E0) F hr hg hm hk hb .nil Zm7 (ha.pa r ds hds) hdb he hpl) λσ H Q ⟨F0,H0,F1,at_,k⟩=>?_;refine⟨F0,H0,F1,at_,λvs F' H' x q=>?_⟩;show spD X.K ps.length M (vs++[]) H' Q E0;rw[Zzb];exact⟨Zcp H',ds,d,by rw[<-q.1]; exact hl ds d hM,Zi3,at_.tbx x,.drop,q.drop',hM,λv F2 H2 x2 q2=>k v F' H2 (x.trans (Ext.forget x.sub (at_.ntx x) x2)) (q2.flat hflat)⟩
   ·cases hd
  ·cases hd
 ·cases hd
theorem Zr0(hc:X.calm=true):ZaU X (.builtin "max") (λxs H Q=>∃(p:Addr) (ns:List Int),xs=[.ref p]/\SqL X.K H p (ns.map V.int)/\0<ns.length/\∀M,M∈ns->(∀a,a∈ns->a<=M)->Q (.int M) H):=by
 intro pins s σ H xs us Q I r h;obtain⟨p,ns,rfl,hq,hne,q⟩:=h;obtain⟨u,rfl,rx⟩:=vals1 r;cases rx;obtain⟨its,rv,pl,hz⟩:=I.list hq;have hi:=ZdZ rv;obtain⟨xs,e⟩:=hi.allInts.items;have hns:ns=xs.toList.map (·.1):=by rw[<-hi.numsOf,<-nums_intItems,<-e]
 have hsz:0<xs.size:=by have h3:=hne; rw[hns,ZyA,Zy0]at h3; exact h3
 have hl:=pl.isList;rw[e]at hl;refine max_intList (I.ok.hd hc) hl hsz λv h' tk hv hk=>?_;obtain⟨t,rfl⟩:=intItems_at hv;obtain⟨h1,h2⟩:=argBest_gt (numAt xs) (xs.size-1);refine⟨.int _,H,I.kept (t':=tk) hk,⟨t,rfl⟩,q _ ?_ λa ha=>?_⟩
 ·rw[hns,numAt_eq]; exact getD_mem (by rw[ZyA,Zy0]; omega)
 ·rw[hns]at ha
  obtain⟨j,hj,rfl⟩:=mem_getD ha;rw[ZyA,Zy0]at hj;rw[<-numAt_eq]; exact h2 j (by omega)
theorem Zld(hm:X.mg "max" = none)(hc:X.calm=true)(ha:XB X a f)(hg:Gl X "max":=by rfl)(hs:ZyK [a] X.env=[(false,eval a X.env)]:=by rfl):XE X (.Call (.Name "max" p) [a] [] pos) (HM.Zh0 f):=by
 intro r d h;unfold HM.Zh0 at h;split at h
 ·rename_i x hx
  split at h
  ·rename_i ds hds
   split at h
   ·rename_i ns hns
    obtain⟨m,h1,h2⟩:=ZyB.mp h;subst h2;refine PE.imp (Zdo (Zr0 hc) hg hm Zsi (Ze5 ha hx hs) (he:=hs)) λσ H Q ⟨F0,H0,F,at_,k⟩=>?_;refine⟨F0,H0,F,at_,λv fp F1 H1 x1 r1=>?_⟩;obtain⟨l,vs,e1,hq,rs⟩:=Zgu x1.sub r1 hds;rw[ZcM hns rs]at hq;obtain⟨m1,m2⟩:=ZB2.mp h1;refine⟨l,ns,by rw[e1],hq,List.length_pos_of_mem m1,λM k1 k2=>?_⟩;have:M=m:=Int.le_antisymm (m2 M k1) (k2 m m1);subst this;exact k _ F1 H1 x1 (.int _)
   ·cases h
  ·cases h
 ·cases h
end
end HP
namespace HP
open PySem PySem.Spec PyProof.Rows L2
variable[FX]
end HP
namespace HP
open PySem PySem.Spec PyProof.Rows L2
variable[FX]
section
variable{X:Cx}{a b c e:Expr}{fa fb fc:HM.EF}{f:HM.BF}{pos p:Pos}{es:List Expr}
theorem ZrE(i:Nat){x:Str}{p1 p2 p3:Pos}(ha:XB X a f)(hN:X.N[i]?=some x:=by rfl)(hv:Vis X.env.scope x:=by first | exact ZzA rfl | exact Zzc (ZzA rfl) | exact Zzc (Zzc rfl))(hd:(x==("__debug__":Str))=false:=by decide)(hcd:(x==("__classdict__":Str))=false:=by decide)
  (hbase:ZAQ (.Name x p1) "extend" X.env (eval (.Name x p1) X.env)=eval (.Name x p1) X.env:=by rfl)
  (hfew:((backTo p3 (ZyK [a] X.env)).all (λx=>!x.1)&&(ZCT p3 (ZBR [] X.env)).all (λx=>x.1.isSome)&&decide (([a]:List Expr).length+([]:List Keyword).length+(if([]:List Keyword).isEmpty then 0 else 1)<30))=true:=by rfl)
  (hline:(p2.endLine==p3.line)=true:=by rfl) (hs:ZyK [a] X.env=[(false,eval a X.env)]:=by rfl):XS X (.Expr (.Call (.Attribute (.Name x p1) "extend" p2) [a] [] p3) pos) (HM.Zjr i f):=by
 intro r o h;unfold HM.Zjr at h;split at h
 ·rename_i ds hds
  split at h
  ·rename_i es hes
   split at h
   ·rename_i hz
    cases h;refine PS.imp (Zhy (Zm2 ZAF PySem.F.slot_list_extend PySem.F.type_list_extend ZsM (Zb7 hN hv hd hcd) (Zag (ha r _ hes) ZbI hs) hbase hfew hline hs rfl)) λE σ H ⟨F0,H0,F,at_,k⟩=>?_;obtain⟨l,vs,e1,e2,e3,_⟩:=at_.chgList (es:=ds) hds;refine⟨.ref l,e1,.inl ⟨rfl,_,SqL.of e2⟩,F0,H0,F,at_,λv F1 H1 x1 ⟨fp,r1⟩=>?_⟩;have at1:=at_.grow x1;obtain⟨l',vs',f1,f2,f3,f4⟩:=at1.chgList (es:=ds++es) hds;rw[e1]at f1;cases f1;cases r1 with
    | @ol b _ us hb rs =>
     refine⟨_,b,vs',us,rfl,rfl,f2,hb,?_,k _ F1 _ (f4 _ (f3.append rs))⟩;have e4:=f3.1;have e6:=rs.1;have e5:(1000000:Nat)<=sizeLine:=by decide
     unfold HM.big at hz;omega
   ·cases h
  ·cases h
 ·cases h
theorem ZvG(i j:Nat){x y:Str}{p1 p2 p3 p4:Pos}(hN:X.N.Nodup)(hNi:X.N[i]?=some x:=by rfl)(hNj:X.N[j]?=some y:=by rfl)(hx:Loc X.env.scope x:=by first | exact ZzA rfl | exact Zzc rfl)(hv:Vis X.env.scope y:=by first | exact ZzA rfl | exact Zzc (ZzA rfl) | exact Zzc (Zzc rfl))(hd:(y==("__debug__":Str))=false:=by decide)(hcd:(y==("__classdict__":Str))=false:=by decide)
  (hbase:ZAQ (.Name y p1) "pop" X.env (eval (.Name y p1) X.env)=eval (.Name y p1) X.env:=by rfl) (hline:(p2.endLine==p3.line)=true:=by rfl)
  (hs:ZAI (.Call (.Attribute (.Name y p1) "pop" p2) [] [] p3) (some (.Name x p4)) pos.line X.env=pure false:=by rfl) (hf:X.fn x=true\/X.env.scope.names.lookup x=some .local:=by first | exact .inl rfl | exact .inr rfl) :
  XS X (.Assign [.Name x p4] (.Call (.Attribute (.Name y p1) "pop" p2) [] [] p3) pos) (HM.Ztp i j):=by
 intro r o h;unfold HM.Ztp at h;split at h
 ·rename_i ds hds
  split at h
  ·rename_i d hd'
   cases h;refine PS.imp (Zn8 hN hNi hx (ZvO ZAF PySem.F.slot_list_pop PySem.F.type_list_pop ZvQ (Zb7 hNj hv hd hcd) hbase hline) hs hf) λE σ H ⟨F0,H0,F,at_,k⟩=>?_;obtain⟨l,vs,e1,e2,e3,e4⟩:=at_.chgList (es:=ds.dropLast) hds;obtain⟨v,q1,q2⟩:=e3.get hd';refine⟨.ref l,e1,.inl ⟨rfl,_,SqL.of e2⟩,l,vs,v,rfl,rfl,e2,by rw[<-e3.1]; exact q1,k _ F _ ((e4 _ ?_).set q2)⟩;rw[ZDm,ZDm,<-e3.1];exact e3.take _
  ·cases h
 ·cases h
def spF(K:Zyz)(n:Nat)(M:List PyData->Option PyData):Sp:=λvs H Q _=>∃F ds ys,vs.length=n/\Zp F H/\Tb H/\NoT F/\Zu K F ds vs/\M ds=some (.list ys)/\∀l us F' H',Ext F H F' H'->H' l=some (.lst us)->Zu K F' ys us->F' l=none->H l=none->Q (.ref l) H'
structure Zd2(P:Program)(w:World)(K:Zyz)(mg:Str->Option Value)(base:Heap)(k:Nat)(x:Str)(M:List PyData->Option PyData):Prop where
 ex:∃f fd ps,(∀ds d,M ds=some d->ds.length=ps.length)/\Zdm P w K mg base CX0 k f fd ps (spF K ps.length M)/\mg x=some (.ref f)/\Zz0 K (.ref f)=true/\Binds K fd ps []
theorem Zd2.mono{P:Program}{w:World}{K:Zyz}{mg:Str->Option Value}{base:Heap}{j k:Nat}{x:Str}{M:List PyData->Option PyData}(C:Zd2 P w K mg base j x M)(h:j<=k):Zd2 P w K mg base k x M:=by obtain⟨f,fd,ps,l,F,r⟩:=C.ex;exact⟨f,fd,ps,l,F.mono h,r⟩
theorem Zs8{k:Nat}{x:Str}{g:HM.AF}{M:List PyData->Option PyData}(C:Zd2 X.prog X.w X.K X.mg X.base k x M)(hr:Zal k X.A)(ha:XA X (e::es) g)(hg:Gl X x:=by rfl)(hdb:(x==("__debug__":Str))=false:=by decide)
  (he:ZyK (e::es) X.env=(false,eval e X.env)::ZyK es X.env:=by rfl) (hpl:(backTo pos (ZyK es X.env)).any (·.1)=false:=by rfl):XF X (.Call (.Name x p) (e::es) [] pos) (HM.ZiW M g):=by
 intro r d hd;unfold HM.ZiW at hd;split at hd
 ·rename_i ds hds
  split at hd
  ·rename_i ys hM
   cases hd;obtain⟨fa,fd,ps,hl,F,hm,hk,hb⟩:=C.ex;refine PE.imp (ZjF (E:=E0) F hr hg hm hk hb .nil Zm7 (ha.pa r ds hds) hdb he hpl) λσ H Q ⟨F0,H0,F1,at_,k⟩=>?_;refine⟨F0,H0,F1,at_,λvs F' H' x q=>?_⟩;show spF X.K ps.length M (vs++[]) H' Q E0;rw[Zzb];refine⟨F',ds,ys,by rw[<-q.1]; exact hl ds _ hM,x.sub,at_.tbx x,at_.ntx x,q,hM,λl us F2 H2 x2 h1 h2 h3 h4=>k _ F2 H2 (x.trans x2) ⟨[l],.ol h1 h2,by simp,λa ha=>?_⟩⟩;obtain rfl:a=l:=by simpa using ha
   exact⟨h3,x.hh.free h4⟩
  ·cases hd
 ·cases hd
theorem Zrl{P:Program}{w:World}{K:Zyz}{mg:Str->Option Value}{base:Heap}{k:Nat}{x qual:Str}{st:Stmt}{f:Addr}{fd:FuncData}{N ps:List Str}{e:Expr}{g:HM.BF}{p1:Pos}(Fn:Fun K x qual st f fd)(S:Zv N ps (Ze st))(hm:mg x=some (.ref f))(hb:Binds K fd ps [])
  (hst:ZaQ st=[.Return (some e) p1]) (hol:∀r b,g r=some b->∃ys,b=.ol ys)
  (body:∀(cdv:Value) (A:Around) (outer:List Env) (s:Shared) (H:Hp) (E:XK),Zal k (A.deeper (envOfC qual (Ze st) s.heap.objs.size f cdv))->XF (Zgd CX0 P w K mg base N qual (Ze st) f cdv A outer s H E).nox e g) :
  Zd2 P w K mg base (k+1) x (HM.fnOf ps.length N.length (HM.ZC (HM.eOf g))):=by
 have hpl:ps.length<=N.length:=by have:=congrArg Zzo S.pre; rw[ZzO]at this; omega
 refine⟨f,fd,ps,λds d h=>?_,Fn.ok S (λvs H Q E h=>?_) (λcdv A outer s H vs Q E hr h=>?_),hm,Fn.kp,hb⟩
 ·unfold HM.fnOf at h
  split at h
  ·assumption
  ·cases h
 ·obtain⟨_,_,_,h,_⟩:=h
  exact h
 ·obtain⟨F,ds,ys,hl,sub,tb,nt,q,hM,kk⟩:=h
  unfold HM.fnOf at hM;split at hM
  ·rename_i hds
   have a0:=Zgk (N:=N) sub tb nt q (by omega);have hg:g (HM.Zer N.length ds)=some (.ol ys):=by
    split at hM
    ·rename_i r hr'
     cases hq:HM.eOf g (HM.Zer N.length ds)with
     | none=>unfold HM.ZC at hr'; rw[hq]at hr'; cases hr'
     | some d=>unfold HM.ZC at hr'; rw[hq]at hr'; cases hr'
    ·rename_i d' hr'
     cases hM;obtain⟨d,h1,h2⟩:=ZyB.mp hr';cases h2;obtain⟨b,h3,h4⟩:=ZBJ.mp h1;obtain⟨zs,rfl⟩:=hol _ _ h3;cases h4;exact h3
    ·cases hM
   rw[hst];refine⟨_,Zqn (ZoY (body cdv A outer s H E hr _ _ hg)),F,H,F,a0,λv F' H' x ⟨fp,r1,nd,hn⟩=>?_⟩;cases r1 with
   | @ol l _ us h1 h2=>exact kk l us F' H' x h1 h2 (hn l (by simp)).1 (hn l (by simp)).2
  ·cases hM
theorem ZtH(i:HM.IF)(c:HM.TF)(e:HM.EF)(r:HM.Env)(b:HM.B)(h:HM.ZL i c e r=some b):∃ys,b=.ol ys:=by
 unfold HM.ZL at h;split at h
 ·split at h
  ·obtain⟨ys,_,h2⟩:=ZyB.mp h
   exact⟨ys,h2.symm⟩
  ·cases h
 ·cases h
end
end HP
namespace HP
open PySem PySem.Spec PyProof.Rows L2
variable[FX]
section
variable{K:Zyz}{F H F0 H0 G:Hp}{a b:Addr}{ob u:HO}{vvs:List (List Key × V)}{d:PyData}{v:V}{ds:List PyData}{vs:List V}{r:HM.Env}{σ:L2.St}{i:Nat}{es:List (PyData × PyData)}
theorem Zbe(h:b≠a):sw a ob G b=G b:=by unfold sw; rw[if_neg h]
theorem ZfD:sw a ob G a=(G a).map λ_=>ob:=by unfold sw; rw[if_pos rfl]
theorem Zqx(s:Zp F H):Zp (sw a ob F) (sw a ob H):=λb o z=>by
 by_cases hb:b=a
 ·subst hb
  rw[ZfD]at z ⊢;obtain⟨x,h1,h2⟩:=ZyB.mp z;rw[s _ _ h1,<-h2]; rfl
 ·rw[Zbe hb]at z ⊢; exact s b o z
theorem Zur(hG:∀u,G a=some u->u=.dT vvs):sw a (.dT vvs) (sw a ob G)=G:=by
 funext b
 by_cases hb:b=a
 ·subst hb
  rw[ZfD,ZfD];cases h:G b with
  | none=>rfl
  | some u=>rw[hG u h]; rfl
 ·rw[Zbe hb,Zbe hb]
theorem Dk.nt(h:Dk vvs u):(∀xs,u≠.tup xs)/\(∀xs,u≠.lst xs)/\(∀o xs,u≠.frz o (.lst xs))/\(∀ps,u≠.tbl ps)/\(∀x,u≠.own x):=by rcases h with h | ⟨o,h⟩<;>subst h<;>exact⟨λ_ z=>(by cases z),λ_ z=>(by cases z),λ_ _ z=>(by cases z),λ_ z=>(by cases z),λ_ z=>(by cases z)⟩
theorem Rep.sw(hF:∀u,F a=some u->Dk vvs u)(hob:Dk vvs ob)(r:Rep K F d v):Rep K (HP.sw a ob F) d v:=by
 induction r with
 | non=>exact .non
 | bl b=>exact .bl b
 | int i=>exact .int i
 | str x=>exact .str x
 | fn h=>exact .fn (FX.sw hF hob h)
 | tupk h=>exact .tupk h
 | @tup b ds vs h hl _ ih=>exact .tup (by rw[Zbe (λz=>(hF _ (z▸h)).nt.1 _ rfl)]; exact h) hl ih
 | @lst b ds vs h hl _ ih =>
  refine .lst ?_ hl ih;rcases h with h | h
  ·refine .inl ?_
   have hb:b≠a:=λz=>by
    rcases h with h | ⟨o,h⟩
    ·exact(hF _ (z▸h)).nt.2.1 _ rfl
    ·exact(hF _ (z▸h)).nt.2.2.1 _ _ rfl
   unfold Rd;rw[Zbe hb];exact h
  ·exact .inr h
 | @dct b es kvs vvs' h he hk _ ih =>
  refine .dct ?_ he hk ih
  by_cases hb:b=a
  ·subst hb
   have:vvs'=vvs/\∃u,F b=some u:=by
    rcases h with h | ⟨o,h⟩
    ·rcases hF _ h with z | ⟨o',z⟩
     ·cases z; exact⟨rfl,_,h⟩
     ·cases z
    ·rcases hF _ h with z | ⟨o',z⟩
     ·cases z
     ·cases z; exact⟨rfl,_,h⟩
   obtain⟨rfl,u,hu⟩:=this;unfold Rd;rw[ZfD,hu];rcases hob with z | ⟨o,z⟩
   ·subst z; exact .inl rfl
   ·subst z; exact .inr ⟨o,rfl⟩
  ·unfold Rd
   rw[Zbe hb];exact h
theorem Zu.sw(hF:∀u,F a=some u->Dk vvs u)(hob:Dk vvs ob)(r:Zu K F ds vs):Zu K (HP.sw a ob F) ds vs:=⟨r.1,λi d v h1 h2=>(r.2 i d v h1 h2).sw hF hob⟩
theorem Ext.sw(x:Ext F0 H0 F H)(hH:∀u,H a=some u->Dk vvs u)(hob:Dk vvs ob):Ext (HP.sw a ob F0) (HP.sw a ob H0) (HP.sw a ob F) (HP.sw a ob H) :=
 ⟨Zqx x.ff,x.hh.sw,Zqx x.sub,λb o z=>by
  by_cases hb:b=a
  ·subst hb
   rw[ZfD]at z;obtain⟨u,h1,h2⟩:=ZyB.mp z;rcases x.new b u h1 with q | q | ⟨xs,e,q⟩
   ·exact .inl (by rw[ZfD,q,<-h2]; rfl)
   ·exact .inr (.inl (by rw[ZfD,q]; rfl))
   ·exact absurd e ((hH _ (x.sub _ _ h1)).nt.1 xs)
  ·rw[Zbe hb]at z
   rcases x.new b o z with q | q
   ·exact .inl (by rw[Zbe hb]; exact q)
   ·refine .inr ?_
    unfold Fre;rw[Zbe hb];exact q,λt=>(x.tab (t.unsw hob)).sw hH,λt b o z=>by
  unfold HP.sw at z;split at z
  ·obtain⟨u,_,e⟩:=ZyB.mp z
   subst e; exact hob.ntt
  ·rename_i hb
   refine x.nts (λc u y=>?_) b o z
   by_cases hc:c=a
   ·subst hc; exact(hH _ (x.sub _ _ (x.ff _ _ y))).ntt
   ·exact t c u (by rw[Zbe hc]; exact y)⟩
theorem At.sw(e:At K F0 H0 F H r σ)(hFa:F a=some u)(hu:Dk vvs u)(hob:Dk vvs ob)(nh:∀(i:Nat) (es:List (PyData × PyData)),r[i]?≠some (some (HM.B.hd es))):At K (HP.sw a ob F0) (HP.sw a ob H0) (HP.sw a ob F) (HP.sw a ob H) r σ:=by
 obtain⟨fp,e⟩:=e;have hF:∀u,F a=some u->Dk vvs u:=λu' h=>by rw[hFa]at h; cases h; exact hu
 have hH:∀u,H a=some u->Dk vvs u:=λu' h=>by rw[e.sub _ _ hFa]at h; cases h; exact hu
 have own:∀i,∀c∈fp i,c≠a:=λi c hc z=>by rw[<-z,(e.own i c hc).1]at hFa; cases hFa
 refine⟨fp,e.ext.sw hH hob,e.len,λi b h=>?_,e.emp,λi b h=>?_,e.nd,e.dis,e.tb.sw (vvs:=vvs) (λu' z=>by have q:=e.ext.hh.back z (e.sub _ _ hFa) hu.nt.2.2.2.1;rw[q]; exact hu),λb o z=>?_⟩
 rotate_left 2
 ·unfold HP.sw at z
  split at z
  ·obtain⟨u,_,e⟩:=ZyB.mp z
   subst e; exact hob.ntt
  ·exact e.nt b o z
 ·obtain⟨v,h1,h2⟩:=e.at_ i b h
  refine⟨v,h1,?_⟩;have own:=own i;generalize fp i=f at h2 own;cases h2 with
  | pl q=>exact .pl (q.sw hF hob)
  | ol k q=>exact .ol (by rw[Zbe (own _ (by simp))]; exact k) (q.sw hF hob)
  | ok k hk q=>exact .ok (by rw[Zbe (own _ (by simp))]; exact k) hk (q.sw hF hob)
  | ot k hk q=>exact .ot (by rw[Zbe (own _ (by simp))]; exact k) hk (q.sw hF hob)
  | otl k hk hv q=>refine .otl (by rw[Zbe (own _ (by simp))]; exact k) hk hv λi ds l h1 h2=>?_;obtain⟨vs,q1,q2⟩:=q i ds l h1 h2;exact⟨vs,by rw[Zbe (own l (ZyD _ (Zy3 h2)))]; exact q1,q2.sw hF hob⟩
  | hd _ _ _ _=>exact absurd h (nh _ _)
  | hf _=>exact absurd h (nh _ _)
 ·rw[Zbe (own i b h),Zbe (own i b h)]
  exact e.own i b h
theorem set_same{x:Option V}(h:σ[i]?=some x):σ.set i x=σ:=by obtain⟨h1,h2⟩:=ZyM.mp h;rw[<-h2];exact ZBg h1
theorem At.say{b':HM.B}(e:At K F0 H0 F H r σ)(h1:σ[i]?=some (some v))(q:Zac K F H b' v []):At K F0 H0 F H (r.set i (some b')) σ:=by
 have:=e.store (i:=i) q ZAj (λa h=>by simp at h) λ_ _ _ _ _ _ h=>by simp at h
 rwa [set_same h1]at this
theorem At.loosen(e:At K F0 H0 F H r σ)(h:r[i]?=some (some (.hd es))):At K F0 H0 F H (r.set i (some (.pl (.dict es)))) σ:=by
 obtain⟨v,fp,h1,h2⟩:=e.any h;cases h2 with
 | hd k1 k2 k3 k4=>exact e.say h1 (.pl (.dct (.inr ⟨_,k1⟩) k2 k3 k4.2))
 | hf k1=>exact e.say h1 (.pl (.fn k1))
theorem Zuw(h:r.all (λq=>!HM.Zbr q)=true)(i:Nat)(es:List (PyData × PyData)):r[i]?≠some (some (.hd es)):=λz=>by have:=ZyL.mp h _ (Zy3 z);cases this
theorem ZrT{b':HM.B}(h:(r.set i none).all (λq=>!HM.Zbr q)=true)(hb:∀es,b'≠.hd es)(j:Nat)(es:List (PyData × PyData)):(r.set i (some b'))[j]?≠some (some (.hd es)):=λz=>by
 by_cases hj:i=j
 ·subst hj
  by_cases hi:i<r.length
  ·rw[Zzs hi]at z
   injection z with z
   injection z with z
   exact hb _ z
  ·rw[ZDh (by rw[ZzM]; omega)]at z
   cases z
 ·rw[Zy7 hj]at z
  exact Zuw h j es (by rw[Zy7 hj]; exact z)
end
section
variable{X:Cx}{pins:List (Addr × Obj)}{σ:L2.St}{H:Hp}{s:Shared}{a:Addr}{u ob:HO}{vvs:List (List Key × V)}
theorem Zm0{h:Heap}{o:HO}{b:Addr}(ha:H a=some u)(hu:Dk vvs u)(x:Zab X.prog X.w H h b o):Zab X.prog X.w (sw a ob H) h b o :=
 x.stay (λ_ _ _ q=>q) (λc q=>by rw[Zbe (λz=>by rw[z,ha]at q; cases q; exact hu.nt.2.2.2.2 _ rfl)]; exact q) λc xs q=>by rw[Zbe (λz=>by rw[z,ha]at q; cases q; exact hu.nt.1 _ rfl)]; exact q
theorem ZoU(I:Inv X pins σ H s)(ha:H a=some u)(hu:Dk vvs u)(ok:Zab X.prog X.w (sw a ob H) s.heap a ob)(hn:∀o w,X.H₀ a≠some (.frz o w)):Inv X pins σ (HP.sw a ob H) s:=by
 have none':∀b,H b=none->HP.sw a ob H b=none:=λb h=>by rw[Zbe (λz=>by rw[z,ha]at h; cases h)]; exact h
 refine⟨I.ok,I.os,I.bare,⟨I.base.keep,I.base.slot,λb o h1 h2 h3=>none' b (I.base.free b o h1 h2 h3),I.base.there,λb xs h=>?_,λb o w h=>?_,λb ps h=>?_⟩,I.loc,I.cell,none' _ I.free,λx c h=>none' _ (I.freeC x c h),λp hp=>?_,λb o h=>?_,I.len⟩
 ·have q:=I.base.tups b xs h
  rw[Zbe (λz=>by rw[z,ha]at q; cases q; exact hu.nt.1 _ rfl)];exact q
 ·have q:=I.base.frzs b o w h
  rw[Zbe (λz=>hn o w (by rw[<-z]; exact h))];exact q
 ·obtain⟨m,q⟩:=I.base.tbls b ps h
  exact⟨m,by rw[Zbe (λz=>by rw[z,ha]at q; cases q; exact hu.nt.2.2.2.1 _ rfl)]; exact q⟩
 ·have q:=I.pin p hp
  exact⟨q.1,none' _ q.2.1,q.2.2⟩
 ·by_cases hb:b=a
  ·subst hb
   rw[ZfD,ha]at h;cases h;exact ok
  ·rw[Zbe hb]at h
   exact Zm0 ha hu (I.hok b o h)
theorem Zjo(i:Nat){st:Stmt}{g:HM.SF}(h:XS X st g):XS X st (HM.ZeZ i g):=by
 intro r o ho;unfold HM.ZeZ at ho;split at ho
 case h_2=>exact h r o ho
 rename_i es hr;split at ho
 case isFalse=>cases ho
 rename_i hall;have nh:=Zuw hall;intro pins s σ H E I ⟨F0,H0,F,at_,k⟩;obtain⟨v,h1,h2⟩:=at_.plain hr;cases h2 with
 | @dct a _ kvs vvs hd he hk hrr =>
  have rs:∀{F':Hp},Zp F F'->Zu X.K F' (kvs.map (·.2)) (vvs.map (·.2)):=λs=>by refine Zu.mono ⟨?_,hrr⟩ s;have:=congrArg Zzo hk;rw[ZyA,ZyA]at this ⊢;exact this
  rcases hd with hd | ⟨q,hd⟩
  ·have hHa:=at_.sub _ _ hd
   obtain⟨z,y,xs,rl,q,es1,ep,e1,c1⟩:=(show Zab X.prog X.w H s.heap a (.dT vvs) from I.hok a _ hHa);have hn:∀o w,X.H₀ a≠some (.frz o w):=λo w z=>by have:=I.base.frzs _ _ _ z;rw[hHa]at this; cases this
   have I1:=ZoU (ob:=.frz q (.dT vvs)) I hHa (.inl rfl) ⟨e1,Zm0 hHa (.inl rfl) ⟨z,y,xs,rl,q,es1,ep,e1,c1⟩⟩ hn;have at1:=at_.sw (ob:=.frz q (.dT vvs)) hd (.inl rfl) (.inr ⟨q,rfl⟩) nh;have Ra:HP.sw a (.frz q (.dT vvs)) F a=some (.frz q (.dT vvs)):=by rw[ZfD,hd]; rfl
   have hFd:∀u,F a=some u->Dk vvs u:=λu z=>by rw[hd]at z; cases z; exact .inl rfl
   have at2:=(at1.say (i:=i) h1 (.hd Ra he hk (Zu.sw hFd (.inr ⟨q,rfl⟩) (rs (Zp.refl F))))).rebase;have e0:HP.sw a (.dT vvs) (HP.sw a (.frz q (.dT vvs)) F0)=F0:=Zur λu z=>by have:=at_.ext.ff _ _ z;rw[hd]at this; cases this; rfl
   have e1:HP.sw a (.dT vvs) (HP.sw a (.frz q (.dT vvs)) H0)=H0:=Zur λu z=>by exact at_.ext.hh.back z hHa λ_ w=>by cases w
   split at ho
   ·rename_i r' hg
    split at ho
    case h_2=>cases ho
    rename_i es' hr';split at ho
    case isFalse=>cases ho
    rename_i hall';cases ho;refine thn (h _ _ hg pins s σ _ { nx:=λσ' H'=>∃F',At X.K (HP.sw a (.frz q (.dT vvs)) F) (HP.sw a (.frz q (.dT vvs)) H0) F' H' r' σ',rt:=λ_ _=>False,bk:=λ_ _=>False,ct:=λ_ _=>False } I1 ⟨_,_,_,at2,λσ' F' H' a'=>⟨F',a'⟩⟩) λfl s' z=>?_;cases fl with
    | next=>obtain⟨σ',H',I',F',a'⟩:=z;have Fa:=a'.ext.ff _ _ Ra;have Ha:=a'.sub _ _ Fa;have a3:=((At.unbase at1.ext (at1.nt0) a').loosen hr').sw (ob:=.dT vvs) Fa (.inr ⟨q,rfl⟩) (.inl rfl) (ZrT hall' λ_ z=>by cases z);rw[e0,e1]at a3;exact⟨σ',_,ZoU I' Ha (.inr ⟨q,rfl⟩) (Zm0 Ha (.inr ⟨q,rfl⟩) (Zla I'.hok (.inr ⟨q,Ha⟩))) hn,k σ' _ _ a3⟩
    | brk=>obtain⟨_,_,_,z⟩:=z; exact z.elim
    | cont=>obtain⟨_,_,_,z⟩:=z; exact z.elim
    | ret u=>obtain⟨_,_,_,_,_,z⟩:=z; exact z.elim
   ·rename_i d hg
    cases ho;refine thn (h _ _ hg pins s σ _ { nx:=λ_ _=>False,bk:=λ_ _=>False,ct:=λ_ _=>False,rt:=λv' H'=>∃F',Ext (HP.sw a (.frz q (.dT vvs)) F) (HP.sw a (.frz q (.dT vvs)) H0) F' H'/\Rep X.K F' d v' } I1 ⟨_,_,_,at2,λv' F' H' x q=>⟨F',x,q⟩⟩) λfl s' z=>?_;cases fl with
    | ret u=>obtain⟨v',σ',H',I',rv,F',x',r'⟩:=z;have Fa:=x'.ff _ _ Ra;have Ha:=x'.sub _ _ Fa;have x3:=(Ext.unbase at1.ext x').sw (a:=a) (vvs:=vvs) (ob:=.dT vvs) (λu z=>by rw[Ha]at z; cases z; exact .inr ⟨q,rfl⟩) (.inl rfl);rw[e0,e1]at x3;exact⟨v',σ',_,ZoU I' Ha (.inr ⟨q,rfl⟩) (Zm0 Ha (.inr ⟨q,rfl⟩) (Zla I'.hok (.inr ⟨q,Ha⟩))) hn,rv,k v' _ _ x3 (r'.sw (λu z=>by rw[Fa]at z; cases z; exact .inr ⟨q,rfl⟩) (.inl rfl))⟩
    | next=>obtain⟨_,_,_,z⟩:=z; exact z.elim
    | brk=>obtain⟨_,_,_,z⟩:=z; exact z.elim
    | cont=>obtain⟨_,_,_,z⟩:=z; exact z.elim
   ·cases ho
  ·have at2:=at_.say (i:=i) h1 (.hd hd he hk (rs (Zp.refl F)))
   split at ho
   ·rename_i r' hg
    split at ho
    case h_2=>cases ho
    rename_i es' hr';split at ho
    case isFalse=>cases ho
    cases ho;exact h _ _ hg pins s σ H E I ⟨F0,H0,F,at2,λσ' F' H' a'=>k σ' F' H' (a'.loosen hr')⟩
   ·rename_i d hg
    cases ho;exact h _ _ hg pins s σ H E I ⟨F0,H0,F,at2,k⟩
   ·cases ho
 | fn hv =>
  have at2:=at_.say (i:=i) h1 (.hf hv);split at ho
  ·rename_i r' hg
   split at ho
   case h_2=>cases ho
   rename_i es' hr';split at ho
   case isFalse=>cases ho
   cases ho;exact h _ _ hg pins s σ H E I ⟨F0,H0,F,at2,λσ' F' H' a'=>k σ' F' H' (a'.loosen hr')⟩
  ·rename_i d hg
   cases ho;exact h _ _ hg pins s σ H E I ⟨F0,H0,F,at2,k⟩
  ·cases ho
def Itd(a:Addr)(o:Obj):It :=
 ⟨λi H=>∃vvs q,H a=some (.frz o (.dT vvs))/\vvs[i]?=some q,λi H x H'=>H'=H/\∀vvs,H a=some (.frz o (.dT vvs))->∃q b,vvs[i]?=some q/\x=.ref b/\H b=some (.tup (q.1.map kV)),λi H=>∃vvs,H a=some (.frz o (.dT vvs))/\vvs.length<=i⟩
theorem Zrq{α β:Type}{R:α->β->Prop}{l:List α}{m:List β}(r:Paired R l m):∀{i:Nat} {x:α},l[i]?=some x->∃y,m[i]?=some y/\R x y:=by
 induction r with
 | nil=>intro i x e; simp at e
 | @cons p q _ _ hq _ ih =>
  intro i x e;cases i with
  | zero=>rw[ZA7]at e; cases e; exact⟨q,rfl,hq⟩
  | succ i=>rw[Zzh]at e ⊢; exact ih e
theorem Zr6{P:Program}{w:World}{K:Zyz}{tg:Expr}(a it:Addr)(o:Obj)(es:Array DictEntry)(ep:Nat)(hd:o.data=.dict es ep):Turn P w K tg (Itd a o) [it] it (λi h=>h.IsKeyIter it a i es.size ep) where
 mem:=by simp
 obj:=λi h st b hb=>by
  have e:b=it:=by simpa using hb
  subst e;obtain⟨o,e,c,d⟩:=st;exact⟨o,e,λv z=>by rw[d]at z; cases z⟩
 keep:=λi h h' st k=>st.at λo e=>k it (by simp) o e
 item:=by
  intro X hP hw hK hc i pins s σ H E I hf st hg;subst hP hw hK;obtain⟨vvs,q,hH,hq⟩:=hg;obtain⟨h1,z,lo,xs,rel,o2,es2,ep2,h2,h3,h4,h5,h6⟩:=(show Zab X.prog X.w H s.heap a (.frz o (.dT vvs)) from I.hok a _ hH);rw[h1]at h2;cases h2;rw[hd]at h4;cases h4;obtain⟨f0,f1,f2,f3,f4,f5⟩:=hf it (by simp);obtain⟨p,hp,hr1,hr2,_⟩:=Zrq rel hq;have he:es[i]?=some (entryOfKey (ZBt (Zao X.prog X.w)) p):=by rw[<-Zzt,h5,Zy1,hp]; rfl
  refine Zoc st ⟨o,h1,h3,hd⟩ he λh' st' sb=>?_;have I1:Inv X pins σ H { s with heap:=h' }:=I.turned (t':=s.toks) (λb o hb e=>(sb.2 b hb).trans e) f0 f1 f3 f4 f5;obtain⟨oi,e,c,d⟩:=id st';refine⟨_,rfl,Zm5 (s:={ s with heap:=h' }) e c d (by decide) ⟨.ref p.2.1,H,I1,rfl,⟨rfl,λvv hv=>?_⟩,st',λb hb=>(hf b hb).1⟩⟩;rw[hH]at hv;cases hv;exact⟨q,p.2.1,hq,rfl,hr2⟩
 done:=by
  intro X hP hw hK hc i pins s σ H E I hf st hg;subst hP hw hK;obtain⟨vvs,hH,hq⟩:=hg;obtain⟨h1,z,lo,xs,rel,o2,es2,ep2,h2,h3,h4,h5,h6⟩:=(show Zab X.prog X.w H s.heap a (.frz o (.dT vvs)) from I.hok a _ hH);rw[h1]at h2;cases h2;rw[hd]at h4;cases h4;obtain⟨f0,f1,f2,f3,f4,f5⟩:=hf it (by simp);have hl:vvs.length=xs.length:=ZA9 rel;have hes:es.size=xs.length:=by rw[<-Zy0,h5,ZyA]
  exact Zqd (I.ok.hd hc) st ⟨o,h1,h3,hd⟩ (by omega) λh' eb=>⟨rfl,I.turned (t':=s.toks) (λb o hb e=>eb b o hb e) f0 f1 f3 f4 f5⟩
 self:=λ_ _ _ _ _ st h=>wpAny_pyIter_keyiter st h
theorem Zvh{tg l:Expr}{tl:TE}(hl:PE X l tl):PI X tg l (λσ H R=>tl σ H λx H1=>∃a o vvs,x=.ref a/\H1 a=some (.frz o (.dT vvs))/\R (Itd a o) H1):=by
 intro pins s σ H R I h;refine thn (hl pins s σ H _ I h) λv s1 ⟨x,H1,I1,r1,a,o,vvs,e,hH,q⟩=>?_;subst e;cases r1;obtain⟨h1,z,lo,xs,rel,o2,es,ep,h2,h3,h4,h5,h6⟩:=(show Zab X.prog X.w H1 s1.heap a (.frz o (.dT vvs)) from I1.hok a _ hH);rw[h1]at h2;cases h2;refine ZoK lo ⟨o,h1,h3,h4⟩ ⟨s1.heap.objs.size,[s1.heap.objs.size],_,_,H1,rfl,I1.kept (t':=s1.toks) λb o e=>ZyG _ e,Zr6 a _ o es ep h4,⟨_,ZyU _ rfl,rfl,rfl⟩,λb hb=>?_,q⟩;obtain rfl:b=s1.heap.objs.size:=by simpa using hb
 exact I1.fpOk (ZyI _) (I1.hok.fresh (ZyI _))
theorem Zt0{K:Zyz}{F:Hp}{a:Addr}{o:Obj}{kvs:List (List Key × PyData)}{vvs:List (List Key × V)}(h:F a=some (.frz o (.dT vvs)))(hk:kvs.map (·.1)=vvs.map (·.1)):ItD K (Itd a o) (kvs.map λp=>.tuple (p.1.map HM.ZaE)) F:=by
 intro F' H s1 s2;have hH:=s2 _ _ (s1 _ _ h);have hl:kvs.length=vvs.length:=by
  have:=congrArg Zzo hk
  rwa [ZyA,ZyA]at this
 refine⟨λi d hd=>?_,vvs,hH,by rw[ZyA,hl]; exact ZyI _⟩;rw[Zy1]at hd;obtain⟨q,hq,hd⟩:=ZyB.mp hd;subst hd;have hi:i<vvs.length:=by rw[<-hl]; exact(ZyM.mp hq).1
 have hw:vvs[i]?=some vvs[i]:=ZyO hi;have hw1:vvs[i].1=q.1:=by
  have:(kvs.map (·.1))[i]?=(vvs.map (·.1))[i]?:=by rw[hk]
  rw[Zy1,Zy1,hq,hw]at this;exact(Zzw this).symm
 refine⟨⟨vvs,_,hH,hw⟩,λx H' hy=>?_⟩;obtain⟨e,y⟩:=hy;refine⟨e,?_⟩;obtain⟨q',b,e1,e2,e3⟩:=y vvs hH;rw[hw]at e1;cases e1;subst e2;rw[hw1]at e3;have rk:=ZgB (K:=K) (F:=ZcK F' H) q.1;exact .tup (ZnT e3) rk.1 rk.2
theorem Zjp(i:Nat){tg:Expr}{x:Str}{pos:Pos}(hN:X.N[i]?=some x:=by rfl)(hv:Vis X.env.scope x:=by first | exact ZzA rfl | exact Zzc (ZzA rfl) | exact Zzc (Zzc rfl))(hd:(x==("__debug__":Str))=false:=by decide)
  (hcd:(x==("__classdict__":Str))=false:=by decide):XI X tg (.Name x pos) (HM.Zbf i):=by
 intro r ds h;have row:∀{d:PyData},r[i]?=some (some (.pl d))->HM.Za9 (.pl d)=some ds->HM.Z4 (HM.bOf (HM.Zb i)) r=some ds:=λ{d} h1 h2=>by
  have e:HM.Zb i r=some d:=by unfold HM.Zb; rw[h1]
  unfold HM.Z4 HM.bOf;rw[e];exact h2
 unfold HM.Zbf at h;split at h
 ·rename_i q; exact ZO (Za i hN hv hd hcd) r ds (row q h)
 ·rename_i q; exact ZO (Za i hN hv hd hcd) r ds (row q h)
 ·rename_i es q
  obtain⟨kvs,h1,h2⟩:=ZyB.mp h;subst h2;refine PI.imp (Zvh (Zb7 hN hv hd hcd)) λσ H R ⟨F0,H0,F,at_,k⟩=>?_;obtain⟨v,fp,g1,g2⟩:=at_.any q;cases g2 with
  | @hd a o _ kvs' vvs k1 k2 k3 k4=>subst k2;rw[HM.dec_enc]at h1;cases h1;exact⟨.ref a,g1,a,o,vvs,rfl,at_.sub _ _ k1,k _ F H at_.refl (Zt0 k1 k3)⟩
  | hf _=>cases h1
 ·cases h
end
end HP
namespace HP
open PySem PySem.Spec PyProof.Rows L2
variable[FX]
section
variable{X:Cx}{a b c e:Expr}{fa fb fc:HM.EF}{f:HM.BF}{pos p:Pos}
theorem Zly{K:Zyz}{F:Hp}{ds:List PyData}{v:V}(r:Rep K F (.tuple ds) v):∃l vs,v=.ref l/\SqT K F l vs/\Zu K F ds vs:=by
 cases r with
 | tup h1 h2 h3=>exact⟨_,_,rfl,.of h1,h2,h3⟩
 | @tupk a x h1=>exact⟨_,_,rfl,.inr h1,.one (.str x)⟩
theorem ZpY{lo hi:Option Expr}{fl fh:Option HM.EF}{p2:Pos}(ha:XE X a fa)(hl:XO X lo fl)(hh:XO X hi fh):XE X (.Subscript a (.Slice lo hi none p2) pos) (HM.ZgE fa fl fh):=by
 intro r d h;unfold HM.ZgE at h;split at h
 ·rename_i xs hx
  split at h
  ·rename_i l hl'
   split at h
   ·rename_i u hu'
    split at h
    ·cases h
    ·rename_i hno
     cases h;refine PE.imp (Zoh ZvI (ha r _ hx) (hl r _ hl') (hh r _ hu')) λσ H Q ⟨F0,H0,F,at_,k⟩=>?_;refine⟨F0,H0,F,at_,λv F1 H1 x1 r1=>⟨F0,H0,F1,at_.grow x1,λF2 H2 x2=>⟨F0,H0,F2,(at_.grow x1).grow x2,λF3 H3 x3=>?_⟩⟩⟩;have x23:=x2.trans x3;obtain⟨l',vs,e1,hq,rs⟩:=Zly (r1.mono x23.ff);refine⟨l',vs,e1,Zia hq x3.sub,by rw[<-rs.1]; exact hno,λl2 hl2=>?_⟩;have rc:Zu X.K F3 (HM.cutD xs l u) (Zhk vs l u):=by unfold HM.cutD Zhk;rw[<-rs.1];exact(rs.drop _).take _
     exact k _ (upd F3 l2 (.tup (Zhk vs l u))) _ ((x1.trans x23).lay hl2) (.tup ZB rc.1 (rc.mono (Zp.upd' (x3.sub.free hl2))).2)
   ·cases h
  ·cases h
 ·cases h
end
end HP
namespace HP
open PySem PySem.Spec PyProof.Rows L2
variable[FX]
end HP
namespace HP
open PySem
abbrev mdA(I S:Addr)(dv:Value):Args:=⟨[.ref I,.none,.ref S],[(ZAL "default",dv)]⟩
theorem ZjB:(toString "min" ++ toString ".loop":String) = "min.loop":=by decide
theorem Zvf(a dv:Value):argsOk "min" ⟨[a],[(ZAL "default",dv)]⟩:=by unfold argsOk; kernel_rfl
section
variable{prog:Program}{w:World}{A:Around}{R:Result->Shared->Prop}{I:Addr}{fp wr:List Addr}{n:Nat}{P:Nat->Value->Prop}{St:Nat->Heap->Prop}
theorem ZuN(W:Walks prog w A.in1 I fp wr n P St)(bt:Nat->Nat->Bool)(hc:CmpOf prog w A.in1 .Lt P bt){S:Addr}(hf:S ∉ fp)(dv:Value):∀(k j:Nat) (s:Shared) (b:Value) (ep:Nat),n=j+1+k->St (j+1) s.heap->P (argBest bt j) b ->
  s.heap.get? S=some { cls:=.type "list",dict:=none,data:=.seq #[b,b] ep,slots:=#[] } ->
  (∀v h' tk,P (argBest bt (n-1)) v->(∀x o,x ∉ wr->x≠S->s.heap.get? x=some o->h'.get? x=some o)->R (.ok (.ret v)) { s with heap:=h',toks:=tk }) ->
  codeAny (model prog w) A (.builtin "min.loop" (mdA I S dv)) R s:=by
 have hw:S ∉ wr:=λh=>hf (W.sub _ h);intro k
 induction k with
 | zero =>
  intro j s b ep hn st pb gS out;have hn:n=j+1:=by omega
  subst hn;refine ZzX ZBT ?_;rw[ZzE Zz3 _];show wpAny _ A.in1 (seqItems? (.ref S) >>= _) _ _ s;refine Zyy (wpAny_seqItems gS rfl ?_);show wpAny _ A.in1 (tryCatch (pyNext (.ref I)) _ >>= _) _ _ s;refine Zyy (ZBH (W.done s _ _ st λh1 tk keep=>?_));have gS1:=keep S _ hw gS;show wpAny _ A.in1 (updateSeq S (λ_=>#[]) >>= _) _ _ _;exact Zyy (ZC8 gS1 rfl (Zyy (ZDe (ZyC (out b _ tk pb λx o hx hS e=>(Zz1 _ _ (ZzB hS)).trans (keep x o hx e))))))
 | succ k ih =>
  intro j s b ep hn st pb gS out;refine ZzX ZBT ?_;rw[ZzE Zz3 _];show wpAny _ A.in1 (seqItems? (.ref S) >>= _) _ _ s;refine Zyy (wpAny_seqItems gS rfl ?_);show wpAny _ A.in1 (tryCatch (pyNext (.ref I)) _ >>= _) _ _ s;refine Zyy (ZBH (W.item (j+1) s _ _ (by omega) st λv h1 tk pv st1 keep=>?_));have gS1:=keep S _ hw gS;show wpAny _ A.in1 (tryCatch (holding [v,v] (richCompare .Lt v b >>= _)) _ >>= _) _ _ _;refine Zyy (ZBH (ZzF (Zyy (hc (j+1) (argBest bt j) v b _ _ _ pv pb (Zyy (ZzF (ZAl (Zyy (ZDe (ZyC ?_))))))))));have best:argBest bt (j+1)=if bt (j+1) (argBest bt j)then j+1 else argBest bt j:=rfl
  cases hb:bt (j+1) (argBest bt j)with
  | true =>
   rw[hb,if_pos rfl]at best;simp only[if_true];refine Zyy (ZC8 gS1 rfl (Zyy (ZDe ?_)));rw[ZjB];refine ZyC ⟨ZAS Zz3 _,ih (j+1) _ v _ (by omega) (W.frame _ _ _ st1 λx hx o e=>?_) (by rw[best]; exact pv) (ZzK _ gS1 rfl) λv' h2 tk2 p' keep2=>?_⟩
   ·exact(Zz1 _ _ (λz:S=x=>hf (by rw[z]; exact hx))).trans e
   ·exact out v' h2 tk2 p' λx o hx hS e=>keep2 x o hx hS ((Zz1 _ _ (ZzB hS)).trans (keep x o hx e))
  | false=>rw[hb,if_neg (by simp)]at best;simp only[ZAw,if_false];refine Zyy (ZDe ?_);rw[ZjB];exact ZyC ⟨ZAS Zz3 _,ih (j+1) _ b ep (by omega) st1 (by rw[best]; exact pb) gS1 λv' h2 tk2 p' keep2=>out v' h2 tk2 p' λx o hx hS e=>keep2 x o hx hS (keep x o hx e)⟩
theorem ZtA(W:Walks prog w A.in1 I fp wr n P St)(bt:Nat->Nat->Bool)(hc:CmpOf prog w A.in1 .Lt P bt){S:Addr}(hf:S ∉ fp)(dv:Value){s:Shared}{ep:Nat}(st:St 0 s.heap)
  (gS:s.heap.get? S=some { cls:=.type "list",dict:=none,data:=.seq #[] ep,slots:=#[] })
  (o0:n=0->∀h' tk,(∀x o,x ∉ wr->x≠S->s.heap.get? x=some o->h'.get? x=some o)->R (.ok (.ret dv)) { s with heap:=h',toks:=tk })
  (o1:0<n->∀v h' tk,P (argBest bt (n-1)) v->(∀x o,x ∉ wr->x≠S->s.heap.get? x=some o->h'.get? x=some o)->R (.ok (.ret v)) { s with heap:=h',toks:=tk }) :
  codeAny (model prog w) A (.builtin "min.loop" (mdA I S dv)) R s:=by
 have hw:S ∉ wr:=λh=>hf (W.sub _ h);refine ZzX ZBT ?_;rw[ZzE Zz3 _];show wpAny _ A.in1 (seqItems? (.ref S) >>= _) _ _ s;refine Zyy (wpAny_seqItems gS rfl ?_);show wpAny _ A.in1 (tryCatch (pyNext (.ref I)) _ >>= _) _ _ s
 by_cases h0:n=0
 ·subst h0
  refine Zyy (ZBH (W.done s _ _ st λh1 tk keep=>?_));show wpAny _ A.in1 (rule _ >>= _) _ _ _;exact Zyy (wpAny_rule (ZyC (o0 rfl h1 tk λx o hx _ e=>keep x o hx e)))
 ·refine Zyy (ZBH (W.item 0 s _ _ (by omega) st λv h1 tk pv st1 keep=>?_))
  have gS1:=keep S _ hw gS;show wpAny _ A.in1 (updateSeq S (λ_=>#[v,v]) >>= _) _ _ _;refine Zyy (ZC8 gS1 rfl ?_);rw[ZjB];refine ZyC ⟨ZAS Zz3 _,ZuN W bt hc hf dv (n-1) 0 _ v _ (by omega) (W.frame _ _ _ st1 λx hx o e=>?_) pv (ZzK _ gS1 rfl) λv' h2 tk2 p' keep2=>?_⟩
  ·exact(Zz1 _ _ (λz:S=x=>hf (by rw[z]; exact hx))).trans e
  ·exact o1 (by omega) v' h2 tk2 p' λx o hx hS e=>keep2 x o hx hS ((Zz1 _ _ (ZzB hS)).trans (keep x o hx e))
end
end HP
namespace HP
open PySem PySem.Spec PyProof.Rows L2
variable[FX]
theorem Rep.fn_inv{K:Zyz}{F:Hp}{t:Nat}{cs:List PyData}{v:V}(h:Rep K F (HM.fnD t cs) v):∃a,v=.ref a/\FX.fv t cs F a:=by
 cases h with
 | @dct a es kvs vvs h he hk hr =>
  cases kvs with
  | nil=>cases he
  | cons p r =>
   injection he with h1 _
   injection h1 with h2 _
   cases h2
 | fn h=>exact⟨_,rfl,h⟩
theorem Ztc{d:PyData}{t:Nat}{cs:List PyData}(h:HM.ZlK d=some (t,cs)):d=HM.fnD t cs:=by
 unfold HM.ZlK at h;split at h
 ·cases h; rfl
 ·cases h
structure GFn(mg:Str->Option Value)(x:Str)(t:Nat):Prop where
 ex:∃f,mg x=some (.ref f)/\∀F,FX.fv t [] F f
section
variable{X:Cx}{pos p:Pos}{e a b:Expr}{es:List Expr}{f:HM.AF}
theorem ZvH{x:Str}{t:Nat}(h:GFn X.mg x t)(hg:Gl X x:=by rfl)(hd:(x==("__debug__":Str))=false:=by decide):XE X (.Name x pos) (HM.eC (HM.fnD t [])):=by obtain⟨f,hm,hv⟩:=h.ex;exact ZfM (Zqj hg hm (v:=.ref f) rfl hd) λF=>.fn (hv F)
structure Zd0(P:Program)(w:World)(K:Zyz)(mg:Str->Option Value)(base:Heap)(k:Nat)(ap:HM.AP):Prop where
 fn:∀{t:Nat} {cs:List PyData} {F:Hp} {a:Addr},FX.fv t cs F a->∀{A:Around} {outer:List Env} {s:Shared} {H:Hp},ZeO P w K mg base A outer s H->Zp F H->ZDC a s.heap
 run:∀{t:Nat} {cs:List PyData} {F:Hp} {a:Addr},FX.fv t cs F a->∀{A:Around} {outer:List Env} {s:Shared} {H:Hp},ZeO P w K mg base A outer s H->Zp F H ->
  ∀{us:List Value} {vs:List V} {ds:List PyData} {d:PyData} {Q:VK},Zal k A->Tb H->NoT F->Vals vs us->Zu K F ds vs->ap t cs ds=some d->(∀v F' H',Ext F H F' H'->Rep K F' d v->Q v H') ->
   codeAny (model P w) A (.call (.ref a) ⟨us,[]⟩) (CR CX0 outer P w H s Q E0) s
theorem Zd0.mono{P:Program}{w:World}{K:Zyz}{mg:Str->Option Value}{base:Heap}{j k:Nat}{ap:HM.AP}(C:Zd0 P w K mg base j ap)(h:j<=k):Zd0 P w K mg base k ap :=
 ⟨C.fn,by intro t cs F a q A outer s H e z us vs ds d Q hr; exact C.run q e z (hr.mono h)⟩
theorem Znd{k:Nat}{ap:HM.AP}(C:Zd0 X.prog X.w X.K X.mg X.base k ap)(hr:Zal k X.A)(i:Nat){x:Str}(ha:XA X (e::es) f)(hN:X.N[i]?=some x:=by rfl)
  (hv:Vis X.env.scope x:=by first | exact ZzA rfl | exact Zzc (ZzA rfl) | exact Zzc (Zzc rfl)) (hd:(x==("__debug__":Str))=false:=by decide) (hcd:(x==("__classdict__":Str))=false:=by decide)
  (he:ZyK (e::es) X.env=(false,eval e X.env)::ZyK es X.env:=by rfl) (hpl:(backTo pos (ZyK es X.env)).any (·.1)=false:=by rfl):XE X (.Call (.Name x p) (e::es) [] pos) (HM.Zgp ap i f):=by
 intro r d h;unfold HM.Zgp at h;split at h
 case h_2=>cases h
 rename_i d0 hs;split at h
 case h_2=>cases h
 rename_i t cs hu;split at h
 case h_2=>cases h
 rename_i ds hds;obtain rfl:=Ztc hu;intro pins s σ H Q I ⟨F0,H0,F1,at_,kk⟩;obtain⟨v,h1,h2⟩:=at_.plain hs;obtain⟨q,rfl,fv⟩:=h2.fn_inv;refine ZAK (thn (Zb7 hN hv hd hcd pins s σ H (λv' H'=>v'=.ref q/\H'=H) I ⟨_,h1,rfl,rfl⟩) λu s1 ⟨v',H1,I1,r1,e1,e2⟩=>?_);subst e1 e2;obtain rfl:u=Zzr q:=r1;refine PySem.W.callWith_F (C.fn fv I1.env0 at_.sub) (thn (ha.pa r ds hds pos pins s1 σ H1 (λvs H2=>∃F2,Ext F1 H1 F2 H2/\Zu X.K F2 ds vs) I1 ⟨F0,H0,F1,at_,λvs F2 H2 x2 q2=>⟨F2,x2,q2⟩⟩) λus s2 ⟨vs,H2,I2,r2,F2,x2,q2⟩=>?_) he hpl;have fv2:=FX.mono fv x2.ff;refine⟨C.fn fv2 I2.env0 x2.sub,wpAny_call (ZAJ (C.run fv2 I2.env0 x2.sub hr (at_.tbx x2) (at_.ntx x2) r2 q2 h λv F' H' x3 q3=>kk v F' H' (x2.trans x3) q3) λrs s' hq=>?_)⟩;cases rs with
 | error e=>exact ZzD hq
 | ok fl =>
  cases fl with
  | ret u=>exact I2.after hq
  | next=>exact ZzD hq
  | brk=>exact ZzD hq
  | cont=>exact ZzD hq
def spN(K:Zyz)(n:Nat)(M:List PyData->Option (List (List Key × PyData))):Sp:=λvs H Q _=>∃F ds kvs,vs.length=n/\Zp F H/\Tb H/\NoT F/\Zu K F ds vs/\M ds=some kvs /\
 ∀l vvs F' H',Ext F H F' H'->H' l=some (.dT vvs)->kvs.map (·.1)=vvs.map (·.1)->Zu K F' (kvs.map (·.2)) (vvs.map (·.2))->F' l=none->H l=none->Q (.ref l) H'
structure Zd6(P:Program)(w:World)(K:Zyz)(mg:Str->Option Value)(base:Heap)(k:Nat)(x:Str)(M:List PyData->Option (List (List Key × PyData))):Prop where
 ex:∃f fd ps,(∀ds d,M ds=some d->ds.length=ps.length)/\Zdm P w K mg base CX0 k f fd ps (spN K ps.length M)/\mg x=some (.ref f)/\Zz0 K (.ref f)=true/\Binds K fd ps []
theorem Zd6.mono{P:Program}{w:World}{K:Zyz}{mg:Str->Option Value}{base:Heap}{j k:Nat}{x:Str}{M:List PyData->Option (List (List Key × PyData))}(C:Zd6 P w K mg base j x M)(h:j<=k):Zd6 P w K mg base k x M:=by obtain⟨f,fd,ps,l,F,r⟩:=C.ex;exact⟨f,fd,ps,l,F.mono h,r⟩
theorem Zu.flat{K:Zyz}{F F':Hp}{ds:List PyData}{vs:List V}(r:Zu K F ds vs)(h:∀d∈ds,HM.Zjq d=true):Zu K F' ds vs :=
 ⟨r.1,λi d v h1 h2=>(r.2 i d v h1 h2).flat (h d (Zy3 h1))⟩
theorem Zs9{k:Nat}{x:Str}{g:HM.AF}{M:List PyData->Option (List (List Key × PyData))}(C:Zd6 X.prog X.w X.K X.mg X.base k x M)(hr:Zal k X.A)(ha:XAL X (e::es) g)(hg:Gl X x:=by rfl)(hdb:(x==("__debug__":Str))=false:=by decide)
  (he:ZyK (e::es) X.env=(false,eval e X.env)::ZyK es X.env:=by rfl) (hpl:(backTo pos (ZyK es X.env)).any (·.1)=false:=by rfl):XF X (.Call (.Name x p) (e::es) [] pos) (HM.Zi8 M g):=by
 intro r d hd;unfold HM.Zi8 at hd;split at hd
 case h_2=>cases hd
 rename_i ds hds;split at hd
 case h_2=>cases hd
 rename_i kvs hM;split at hd
 case isFalse=>cases hd
 rename_i hfl;cases hd;obtain⟨fa,fd,ps,hl,F,hm,hk,hb⟩:=C.ex;refine PE.imp (ZjF (E:=E0) F hr hg hm hk hb .nil Zm7 (ha.pa r ds hds) hdb he hpl) λσ H Q ⟨F0,H0,F1,at_,kk⟩=>?_;refine⟨F0,H0,F1,at_,λvs F' H' x q=>?_⟩;show spN X.K ps.length M (vs++[]) H' Q E0;rw[Zzb];refine⟨Zcp H',ds,kvs,by rw[<-q.1]; exact hl ds _ hM,Zi3,at_.tbx x,.drop,q.drop',hM,λl vvs F2 H2 x2 h1 h2 h3 h4 h5=>?_⟩;refine kk _ F' H2 (x.trans (Ext.forget x.sub (at_.ntx x) x2)) ⟨[l],.ot h1 h2 (h3.flat λd hd=>?_),by simp,λc hc=>?_⟩
 ·obtain⟨q,h6,rfl⟩:=ZyN.mp hd
  exact ZyL.mp hfl q h6
 ·obtain rfl:c=l:=by simpa using hc
  exact⟨x.sub.free h5,x.hh.free h5⟩
def tSn(K:Zyz)(r:HM.Env)(kvs:List (List Key × PyData)):TS:=λE σ H=>Now K r σ H λF0 H0 F=>∀l vvs F' H',Ext F0 H0 F' H'->H' l=some (.dT vvs)->kvs.map (·.1)=vvs.map (·.1)->Zu K F' (kvs.map (·.2)) (vvs.map (·.2))->F' l=none->H0 l=none->E.rt (.ref l) H'
def XSn(X:Cx)(sts:List Stmt)(m:HM.NF):Prop:=∀r kvs,m r=some kvs->PSs X sts (tSn X.K r kvs)
theorem Zn3{st:Stmt}{rest:List Stmt}{g:HM.SF}{m:HM.NF}(h1:XS X st g)(h2:XSn X rest m):XSn X (st::rest) (HM.Zku g m):=by
 intro r kvs h;unfold HM.Zku at h;split at h
 ·rename_i r' q
  refine PSs.imp (Zh2 (h1 r _ q) (h2 r' kvs h)) λE σ H ⟨F0,H0,F,at_,k⟩=>?_;exact⟨F0,H0,F,at_,λσ' F' H' at'=>⟨F0,H0,F',at',k⟩⟩
 ·cases h
theorem Zvs(j:Nat){x:Str}{p1:Pos}(hN:X.N[j]?=some x:=by rfl)(hv:Vis X.env.scope x:=by first | exact ZzA rfl | exact Zzc (ZzA rfl) | exact Zzc (Zzc rfl))(hd:(x==("__debug__":Str))=false:=by decide)
  (hcd:(x==("__classdict__":Str))=false:=by decide):XSn X [.Return (some (.Name x p)) p1] (HM.ZnO j):=by
 intro r kvs h;unfold HM.ZnO at h;split at h
 ·rename_i kvs' hs
  cases h;refine PSs.imp (Zh2 (ZoY (Zb7 hN hv hd hcd)) ZgC) λE σ H ⟨F0,H0,F,⟨fp,at_⟩,k⟩=>?_;obtain⟨v,h1,h2⟩:=at_.at_ j _ hs;generalize hfp:fp j=fj at h2;cases h2 with
  | @ot l _ vvs hl hk q=>have ho:=at_.own j l (by rw[hfp]; simp);exact⟨_,h1,k l vvs F H at_.ext hl hk q ho.1 ho.2⟩
 ·cases h
theorem ZqW{P:Program}{w:World}{K:Zyz}{mg:Str->Option Value}{base:Heap}{k:Nat}{x qual:Str}{st:Stmt}{f:Addr}{fd:FuncData}{N ps:List Str}{m:HM.NF}(Fn:Fun K x qual st f fd)(S:Zv N ps (Ze st))(hm:mg x=some (.ref f))(hb:Binds K fd ps [])
  (body:∀(cdv:Value) (A:Around) (outer:List Env) (s:Shared) (H:Hp) (E:XK),Zal k (A.deeper (envOfC qual (Ze st) s.heap.objs.size f cdv))->XSn (Zgd CX0 P w K mg base N qual (Ze st) f cdv A outer s H E).nox (ZaQ st) m) :
  Zd6 P w K mg base (k+1) x (HM.newOf ps.length N.length m):=by
 have hpl:ps.length<=N.length:=by have:=congrArg Zzo S.pre; rw[ZzO]at this; omega
 refine⟨f,fd,ps,λds d h=>?_,Fn.ok S (λvs H Q E h=>?_) (λcdv A outer s H vs Q E hr h=>?_),hm,Fn.kp,hb⟩
 ·unfold HM.newOf at h
  split at h
  ·assumption
  ·cases h
 ·obtain⟨_,_,_,h,_⟩:=h
  exact h
 ·obtain⟨F,ds,kvs,hl,sub,tb,nt,q,hM,kk⟩:=h
  unfold HM.newOf at hM;split at hM
  ·rename_i hds
   exact⟨_,body cdv A outer s H E hr _ _ hM,F,H,F,Zgk (N:=N) sub tb nt q (by omega),λl vvs F' H' x h1 h2 h3 h4 h5=>kk l vvs F' H' x h1 h2 h3 h4 h5⟩
  ·cases hM
theorem Zsz(hc:X.calm=true){pins:List (Addr × Obj)}{s:Shared}{σ:L2.St}{H:Hp}{l:Addr}{ns:List Int}{Q:VK}(I:Inv X pins σ H s)(hq:SqL X.K H l (ns.map V.int))(q:Q (match ns.min? with | some i=>.int i | none=>.non) H) :
  wpAny (model X.prog X.w) X.A (call (.builtin "min") [.ref l] [(ZAL "default",.none)]) (EP X pins σ Q) X.xe s:=by
 obtain⟨its,rv,pl,hz⟩:=I.list hq;have hi:=ZdZ rv;obtain⟨xs,e⟩:=hi.allInts.items;have hns:ns=xs.toList.map (·.1):=by rw[<-hi.numsOf,<-nums_intItems,<-e]
 have hl:=pl.isList;rw[e]at hl;refine PyProof.Rows.kmk_tree PySem.F.kind_min PySem.F.plain_min PySem.F.entry_min (Zvf _ _) ?_;refine Zyy (ZDd (show Builtin.Builtins.bindParams "min" ["key","default"] 0 ⟨[],[(ZAL "default",.none)]⟩=pure [none,some .none] from rfl) ?_);refine Zyy (ZyC ?_);refine Zyy (iter_intList hl λs2 e2 st hfp hlI=>?_);subst e2;refine Zyy (Zzi ?_);rw[ZjB];generalize hIT:s.heap.push { cls:=.type "list_iterator",data:=.fields #[.ref l,.int 0 0] }=h1 at st hfp;have z1:h1.objs.size=s.heap.objs.size+1:=by rw[<-hIT]; exact ZBh ..
 have k1:∀b o,s.heap.get? b=some o->h1.get? b=some o:=λb o e=>by rw[<-hIT]; exact ZyG _ e
 have W:=Walks.list (prog:=X.prog) (w:=X.w) (A:=X.A.in1) (I.ok.hd hc) s.heap.objs.size l hlI (intItems xs);have hSf:h1.objs.size ∉ [s.heap.objs.size,l]:=λz=>ZAq _ (hfp _ z);have old:∀{h':Heap} {oS:Obj},(∀x o,x ∉ [s.heap.objs.size]->x≠h1.objs.size->(h1.push oS).get? x=some o->h'.get? x=some o)->∀b o,s.heap.get? b=some o->h'.get? b=some o:=λhk b o e=>by have hb:=ZyR e;exact hk b o (λz=>by rw[ZyW.mp z]at hb; exact ZAq _ hb) (ZyX (by rw[z1]; exact ZBf hb)) (ZyG _ (k1 b o e))
 refine ZyC ⟨ZAS Zz3 _,ZtA W (λi j=>decide (numAt xs i<numAt xs j)) (CmpOf.ints_lt (numAt xs) λ_ _=>intItems_at) hSf .none (W.frame _ _ _ st λb _ o e=>ZyG _ e) (ZyU _ rfl) (λh0 h' tk hk=>?_) λh0 v h' tk hP hk=>?_⟩
 ·have e0:ns=[]:=by
   rw[hns];have:xs.size=0:=by simpa [intItems]using h0
   rw[Array.eq_empty_of_size_eq_zero this]; rfl
  subst e0;exact⟨.non,H,I.kept (t':=tk) (old hk),rfl,q⟩
 ·have h0':0<xs.size:=by simpa [intItems]using h0
  have hP':(intItems xs)[argBest (λi j=>decide (numAt xs i<numAt xs j)) (xs.size-1)]?=some v:=by simpa [intItems]using hP
  obtain⟨t,rfl⟩:=intItems_at hP';obtain⟨g1,g2⟩:=argBest_lt (numAt xs) (xs.size-1);have hm:ns.min?=some (numAt xs (argBest (λi j=>decide (numAt xs i<numAt xs j)) (xs.size-1))):=by
   refine ZB3.mpr ⟨?_,λa ha=>?_⟩
   ·rw[hns,numAt_eq]; exact getD_mem (by rw[ZyA,Zy0]; omega)
   ·rw[hns]at ha
    obtain⟨j,hj,rfl⟩:=mem_getD ha;rw[ZyA,Zy0]at hj;rw[<-numAt_eq]; exact g2 j (by omega)
  rw[hm]at q;exact⟨.int _,H,I.kept (t':=tk) (old hk),⟨t,rfl⟩,q⟩
theorem ZpZ{f:HM.BF}{kp p2:Pos}{j:Nat}(hm:X.mg "min" = none)(hc:X.calm=true)(ha:XB X a f)(hg:Gl X "min":=by rfl)(hs:ZyK [a] X.env=[(false,eval a X.env)]:=by rfl)
  (he:backTo pos (ZyK [a] X.env)=(false,eval a X.env)::backTo pos (ZyK [] X.env):=by rfl) (hpl:(backTo pos (ZyK [a] X.env)).any (·.1)=false:=by rfl) :
  XE X (.Call (.Name "min" p) [a] [⟨some "default",.Constant .none j p2,kp⟩] pos) (HM.ZfH f):=by
 intro r d h;unfold HM.ZfH at h;split at h
 case h_2=>cases h
 rename_i x hx;split at h
 case h_2=>cases h
 rename_i ds hds;split at h
 case h_2=>cases h
 rename_i ns hns;cases h;intro pins s σ H Q I ⟨F0,H0,F,at_,k⟩;refine ZAK (ZhB I hg hm ZrX ?_);refine callWith_kw (thn (Ze5 ha hx hs pos pins s σ H (λvs H1=>∃v fp F1,vs=[v]/\Ext F H F1 H1/\Zac X.K F1 H1 x v fp) I ⟨F0,H0,F,at_,λv fp F' H' x1 r1=>⟨v,fp,F',rfl,x1,r1⟩⟩) λus s1 ⟨vs,H1,I1,rv,v,fp,F1,e1,x1,r1⟩=>?_) he hpl;subst e1;obtain⟨u,rfl,ru⟩:=vals1 rv;obtain⟨l,ws,rfl,hq,rs⟩:=Zgu x1.sub r1 hds;obtain rfl:u=Zzr l:=ru;rw[ZcM hns rs]at hq;refine kws_cons (thn (ZrW pins s1 σ H1 (λv' H'=>v'=.non/\H'=H1) I1 ⟨rfl,rfl⟩) λu2 s2 ⟨v',H2,I2,r2,e2,e3⟩=>?_);subst e2 e3;obtain rfl:u2=ZzC:=r2;refine kws_nil ?_;refine Zsz hc I2 hq ?_;refine k _ F1 H2 x1 ?_;cases ns.min? with
 | none=>exact .non
 | some i=>exact .int i
end
end HP
namespace HP
open PySem PySem.Spec PyProof.Rows L2
abbrev FX0:FX where
 tl:=[]
 fv:=λ_ _ _ _=>False
 sw:=λ_ _ h=>h
 drop:=λh=>h
 mono:=λh _=>h
structure Clo(K:Zyz)(F:Hp)(p:Addr)(params:Arguments)(body:Expr)(scope:Scope)(names:List Str)(cs:List PyData):Prop where
 ex:∃(qual:Str) (pm ctv:Value) (c:Addr) (oc:Obj) (clos:List (Str × Addr)),
  F p=some (Zbk p (ZCd "<lambda>" qual params body scope clos pm c ctv))/\F c=some (Zbk c oc)/\Zlr oc qual /\
  (∀x y a,clos.lookup x=some a->clos.lookup y=some a->x=y)/\(∀y∈scope.names,y.2=.free->(clos.lookup y.1).isSome=true) /\
  (∀x a,clos.lookup x=some a->∃o v,F a=some (Zbk a o)/\o.data=.cell v) /\
  names.length=cs.length/\∀(i:Nat) (x:Str) (d:PyData),names[i]?=some x->cs[i]?=some d->∃a o u v,clos.lookup x=some a/\F a=some (Zbk a o)/\o.data=.cell (some u)/\RelV v u/\@Rep FX0 K F d v
section
variable{K:Zyz}{F F':Hp}{p:Addr}{params:Arguments}{body:Expr}{scope:Scope}{names:List Str}{cs:List PyData}
theorem Clo.mono(h:Clo K F p params body scope names cs)(s:Zp F F'):Clo K F' p params body scope names cs:=by
 obtain⟨qual,pm,ctv,c,oc,clos,h1,h2,h3,h4,h5,h6,h7,h8⟩:=h.ex;refine⟨qual,pm,ctv,c,oc,clos,s _ _ h1,s _ _ h2,h3,h4,h5,λx a e=>?_,h7,λi x d e1 e2=>?_⟩
 ·obtain⟨o,u,q1,q2⟩:=h6 x a e
  exact⟨o,u,s _ _ q1,q2⟩
 ·obtain⟨a,o,u,v,q1,q2,q3,q4,q5⟩:=h8 i x d e1 e2
  exact⟨a,o,u,v,q1,s _ _ q2,q3,q4,@Rep.mono FX0 _ _ _ _ _ q5 s⟩
theorem Clo.drop(h:Clo K F p params body scope names cs):Clo K (Zcp F) p params body scope names cs:=by
 obtain⟨qual,pm,ctv,c,oc,clos,h1,h2,h3,h4,h5,h6,h7,h8⟩:=h.ex;refine⟨qual,pm,ctv,c,oc,clos,Zcm h1 rfl,Zcm h2 rfl,h3,h4,h5,λx a e=>?_,h7,λi x d e1 e2=>?_⟩
 ·obtain⟨o,u,q1,q2⟩:=h6 x a e
  exact⟨o,u,Zcm q1 rfl,q2⟩
 ·obtain⟨a,o,u,v,q1,q2,q3,q4,q5⟩:=h8 i x d e1 e2
  exact⟨a,o,u,v,q1,Zcm q2 rfl,q3,q4,@Rep.drop FX0 _ _ _ _ q5⟩
theorem Clo.sw{a:Addr}{ob:HO}{vvs:List (List Key × V)}(hF:∀u,F a=some u->Dk vvs u)(hob:Dk vvs ob)(h:Clo K F p params body scope names cs):Clo K (HP.sw a ob F) p params body scope names cs:=by
 have key:∀{b:Addr} {o:Obj},F b=some (Zbk b o)->HP.sw a ob F b=some (Zbk b o):=λ{b o} e=>by
  have hb:b≠a:=λz=>by subst z;have:=@Dk.te FX0 _ _ (hF _ e);cases this
  unfold HP.sw; rw[if_neg hb]; exact e
 obtain⟨qual,pm,ctv,c,oc,clos,h1,h2,h3,h4,h5,h6,h7,h8⟩:=h.ex;refine⟨qual,pm,ctv,c,oc,clos,key h1,key h2,h3,h4,h5,λx a e=>?_,h7,λi x d e1 e2=>?_⟩
 ·obtain⟨o,u,q1,q2⟩:=h6 x a e
  exact⟨o,u,key q1,q2⟩
 ·obtain⟨a,o,u,v,q1,q2,q3,q4,q5⟩:=h8 i x d e1 e2
  exact⟨a,o,u,v,q1,key q2,q3,q4,@Rep.sw FX0 _ _ _ _ _ _ _ hF hob q5⟩
end
theorem Rep.up[FX]{K:Zyz}{F:Hp}{d:PyData}{v:V}(r:@Rep FX0 K F d v):Rep K F d v:=by
 induction r with
 | non=>exact .non
 | bl b=>exact .bl b
 | int i=>exact .int i
 | str x=>exact .str x
 | tup h hl _ ih=>exact .tup h hl ih
 | tupk h=>exact .tupk h
 | lst h hl _ ih=>exact .lst h hl ih
 | dct h he hk _ ih=>exact .dct h he hk ih
 | fn h=>exact h.elim
theorem Rep.cutF[FX]{K:Zyz}{F F':Hp}(hF:∀b o,F b=some o->te o=false->F' b=some o){d:PyData}{v:V}(r:Rep K F d v):∀n,HM.noF n d=true->@Rep FX0 K F' d v:=by
 induction r with
 | non=>intro _ _; exact @Rep.non FX0 _ _
 | bl b=>intro _ _; exact @Rep.bl FX0 _ _ b
 | int i=>intro _ _; exact @Rep.int FX0 _ _ i
 | str x=>intro _ _; exact @Rep.str FX0 _ _ x
 | tupk h=>intro _ _; exact @Rep.tupk FX0 _ _ _ _ h
 | tup h hl _ ih =>
  intro n hn;cases n with
  | zero=>cases hn
  | succ n=>exact @Rep.tup FX0 _ _ _ _ _ (hF _ _ h rfl) hl λi d v h1 h2=>ih i d v h1 h2 n (ZyL.mp hn d (Zy3 h1))
 | lst h hl _ ih =>
  intro n hn;cases n with
  | zero=>cases hn
  | succ n =>
   refine @Rep.lst FX0 _ _ _ _ _ ?_ hl λi d v h1 h2=>ih i d v h1 h2 n (ZyL.mp hn d (Zy3 h1));rcases h with(h | ⟨o,h⟩) | h
   ·exact .inl (.inl (hF _ _ h rfl))
   ·exact .inl (.inr ⟨o,hF _ _ h rfl⟩)
   ·exact .inr h
 | @dct a es kvs vvs h he hk _ ih =>
  intro n hn;cases n with
  | zero=>cases hn
  | succ n =>
   refine @Rep.dct FX0 _ _ _ _ kvs vvs ?_ he hk λi d v h1 h2=>ih i d v h1 h2 n ?_
   ·rcases h with h | ⟨o,h⟩
    ·exact .inl (hF _ _ h rfl)
    ·exact .inr ⟨o,hF _ _ h rfl⟩
   ·subst he
    rw[Zy1]at h1;obtain⟨q,h3,h4⟩:=ZyB.mp h1;subst h4;have hm:(Zzf (q.1.map HM.ZaE),q.2)∈HM.Zk kvs:=ZyN.mpr ⟨q,Zy3 h3,rfl⟩;have:=ZyL.mp hn _ hm;rw[ZyT]at this;exact this.2
 | fn h =>
  intro n hn;cases n with
  | zero=>cases hn
  | succ n=>have:=ZyL.mp hn _ (ZyE ..);cases this
end HP
namespace HP
open PySem PySem.Spec PyProof.Rows L2
theorem Rep0.cut{K:Zyz}{F F':Hp}(hF:∀b o,F b=some o->te o=false->F' b=some o){d:PyData}{v:V}(r:@Rep FX0 K F d v):@Rep FX0 K F' d v:=by
 induction r with
 | non=>exact @Rep.non FX0 _ _
 | bl b=>exact @Rep.bl FX0 _ _ b
 | int i=>exact @Rep.int FX0 _ _ i
 | str x=>exact @Rep.str FX0 _ _ x
 | tupk h=>exact @Rep.tupk FX0 _ _ _ _ h
 | tup h hl _ ih=>exact @Rep.tup FX0 _ _ _ _ _ (hF _ _ h rfl) hl ih
 | lst h hl _ ih =>
  refine @Rep.lst FX0 _ _ _ _ _ ?_ hl ih;rcases h with(h | ⟨o,h⟩) | h
  ·exact .inl (.inl (hF _ _ h rfl))
  ·exact .inl (.inr ⟨o,hF _ _ h rfl⟩)
  ·exact .inr h
 | @dct a es kvs vvs h he hk _ ih =>
  refine @Rep.dct FX0 _ _ _ _ kvs vvs ?_ he hk ih;rcases h with h | ⟨o,h⟩
  ·exact .inl (hF _ _ h rfl)
  ·exact .inr ⟨o,hF _ _ h rfl⟩
 | fn h=>exact h.elim
def Zba(C:List Addr)(H:Hp):Hp:=λb=>if b∈C then none else H b
theorem Zhx{C:List Addr}{H:Hp}{b:Addr}(h:b∈C):Zba C H b=none:=by unfold Zba; rw[if_pos h]
theorem Zak{C:List Addr}{H:Hp}{b:Addr}(h:b ∉ C):Zba C H b=H b:=by unfold Zba; rw[if_neg h]
theorem ZhS{C:List Addr}{H:Hp}{b:Addr}{o:HO}(h:Zba C H b=some o):b ∉ C/\H b=some o:=by
 unfold Zba at h;split at h
 ·cases h
 ·exact⟨by assumption,h⟩
def Zhj(C:List Addr)(G H:Hp):Hp:=λb=>if b∈C then G b else H b
theorem ZeN{C:List Addr}{G H:Hp}{b:Addr}(h:b∈C):Zhj C G H b=G b:=by unfold Zhj; rw[if_pos h]
theorem Zbm{C:List Addr}{G H:Hp}{b:Addr}(h:b ∉ C):Zhj C G H b=H b:=by unfold Zhj; rw[if_neg h]
section
variable{P:Program}{w:World}{C:List Addr}{G H H':Hp}{h h':Heap}
theorem Zck{a:Addr}{o:Obj}(x:Zab P w H h a (Zbk a o)):h.get? a=some o:=x.1
theorem Zjv{a:Addr}{o:Obj}(e:h.get? a=some o):Zab P w H h a (Zbk a o):=⟨e,⟨o,e⟩,λh1 h2 q k=>k o q⟩
theorem HOk.cut(x:HOk P w H h)(hC:∀c∈C,∀o,H c=some o->te o=true):HOk P w (Zba C H) h:=λa o e=>by
 obtain⟨_,e⟩:=ZhS e;have out:∀{b:Addr} {u:HO},H b=some u->te u=false->Zba C H b=some u:=λ{b u} q t=>by rw[Zak λz=>by rw[hC b z u q]at t; cases t]; exact q
 exact(x a o e).stay (λ_ _ _ q=>q) (λb q=>out q rfl) λb xs q=>out q rfl
theorem HOk.put(x:HOk P w H h)(hn:∀c∈C,H c=none)(hC:∀c∈C,∀u,G c=some u->∃o,u=Zbk c o/\h.get? c=some o):HOk P w (Zhj C G H) h:=λa o e=>by
 have out:∀{b:Addr} {u:HO},H b=some u->Zhj C G H b=some u:=λ{b u} q=>by rw[Zbm λz=>by rw[hn b z]at q; cases q]; exact q
 by_cases ha:a∈C
 ·rw[ZeN ha]at e
  obtain⟨ob,rfl,hb⟩:=hC a ha o e;exact Zjv hb
 ·rw[Zbm ha]at e
  exact(x a o e).stay (λ_ _ _ q=>q) (λb q=>out q) λb xs q=>out q
end
structure Zkj(scope:Scope)(x:Str)(names:List Str):Prop where
 kind:scope.kind=.function
 co:scope.isCoroutine=false
 gen:scope.isGenerator=false
 nocell:∀y∈scope.names,y.2≠.cell
 par:scope.names.lookup x=some .local
 free:∀n∈names,scope.names.lookup n=some .free
 nd:(x::names).Nodup
def Zm1(P:Program)(w:World)(K:Zyz)(mg:Str->Option Value)(base:Heap)(N:List Str)(qual:Str)(scope:Scope)(f:Addr)(cd:Value)(clos:List (Str × Addr))(A:Around)(outer:List Env)(s:Shared)(H:Hp):Cx where
 prog:=P
 w:=w
 K:=K
 mg:=mg
 base:=base
 A:=A.deeper (ZBz qual scope s.heap.objs.size f cd clos)
 N:=N
 s₀:=s
 H₀:=H
 env:=ZBz qual scope s.heap.objs.size f cd clos
 outer:=outer
 stack:=ZBz qual scope s.heap.objs.size f cd clos::outer
 ex:=[]
 calm:=true
 fn:=λ_=>false
 pn:=[]
 xe:=λ_ _=>False
section
variable{P:Program}{w:World}{K:Zyz}{mg:Str->Option Value}{base:Heap}{A:Around}{outer:List Env}{s:Shared}{H:Hp}{k:Nat}
theorem ZsJ{qual x:Str}{scope:Scope}{names:List Str}{f:Addr}{cd:Value}{clos:List (Str × Addr)}(S:Zkj scope x names)(hd:A.handled=none)(e0:ZeO P w K mg base A outer s H)
  (inj:∀y z a,clos.lookup y=some a->clos.lookup z=some a->y=z) (has:∀y∈scope.names,y.2=.free->(clos.lookup y.1).isSome=true)
  (hcell:∀y a,clos.lookup y=some a->H a=none/\∃o v,s.heap.get? a=some o/\o.data=.cell v)
  {v:V} {u:Value} (rv:RelV v u) {vs:List V} (hlen:names.length=vs.length) (hcap:∀(i:Nat) (y:Str) (v':V),names[i]?=some y->vs[i]?=some v'->∃a o u',clos.lookup y=some a/\s.heap.get? a=some o/\o.data=.cell (some u')/\RelV v' u')
  {h':Heap} {tk:Nat} (hns:h'.Ns s.heap.objs.size λy=>[(x,u)].reverse.lookup y) (hsb:ZAy s.heap.objs.size (s.heap.push { cls:=.type "frame",data:=.dict #[] }) h') :
  Inv (Zm1 P w K mg base (x::names) qual scope f cd clos A outer s H) [] (some v::vs.map some) H { s with heap:=h',toks:=tk }:=by
 have hk:∀b o,s.heap.get? b=some o->h'.get? b=some o:=λb o e=>hsb.extBut b o (ZyX (ZyR e)) (ZyG _ e);have noA:∀b:Addr,b ∉ (Zm1 P w K mg base (x::names) qual scope f cd clos A outer s H).ex:=λb z=>absurd (show b∈([]:List Addr) from z) (by simp);refine⟨⟨e0.mod,S.kind,rfl,rfl,ZyI _,inj,λy hy=>?_,λy c z=>absurd (show false=true from z) (by simp),λ_=>hd,ZDo e0.frames,.inr ⟨rfl,rfl⟩,λb z=>absurd z (noA b),e0.bs,e0.bsz,λb _ _=>noA b,λb z=>absurd z (noA b),e0.funs,e0.frf⟩,
  rfl,e0.bare,Un.kept hk,⟨_,hns,λi y v' h1 h2 h3=>?_⟩,λy c e=>?_,e0.hok.fresh (ZyI _),λy c e=>(hcell y c e).1,λp hp=>absurd (show p∈([]:List (Addr × Obj)) from hp) (by simp),e0.hok.kept hk,?_⟩
 ·have hy:scope.names.lookup y=some .cell\/scope.names.lookup y=some .free:=hy
  rcases hy with hy | hy
  ·exact absurd rfl (S.nocell _ (Zz8 hy))
  ·exact Zzm.mp (has _ (Zz8 hy) rfl)
 ·cases i with
  | zero=>have e1:x=y:=Zzw h1;have e2:v=v':=Zzw (Zzw h2);subst e1 e2;exact⟨u,rv,.inl ⟨S.par,by simp⟩⟩
  | succ i=>have h1:names[i]?=some y:=h1;have h2:(vs.map some)[i]?=some (some v'):=h2;rw[Zy1]at h2;obtain⟨v2,h4,h5⟩:=ZyB.mp h2;cases h5;obtain⟨a,o,u',q1,q2,q3,q4⟩:=hcap i y v' h1 h4;exact⟨u',q4,.inr ⟨.inr (S.free y (Zy3 h1)),a,q1,o,hk _ _ q2,q3⟩⟩
 ·obtain⟨_,o,v',q1,q2⟩:=hcell y c e
  exact⟨v',o,hk _ _ q1,q2⟩
 ·show(some v::vs.map some).length=(x::names).length
  rw[ZyP,ZyP,ZyA,hlen]
end
end HP
namespace HP
open PySem PySem.Spec PyProof.Rows L2
variable[FX]
def cellsOf(clos:List (Str × Addr)):List Addr:=clos.filterMap λq=>clos.lookup q.1
theorem Zml{clos:List (Str × Addr)}{a:Addr}:a∈cellsOf clos↔∃y,clos.lookup y=some a:=by unfold cellsOf;rw[ZzY];exact⟨λ⟨q,_,h⟩=>⟨q.1,h⟩,λ⟨y,h⟩=>⟨(y,a),Zz8 h,h⟩⟩
theorem Tb.cut{P:Program}{w:World}{C:List Addr}{H:Hp}{h:Heap}(t:Tb H)(x:HOk P w H h)(hC:∀c∈C,∃o v,H c=some (Zbk c o)/\o.data=.cell v):Tb (Zba C H):=λT q hT=>by
 obtain⟨ps,h1,h2,h3⟩:=t T q hT;refine⟨ps,?_,h2,λpos c hc=>?_⟩
 ·rw[Zak λz=>by
   obtain⟨o,v,e,_⟩:=hC T z;rw[h1]at e; cases e]
  exact h1
 ·obtain⟨a,o,e1,e2,e3⟩:=h3 pos c hc
  refine⟨a,o,e1,?_,e3⟩;rw[Zak λz=>by obtain⟨o',v,f1,f2⟩:=hC a z;have g1:=Zck (x a _ e2);have g2:=Zck (x a _ f1);rw[g1]at g2;cases g2;obtain⟨vs,tt,d1,_⟩:=e3;rw[d1]at f2; cases f2];exact e2
section
variable{P:Program}{w:World}{K:Zyz}{mg:Str->Option Value}{base:Heap}{k:Nat}
theorem Zvg{params:Arguments}{body:Expr}{scope:Scope}{x:Str}{names:List Str}{g:HM.EF}(S:Zkj scope x names)
  (hbind:∀(qual:Str) (clos:List (Str × Addr)) (pm cd ctv u:Value),bindArgs (PySem.W.kla_fn "<lambda>" qual params body scope clos pm cd ctv) ⟨[u],[]⟩=pure [(x,u)])
  (hbody:∀(qual:Str) (f:Addr) (cd:Value) (clos:List (Str × Addr)) (A:Around) (outer:List Env) (s:Shared) (H:Hp),Zal k (A.deeper (ZBz qual scope s.heap.objs.size f cd clos))->XE (Zm1 P w K mg base (x::names) qual scope f cd clos A outer s H) body g)
  {A:Around} {outer:List Env} {s:Shared} {F H:Hp} {p:Addr} {cs:List PyData} (C:Clo K F p params body scope names cs) (e0:ZeO P w K mg base A outer s H) (sub:Zp F H) (hr:Zal (k+1) A) (tb:Tb H) (nt:NoT F)
  {us:List Value} {vs:List V} {ds:List PyData} {d:PyData} {Q:VK} (rv:Vals vs us) (rs:Zu K F ds vs) (hap:HM.ZkT 1 names.length g cs ds=some d) (kk:∀v F' H',Ext F H F' H'->Rep K F' d v->Q v H') :
  codeAny (model P w) A (.call (.ref p) ⟨us,[]⟩) (CR CX0 outer P w H s Q E0) s:=by
 unfold HM.ZkT at hap;split at hap
 case isFalse=>cases hap
 rename_i hc;obtain⟨hl1,hl2,hnf⟩:=hc;obtain⟨d0,rfl⟩:=List.length_eq_one_iff.mp hl1;obtain⟨v0,vs',rfl,r0,rs'⟩:=rs.cons_inv;obtain rfl:=rs'.nil_inv;obtain⟨u0,rfl,ru0⟩:=vals1 rv;have hnf0:HM.noF 20 d0=true:=by rw[ZzU,ZyT]at hnf; exact hnf.1
 obtain⟨qual,pm,ctv,c,oc,clos,h1,h2,h3,h4,h5,h6,h7,h8⟩:=C.ex;generalize hCs:cellsOf clos=Cs;have hCm:∀a,a∈Cs↔∃y,clos.lookup y=some a:=λa=>by rw[<-hCs]; exact Zml
 have hCo:∀a∈Cs,∃o v,F a=some (Zbk a o)/\o.data=.cell v/\s.heap.get? a=some o:=λa ha=>by obtain⟨y,e⟩:=(hCm a).mp ha;obtain⟨o,v,q1,q2⟩:=h6 y a e;exact⟨o,v,q1,q2,Zck (e0.hok a _ (sub _ _ q1))⟩
 have hCt:∀a∈Cs,∀o,H a=some o->te o=true:=λa ha o e=>by obtain⟨ob,v,q1,_,_⟩:=hCo a ha;rw[sub _ _ q1]at e; cases e; rfl
 have hCn:∀a∈Cs,H a≠none:=λa ha z=>by obtain⟨ob,v,q1,_,_⟩:=hCo a ha;rw[sub _ _ q1]at z; cases z
 have none1:∀b,H b=none->Zba Cs H b=none:=λb e=>by
  by_cases hb:b∈Cs
  ·exact Zhx hb
  ·rw[Zak hb]; exact e
 have e1:ZeO P w K mg base A outer s (Zba Cs H):=⟨e0.frames,e0.mod,λb o e=>⟨(e0.bs b o e).1,none1 b (e0.bs b o e).2⟩,e0.bsz,e0.funs,λb hb=>none1 b (e0.frf b hb),HOk.cut e0.hok hCt,e0.bare⟩;have KX:K.In s.heap:=e0.mod.kin.keeps λb o e=>(e0.bs b o e).1;have lim:s.heap.NoLimit:=e0.mod.nolimit.keeps λb o e=>(e0.bs b o e).1;have hcd:s.heap.CodeRec (.ref c) qual:=by obtain⟨vs,t,d1,d2⟩:=h3;exact⟨c,oc,vs,t,rfl,Zck (e0.hok c _ (sub _ _ h2)),d1,d2⟩
 refine PySem.W.kla_callFunE hr.depth (Zck (e0.hok p _ (sub _ _ h1))) rfl S.co S.gen rfl hcd ?_;rw[hbind];refine ZyC (ZCb S.nocell (λy hy=>by rw[ZyW.mp hy]; exact S.par) (λh' hns hsb=>⟨lim.fresh _ hsb,?_⟩) S.kind);show codeAny _ _ (.expr body (ZBz qual scope s.heap.objs.size p (.ref c) clos)) _ _;have hvs:∃wv:List V,names.length=wv.length/\(∀(i:Nat) (y:Str) (v':V),names[i]?=some y->wv[i]?=some v'->∃a o u',clos.lookup y=some a/\s.heap.get? a=some o/\o.data=.cell (some u')/\RelV v' u')/\Zu K (Zba Cs F) cs wv:=by
  have step:∀n,n<=cs.length->∃wv:List V,wv.length=n/\∀(i:Nat) (y:Str) (d:PyData) (v':V),names[i]?=some y->cs[i]?=some d->wv[i]?=some v'->(∃a o u',clos.lookup y=some a/\s.heap.get? a=some o/\o.data=.cell (some u')/\RelV v' u')/\Rep K (Zba Cs F) d v':=by
   intro n
   induction n with
   | zero=>exact λ_=>⟨[],rfl,λi y d v' _ _ h=>by simp at h⟩
   | succ n ih =>
    intro hn;obtain⟨wv,l1,l2⟩:=ih (by omega);have hy:n<names.length:=by omega
    have hd:n<cs.length:=by omega
    obtain⟨a,o,u',v',q1,q2,q3,q4,q5⟩:=h8 n names[n] cs[n] (ZyO hy) (ZyO hd);refine⟨wv++[v'],by rw[ZyS,l1]; rfl,λi y d v2 g1 g2 g3=>?_⟩
    by_cases hi:i<n
    ·rw[Zy9 (by omega)]at g3
     exact l2 i y d v2 g1 g2 g3
    ·have hin:i=n:=by
      have:=(ZyM.mp g3).1;rw[ZyS,l1]at this;have:i<n+1:=this;omega
     subst hin;rw[Zzn (by omega),l1,Nat.sub_self]at g3;rw[ZyO hy]at g1;rw[ZyO hd]at g2;cases g1; cases g2; cases g3;refine⟨⟨a,o,u',q1,Zck (e0.hok a _ (sub _ _ q2)),q3,q4⟩,?_⟩;refine(Rep0.cut (λb ob z t=>?_) q5).up;rw[Zak λhb=>by obtain⟨ob',v,w1,_,_⟩:=hCo b hb;rw[w1]at z; cases z; cases t];exact z
  obtain⟨wv,l1,l2⟩:=step cs.length (ZyI _);refine⟨wv,by omega,λi y v' g1 g3=>?_,by omega,λi d v' g2 g3=>?_⟩
  ·have hi:=(ZyM.mp g3).1
   exact(l2 i y cs[i] v' g1 (ZyO (by omega)) g3).1
  ·have hi:=(ZyM.mp g3).1
   exact(l2 i names[i] d v' (ZyO (by omega)) g2 g3).2
 obtain⟨wv,wl,wc,wr⟩:=hvs;have cutF:∀b o,F b=some o->te o=false->Zba Cs F b=some o:=λb ob z t=>by rw[Zak λhb=>by obtain⟨ob',v,w1,_,_⟩:=hCo b hb;rw[w1]at z; cases z; cases t];exact z
 have r0':Rep K (Zba Cs F) d0 v0:=(Rep.cutF cutF r0 20 hnf0).up;have sub1:Zp (Zba Cs F) (Zba Cs H):=λb o e=>by obtain⟨hb,e⟩:=ZhS e;rw[Zak hb]; exact sub _ _ e
 have nt1:NoT (Zba Cs F):=λb o e=>nt b o (ZhS e).2;have tb1:Tb (Zba Cs H):=tb.cut e0.hok λa ha=>by obtain⟨o,v,q1,q2,_⟩:=hCo a ha;exact⟨o,v,sub _ _ q1,q2⟩
 have I:=ZsJ (qual:=qual) (f:=p) (cd:=.ref c) (tk:=s.toks+1) S hr.hd e1 h4 h5 (λy a e=>by obtain⟨o,v,q1,q2,q3⟩:=hCo a ((hCm a).mpr ⟨y,e⟩);exact⟨Zhx ((hCm a).mpr ⟨y,e⟩),o,v,q3,q2⟩) ru0 wl wc hns hsb;have a0:At K (Zba Cs F) (Zba Cs H) (Zba Cs F) (Zba Cs H) ((d0::cs).map λd=>some (HM.B.pl d)) (some v0::wv.map some):=by
  have:=Zgk (N:=x::names) sub1 tb1 nt1 (Zu.cons r0' wr) (by rw[ZyP,ZyP]; omega);have e3:HM.Zer (x::names).length (d0::cs)=(d0::cs).map λd=>some (HM.B.pl d):=by unfold HM.Zer;rw[ZyP,ZyP,show names.length+1-(cs.length+1)=0 by omega];exact Zzb _
  have e4:L2.start (x::names) (v0::wv)=some v0::wv.map some:=by unfold L2.start;rw[ZyP,ZyP,show names.length+1-(wv.length+1)=0 by omega];exact Zzb _
  rw[e3,e4]at this;exact this
 refine PySem.W.kla_codeExpr (ZzS (hbody qual p (.ref c) clos A outer s (Zba Cs H) (hr.deeper _) _ _ hap [] _ _ _ (λv' H'=>∃F',Ext (Zba Cs F) (Zba Cs H) F' H'/\Rep K F' d v') I ⟨_,_,_,a0,λv' F' H' x' q'=>⟨F',x',q'⟩⟩) (λu' s' hq=>?_) λe s' hq=>ZzD hq);obtain⟨v',H',I',ru',F',x',q'⟩:=hq;have un:Un (frs outer) [] (Zba Cs H) H' s.heap s'.heap:=I'.base;have nfs:∀a∈Cs,a ∉ frs outer:=λa ha hb=>hCn a ha (e0.frf a hb);have kc:∀a∈Cs,∃o,H a=some (Zbk a o)/\F a=some (Zbk a o)/\s'.heap.get? a=some o/\H' a=none:=λa ha=>by obtain⟨o,v,q1,q2,q3⟩:=hCo a ha;exact⟨o,sub _ _ q1,q1,un.keep a o q3 (Zhx ha) (nfs a ha) (by simp),un.free a o q3 (Zhx ha) (by simp)⟩
 have out:∀{b:Addr} {o:HO},H b=some o->te o=false->b ∉ Cs:=λ{b o} e t hb=>by rw[hCt b hb o e]at t; cases t
 have outN:∀{b:Addr},H b=none->b ∉ Cs:=λ{b} e hb=>hCn b hb e;have outT:∀{b:Addr} {ps:Array Value},H b=some (.tbl ps)->b ∉ Cs:=λ{b ps} e hb=>by obtain⟨o,q,_⟩:=kc b hb;rw[e]at q; cases q
 refine⟨v',Zhj Cs H H',I'.os,I'.bare,⟨λb o e n hb hx=>?_,λb o e n hb hx=>?_,λb o e n hx=>?_,un.there,λb xs e=>?_,λb o u e=>?_,λb ps e=>?_⟩,HOk.put I'.hok (λa ha=>by obtain⟨_,_,_,_,q⟩:=kc a ha; exact q) (λa ha u e=>?_),ru',kk v' (Zhj Cs F F') (Zhj Cs H H') ⟨λb o e=>?_,λb o e=>?_,λb o e=>?_,λb o e=>?_,λt=>?_,λn b o e=>?_⟩ (q'.mono λb o e=>?_)⟩
 ·exact un.keep b o e (none1 b n) hb hx
 ·exact un.slot b o e (none1 b n) hb hx
 ·rw[Zbm (outN n)]; exact un.free b o e (none1 b n) hx
 ·have hb:=out e rfl
  rw[Zbm hb]; exact un.tups b xs (by rw[Zak hb]; exact e)
 ·have hb:=out e rfl
  rw[Zbm hb]; exact un.frzs b o u (by rw[Zak hb]; exact e)
 ·have hb:=outT e
  rw[Zbm hb]; exact un.tbls b ps (by rw[Zak hb]; exact e)
 ·obtain⟨o,q1,_,q3,_⟩:=kc a ha
  rw[q1]at e; cases e;exact⟨o,rfl,q3⟩
 ·by_cases hb:b∈Cs
  ·rw[ZeN hb]; exact e
  ·rw[Zbm hb]; exact x'.ff b o (by rw[Zak hb]; exact e)
 ·by_cases hb:b∈Cs
  ·exact .of (by rw[ZeN hb]; exact e)
  ·exact(x'.hh b o (by rw[Zak hb]; exact e)).cong (Zbm hb)
 ·by_cases hb:b∈Cs
  ·rw[ZeN hb]at e ⊢; exact sub _ _ e
  ·rw[Zbm hb]at e ⊢; exact x'.sub _ _ e
 ·by_cases hb:b∈Cs
  ·rw[ZeN hb]at e; exact .inl e
  ·rw[Zbm hb]at e
   rcases x'.new b o e with q | q
   ·exact .inl (ZhS q).2
   ·refine .inr ?_
    unfold Fre at q ⊢;rw[Zak hb]at q;exact q
 ·exact(x'.tab tb1).keep λa o e _=>by rw[Zbm λhb=>by obtain⟨_,_,_,_,q⟩:=kc a hb;rw[e]at q; cases q];exact e
 ·by_cases hb:b∈Cs
  ·rw[ZeN hb]at e; exact n b o e
  ·rw[Zbm hb]at e; exact x'.nts nt1 b o e
 ·rw[Zbm λhb=>by
   obtain⟨_,_,_,_,q⟩:=kc b hb;rw[x'.sub _ _ e]at q; cases q]
  exact e
end
end HP
namespace HP
open PySem PySem.Spec PyProof.Rows L2
variable[FX]
theorem Zq0{a b:Int}{cv:Value}(l:List Value)(h:TriplesOk l):∀(pos:Pos) (c:Value),ZCp pos (l++[rawInt a,rawInt b,cv])=some c->ZCp pos l=some c\/c=cv:=by
 fun_induction TriplesOk l with
 | case1 =>
  intro pos c e;simp only[ZAz,ZCp,rawInt]at e;split at e
  ·cases e; exact .inr rfl
  ·cases e
 | case2 x t y u z rest ih =>
  intro pos c e;simp only[ZCW,ZCp]at e ⊢;split at e
  ·rename_i hq
   rw[if_pos hq];exact .inl e
  ·rename_i hq
   rw[if_neg hq];exact ih h pos c e
 | case3=>exact h.elim
def BMod(base:Heap)(mg:Str->Option Value):Prop:=∃bm o,mg "__builtins__" = some (.ref bm)/\bm≠ZCK/\bm≠Zzk/\base.get? bm=some o/\o.cls=.type "module"/\o.dict=some ZCK/\o.data=.plain
structure Zrn(X:Cx)(t:Nat)(params:Arguments)(body:Expr)(scope:Scope)(names:List Str)(is:List Nat):Prop where
 code:∃c P,X.env.code=.ref c/\ZAh X.K c P=true/\(P,X.env.qual ++ "<lambda>")∈FX.tl/\∀q,(P,q)∈FX.tl->q=X.env.qual ++ "<lambda>"
 bm:BMod X.base X.mg
 dflt:defaultsOf params X.env=([],[])
 len:is.length=names.length
 at_:∀(j i:Nat) (x:Str),is[j]?=some i->names[j]?=some x->X.N[i]?=some x/\X.env.scope.names.lookup x=some .cell
 cells:∀y∈scope.names,y.2=.free->X.env.scope.names.lookup y.1=some .cell
 free:∀x∈names,(x,ZAR)∈scope.names
 own:∀x,X.fn x=true
 good:∀F p cs,Clo X.K F p params body scope names cs->FX.fv t cs F p
section
variable{X:Cx}{t:Nat}{params:Arguments}{body:Expr}{scope:Scope}{names:List Str}{is:List Nat}{pos lpos p:Pos}
structure Made(X:Cx)(params:Arguments)(body:Expr)(scope:Scope)(H H':Hp)(q:Addr)(clos:List (Str × Addr)):Prop where
 ex:∃(pm ctv:Value) (c:Addr) (oc:Obj),H' q=some (Zbk q (ZCd "<lambda>" (X.env.qual ++ "<lambda>") params body scope clos pm c ctv))/\H' c=some (Zbk c oc)/\Zlr oc (X.env.qual ++ "<lambda>")
 hh:Zay H H'
 tb:Tb H'
theorem Zt2(L:Zrn X t params body scope names is){pins:List (Addr × Obj)}{s:Shared}{σ:L2.St}{H:Hp}(I:Inv X pins σ H s)(tb:Tb H){clos:List (Str × Addr)}(hcl:closureFor scope X.env=pure clos) :
  wpAny (model X.prog X.w) X.A (eval (.Lambda params body scope lpos) X.env) (λu s'=>∃q H',u=.ref q/\Inv X pins σ H' s'/\Made X params body scope H H' q clos) X.xe s:=by
 obtain⟨c,P,hc,hh,hm,hu⟩:=L.code;obtain⟨ps,hP,ht,hg⟩:=tb P _ hm;have gP:s.heap.get? P=some (ZBi ps):=I.hok P _ hP;have Ns:=I.mod.glob.keeps I.bk;have CH:PySem.W.CodeHd s.heap c P:=ZDw I.kIn hh;obtain⟨bm,ob,b1,b2,b3,b4,b5,b6,b7⟩:=L.bm;have gb:=I.bk _ _ b4;have hbP:bm≠P:=λz=>by rw[z,gP]at gb; cases gb; cases b5
 have hgP:Zzk≠P:=λz=>by obtain⟨o,es,ep,e,hd,_⟩:=Ns;rw[z,gP]at e; cases e; cases hd
 have BA:s.heap.BuiltinsAt X.mg P:=⟨bm,ob,b1,b2,b3,hbP,gb,b5,b6,b7⟩;refine PySem.W.kla_eval L.dflt ?_;cases hq:ZCp lpos ps.toList with
 | some cv =>
  obtain⟨a,oc,rfl,h1,h2⟩:=hg lpos cv hq;refine PySem.W.kla_makeFunctionHit hcl I.ok.glob Ns hc CH gP ht hq BA λctv h' tk hk hz=>?_;generalize hob:ZCd "<lambda>" (X.env.qual ++ "<lambda>") params body scope clos ((X.mg "__name__").getD .none) a ctv=fo;have hn:H h'.objs.size=none:=I.hok.fresh hz;have hk2:∀b o,s.heap.get? b=some o->(h'.push fo).get? b=some o:=λb o e=>ZyG _ (hk b o e);have gq:(h'.push fo).get? h'.objs.size=some fo:=by rw[<-hob]; exact ZyU _ rfl
  refine⟨h'.objs.size,upd H h'.objs.size (Zbk h'.objs.size fo),rfl,?_,⟨_,ctv,a,oc,by rw[ZB,<-hob],?_,h2⟩,.of (Zkn hn),tb.same (Zkn hn)⟩
  ·subst hob
   exact I.laid (t':=tk) hk2 hz (Zjv gq)
  ·rw[ZA (Zap h1 hn)]; exact h1
 | none =>
  refine PySem.W.kla_makeFunction hcl I.ok.glob Ns hc CH gP ht hq hgP BA λc' ctv h' tk hx hge hlt hrec htab=>?_;generalize hob:ZCd "<lambda>" (X.env.qual ++ "<lambda>") params body scope clos ((X.mg "__name__").getD .none) c' ctv=fo;generalize hps:ps++#[rawInt lpos.line,rawInt lpos.col,Zzr c']=ps2 at htab;obtain⟨c2,oc,vs,tq,e2,goc,d1,d2⟩:=hrec;cases e2;have hcn:H c'=none:=I.hok.fresh hge;have hqn:H h'.objs.size=none:=I.hok.fresh (Zzl hge (ZAx hlt));have hcq:c'≠h'.objs.size:=ZyX hlt;have hcP:c'≠P:=λz=>by rw[z,hP]at hcn; cases hcn
  have hqP:h'.objs.size≠P:=λz=>by rw[z,hP]at hqn; cases hqn
  have gq:(h'.push fo).get? h'.objs.size=some fo:=by rw[<-hob]; exact ZyU _ rfl
  have gc:(h'.push fo).get? c'=some oc:=ZyG _ goc;have gP2:(h'.push fo).get? P=some (ZBi ps2):=ZyG _ htab;have hk2:∀b o,b≠P->s.heap.get? b=some o->(h'.push fo).get? b=some o:=λb o hb e=>ZyG _ (hx b o hb e);generalize hH':upd (upd (upd H P (.tbl ps2)) c' (Zbk c' oc)) h'.objs.size (Zbk h'.objs.size fo)=H';have aq:H' h'.objs.size=some (Zbk h'.objs.size fo):=by rw[<-hH',ZB]
  have ac:H' c'=some (Zbk c' oc):=by rw[<-hH',ZA hcq,ZB]
  have aP:H' P=some (.tbl ps2):=by rw[<-hH',ZA (ZzB hqP),ZA (ZzB hcP),ZB]
  have ao:∀b,b≠h'.objs.size->b≠c'->b≠P->H' b=H b:=λb n1 n2 n3=>by rw[<-hH',ZA n1,ZA n2,ZA n3]
  have at1:∀b o,H b=some o->b≠P->H' b=some o:=λb o e n=>by rw[ao b (Zap e hqn) (Zap e hcn) n]; exact e
  have nP:∀b o,H b=some o->(∀ps,o≠.tbl ps)->b≠P:=λb o e n z=>by rw[z,hP]at e; cases e; exact n _ rfl
  have old:∀b o,s.heap.get? b=some o->b≠h'.objs.size/\b≠c':=λb o e=>by have hb:=ZyR e;exact⟨ZyX (Zy4 hb (Zzl hge (ZAx hlt))),ZyX (Zy4 hb hge)⟩
  have hokN:HOk X.prog X.w H' (h'.push fo):=λb o e=>by
   by_cases n1:b=h'.objs.size
   ·subst n1; rw[aq]at e; cases e; exact Zjv gq
   ·by_cases n2:b=c'
    ·subst n2; rw[ac]at e; cases e; exact Zjv gc
    ·by_cases n3:b=P
     ·subst n3; rw[aP]at e; cases e; exact gP2
     ·rw[ao b n1 n2 n3]at e
      refine(I.hok b o e).stay (λd u hd z=>hk2 d u (λy=>?_) z) (λd z=>at1 d _ z (nP d _ z λ_ y=>by cases y)) λd xs z=>at1 d _ z (nP d _ z λ_ y=>by cases y);rcases hd with y2 | y2
      ·exact n3 (y2▸y)
      ·exact nP d _ y2 (λ_ q=>by cases q) y
  have un:Un X.fs [] H H' s.heap (h'.push fo):=by
   refine⟨λb o e n hb hx=>?_,λb o e n hb hx=>?_,λb o e n hx=>?_,λb o e hx=>?_,λb xs e=>at1 b _ e (nP b _ e λ_ y=>by cases y),λb o u e=>at1 b _ e (nP b _ e λ_ y=>by cases y),λb pp e=>?_⟩
   ·exact hk2 b o (λz=>by rw[z,hP]at n; cases n) e
   ·exact⟨o.slots,hk2 b o (λz=>by rw[z,hP]at n; cases n) e⟩
   ·obtain⟨n1,n2⟩:=old b o e
    rw[ao b n1 n2 (λz=>by rw[z,hP]at n; cases n)]; exact n
   ·by_cases n3:b=P
    ·exact⟨_,by rw[n3]; exact gP2⟩
    ·exact⟨o,hk2 b o n3 e⟩
   ·by_cases n3:b=P
    ·subst n3
     rw[hP]at e; cases e;exact⟨_,by rw[aP,<-hps]⟩
    ·exact⟨#[],by rw[at1 b _ e n3]; simp⟩
  refine⟨h'.objs.size,H',rfl,?_,⟨_,ctv,c',oc,by rw[aq,<-hob],ac,vs,tq,d1,d2⟩,λb o e=>?_,λT q hT=>?_⟩
  ·exact I.un (t':=tk) un hokN
  ·by_cases n3:b=P
   ·subst n3
    rw[hP]at e; cases e;exact⟨_,aP⟩
   ·exact .of (at1 b o e n3)
  ·by_cases n3:T=P
   ·subst n3
    obtain rfl:=hu q hT;refine⟨ps2,aP,?_,λpos' cc hcc=>?_⟩
    ·rw[<-hps,Array.toList_append]
     exact TriplesOk_snoc _ _ _ _ ht
    ·rw[<-hps,Array.toList_append]at hcc
     rcases Zq0 _ ht _ _ hcc with e | e
     ·obtain⟨a,o,q1,q2,q3⟩:=hg pos' cc e
      exact⟨a,o,q1,at1 a _ q2 (nP a _ q2 λ_ y=>by cases y),q3⟩
     ·exact⟨c',oc,e,ac,vs,tq,d1,d2⟩
   ·obtain⟨ps',w1,w2,w3⟩:=tb T q hT
    refine⟨ps',at1 T _ w1 n3,w2,λpos' cc hcc=>?_⟩;obtain⟨a,o,q1,q2,q3⟩:=w3 pos' cc hcc;exact⟨a,o,q1,at1 a _ q2 (nP a _ q2 λ_ y=>by cases y),q3⟩
theorem Zov{r:HM.Env}:∀{is:List Nat} {cs:List PyData},HM.ZkZ is r=some cs->cs.length=is.length/\∀(j i:Nat),is[j]?=some i->∃d,cs[j]?=some d/\r[i]?=some (some (.pl d))
 | [],cs,h=>by cases h; exact⟨rfl,λj i e=>by simp at e⟩
 | i::is,cs,h=>by
  unfold HM.ZkZ at h;split at h
  ·rename_i d hd
   obtain⟨cs',h1,h2⟩:=ZyB.mp h;subst h2;obtain⟨l,k⟩:=Zov h1;refine⟨by rw[ZyP,ZyP,l],λj i' e=>?_⟩;cases j with
   | zero=>cases e; exact⟨d,rfl,hd⟩
   | succ j=>exact k j i' e
  ·cases h
def ZeG(F H:Hp):Hp:=λb=>match H b with
 | some (.ext φ)=>some (.ext φ)
 | _=>F b
theorem Zh3{F H:Hp}{a:Addr}{o:Obj}(h:H a=some (Zbk a o)):ZeG F H a=some (Zbk a o):=by unfold ZeG Zbk at *;rw[h]
theorem Zkb{F H:Hp}{b:Addr}{o:HO}(h:ZeG F H b=some o):(H b=some o/\te o=true)\/F b=some o:=by
 unfold ZeG at h;split at h
 ·rename_i φ e
  cases h;exact .inl ⟨e,rfl⟩
 ·exact .inr h
theorem Zvl{F H:Hp}(s:Zp F H){b:Addr}{o:HO}(h:F b=some o):ZeG F H b=some o:=by have h2:=s b o h;unfold ZeG;rw[h2];cases o<;>first | rfl | exact h
theorem Zqz{k:Nat}{x:Str}{M:List PyData->Option PyData}{e:Expr}{fa:HM.EF}(C:Callee X.prog X.w X.K X.mg X.base k x M)(hr:Zal k X.A)(L:Zrn X t params body scope names is)(ha:XE X e fa)(hg:Gl X x:=by rfl)(hdb:(x==("__debug__":Str))=false:=by decide)
  (he:ZyK [e,.Lambda params body scope lpos] X.env=(false,eval e X.env)::ZyK [.Lambda params body scope lpos] X.env:=by rfl) (he2:ZyK [.Lambda params body scope lpos] X.env=[(false,eval (.Lambda params body scope lpos) X.env)]:=by rfl)
  (hpl:(backTo pos (ZyK [.Lambda params body scope lpos] X.env)).any (·.1)=false:=by rfl):XE X (.Call (.Name x p) [e,.Lambda params body scope lpos] [] pos) (HM.Zie M t is fa):=by
 intro r d hd;unfold HM.Zie at hd;split at hd
 case h_2=>cases hd
 rename_i d1 hd1;split at hd
 case h_2=>cases hd
 rename_i cs hcs;split at hd
 case isFalse=>cases hd
 rename_i hnc;split at hd
 case h_2=>cases hd
 rename_i d' hM;split at hd
 case isFalse=>cases hd
 rename_i hnd;cases hd;obtain⟨fa',fd,ps,hl,FN,hm,hk,hb⟩:=C.ex;intro pins s σ H Q I ⟨F0,H0,F,at_,kk⟩;obtain⟨clos,hcl,hc1,hc2⟩:=Zft (scope:=scope) (env:=X.env) λy hy hf=>I.ok.has _ (.inl (L.cells y hy hf));refine ZAK (Zlp I hg hm ?_ hdb);have lamPE:PE X (.Lambda params body scope lpos) λσ' H' Q'=>Tb H'/\∀q H2,Made X params body scope H' H2 q clos->Q' (.ref q) H2:=λpins' s' σ' H' Q' I' ⟨tb',k'⟩=>thn (Zt2 L I' tb' hcl) λu s2 ⟨q,H2,e1,I2,m⟩=>by subst e1; exact⟨.ref q,H2,I2,rfl,k' q H2 m⟩
 refine ZDz (h₀:=X.base) I.ok.mod.kin hk (thn (Zag (ha r d1 hd1) (Zag lamPE ZbI he2) he pos pins s σ H (λvs H2=>∃v1 F1 H1 q,vs=[v1,.ref q]/\Ext F H F1 H1/\Rep X.K F1 d1 v1/\Made X params body scope H1 H2 q clos) I
  ⟨F0,H0,F,at_,λv F1 H1 x1 r1=>⟨at_.tbx x1,λq H2 m=>⟨v,F1,H1,q,rfl,x1,r1,m⟩⟩⟩) λus s2 ⟨vs,H2,I2,rv,v1,F1,H1,q,ev,x1,r1,m⟩=>⟨I2.kIn,?_⟩) he hpl
 subst ev;have at1:=at_.grow x1;have tb1:=at_.tbx x1;have nt1:=at_.ntx x1;generalize hCs:cellsOf clos=Cs;have hCm:∀a,a∈Cs↔∃y,clos.lookup y=some a:=λa=>by rw[<-hCs]; exact Zml
 have hCc:∀a∈Cs,∃y o v,X.env.cells.lookup y=some a/\s2.heap.get? a=some o/\o.data=.cell v/\H2 a=none:=λa ha=>by obtain⟨y,e⟩:=(hCm a).mp ha;have e1:=hc1 y a e;obtain⟨v,o,h1,h2⟩:=I2.cell y a e1;exact⟨y,o,v,e1,h1,h2,I2.freeC y a e1⟩
 generalize hG:(λa:Addr=>(s2.heap.get? a).map (Zbk a))=G;have hGo:∀{a:Addr} {o:Obj},s2.heap.get? a=some o->G a=some (Zbk a o):=λ{a o} e=>by rw[<-hG]; show ZzN _ _=_; rw[e]; rfl
 generalize hH3:Zhj Cs G H2=H3;have h3in:∀{a:Addr},a∈Cs->∃o v,H3 a=some (Zbk a o)/\s2.heap.get? a=some o/\o.data=.cell v:=λ{a} ha=>by obtain⟨y,o,v,_,g1,g2,_⟩:=hCc a ha;exact⟨o,v,by rw[<-hH3,ZeN ha]; exact hGo g1,g1,g2⟩
 have h3out:∀{a:Addr},a ∉ Cs->H3 a=H2 a:=λ{a} ha=>by rw[<-hH3,Zbm ha]
 have s23:Zp H2 H3:=λb o z=>by rw[h3out λhb=>by obtain⟨_,_,_,_,_,_,g⟩:=hCc b hb;rw[g]at z; cases z];exact z
 have cge:∀a∈Cs,X.s₀.heap.objs.size<=a:=λa ha=>by obtain⟨y,_,_,e1,_⟩:=hCc a ha;exact I.ok.cab y a (L.own y) e1
 have hok3:HOk X.prog X.w H3 s2.heap:=by rw[<-hH3];refine HOk.put I2.hok (λa ha=>by obtain⟨_,_,_,_,_,_,g⟩:=hCc a ha; exact g) λa ha u e=>?_;obtain⟨y,o,v,_,g1,g2,_⟩:=hCc a ha;rw[hGo g1]at e; cases e;exact⟨o,rfl,g1⟩
 have E2:=I2.env0;have cfr:∀b∈frs X.stack,b ∉ Cs:=λb hb hc=>by
  obtain⟨y,o,v,e1,g1,g2,_⟩:=hCc b hc;rcases ZyY.mp (I2.stkSub b hb)with z | z
  ·exact I2.cne y b e1 z
  ·obtain⟨_,o',ho',_⟩:=I.ok.funs.mem z
   exact absurd (Zy4 (ZyR ho') (cge b hc)) (ZAq _)
 have E3:ZeO X.prog X.w X.K X.mg X.base X.A X.stack s2 H3:=⟨E2.frames,E2.mod,λb o z=>⟨(E2.bs b o z).1,by rw[h3out λhb=>absurd (Zy4 (ZyR z) (Zzl I.ok.bsz (cge b hb))) (ZAq _)];exact(E2.bs b o z).2⟩,E2.bsz,E2.funs,λb hb=>by rw[h3out (cfr b hb)]; exact E2.frf b hb,hok3,E2.bare⟩;have s12:Zp F1 H2:=λb o z=>m.hh.ntb (x1.sub b o z) (nt1 b o z);have s13:Zp F1 H3:=s12.trans s23;have ff:Zp F1 (ZeG F1 H3):=λb o z=>Zvl s13 z;have s33:Zp (ZeG F1 H3) H3:=λb o z=>by
  rcases Zkb z with⟨w,_⟩ | w
  ·exact w
  ·exact s13 b o w
 have nt3:NoT (ZeG F1 H3):=λb o z=>by
  rcases Zkb z with⟨w1,w2⟩ | w
  ·unfold ZeG at z
   split at z
   ·cases z; rfl
   ·exact nt1 b o z
  ·exact nt1 b o w
 have tb3:Tb H3:=m.tb.same s23;obtain⟨pm,ctv,c,oc,m1,m2,m3⟩:=m.ex;obtain⟨cl1,cl2⟩:=Zov hcs;have clo:Clo X.K (ZeG F1 H3) q params body scope names cs:=by
  refine⟨_,pm,ctv,c,oc,clos,Zh3 (s23 _ _ m1),Zh3 (s23 _ _ m2),m3,λy z a g1 g2=>I.ok.inj y z a (hc1 y a g1) (hc1 z a g2),hc2,λy a g=>?_,by rw[cl1,L.len],λj y dj g1 g2=>?_⟩
  ·obtain⟨o,v,w1,w2,w3⟩:=h3in ((hCm a).mpr ⟨y,g⟩)
   exact⟨o,v,Zh3 w1,w3⟩
  ·have hj:j<is.length:=by rw[L.len]; exact(ZyM.mp g1).1
   obtain⟨dj',g3,g4⟩:=cl2 j is[j] (ZyO hj);rw[g2]at g3;cases g3;obtain⟨hN,hkind⟩:=L.at_ j is[j] y (ZyO hj) g1;obtain⟨v,w1,w2⟩:=at1.plain g4;obtain⟨mm,_,hloc⟩:=I2.loc;obtain⟨u,ru,lk⟩:=hloc is[j] y v hN w1 (.inr (.inl hkind));have hfr:=hc2 _ (L.free y (Zy3 g1)) rfl;obtain⟨a,hal⟩:=Zzm.mp hfr;rcases lk with⟨k1,_⟩ | ⟨_,a',k1,o,k2,k3⟩
   ·rw[show X.env.kindOf y=some .cell from hkind]at k1; cases k1
   ·rw[hc1 y a hal]at k1
    cases k1;obtain⟨o',v',z1,z2,z3⟩:=h3in ((hCm a).mpr ⟨y,hal⟩);rw[k2]at z2;cases z2;refine⟨a,o,u,v,hal,Zh3 z1,k3,ru,Rep.cutF (λb ob z _=>ff b ob z) w2 20 ?_⟩;exact ZyL.mp hnc dj (Zy3 g2)
 have fv:=L.good _ _ _ clo;have hlen:=hl _ _ hM;refine wpAny_call (ZAJ (FN.run X.A X.stack s2 H3 ⟨us,[]⟩ us [v1,.ref q] (λv H4=>∃F4,Ext (ZeG F1 H3) H3 F4 H4/\Rep X.K F4 d v) E0 hr E3 (by
  have:=hb s2 us I2.kIn (by rw[Zzb,<-rv.length]; exact hlen)
  rwa [Zzb]at this) rv ⟨ZeG F1 H3,_,d,hlen,s33,tb3,nt3,.cons (r1.mono ff) (.one (.fn fv)),hM,λv F4 H4 x4 q4=>⟨F4,x4,q4⟩⟩) λrs s4 hq=>?_)
 cases rs with
 | error e=>exact ZzD hq
 | ok fl =>
  cases fl with
  | next=>exact ZzD hq
  | brk=>exact ZzD hq
  | cont=>exact ZzD hq
  | ret u =>
   obtain⟨v,H4,os,bare,un,hok4,ru,F4,x4,q4⟩:=hq;have c4:∀{a:Addr},a∈Cs->∃o v,H4 a=some (Zbk a o)/\s2.heap.get? a=some o/\s4.heap.get? a=some o/\o.data=.cell v:=λ{a} ha=>by obtain⟨o,v,w1,w2,w3⟩:=h3in ha;have w4:H4 a=some (Zbk a o):=x4.hh.ntb w1 rfl;exact⟨o,v,w4,w2,Zck (hok4 a _ w4),w3⟩
   have out4:∀{b:Addr} {o:HO},H2 b=some o->b ∉ Cs:=λ{b o} z hb=>by obtain⟨_,_,_,_,_,_,g⟩:=hCc b hb;rw[g]at z; cases z
   generalize hF5:(λb:Addr=>match F4 b with | some o=>if te o=true then F1 b else some o | none=>none)=F5;have f5:∀{b:Addr} {o:HO},F5 b=some o->(F4 b=some o/\te o=false)\/F1 b=some o:=λ{b o} z=>by
    rw[<-hF5]at z;dsimp only at z;split at z
    ·rename_i o' w
     split at z
     ·exact .inr z
     ·rename_i n
      cases z;exact .inl ⟨w,by simpa using n⟩
    ·cases z
   have f5a:∀{b:Addr} {o:HO},F4 b=some o->te o=false->F5 b=some o:=λ{b o} z n=>by rw[<-hF5]; dsimp only; rw[z]; dsimp only; rw[if_neg (by rw[n]; simp)]
   have f5b:∀{b:Addr} {o:HO},F1 b=some o->F5 b=some o:=λ{b o} z=>by
    have w:=x4.ff b o (ff b o z)
    by_cases n:te o=true
    ·rw[<-hF5]; dsimp only; rw[w]; dsimp only; rw[if_pos n]; exact z
    ·exact f5a w (by simpa using n)
   have sub5:Zp F5 (Zba Cs H4):=λb o z=>by
    rcases f5 z with⟨w,n⟩ | w
    ·rw[Zak λhb=>by
      obtain⟨_,_,g,_⟩:=c4 hb;rw[x4.sub b o w]at g; cases g; cases n]
     exact x4.sub b o w
    ·rw[Zak (out4 (s12 b o w))]
     exact x4.sub b o (x4.ff b o (ff b o w))
   refine I2.after ⟨v,Zba Cs H4,os,bare,⟨λb o e n hb hx=>?_,λb o e n hb hx=>?_,λb o e n hx=>?_,un.there,λb xs e=>?_,λb o w e=>?_,λb pp e=>?_⟩,HOk.cut hok4 (λa ha o e=>?_),ru,kk v F5 (Zba Cs H4) (x1.trans ⟨λb o z=>f5b z,λb o z=>?_,sub5,λb o z=>?_,λtb=>?_,λ_ b o z=>?_⟩) ((Rep.cutF (λb o z n=>f5a z n) q4 20 hnd).up)⟩
   ·by_cases hc:b∈Cs
    ·obtain⟨o',_,_,w2,w3,_⟩:=c4 hc
     rw[e]at w2; cases w2; exact w3
    ·exact un.keep b o e (by rw[h3out hc]; exact n) hb hx
   ·exact un.slot b o e (by rw[h3out (cfr b hb)]; exact n) hb hx
   ·by_cases hc:b∈Cs
    ·exact Zhx hc
    ·rw[Zak hc]; exact un.free b o e (by rw[h3out hc]; exact n) hx
   ·rw[Zak (out4 e)]; exact un.tups b xs (s23 _ _ e)
   ·rw[Zak (out4 e)]; exact un.frzs b o w (s23 _ _ e)
   ·rw[Zak (out4 e)]; exact un.tbls b pp (s23 _ _ e)
   ·obtain⟨o',_,g,_⟩:=c4 ha
    rw[g]at e; cases e; rfl
   ·-- tracked things stay
    have z2:=m.hh b o z;have key:∀{u:HO},H2 b=some u->Zc6 (Zba Cs H4) b u:=λ{u} w=>(x4.hh b u (s23 b u w)).cong (Zak (out4 w));cases o<;>first | exact key z2 | (obtain⟨pp,w⟩:=z2; exact(show ∃ps',_ from key w))
   ·rcases f5 z with⟨w,n⟩ | w
    ·rcases x4.new b o w with y | y
     ·rcases Zkb y with⟨_,y2⟩ | y2
      ·rw[n]at y2; cases y2
      ·exact .inl y2
     ·refine .inr ?_
      have hcb:b ∉ Cs:=λhb=>by
       obtain⟨o',_,g,_⟩:=h3in hb;rcases y with y | ⟨xs,_,y⟩
       ·rw[g]at y; cases y
       ·rw[g]at y; cases y
      rcases y with y | ⟨xs,y1,y2⟩
      ·rw[h3out hcb]at y
       exact .inl (m.hh.free y)
      ·rw[h3out hcb]at y2
       cases w1:H1 b with
       | none=>exact .inl w1
       | some u =>
        have:=m.hh.back w1 y2 λ_ q=>by cases q
        subst this;exact .inr ⟨xs,y1,w1⟩
    ·exact .inl w
   ·refine(x4.tab tb3).cut hok4 λa ha=>?_
    obtain⟨o,v',g1,_,_,g4⟩:=c4 ha;exact⟨o,v',g1,g4⟩
   ·rcases f5 z with⟨w,_⟩ | w
    ·exact x4.nts nt3 b o w
    ·exact nt1 b o w
end
end HP
namespace HP
open PySem PySem.Spec PyProof.Rows L2
structure ZqY(K:Zyz)(x qual:Str)(st:Stmt)(f:Addr)(fd:FuncData)(c:Addr):Prop where
 ex:∃(oc:Value) (od:Option Addr) (kV doc pm:Value) (an:Option Addr) (ct:Value) (osl:Array (Option Value)),
  fd=ZzV x qual (Zcd st) (ZaQ st) (Ze st) .none kV doc pm an (.ref c) ct/\K.lookup f=some ⟨oc,od,.func fd,osl⟩/\ZAG K (.ref c) qual=true
 kp:Zz0 K (.ref f)=true
theorem Zu1{K:Zyz}{x qual:Str}{st:Stmt}{f c:Addr}{oc:Value}{od an:Option Addr}{osl:Array (Option Value)}{kV doc pm ct:Value}(l:K.lookup f=some ⟨oc,od,.func (ZzV x qual (Zcd st) (ZaQ st) (Ze st) .none kV doc pm an (.ref c) ct),osl⟩)
  (h:ZAG K (.ref c) qual=true) (k:Zz0 K (.ref f)=true):ZqY K x qual st f (ZzV x qual (Zcd st) (ZaQ st) (Ze st) .none kV doc pm an (.ref c) ct) c:=⟨⟨oc,od,kV,doc,pm,an,ct,osl,rfl,l,h⟩,k⟩
section
variable[FX]
theorem Zq6{P:Program}{w:World}{K:Zyz}{mg:Str->Option Value}{base:Heap}{k:Nat}{x qual:Str}{st:Stmt}{f c:Addr}{fd:FuncData}{N ps:List Str}{g:HM.SF}(Fn:ZqY K x qual st f fd c)(S:Zv N ps (Ze st))(hm:mg x=some (.ref f))(hb:Binds K fd ps [])
  (body:∀(A:Around) (outer:List Env) (s:Shared) (H:Hp) (E:XK),Zal k (A.deeper (envOfC qual (Ze st) s.heap.objs.size f (.ref c)))->XSs (Zgd CX0 P w K mg base N qual (Ze st) f (.ref c) A outer s H E).nox (ZaQ st) g) :
  Callee P w K mg base (k+1) x (HM.fnOf ps.length N.length g):=by
 have hpl:ps.length<=N.length:=by have:=congrArg Zzo S.pre; rw[ZzO]at this; omega
 refine⟨f,fd,ps,λds d h=>?_,?_,hm,Fn.kp,hb⟩
 ·unfold HM.fnOf at h
  split at h
  ·assumption
  ·cases h
 ·obtain⟨oc,od,kV,doc,pm,an,ct,osl,rfl,lk,hcd⟩:=Fn.ex
  refine Zut lk hcd S (λvs H Q E h=>by obtain⟨_,_,_,h,_⟩:=h; exact h) λA outer s H vs Q E hr h=>?_;obtain⟨F,ds,d,hl,sub,tb,nt,q,hM,kk⟩:=h;unfold HM.fnOf at hM;split at hM
  ·rename_i hds
   have a0:=Zgk (N:=N) sub tb nt q (by omega);split at hM
   ·rename_i r hr'
    cases hM;exact⟨_,(body A outer s H E hr _ _ hr').nox,F,H,F,a0,λσ F' H' a'=>kk .non F' H' a'.ext .non⟩
   ·rename_i d' hr'
    cases hM;exact⟨_,(body A outer s H E hr _ _ hr').nox,F,H,F,a0,λv F' H' x q=>kk v F' H' x q⟩
   ·cases hM
  ·cases hM
def Zru(N:List Str)(sc scope:Scope)(names:List Str)(is:List Nat):Bool :=
 decide (is.length=names.length)&&(is.zip names).all (λq=>decide (N[q.1]?=some q.2)&&decide (sc.names.lookup q.2=some .cell))&&scope.names.all (λy=>decide (y.2≠.free)||decide (sc.names.lookup y.1=some .cell))&&names.all λx=>decide ((x,ZAR)∈scope.names)
theorem ZtV{X:Cx}{t:Nat}{params:Arguments}{body:Expr}{scope sc:Scope}{names N:List Str}{is:List Nat}{c T:Addr}{q:Str}(ck:Zru N sc scope names is=true)(h1:ZAh X.K c T=true)(h2:(T,q)∈FX.tl)(h3:∀q',(T,q')∈FX.tl->q'=q)(bm:BMod X.base X.mg)
  (good:∀F p cs,Clo X.K F p params body scope names cs->FX.fv t cs F p) (hN:X.N=N:=by rfl) (hs:X.env.scope=sc:=by rfl) (hc:X.env.code=.ref c:=by rfl) (hq:X.env.qual ++ "<lambda>" = q:=by rfl) (hd:defaultsOf params X.env=([],[]):=by rfl) (ho:∀x,X.fn x=true:=by exact λ_=>rfl) :
  Zrn X t params body scope names is:=by
 unfold Zru at ck;rw[ZyT,ZyT,ZyT]at ck;obtain⟨⟨⟨k1,k2⟩,k3⟩,k4⟩:=ck;refine⟨⟨c,T,hc,h1,by rw[hq]; exact h2,λq' z=>by rw[hq]; exact h3 q' z⟩,bm,hd,of_decide_eq_true k1,λj i x e1 e2=>?_,λy hy hf=>?_,λx hx=>?_,ho,good⟩
 ·have:(i,x)∈is.zip names:=Zy3 (i:=j) (by rw[List.getElem?_zip_eq_some]; exact⟨e1,e2⟩)
  have:=ZyL.mp k2 _ this;rw[ZyT]at this;rw[hN,hs];exact⟨of_decide_eq_true this.1,of_decide_eq_true this.2⟩
 ·have:=ZyL.mp k3 y hy
  rw[ZAn]at this;rw[hs];rcases this with z | z
  ·exact absurd hf (of_decide_eq_true z)
  ·exact of_decide_eq_true z
 ·exact of_decide_eq_true (ZyL.mp k4 x hx)
theorem Zu0{P:Program}{w:World}{K:Zyz}{mg:Str->Option Value}{base:Heap}{x qual:Str}{st:Stmt}{f a:Addr}{fd:FuncData}(Fn:Fun K x qual st f fd)(hm:mg x=some (.ref f))(ha:mg x=some (.ref a)){A:Around}{outer:List Env}{s:Shared}{H:Hp}(e0:ZeO P w K mg base A outer s H):ZDC a s.heap:=by rw[hm]at ha;cases ha;obtain⟨oc,od,kV,doc,pm,an,cdv,ct,osl,rfl,lk,hcd⟩:=Fn.ex;have KX:K.In s.heap:=e0.mod.kin.keeps λb o e=>(e0.bs b o e).1;exact⟨_,_,_,_,KX _ _ lk⟩
theorem ZtL{P:Program}{w:World}{K:Zyz}{mg:Str->Option Value}{base:Heap}{k:Nat}{x:Str}{M:List PyData->Option PyData}{a:Addr}(C:Callee P w K mg base k x M)(ha:mg x=some (.ref a)){A:Around}{outer:List Env}{s:Shared}{F H:Hp}(e0:ZeO P w K mg base A outer s H)(sub:Zp F H)
  {us:List Value} {vs:List V} {ds:List PyData} {d:PyData} {Q:VK} (hr:Zal k A) (tb:Tb H) (nt:NoT F) (rv:Vals vs us) (rs:Zu K F ds vs) (hM:M ds=some d) (kk:∀v F' H',Ext F H F' H'->Rep K F' d v->Q v H') :
  codeAny (model P w) A (.call (.ref a) ⟨us,[]⟩) (CR CX0 outer P w H s Q E0) s:=by
 obtain⟨f,fd,ps,hl,FN,hm,hk,hb⟩:=C.ex;rw[hm]at ha;cases ha;have KX:K.In s.heap:=e0.mod.kin.keeps λb o e=>(e0.bs b o e).1;have hlen:vs.length=ps.length:=by rw[<-rs.1]; exact hl _ _ hM
 refine FN.run A outer s H ⟨us,[]⟩ us vs Q E0 hr e0 ?_ rv ⟨F,ds,d,hlen,sub,tb,nt,rs,hM,kk⟩;have:=hb s us KX (by rw[Zzb,<-rv.length]; exact hlen)
 rwa [Zzb]at this
end
def ZmZ(tabs:List Addr)(H:Hp):Prop:=(∀b,H b=none\/(∃o xs,H b=some (.frz o (.lst xs)))\/H b=some (.tbl #[]))/\∀T∈tabs,H T=some (.tbl #[])
theorem Zsa{P:Program}{w:World}{K:Zyz}{mg mb:Str->Option Value}{k:Nat}{fa a:Addr}{fd:FuncData}{x:Str}{sp:Sp}{s₁:Shared}{vs:List Value}{ns:List Int}{tabs:List (Addr × Addr)}
  (hT:∀q∈tabs,ZAh K q.1 q.2=true/\K.lookup q.2=none/\s₁.heap.get? q.2=some (ZBi #[]))
  (KX:K.In s₁.heap) (hns:s₁.heap.Ns Zzk mg) (hb:s₁.heap.Ns ZCK mb) (hbb:∀x:Str,x ≠ "__name__"->mb x=Zzz x) (hlim:s₁.heap.NoLimit) (hg:s₁.gens=#[])
  (ha:s₁.heap.get? a=some { cls:=.type "list",data:=.seq vs.toArray }) (hi:IntsAre vs ns) (hl:ns.length<=sizeLine) (hr:Zal k callerA)
  (hbm:PyProof.Rows.BMain s₁.heap mg) (F:∀base:Heap,K.In base->base.Ns Zzk mg->BMod base mg->Zdm P w K mg base CX0 k fa fd [x] sp) (hbind:∀(s:Shared) (u:Value),BindsTo s fd ⟨[u],[]⟩ [(x,u)])
  (hsp:∀H:Hp,ZmZ (tabs.map (·.2)) H->SqL K H a (ns.map V.int)->sp [.ref a] H (λv _=>v=.bl true) λ_ _ _=>False) :
  codeAny (model P w) callerA (.call (.ref fa) ⟨[.ref a],[]⟩) (λr s'=>r=.ok (.ret (.bool true))/\OldK s₁.heap s'.heap/\s'.os=s₁.os/\AllBare s'.gens) s₁:=by
 have rv:=Zl4 hi;have lenV:=hi.length;have tne:∀q∈tabs,q.2≠a:=λq hq z=>by have:=(hT q hq).2.2;rw[z,ha]at this; cases this
 have core:∀oS:Option HO,(oS=none\/∃o xs,oS=some (.frz o (.lst xs)))->(∀H:Hp,H a=oS->SqL K H a (ns.map V.int))->(∀H:Hp,∀u,oS=some u->Zab P w H s₁.heap a u)->(oS≠none->K.lookup a=none) ->
   codeAny (model P w) callerA (.call (.ref fa) ⟨[.ref a],[]⟩) (λr s'=>r=.ok (.ret (.bool true))/\OldK s₁.heap s'.heap/\s'.os=s₁.os/\AllBare s'.gens) s₁:=by
  intro oS hO hS hok0 hK;generalize hH:(λb:Addr=>if b=a then oS else if b∈tabs.map (·.2)then some (HO.tbl #[])else none)=H;have Ha:H a=oS:=by rw[<-hH]; exact if_pos rfl
  have Ht:∀T∈tabs.map (·.2),H T=some (.tbl #[]):=λT hT'=>by obtain⟨q,hq,e⟩:=ZyN.mp hT';rw[<-hH];show(if T=a then oS else if T∈tabs.map (·.2)then some (HO.tbl #[])else none)=_;rw[if_neg (by rw[<-e]; exact tne q hq),if_pos hT']
  have Hc:∀b u,H b=some u->(b=a/\oS=some u)\/(b∈tabs.map (·.2)/\u=.tbl #[]):=λb u e=>by
   rw[<-hH]at e;dsimp only at e;split at e
   ·rename_i h; exact .inl ⟨h,e⟩
   ·split at e
    ·rename_i h; cases e; exact .inr ⟨h,rfl⟩
    ·cases e
  have tget:∀T∈tabs.map (·.2),s₁.heap.get? T=some (ZBi #[])/\K.lookup T=none/\∃c,ZAh K c T=true:=λT hT'=>by obtain⟨q,hq,e⟩:=ZyN.mp hT';subst e;exact⟨(hT q hq).2.2,(hT q hq).2.1,q.1,(hT q hq).1⟩
  have hok:HOk P w H s₁.heap:=λb u e=>by
   rcases Hc b u e with⟨rfl,e'⟩ | ⟨h,rfl⟩
   ·exact hok0 H u e'
   ·exact(tget b h).1
  have base_of:∀{b:Addr} {o:Obj},s₁.heap.get? b=some o->H b=none->(Zha s₁.heap H).get? b=some o:=λe n=>ZtZ e n;have noA:∀{b:Addr} {o:Obj} {es:Array DictEntry} {ep:Nat},s₁.heap.get? b=some o->o.data=.dict es ep->H b=none:=λ{b o es ep} e d=>by
   cases q:H b with
   | none=>rfl
   | some u =>
    rcases Hc b u q with⟨rfl,_⟩ | ⟨h,_⟩
    ·rw[ha]at e; cases e
     have d':Data.seq vs.toArray _=Data.dict es ep:=d;cases d'
    ·rw[(tget b h).1]at e; cases e; cases d
  have nsK:∀{b:Addr} {m:Str->Option Value},s₁.heap.Ns b m->(Zha s₁.heap H).Ns b m:=λ{b m} ⟨o,es,ep,e,d,r⟩=>⟨o,es,ep,base_of e (noA e d),d,r⟩;have hKb:K.In (Zha s₁.heap H):=λb o e=>base_of (KX b o e) (by
   cases q:H b with
   | none=>rfl
   | some u =>
    rcases Hc b u q with⟨rfl,e'⟩ | ⟨h,_⟩
    ·rw[hK (by rw[e']; simp)]at e; cases e
    ·rw[(tget b h).2.1]at e; cases e)
  have hM:Mod K mg (Zha s₁.heap H):=⟨hKb,nsK hns,⟨mb,nsK hb,hbb⟩,let ⟨mc,h1,h2⟩:=hlim; ⟨mc,nsK h1,h2⟩⟩;have e0:ZeO P w K mg (Zha s₁.heap H) callerA [] s₁ H:=⟨rfl,hM,λb o e=>Zvb e,ZCa (Zss _ _),trivial,λb hb=>absurd (show b∈([]:List Addr) from hb) (by simp),hok,.of_eq hg⟩;have hOT:ZmZ (tabs.map (·.2)) H:=⟨λb=>by
   cases q:H b with
   | none=>exact .inl rfl
   | some u =>
    rcases Hc b u q with⟨_,e'⟩ | ⟨_,rfl⟩
    ·rcases hO with z | ⟨o,xs,z⟩
     ·rw[z]at e'; cases e'
     ·rw[z]at e'; cases e'; exact .inr (.inl ⟨o,xs,rfl⟩)
    ·exact .inr (.inr rfl),Ht⟩
  have hBM:BMod (Zha s₁.heap H) mg:=by
   obtain⟨bm,ob,b1,b2,b3,b4,b5,b6⟩:=hbm;refine⟨bm,ob,b1,b2,λz=>?_,base_of b3 ?_,b4,b5,b6⟩
   ·obtain⟨o,es,ep,e,d,_⟩:=hns
    rw[z,e]at b3; cases b3; rw[b6]at d; cases d
   ·cases q:H bm with
    | none=>rfl
    | some u =>
     rcases Hc bm u q with⟨z,_⟩ | ⟨h,_⟩
     ·rw[z,ha]at b3; cases b3; exact absurd (show(ZBA "list":Value)=.type "module" from b4) (by decide)
     ·rw[(tget bm h).1]at b3; cases b3; cases b4
  refine ZAJ ((F _ hKb (nsK hns) hBM).run callerA [] s₁ H ⟨[.ref a],[]⟩ [.ref a] [.ref a] _ _ hr e0 (hbind s₁ (.ref a)) (.cons rfl .nil) (hsp H hOT (hS H Ha))) λr s' h=>?_;cases r with
  | error e=>exact ZzD h
  | ok fl =>
   cases fl with
   | next=>exact ZzD h
   | brk=>exact ZzD h
   | cont=>exact ZzD h
   | ret u =>
    obtain⟨v,H',os,bare,un,hok',r',q⟩:=h;have q':v=.bl true:=q;subst q';obtain rfl:u=Value.bool true:=r';refine⟨rfl,⟨λb o e=>?_,λb o e=>un.there b o e (by simp)⟩,os,bare⟩;cases q:H b with
    | none=>exact .inl (un.keep b o e q (by intro z; exact absurd (show b∈([]:List Addr) from z) (by simp)) (by simp))
    | some u =>
     rcases Hc b u q with⟨rfl,e'⟩ | ⟨h,rfl⟩
     ·rcases hO with z | ⟨ob,xs,z⟩
      ·rw[z]at e'; cases e'
      ·rw[z]at e'; cases e'
       have z2:=un.frzs _ ob _ q;obtain⟨e1,_⟩:=hok _ _ q;obtain⟨e2,_⟩:=hok' _ _ z2;rw[e]at e1; cases e1;exact .inl e2
     ·obtain⟨g1,_,c,g3⟩:=tget b h
      rw[g1]at e; cases e;obtain⟨more,z2⟩:=un.tbls b _ q;have z3:s'.heap.get? b=some { cls:=.none,data:=.fields (#[]++more) }:=hok' b _ z2;refine .inr (.inl ⟨((ZDw KX g3).tab g1).isCodeTable,rfl,#[],more,rfl,z3⟩)
 cases hk:K.lookup a with
 | some o=>have e:=KX a o hk;rw[ha]at e;cases e;exact core none (.inl rfl) (λH _=>.inr ⟨_,vs.toArray,_,hk,rfl,rfl,rfl,by rw[ZyQ,lenV]; exact hl,by simpa using rv⟩) (λH u z=>by cases z) λz=>absurd rfl z
 | none=>refine core (some (.frz { cls:=.type "list",data:=.seq vs.toArray } (.lst (ns.map V.int)))) (.inr ⟨_,_,rfl⟩) (λH e=>.inl (.inr ⟨_,e⟩)) (λH u z=>?_) λ_=>hk;cases z;exact⟨ha,by rw[ZyA]; exact hl,vs,_,rv,ha⟩
theorem ZtU{l:ZC9}{n k:Nat}{q:Program}{loose:List Str}{XP:(Str->Option Value)->Heap->Prop}{YP:World->Heap->Prop}{d:DefRec}{K:Params->Zyz}{sp:World->Sp}{x:Str}{tabs:List (Addr × Addr)}
  (hn:l.most=some n) (hn2:n<=sizeLine) (hdf:d.params.defaults=[]) (hr:Zal k callerA)
  (hY:∀(w:World) (h:Heap),YP w h->(K w.params).In h) (hYT:∀(w:World) (h:Heap),YP w h->∀q∈tabs,h.get? q.2=some (ZBi #[]))
  (hT:∀(w:World),∀q∈tabs,ZAh (K w.params) q.1 q.2=true/\(K w.params).lookup q.2=none)
  (F:∀(w:World) (mg:Str->Option Value) (fa:Addr) (h:Heap),(K w.params).In h->h.Ns Zzk mg->mg d.name=some (.ref fa) ->
   ∃fd:FuncData,(∀(s:Shared) (u:Value),BindsTo s fd ⟨[u],[]⟩ [(x,u)]) /\
    ∀base:Heap,(K w.params).In base->base.Ns Zzk mg->BMod base mg->Zdm l.prog w (K w.params) mg base CX0 k fa fd [x] (sp w))
  (hsp:∀(w:World) (H:Hp) (a:Addr) (ns:List Int),ns.length<=n->ZmZ (tabs.map (·.2)) H->SqL (K w.params) H a (ns.map V.int)->sp w [.ref a] H (λv _=>v=.bl true) λ_ _ _=>False) :
  PySem.W.WalkO q loose XP YP l.row.toRowW d [] (λf vs=>PySem.call f vs):=by
 refine Att.ZpO hn hdf λw s₀ s₁ mg mb fa o pm cd doc a vs ns G Y ho hd hcd hmg hobj hints hlen hg=>?_;have KX:=hY w _ Y;obtain⟨fd,hb,hF⟩:=F w mg fa _ KX G.T.g hmg;exact Zsa (λq hq=>⟨(hT w q hq).1,(hT w q hq).2,hYT w _ Y q hq⟩) KX G.T.g G.T.b G.T.builtins G.T.nolimit hg hobj hints (Zzl hlen hn2) hr G.T.bmain hF hb λH hO hS=>hsp w H a ns hlen hO hS
end HP
namespace HP
open PySem PySem.Spec PyProof.Rows L2
def Zxg:Stmt->Option (Arguments × Expr × Scope)
 | .Return (some (.Call _ [_,.Lambda a b s _] _ _)) _=>some (a,b,s)
 | .Assign _ (.Call _ [_,.Lambda a b s _] _ _) _=>some (a,b,s)
 | _=>none
def Zln(st:Stmt):Arguments × Expr × Scope:=((ZaQ st).findSome? Zxg).getD default
abbrev Zv6(st:Stmt):Arguments:=(Zln st).1
abbrev ZtC(st:Stmt):Expr:=(Zln st).2.1
abbrev ZlD(st:Stmt):Scope:=(Zln st).2.2
theorem ZwX{P:Program}{w:World}{K:Zyz}{mg:Str->Option Value}{base:Heap}{A:Around}{outer:List Env}{s:Shared}{F H:Hp}{p:Addr}{params:Arguments}{body:Expr}{scope:Scope}{names:List Str}{cs:List PyData}
  (C:Clo K F p params body scope names cs) (e0:ZeO P w K mg base A outer s H) (sub:Zp F H):ZDC p s.heap:=by
 obtain⟨qual,pm,ctv,c,oc,clos,h1,_⟩:=C.ex;exact⟨_,_,_,_,Zck (e0.hok p _ (sub _ _ h1))⟩
section
variable[FX]
theorem Zv1{K:Zyz}{M:List PyData->Option PyData}{H:Hp}{a:Addr}{ns:List Int}{tabs:List Addr}(hO:ZmZ tabs H)(ht:∀T q,(T,q)∈FX.tl->T∈tabs)(hS:SqL K H a (ns.map V.int))(hM:M [.list (HM.ofInts ns)]=some (.bool true)) :
  spD K 1 M [.ref a] H (λv _=>v=.bl true) λ_ _ _=>False:=by
 refine⟨Zcp H,[.list (HM.ofInts ns)],.bool true,rfl,Zi3,λT q hT=>⟨#[],hO.2 T (ht T q hT),trivial,λpos c hc=>by cases hc⟩,.drop,.one (Rep.drop (.lst hS (Ze9 (K:=K) (F:=H) ns).1 (Ze9 ns).2)),hM,λv F1 H1 _ r=>r.bool_inv⟩
end
end HP
namespace HP
open PySem PySem.Spec PyProof.Rows L2
variable[FX]
section
variable{X:Cx}{a b:Expr}{fa fb:HM.EF}{pos:Pos}
def Zxb(K:Zyz):R2:=λv w H Q=>∃p q xs ys,v=.ref p/\w=.ref q/\SqT K H p xs/\SqT K H q ys/\xs.length+ys.length<=sizeLine/\(xs=[]->Q w H)/\(xs≠[]->ys=[]->Q v H)/\(xs≠[]->ys≠[]->∀z,H z=none->Q (.ref z) (upd H z (.tup (xs++ys))))
theorem Zvm:OpR X (ZBc .Add) (Zxb X.K):=by
 intro pins s σ H x y v u Q I rx ry ⟨p,q,xs,ys,e1,e2,hp,hq,hz,q0,q1,q2⟩
 by_cases hx:xs=[]
 ·subst e1 e2
  obtain rfl:v=Zzr p:=rx;obtain rfl:u=Zzr q:=ry;obtain⟨its,r1,p1,_⟩:=I.tuple hp;obtain⟨its2,r2,p2,_⟩:=I.tuple hq;obtain⟨⟨cls,dd,data,sl⟩,ho,hc,n,hd⟩:=id p1;obtain⟨⟨cls2,dd2,data2,sl2⟩,ho2,hc2,n2,hd2⟩:=id p2;simp only at hc hd hc2 hd2;subst hc hd hc2 hd2;have e0:its=[]:=by rw[hx]at r1; cases r1; rfl
  exact concat_meets ⟨_,ho,rfl⟩ ⟨_,ho2,rfl⟩ ZCS seq_tuple_add ZBQ ZBI (ZBv _ _)
   (tuple_addW0 p q its.toArray its2.toArray n n2 dd dd2 sl sl2 (by simp[e0])) ⟨ho,ho2,⟨.ref q,H,I,rfl,q0 hx⟩⟩
 ·exact Zu2 pins s σ H x y v u Q I rx ry ⟨p,q,xs,ys,e1,e2,hp,hq,hx,hz,λz=>by rw[<-e1]; exact q1 hx z,λz=>q2 hx z⟩
theorem Zta(ha:XE X a fa)(hb:XE X b fb):XE X (.BinOp a .Add b pos) (HM.Zi7 fa fb):=by
 intro r d h;unfold HM.Zi7 at h;split at h
 case h_2=>cases h
 rename_i xs hx;split at h
 case h_2=>cases h
 rename_i ys hy;split at h
 case isFalse=>cases h
 rename_i hlt;cases h;refine PE.imp (Zm6 Zvm (ha r _ hx) (hb r _ hy)) λσ H Q ⟨F0,H0,F,at_,k⟩=>?_;refine⟨F0,H0,F,at_,λv F1 H1 x1 r1=>⟨F0,H0,F1,at_.grow x1,λw F2 H2 x2 r2=>?_⟩⟩;have r1':=r1.mono x2.ff;obtain⟨l,vs,e1,h1,s1⟩:=Zly r1';obtain⟨l',us,e2,h2,s2⟩:=Zly r2;have e3:=s1.1;have e4:=s2.1;have hz:xs.length+ys.length<1000000:=hlt;have e5:(1000000:Nat)<=sizeLine:=by decide
 refine⟨l,l',vs,us,e1,e2,Zia h1 x2.sub,Zia h2 x2.sub,by omega,λz=>?_,λ_ z=>?_,λ_ _ p hp=>?_⟩
 ·rw[z]at e3
  exact k _ F2 H2 (x1.trans x2) (by rw[ZAd e3,ZAz]; exact r2)
 ·rw[z]at e4
  exact k _ F2 H2 (x1.trans x2) (by rw[ZAd e4,Zzb]; exact r1')
 ·have rc:=s1.append s2
  exact k _ (upd F2 p (.tup (vs++us))) _ ((x1.trans x2).lay hp) (.tup ZB rc.1 (rc.mono (Zp.upd' (x2.sub.free hp))).2)
end
end HP
namespace HM
open PySem
theorem ZbO{α:Type}{c:TF}{e:EF}{r:Env}(g:α->D)(p:α->Bool)(f:α->D):∀(xs:List α),(∀x∈xs,c (some (.pl (g x))::r)=some (p x))->(∀x∈xs,p x=true->e (some (.pl (g x))::r)=some (f x))->Zax c e r (xs.map g)=some ((xs.filter p).map f)
 | [],_,_=>rfl
 | x::xs,h1,h2=>by
  have ih:=ZbO g p f xs (λy hy=>h1 y (ZyD _ hy)) (λy hy=>h2 y (ZyD _ hy));have hc:=h1 x (ZyE ..);rw[ZyH];unfold Zax;rw[hc];cases hp:p x with
  | true=>have he:=h2 x (ZyE ..) hp;dsimp only;rw[he];dsimp only;rw[ih,ZC0 hp];rfl
  | false=>dsimp only;rw[ih,ZC1 (by simp[hp])]
theorem Zbz{α:Type}{e:EF}{r:Env}(g:α->D)(f:α->D)(xs:List α)(h:∀x∈xs,e (some (.pl (g x))::r)=some (f x)):Zax Zaa e r (xs.map g)=some (xs.map f):=by rw[ZbO g (λ_=>true) f xs (λ_ _=>rfl) λx hx _=>h x hx,ZAa.mpr λ_ _=>rfl]
theorem ZjC{α:Type}{i:Nat}{body:SF}(g:α->D)(P:List α->Env->Prop)(xs:List α)(r:Env)(h0:P [] r)
  (hs:∀pre x post r,xs=pre++x::post->P pre r->∃r',body (r.set i (some (.pl (g x))))=some (.nx r')/\P (pre++[x]) r'):∃r',Z1 i body (xs.map g) r=some (.nx r')/\P xs r':=by
 have key:∀(post pre:List α) (r:Env),xs=pre++post->P pre r->∃r',Z1 i body (post.map g) r=some (.nx r')/\P xs r':=by
  intro post
  induction post with
  | nil=>intro pre r e h; rw[Zzb]at e; subst e; exact⟨r,rfl,h⟩
  | cons x post ih=>intro pre r e h;obtain⟨r1,h1,h2⟩:=hs pre x post r e h;obtain⟨r2,h3,h4⟩:=ih (pre++[x]) r1 (by rw[e,ZzT]; rfl) h2;refine⟨r2,?_,h4⟩;rw[ZyH];unfold Z1;rw[h1];exact h3
 exact key xs [] r rfl h0
def ZvM{α S:Type}(q:S->α->Bool)(step:S->α->S):S->List α->Bool
 | _,[]=>true
 | s,x::xs=>q s x&&ZvM q step (step s x) xs
abbrev dI(i:Int):D:=Zze i
abbrev dN(k:Nat):D:=Zze (k:Int)
theorem ZfA(ns:List Int):ofInts ns=ns.map dI:=rfl
theorem ZZ(n:Nat):ZbK 0 n=(ZyF n).map dN:=by unfold ZbK;refine Zz9 λk _=>?_;show Zze (0+(k:Int))=Zze (k:Int);rw[Int.zero_add]
theorem ZbR(ns:List Int):ZaG (ns.map dI)=some ns:=by
 induction ns with
 | nil=>rfl
 | cons n ns ih=>show(ZaG (ns.map dI)).map (n::·)=_; rw[ih]; rfl
theorem ZfB(bs:List Bool):Zfa (bs.map λb=>Zz4 b)=some bs:=by
 induction bs with
 | nil=>rfl
 | cons b bs ih=>show(Zfa (bs.map λb=>Zz4 b)).map (b::·)=_; rw[ih]; rfl
abbrev tupI(ns:List Int):D:=Zzf (ns.map dI)
theorem Zd1{ds:List D}{j:Nat}{d:D}(h:ds[j]?=some d):atD ds (j:Int)=some d:=by have hj:j<ds.length:=(ZyM.mp h).1;unfold atD ixN;rw[if_pos (by omega),if_pos (by omega)];simpa using h
theorem Zjt{ds:List D}{i:Int}{d:D}(h0:0<=i)(h:ds[i.toNat]?=some d):atD ds i=some d:=by
 have e:i=((i.toNat:Nat):Int):=by omega
 rw[e]; exact Zd1 (by simpa using h)
@[simp] theorem Zyv(d:D)(r:List D):atD (d::r) 0=some d:=Zd1 (j:=0) rfl
@[simp] theorem Zyw(a d:D)(r:List D):atD (a::d::r) 1=some d:=Zd1 (j:=1) rfl
@[simp] theorem Zyu(a b d:D)(r:List D):atD (a::b::d::r) 2=some d:=Zd1 (j:=2) rfl
@[simp] theorem Zyt(a b c d:D)(r:List D):atD (a::b::c::d::r) 3=some d:=Zd1 (j:=3) rfl
@[simp] theorem Zys(a b c e d:D)(r:List D):atD (a::b::c::e::d::r) 4=some d:=Zd1 (j:=4) rfl
theorem Zyj(i j:Int)(h:(ZY i||ZY j)=true):Zdl (.int i) (.int j)=some (.int (i*j)):=by show(if ZY i||ZY j then some (Zze (i*j))else none)=_;rw[if_pos h]
@[simp] theorem ZxW:ZY 7=true:=rfl
@[simp] theorem ZxO:ZY 11=true:=rfl
@[simp] theorem ZxF:ZY 13=true:=rfl
@[simp] theorem ZxK:ZY 17=true:=rfl
@[simp] theorem ZxB:ZY 19=true:=rfl
@[simp] theorem ZxC:ZY 23=true:=rfl
@[simp] theorem ZxG:ZY 29=true:=rfl
@[simp] theorem ZxP:ZY 31=true:=rfl
@[simp] theorem ZxQ:ZY 37=true:=rfl
@[simp] theorem ZxM:ZY 41=true:=rfl
@[simp] theorem ZxD:ZY 43=true:=rfl
@[simp] theorem ZxE:ZY 47=true:=rfl
@[simp] theorem ZxN:ZY 53=true:=rfl
@[simp] theorem ZxI:ZY 59=true:=rfl
@[simp] theorem ZxJ:ZY 61=true:=rfl
@[simp] theorem ZxL:ZY 67=true:=rfl
@[simp] theorem ZxA:ZY 71=true:=rfl
@[simp] theorem ZxH:ZY 73=true:=rfl
@[simp] theorem Zwv:ZY 48271=true:=rfl
@[simp] theorem Zx5:ZY 2=true:=rfl
@[simp] theorem Zyg:ZY 3=true:=rfl
@[simp] theorem Zx2:ZY 5=true:=rfl
theorem Zjk{i:Int}(h1:-1000000000<i)(h2:i<1000000000):ZY i=true:=by
 unfold ZY;have:i.natAbs<18446744073709551616:=by omega
 exact ZBE.mpr this
theorem ZcI{n:Nat}(h:n<1000000):okR (n:Int)=true:=ZBE.mpr (by omega)
@[simp] theorem Zxw(i:Int):Zan (.int i)=true:=rfl
@[simp] theorem Zw4(i:Bool):Zan (.bool i)=true:=rfl
@[simp] theorem Zw3:Zan .none=true:=rfl
@[simp] theorem Zyo(i j:Int):Zzv (.int i) (.int j)=(i==j):=rfl
structure Wk where
 many:Nat
 deeds:List (List (List Int))
 looks:List (List Int)
 beg:List Int
 goal:List Int
def ZN(dd:List (List Int)):D:=.tuple (dd.map tupI)
def Wk.d(w:Wk):D:=.tuple [.int w.many,.tuple (w.deeds.map ZN),.tuple (w.looks.map tupI),tupI w.beg,tupI w.goal]
def Cr(n:Nat)(c:List Int):Prop:=c.Pairwise (· < ·)/\∀x∈c,0<=x/\x<(n:Int)
structure Wk.Ok(w:Wk):Prop where
 m1:2<=w.many
 m2:w.many<=5
 d1:1<=w.deeds.length
 d2:w.deeds.length<=3
 dl:∀dd∈w.deeds,dd.length=w.many
 dc:∀dd∈w.deeds,∀c∈dd,Cr w.many c
 l2:w.looks.length<=3
 ll:∀l∈w.looks,l.length=w.many
 lc:∀l∈w.looks,∀x∈l,0<=x/\x<=9
 b1:w.beg≠[]
 bc:Cr w.many w.beg
 g1:w.goal≠[]
 gc:Cr w.many w.goal
theorem Cr.len{n:Nat}:∀{c:List Int},Cr n c->c.length<=n:=by
 have key:∀(c:List Int) (l:Int),c.Pairwise (· < ·)->(∀x∈c,l<=x/\x<(n:Int))->(c.length:Int)<=max 0 ((n:Int)-l):=by
  intro c
  induction c with
  | nil=>intro l _ _; simp; omega
  | cons x c ih=>intro l hp hb;have h1:=hb x (ZyE ..);have h2:=ih (x+1) (Zzq.mp hp).2 λy hy=>⟨by have:=(Zzq.mp hp).1 y hy; omega,(hb y (ZyD _ hy)).2⟩;rw[ZyP];omega
 intro c h;have:=key c 0 h.1 h.2;omega
theorem sortI_perm(ns:List Int):(sortI ns).Perm ns:=ZBp ns _
theorem Zt9(ns:List Int):(sortI ns).Pairwise (·<=·):=by have h:=ZBK (le:=λa b:Int=>decide (a<=b)) (λa b c h1 h2=>by simp at *; omega) (λa b=>by simp; omega) ns;exact h.imp λh=>by simpa using h
theorem Zj5:∀{ns:List Int},ns.Pairwise (·<=·)->ns.Nodup->ns.Pairwise (· < ·)
 | [],_,_=>.nil
 | n::ns,h,hn=>by obtain⟨h1,h2⟩:=Zzq.mp h;obtain⟨n1,n2⟩:=Zzx.mp hn;refine Zzq.mpr ⟨λx hx=>?_,Zj5 h2 n2⟩;have:=h1 x hx;have:n≠x:=λe=>n1 (e▸hx);omega
theorem Zh1{n:Nat}{ns:List Int}(hn:ns.Nodup)(hb:∀x∈ns,0<=x/\x<(n:Int)):Cr n (sortI ns) :=
 ⟨Zj5 (Zt9 ns) ((sortI_perm ns).nodup_iff.mpr hn),λx hx=>hb x ((sortI_perm ns).mem_iff.mp hx)⟩
theorem Zh7(ns:List Int)(h:ns.length<64):Ze1 (ns.map dI)=some ((sortI ns).map dI):=by unfold Ze1;rw[if_pos (by rw[ZyA]; exact h),ZbR];rfl
theorem Zfc:∀(ns acc:List Int) (x:Int),x∈dedup acc ns↔x∈acc\/x∈ns
 | [],acc,x=>by simp[dedup]
 | n::ns,acc,x=>by
  unfold dedup;split
  ·rename_i h
   have h':n∈acc:=by simpa using h
   rw[Zfc ns acc x]
   constructor
   ·rintro (h | h)
    ·exact .inl h
    ·exact .inr (ZyD _ h)
   ·rintro (h | h)
    ·exact .inl h
    ·rcases ZyY.mp h with e | e
     ·exact .inl (e▸h')
     ·exact .inr e
  ·rw[Zfc ns _ x,Zy6,ZyW,ZyY]
   constructor
   ·rintro ((h | h) | h)
    ·exact .inl h
    ·exact .inr (.inl h)
    ·exact .inr (.inr h)
   ·rintro (h | h | h)
    ·exact .inl (.inl h)
    ·exact .inl (.inr h)
    ·exact .inr h
theorem Ze0:∀(ns acc:List Int),acc.Nodup->(dedup acc ns).Nodup
 | [],acc,h=>h
 | n::ns,acc,h=>by
  unfold dedup;split
  ·exact Ze0 ns acc h
  ·rename_i hc
   have hc':n ∉ acc:=by simpa using hc
   refine Ze0 ns _ ?_;rw[ZAU];exact⟨h,by simp,λa ha b hb=>by simp at hb; subst hb; exact λe=>hc' (e▸ha)⟩
end HM
namespace HG
open PySem HM
def Ziw:SF :=
 (Zr (sIf (tOr (tV (ZdF (Zb 0) .bool)) (ZdD (tV (ZdF (Zb 0) .int)))) (ZC (eC (.bool false))) Zae)
  (ZC (Zk0 gLe gLe (Zb 1) (Zb 0) (Zb 2))))
def Zas:List D->Option D:=fnOf 3 3 Ziw
def ZlW:SF :=
 (ZC (Zgr (ZdF (Zb 0) .tuple) (Zk0 gLe gLe (Zb 1) (ZaJ (Zo 0)) (Zb 2))))
def ZaT:List D->Option D:=fnOf 3 3 ZlW
def Zat:SF :=
 (Zr (sIf (ZdD (tV (Zl Zas (Zd (Zb 3) (Zd (Zb 2) (Zd (op2 Zfr (Zb 1) (eC (.int 1))) Zn)))))) (ZC (eC (.bool false))) Zae)
  (Z0 2 (op2 Zbb (Zb 3) (eC (.int 1)))))
def Zeb:SF :=
 (Zr (sIf (ZdD (tV (ZdF (Zb 0) .tuple))) (ZC (eC (.bool false))) Zae)
  (Zr (Z0 2 (eC (.int 0)))
  (Zr (Za2 3 (Z4 (bOf (Zb 0))) Zat)
  (ZC (eC (.bool true))))))
def Z7:List D->Option D:=fnOf 2 4 Zeb
def ZhC:SF :=
 (ZC (Zgr (Zl ZaT (Zd (Zb 0) (Zd (Zb 1) (Zd (Zb 1) Zn)))) (Zjb (ZL (Z4 (bOf (Zb 0))) Zaa (Zl Z7 (Zd (Zb 0) (Zd (Zb 2) Zn)))))))
def Zcg:List D->Option D:=fnOf 2 2 ZhC
def ZhD:SF :=
 (ZC (Zgr (Zl ZaT (Zd (Zb 0) (Zd (Zb 1) (Zd (Zb 1) Zn)))) (Zjb (ZL (Z4 (bOf (Zb 0))) Zaa (Zl Zas (Zd (Zb 0) (Zd (eC (.int 0)) (Zd (eC (.int 9)) Zn))))))))
def Zch:List D->Option D:=fnOf 2 2 ZhD
def Zix:SF :=
 (ZC (Zgr (Zl ZaT (Zd (Zb 0) (Zd (eC (.int 1)) (Zd (eC (.int 5)) Zn)))) (Zjb (ZL (Z4 (bOf (Zb 0))) Zaa (Zl Zcg (Zd (Zb 0) (Zd (Zb 2) Zn)))))))
def Zct:List D->Option D:=fnOf 2 2 Zix
def Ziy:SF :=
 (ZC (Zgr (Zl ZaT (Zd (Zb 0) (Zd (eC (.int 0)) (Zd (eC (.int 4)) Zn)))) (Zjb (ZL (Z4 (bOf (Zb 0))) Zaa (Zl Zch (Zd (Zb 0) (Zd (Zb 2) Zn)))))))
def Zcu:List D->Option D:=fnOf 2 2 Ziy
def ZjQ:SF :=
 (ZC (Zgr (Zl Z7 (Zd (Zb 0) (Zd (Zb 1) Zn))) (op2 gGt (ZaJ (Zo 0)) (eC (.int 0)))))
def ZcU:List D->Option D:=fnOf 2 2 ZjQ
def Ziz:SF :=
 (Zr (sIf (tOr (ZdD (tV (Zl ZaT (Zd (Zb 0) (Zd (eC (.int 5)) (Zd (eC (.int 5)) Zn)))))) (ZdD (tV (Zl Zas (Zd (eIx (Zo 0) (eC (.int 0))) (Zd (eC (.int 1)) (Zd (eC (.int 8)) Zn))))))) (ZC (eC (.bool false))) Zae)
  (Zr (Z0 1 (eIx (Zo 0) (eC (.int 0))))
  (Zr (sIf (tOr (ZdD (tV (Zl Zct (Zd (eIx (Zo 0) (eC (.int 1))) (Zd (Zb 1) Zn))))) (ZdD (tV (Zl Zcu (Zd (eIx (Zo 0) (eC (.int 2))) (Zd (Zb 1) Zn)))))) (ZC (eC (.bool false))) Zae)
  (ZC (Zgr (Zl ZcU (Zd (eIx (Zo 0) (eC (.int 3))) (Zd (Zb 1) Zn))) (Zl Z7 (Zd (eIx (Zo 0) (eC (.int 4))) (Zd (Zb 1) Zn))))))))
def Zcv:List D->Option D:=fnOf 1 2 Ziz
def ZjR:SF :=
 (ZC (eIx (Zo 0) (eC (.int 1))))
def Zbg:List D->Option D:=fnOf 1 1 ZjR
def ZjS:SF :=
 (ZC (eIx (Zo 0) (eC (.int 2))))
def ZaA:List D->Option D:=fnOf 1 1 ZjS
def Zkz:SF :=
 (Zr (sIf (ZdD (tV (Zl Zcv (Zd (Zb 0) Zn)))) ZkO Zae)
  (ZC (Zb 0)))
def Za4:List D->Option D:=fnOf 1 1 Zkz
def ZfP:SF :=
 (Zr (sIf (ZdD (tV (Zl Z7 (Zd (Zb 1) (Zd (ZaJ (bOf (Zl ZaA (Zd (Zb 0) Zn)))) Zn))))) ZkO Zae)
  (ZC (Zb 1)))
def Zbv:List D->Option D:=fnOf 2 2 ZfP
def ZkA:SF :=
 (ZC (Zaq (ZL (Z4 (bOf (Zb 1))) Zaa (eIx (bOf (eIx (bOf (Zl ZaA (Zd (Zb 1) Zn))) (Zb 0))) (Zb 3)))))
def Zdq:List D->Option D:=fnOf 3 3 ZkA
def Zhn:SF :=
 (Zr (Z0 3 (eIx (bOf (Zl Zbg (Zd (Zb 0) Zn))) (Zb 2)))
  (ZC (Zjb (ZL (Z4 (bOf (Zb 1))) Zaa (op2 gGt (ZaJ (bOf (eIx (Zo 4) (Zb 0)))) (eC (.int 0)))))))
def Zb1:List D->Option D:=fnOf 3 4 Zhn
def Zil:SF :=
 (ZC (eOf (ZL (ZbW (ZaJ (bOf (Zl Zbg (Zd (Zb 0) Zn))))) (tV (Zl Zb1 (Zd (Zb 1) (Zd (Zb 2) (Zd (Zb 0) Zn))))) (Zb 0))))
def Zca:List D->Option D:=fnOf 2 2 Zil
def Zec:SF :=
 (Zhd 4 (Zb 6) (eC (.bool true)))
def Zed:SF :=
 (Za2 6 (Z4 (bOf (eIx (Zo 3) (Zb 5)))) Zec)
def ZlX:SF :=
 (Zr (Z0 3 (eIx (bOf (Zl Zbg (Zd (Zb 0) Zn))) (Zb 2)))
  (Zr (ZT 4 fDk)
  (Zr (Za2 5 (Z4 (bOf (Zb 1))) Zed)
  (ZC (Zaq (ZfL (Zo 4)))))))
def Zda:List D->Option D:=fnOf 3 7 ZlX
def Zee:SF :=
 (Zop 3 (Zl Zdq (Zd (Zb 0) (Zd (Zb 1) (Zd (Zb 4) Zn)))) (Zb 4))
def ZlY:SF :=
 (Zr (ZT 3 ZtN)
  (Zr (Za2 4 (Z4 (bOf (Zb 2))) Zee)
  (ZC (eOf (ZL (Z4 (bOf (eOf (ZfL (Zo 3))))) Zaa (Zg8 (Zd (Zb 0) (Zd (Zaq (Zoi 4 (Zb 0))) Zn))))))))
def Zbd:List D->Option D:=fnOf 3 5 ZlY
def ZjT:SF :=
 (Zr (sIf (tV (op2 gLt (Zb 1) (ZaJ (Zo 0)))) (ZC (eIx (Zo 0) (Zb 1))) Zae)
  (ZC (eC (.int 0))))
def ZaM:List D->Option D:=fnOf 2 2 ZjT
def ZkB:SF :=
 (ZC (op2 Ztl (op2 Ztl (op2 Zdl (Zb 0) (eC (.int 48271))) (Zb 1)) (Zb 2)))
def ZJ:List D->Option D:=fnOf 3 3 ZkB
def ZfQ:SF :=
 (Zr (ZT 3 (ZL (ZbW (Zb 1)) (tV (op2 gLt (Zl ZJ (Zd (op2 Zbb (op2 Zbb (Zb 1) (op2 Zdl (op2 Zdl (eC (.int 31)) (Zb 0)) (Zb 0))) (op2 Zdl (eC (.int 7)) (Zb 0))) (Zd (eC (.int 9973)) (Zd (eC (.int 5)) Zn)))) (eC (.int 2)))) (Zb 0)))
  (Zr (sIf (tV (op2 gLt (ZaJ (Zo 3)) (Zb 2))) (ZT 3 (Zew (Zd (Zl ZJ (Zd (Zb 0) (Zd (eC (.int 9967)) (Zd (Zb 1) Zn)))) Zn))) Zae)
  (ZC (Zaq (Zo 3)))))
def ZbE:List D->Option D:=fnOf 3 4 ZfQ
def Zb3:SF :=
 (Zr (Z0 4 (op2 Zbb (op2 Zbb (Zb 0) (op2 Zdl (op2 Zdl (eC (.int 43)) (Zb 3)) (Zb 3))) (op2 Zdl (eC (.int 11)) (Zb 3))))
  (Zr (Z0 5 (Zl ZJ (Zd (Zb 4) (Zd (eC (.int 9949)) (Zd (eC (.int 10)) Zn)))))
  (Zr (ZT 6 (ZnW (Zl ZJ (Zd (Zb 4) (Zd (eC (.int 9941)) (Zd (Zb 1) Zn)))) (eC (.bool true))))
  (Zr (sIf (tV (op2 gLt (Zb 5) (eC (.int 3)))) (Zhd 6 (Zl ZJ (Zd (Zb 4) (Zd (eC (.int 9931)) (Zd (Zb 1) Zn)))) (eC (.bool true))) Zae)
  (Zr (Zdy 2 (Zaq (ZfL (Zo 6))))
  (sIf (tV (op2 gEq (Zb 5) (eC (.int 9)))) (Zq4 2 (eC (.int (-1))) (Zg8 Zn)) Zae))))))
def ZjU:SF :=
 (Zr (ZT 2 (Zew Zn))
  (Zr (Za2 3 (ZbW (Zb 1)) Zb3)
  (ZC (Zaq (Zo 2)))))
def ZcV:List D->Option D:=fnOf 2 7 ZjU
def Zdb:SF :=
 (Zr (Z0 5 (op2 Zwa (op2 Zfr (Zb 4) (eC (.int 1))) (eC (.int 0))))
  (Zr (Z0 6 (op2 Zwz (op2 Zbb (Zb 4) (eC (.int 1))) (op2 Zfr (Zb 1) (eC (.int 1)))))
  (Zr (Z0 7 (op2 gEq (Zl ZJ (Zd (op2 Zbb (Zb 0) (op2 Zdl (eC (.int 17)) (Zb 4))) (Zd (eC (.int 9929)) (Zd (eC (.int 6)) Zn)))) (eC (.int 1))))
  (Zr (Zdy 2 (Zaq (ZfG (ZlR (Zew (Zd (Zb 5) Zn)) (Zub (Zew (Zd (Zb 4) Zn)) (Zpb (Zb 7)))))))
  (Zdy 3 (Zg8 (Zd (Zb 6) Zn)))))))
def ZjV:SF :=
 (Zr (ZT 2 (Zew Zn))
  (Zr (ZT 3 (Zew Zn))
  (Zr (Za2 4 (ZbW (Zb 1)) Zdb)
  (ZC (Zg8 (Zd (Zaq (Zo 2)) (Zd (Zaq (Zo 3)) Zn)))))))
def ZcW:List D->Option D:=fnOf 2 8 ZjV
def ZcQ:SF :=
 (Zr (Z0 7 (op2 Zbb (Zl ZaM (Zd (Zb 0) (Zd (op2 Zbb (op2 Zbb (Zb 1) (eC (.int 4))) (Zb 5)) Zn))) (op2 Zdl (eC (.int 71)) (Zb 5))))
  (Zr (Z0 8 (op2 Zbb (eC (.int 2)) (Zl ZJ (Zd (Zb 7) (Zd (eC (.int 9883)) (Zd (eC (.int 2)) Zn))))))
  (Zdy 6 (Zaq (ZL (ZbW (Zb 3)) Zaa (Zl ZJ (Zd (op2 Zbb (Zb 8) (op2 Zdl (op2 Zdl (eC (.int 13)) (Zb 0)) (Zb 0))) (Zd (eC (.int 9871)) (Zd (Zb 9) Zn)))))))))
def ZdL:SF :=
 (Zdy 4 (Zl ZcV (Zd (op2 Zbb (Zl ZaM (Zd (Zb 0) (Zd (op2 Zbb (op2 Zbb (Zb 1) (eC (.int 1))) (Zb 5)) Zn))) (op2 Zdl (eC (.int 61)) (Zb 5))) (Zd (Zb 3) Zn))))
def Zdc:SF :=
 (Zr (Z0 2 (Zl ZaM (Zd (Zb 0) (Zd (Zb 1) Zn))))
  (Zr (Z0 3 (op2 Zbb (eC (.int 2)) (Zl ZJ (Zd (Zb 2) (Zd (eC (.int 9923)) (Zd (eC (.int 4)) Zn))))))
  (Zr (sIf (tV (op2 gGt (ZaJ (Zo 0)) (eC (.int 63)))) (Z0 3 (op2 Zbb (eC (.int 2)) (Zl ZJ (Zd (Zb 2) (Zd (eC (.int 9923)) (Zd (eC (.int 6)) Zn)))))) Zae)
  (Zr (ZT 4 (Zew Zn))
  (Zr (Za2 5 (ZbW (op2 Zbb (eC (.int 1)) (Zl ZJ (Zd (Zb 2) (Zd (eC (.int 9907)) (Zd (eC (.int 3)) Zn)))))) ZdL)
  (Zr (sIf (tV (op2 gEq (Zl ZJ (Zd (Zb 2) (Zd (eC (.int 9901)) (Zd (eC (.int 3)) Zn)))) (eC (.int 1)))) (ZT 4 (ZlR (ZhA (bOf (Zl ZcW (Zd (Zl ZaM (Zd (Zb 0) (Zd (op2 Zbb (Zb 1) (eC (.int 1))) Zn))) (Zd (Zb 3) Zn))))) (Ztu (Zo 4) none (some (eC (.int 1)))))) Zae)
  (Zr (ZT 6 (Zew Zn))
  (Zr (Za2 5 (ZbW (Zl ZJ (Zd (Zb 2) (Zd (eC (.int 9887)) (Zd (eC (.int 4)) Zn))))) ZcQ)
  (Zr (Z0 9 (Zl ZbE (Zd (Zl ZaM (Zd (Zb 0) (Zd (op2 Zbb (Zb 1) (eC (.int 7))) Zn))) (Zd (Zb 3) (Zd (eC (.int 1)) Zn)))))
  (Zr (sIf (tV (op2 gEq (Zl ZJ (Zd (Zb 2) (Zd (eC (.int 9859)) (Zd (eC (.int 3)) Zn)))) (eC (.int 1)))) (Z0 9 (ZeR (ZbW (Zb 3)))) Zae)
  (Zr (Z0 10 (Zl ZbE (Zd (Zl ZaM (Zd (Zb 0) (Zd (op2 Zbb (Zb 1) (eC (.int 8))) Zn))) (Zd (Zb 3) (Zd (eC (.int 1)) Zn)))))
  (ZC (Zg8 (Zd (Zb 3) (Zd (Zaq (Zo 4)) (Zd (Zaq (Zo 6)) (Zd (Zb 9) (Zd (Zb 10) Zn))))))))))))))))))
def ZaX:List D->Option D:=fnOf 2 11 Zdc
def ZaY:SF :=
 (Zr (sIf (tV (op2 gEq (eIx (bOf (eIx (bOf (eIx (Zo 0) (eC (.int 1)))) (Zb 2))) (Zb 4)) (Zg8 Zn))) (ZC (eC .none)) Zae)
  (ZT 3 (ZlR (Zo 3) (ZhA (bOf (eIx (bOf (eIx (bOf (eIx (Zo 0) (eC (.int 1)))) (Zb 2))) (Zb 4)))))))
def ZhE:SF :=
 (Zr (ZT 3 (Zew Zn))
  (Zr (Za2 4 (Z4 (bOf (Zb 1))) ZaY)
  (ZC (Zaq (ZfG (Zo 3))))))
def ZbU:List D->Option D:=fnOf 3 5 ZhE
def Zcb:SF :=
 (Zr (Z0 5 (Zaq (ZL (Z4 (bOf (Zb 1))) Zaa (eIx (bOf (eIx (bOf (eIx (Zo 1) (eC (.int 2)))) (Zb 0))) (Zb 5)))))
  (Zr (sIf (tV (Zk6 (Zb 5) (Zo 3))) (Zlm 3 (Zb 5)) Zae)
  (ZnU 3 (Zb 5) (Zb 4))))
def ZiA:SF :=
 (Zr (ZT 3 ZtN)
  (Zr (Za2 4 (Z4 (bOf (Zb 2))) Zcb)
  (ZC (eOf (ZL (Z4 (bOf (eOf (ZfL (Zo 3))))) Zaa (Zg8 (Zd (Zb 0) (Zd (Zaq (Zoi 4 (Zb 0))) Zn))))))))
def ZaH:List D->Option D:=fnOf 3 6 ZiA
end HG
namespace HG
open PySem HM
def Zz(ns:List Int)(k:Nat):Int:=if k<ns.length then ns.getD k 0 else 0
theorem ZeF(ns:List Int)(k:Nat):ZaM [.list (ns.map dI),.int k]=some (.int (Zz ns k)):=by
 simp[ZaM,ZjT,Zz]
 by_cases h:k<ns.length
 ·have h':(k:Int)<(ns.length:Int):=by omega
  have e:atD (ns.map dI) (k:Int)=some (.int ns[k]):=Zd1 (by simp[h]);simp[h,h',e]
 ·have h':¬(k:Int)<(ns.length:Int):=by omega
  simp[h,h']
def ZX(c p m:Int):Int:=c*48271 % p % m
theorem ZcC(c p m:Int)(hp:0<p)(hm:0<m):ZJ [.int c,.int p,.int m]=some (.int (ZX c p m)):=by simp[ZJ,ZkB,hp,hm,ZX]
theorem ZaO(c p m:Int)(hm:0<m):0<=ZX c p m/\ZX c p m<m:=⟨Int.emod_nonneg _ (by omega),Int.emod_lt_of_pos _ hm⟩
def crP(c:Int)(k:Nat):Bool:=decide (ZX (c+31*(k:Int)*(k:Int)+7*(k:Int)) 9973 5<2)
def crF(c:Int)(n:Nat):List Int:=((ZyF n).filter (crP c)).map λ(k:Nat)=>(k:Int)
def crV(c:Int)(n:Nat):List Int:=if(crF c n).length<1 then[ZX c 9967 n]else crF c n
theorem Zh5(n:Nat)(p:Nat->Bool):Cr n (((ZyF n).filter p).map λ(k:Nat)=>(k:Int)):=by
 refine⟨?_,λx hx=>?_⟩
 ·rw[ZCI]
  refine List.Pairwise.imp (λ{a b} h=>?_) (List.Pairwise.filter p ZDf);omega
 ·obtain⟨k,hk,rfl⟩:=ZyN.mp hx
  have:=ZyZ.mp (Zza.mp hk).1;omega
theorem Zsd(c:Int)(n:Nat)(hn:0<n):Cr n (crV c n)/\crV c n≠[]:=by
 unfold crV;split
 ·refine⟨⟨by simp,λx hx=>?_⟩,by simp⟩
  have e:x=ZX c 9967 n:=by simpa using hx
  rw[e];have:=ZaO c 9967 n (by omega);omega
 ·rename_i h
  exact⟨Zh5 n _,λe=>h (by rw[e]; simp)⟩
theorem Zn6(c:Int)(n:Nat)(hn:0<n)(hb:n<1000):ZbE [.int c,.int n,.int 1]=some (tupI (crV c n)):=by
 have hn':(0:Int)<(n:Int):=by omega
 have key:Zax (tV (op2 gLt (Zl ZJ (Zd (op2 Zbb (op2 Zbb (Zb 1) (op2 Zdl (op2 Zdl (eC (.int 31)) (Zb 0)) (Zb 0))) (op2 Zdl (eC (.int 7)) (Zb 0))) (Zd (eC (.int 9973)) (Zd (eC (.int 5)) Zn)))) (eC (.int 2)))) (Zb 0)
   [some (.pl (.int c)),some (.pl (.int n)),some (.pl (.int 1)),none] (ZbK 0 n)=some ((crF c n).map dI):=by
  rw[ZZ];rw[ZbO dN (crP c) dN]
  ·unfold crF
   rw[ZyV];rfl
  ·intro k hk
   have hk':=ZyZ.mp hk;have s2:ZY (31*(k:Int))=true:=Zjk (by omega) (by omega);simp[ZcC,crP,s2]
  ·intro k hk _
   simp
 have h1:okR (n:Int)=true:=ZcI (by omega);have h2:(ZbK 0 n).length<1000000:=by rw[ZZ]; simp; omega
 by_cases hl:(crF c n).length<1
 ·have hl':((crF c n).length:Int)<1:=by omega
  have hm:=ZcC c 9967 n (by decide) hn';simp[ZbE,ZfQ,h1,h2,key];simp[hl',crV,hl,hm]
 ·have hl':¬((crF c n).length:Int)<1:=by omega
  simp[ZbE,ZfQ,h1,h2,key];simp[hl',crV,hl]
def ZtM(c:Int)(n k:Nat):List Int :=
 let s:=c+43*(k:Int)*(k:Int)+11*(k:Int)
 if ZX s 9949 10<3/\ZX s 9941 n≠ZX s 9931 n then[ZX s 9941 n,ZX s 9931 n]else[ZX s 9941 n]
def Zfl(c:Int)(n k:Nat):List Int:=if ZX (c+43*(k:Int)*(k:Int)+11*(k:Int)) 9949 10=9 then[]else sortI (ZtM c n k)
theorem ZuK(c:Int)(n k:Nat)(hn:0<n):Cr n (Zfl c n k):=by
 unfold Zfl;split
 ·exact⟨.nil,λx hx=>by simp at hx⟩
 ·unfold ZtM
  dsimp only;have b1:=ZaO (c+43*(k:Int)*(k:Int)+11*(k:Int)) 9941 n (by omega);have b2:=ZaO (c+43*(k:Int)*(k:Int)+11*(k:Int)) 9931 n (by omega);split
  ·rename_i h
   refine Zh1 (by simp[h.2]) λx hx=>?_;simp at hx;rcases hx with e | e<;>(subst e; assumption)
  ·refine Zh1 (by simp) λx hx=>?_
   simp at hx;subst hx; assumption
theorem ZtI(n:Nat):ixN (n+1) (-1)=some n:=by unfold ixN;rw[if_neg (by decide),if_pos (by omega)];congr 1;omega
theorem ZsV(c:Int)(n k:Nat)(rows:List D)(o4 o5 o6:Option B)(hn:0<n)(hk:k<1000)(hl:rows.length<1000) :
  ∃r5 r6 r7,Zb3 [some (.pl (.int c)),some (.pl (.int n)),some (.ol rows),some (.pl (dN k)),o4,o5,o6]=some (.nx [some (.pl (.int c)),some (.pl (.int n)),some (.ol (rows++[tupI (Zfl c n k)])),some (.pl (dN k)),r5,r6,r7]):=by
 have hn':(0:Int)<(n:Int):=by omega
 have s2:ZY (43*(k:Int))=true:=Zjk (by omega) (by omega);have hl':rows.length<1000000:=by omega
 have m1:=ZcC (c+43*(k:Int)*(k:Int)+11*(k:Int)) 9949 10 (by decide) (by decide);have m2:=ZcC (c+43*(k:Int)*(k:Int)+11*(k:Int)) 9941 n (by decide) hn';have m3:=ZcC (c+43*(k:Int)*(k:Int)+11*(k:Int)) 9931 n (by decide) hn';unfold Zfl ZtM;dsimp only;generalize ZX (c+43*(k:Int)*(k:Int)+11*(k:Int)) 9949 10=wy at *;generalize ZX (c+43*(k:Int)*(k:Int)+11*(k:Int)) 9941 n=a at *;generalize ZX (c+43*(k:Int)*(k:Int)+11*(k:Int)) 9931 n=b at *;have t1:Ze1 [Zze a]=some ((sortI [a]).map dI):=Zh7 [a] (by simp);have t2:Ze1 [Zze a,Zze b]=some ((sortI [a,b]).map dI):=Zh7 [a,b] (by simp)
 by_cases w3:wy<3
 ·have w9:(wy==9)=false:=by simp; omega
  have w9':¬wy=9:=by omega
  by_cases ab:a=b
  ·subst ab
   simp[Zb3,s2,m1,m2,m3,w3,w9,w9',putD,ZaE,hl',t1]
  ·simp[Zb3,s2,m1,m2,m3,w3,w9,w9',putD,ab,ZaE,hl',t2]
 ·by_cases w9:wy=9
  ·subst w9
   simp[Zb3,s2,m1,m2,putD,ZaE,hl',t1,ZtI]
  ·have w9':(wy==9)=false:=by simp[w9]
   simp[Zb3,s2,m1,m2,w3,w9',w9,putD,ZaE,hl',t1]
theorem ZuE(c:Int)(n:Nat)(hn:0<n)(hb:n<1000):ZcV [.int c,.int n]=some (ZN ((ZyF n).map λk=>Zfl c n k)):=by
 have h1:okR (n:Int)=true:=ZcI (by omega);have h2:(ZbK 0 n).length<1000000:=by rw[ZZ]; simp; omega
 obtain⟨r',e1,o3,o4,o5,o6,p1⟩:=ZjC (i:=3) (body:=Zb3) dN (λ(s:List Nat) r=>∃o3 o4 o5 o6,r=[some (.pl (.int c)),some (.pl (.int n)),some (.ol (s.map λk=>tupI (Zfl c n k))),o3,o4,o5,o6]) (ZyF n)
  [some (.pl (.int c)),some (.pl (.int n)),some (.ol []),none,none,none,none] ⟨none,none,none,none,rfl⟩ (by
   rintro s k post r hxs ⟨o3,o4,o5,o6,rfl⟩
   have hk':k<n:=ZyZ.mp (by rw[hxs]; simp);have hs:s.length<n:=by have:=congrArg Zzo hxs; simp at this; omega
   obtain⟨r5,r6,r7,e⟩:=ZsV c n k (s.map λk=>tupI (Zfl c n k)) o4 o5 o6 hn (by omega) (by simp; omega);exact⟨_,e,some (.pl (dN k)),r5,r6,r7,by simp⟩)
 subst p1;have hl:n<1000000:=by omega
 simp[ZcV,ZjU,h1,ZZ,hl,e1,ZN]
end HG
namespace HG
open PySem HM
def ahV(k:Nat):Int:=if(0:Int) > (k:Int)-1 then 0 else(k:Int)-1
def beV(n k:Nat):Int:=if(n:Int)-1<(k:Int)+1 then(n:Int)-1 else(k:Int)+1
def wlV(c:Int)(k:Nat):List Int:=sortI (dedup [] (ahV k::(if ZX (c+17*(k:Int)) 9929 6=1 then[(k:Int)]else[])))
theorem ZvV(c:Int)(n k:Nat)(hk:k<n):Cr n (wlV c k):=by
 unfold wlV;have ha:0<=ahV k/\ahV k<n:=by unfold ahV; split<;>omega
 refine Zh1 (Ze0 _ _ (by simp)) λx hx=>?_;rw[Zfc]at hx;rcases hx with h | h
 ·simp at h
 ·rcases ZyY.mp h with e | e
  ·subst e; exact ha
  ·split at e
   ·simp at e; subst e; omega
   ·simp at e
theorem Zwo(n k:Nat)(hk:k<n):Cr n [beV n k]:=by
 have ha:0<=beV n k/\beV n k<n:=by unfold beV; split<;>omega
 exact⟨by simp,λx hx=>by simp at hx; subst hx; exact ha⟩
theorem Zsp(c:Int)(n k:Nat)(ls rs:List D)(o4 o5 o6 o7:Option B)(hk:k<8)(h1:ls.length<1000)(h2:rs.length<1000) :
  ∃r4 r5 r6,Zdb [some (.pl (.int c)),some (.pl (.int n)),some (.ol ls),some (.ol rs),some (.pl (dN k)),o5,o6,o7]=some (.nx [some (.pl (.int c)),some (.pl (.int n)),some (.ol (ls++[tupI (wlV c k)])),some (.ol (rs++[tupI [beV n k]])),some (.pl (dN k)),r4,r5,r6]):=by
 have h1':ls.length<1000000:=by omega
 have h2':rs.length<1000000:=by omega
 have m1:=ZcC (c+17*(k:Int)) 9929 6 (by decide) (by decide);have hk8:k=0\/k=1\/k=2\/k=3\/k=4\/k=5\/k=6\/k=7:=by omega
 have l1:ZqR [if(k:Int)-1<0 then 0 else(k:Int)-1,(k:Int)]=true:=by rcases hk8 with rfl | rfl | rfl | rfl | rfl | rfl | rfl | rfl<;>rfl
 have l2:ZqR [if(k:Int)-1<0 then 0 else(k:Int)-1]=true:=by rcases hk8 with rfl | rfl | rfl | rfl | rfl | rfl | rfl | rfl<;>rfl
 unfold wlV;generalize ZX (c+17*(k:Int)) 9929 6=a at *
 by_cases e:a=1
 ·subst e
  simp[Zdb,m1,h1',h2',ahV,beV,ZaG,ZfA,l1]
 ·have e':(a==1)=false:=by simp[e]
  simp[Zdb,m1,h1',h2',ahV,beV,e,e',ZaG,ZfA,l2]
theorem Zvc(c:Int)(n:Nat)(hb:n<=8):ZcW [.int c,.int n]=some (.tuple [ZN ((ZyF n).map λk=>wlV c k),ZN ((ZyF n).map λk=>[beV n k])]):=by
 have h1:okR (n:Int)=true:=ZcI (by omega);obtain⟨r',e1,o4,o5,o6,o7,p1⟩:=ZjC (i:=4) (body:=Zdb) dN (λ(s:List Nat) r=>∃o4 o5 o6 o7,r=[some (.pl (.int c)),some (.pl (.int n)),some (.ol (s.map λk=>tupI (wlV c k))),some (.ol (s.map λk=>tupI [beV n k])),o4,o5,o6,o7]) (ZyF n)
  [some (.pl (.int c)),some (.pl (.int n)),some (.ol []),some (.ol []),none,none,none,none] ⟨none,none,none,none,rfl⟩ (by
   rintro s k post r hxs ⟨o4,o5,o6,o7,rfl⟩
   have hk':k<n:=ZyZ.mp (by rw[hxs]; simp);have hs:s.length<n:=by have:=congrArg Zzo hxs; simp at this; omega
   obtain⟨r5,r6,r7,e⟩:=Zsp c n k (s.map λk=>tupI (wlV c k)) (s.map λk=>tupI [beV n k]) o4 o5 o6 o7 (by omega) (by simp; omega) (by simp; omega);exact⟨_,e,some (.pl (dN k)),r5,r6,r7,by simp⟩)
 subst p1;have hl:n<1000000:=by omega
 simp[ZcW,ZjV,h1,ZZ,hl,e1,ZN]
section
variable(ns:List Int)(at_:Nat)
def ZM:Nat:=(2+ZX (Zz ns at_) 9923 4).toNat
def ZbT:List (List (List Int)):=(ZyF (1+ZX (Zz ns at_) 9907 3).toNat).map λk=>(ZyF (ZM ns at_)).map λs=>Zfl (Zz ns (at_+1+k)+61*(k:Int)) (ZM ns at_) s
def Zgt:List (List (List Int)) :=
 if ZX (Zz ns at_) 9901 3=1 then[(ZyF (ZM ns at_)).map λk=>wlV (Zz ns (at_+1)) k,(ZyF (ZM ns at_)).map λk=>[beV (ZM ns at_) k]]++(ZbT ns at_).take 1 else ZbT ns at_
def ZgI(k:Nat):List Int:=(ZyF (ZM ns at_)).map λ(s:Nat)=>ZX (Zz ns (at_+4+k)+71*(k:Int)+13*(s:Int)*(s:Int)) 9871 (2+ZX (Zz ns (at_+4+k)+71*(k:Int)) 9883 2)
def Zgi:List (List Int):=(ZyF (ZX (Zz ns at_) 9887 4).toNat).map (ZgI ns at_)
def ZoI:List Int:=if ZX (Zz ns at_) 9859 3=1 then(ZyF (ZM ns at_)).map λ(k:Nat)=>(k:Int)else crV (Zz ns (at_+7)) (ZM ns at_)
def Zux:List Int:=crV (Zz ns (at_+8)) (ZM ns at_)
def wkV:Wk:=⟨ZM ns at_,Zgt ns at_,Zgi ns at_,ZoI ns at_,Zux ns at_⟩
theorem ZjD:2<=ZM ns at_/\ZM ns at_<=5:=by have:=ZaO (Zz ns at_) 9923 4 (by decide);unfold ZM; omega
theorem Zvr:((ZM ns at_:Nat):Int)=2+ZX (Zz ns at_) 9923 4:=by have:=ZaO (Zz ns at_) 9923 4 (by decide);unfold ZM; omega
theorem Zv8:(wkV ns at_).Ok:=by
 have hm:=ZjD ns at_;have hd3:=ZaO (Zz ns at_) 9907 3 (by decide);have dk:∀dd∈ZbT ns at_,dd.length=ZM ns at_/\∀c∈dd,Cr (ZM ns at_) c:=by intro dd h;unfold ZbT at h;obtain⟨k,_,rfl⟩:=ZyN.mp h;refine⟨by simp,λc hc=>?_⟩;obtain⟨s,_,rfl⟩:=ZyN.mp hc;exact ZuK _ _ _ (by omega)
 have dv:∀dd∈Zgt ns at_,dd.length=ZM ns at_/\∀c∈dd,Cr (ZM ns at_) c:=by
  intro dd h;unfold Zgt at h;split at h
  ·rcases Zy6.mp h with h | h
   ·simp at h
    rcases h with rfl | rfl
    ·refine⟨by simp,λc hc=>?_⟩
     obtain⟨s,hs,rfl⟩:=ZyN.mp hc;exact ZvV _ _ _ (ZyZ.mp hs)
    ·refine⟨by simp,λc hc=>?_⟩
     obtain⟨s,hs,rfl⟩:=ZyN.mp hc;exact Zwo _ _ (ZyZ.mp hs)
   ·exact dk dd (List.mem_of_mem_take h)
  ·exact dk dd h
 have lk:(ZbT ns at_).length=(1+ZX (Zz ns at_) 9907 3).toNat:=by unfold ZbT; simp
 have lv:1<=(Zgt ns at_).length/\(Zgt ns at_).length<=3:=by
  unfold Zgt;split
  ·simp; omega
  ·omega
 have hl4:=ZaO (Zz ns at_) 9887 4 (by decide);have lo:∀l∈Zgi ns at_,l.length=ZM ns at_/\∀x∈l,0<=x/\x<=9:=by intro l h;unfold Zgi at h;obtain⟨k,_,rfl⟩:=ZyN.mp h;unfold ZgI;refine⟨by simp,λx hx=>?_⟩;obtain⟨s,_,rfl⟩:=ZyN.mp hx;have h2:=ZaO (Zz ns (at_+4+k)+71*(k:Int)) 9883 2 (by decide);have h3:=ZaO (Zz ns (at_+4+k)+71*(k:Int)+13*(s:Int)*(s:Int)) 9871 (2+ZX (Zz ns (at_+4+k)+71*(k:Int)) 9883 2) (by omega);omega
 have ll:(Zgi ns at_).length<=3:=by unfold Zgi; simp; omega
 have cb:=Zsd (Zz ns (at_+7)) (ZM ns at_) (by omega);have cg:=Zsd (Zz ns (at_+8)) (ZM ns at_) (by omega);have hb:ZoI ns at_≠[]/\Cr (ZM ns at_) (ZoI ns at_):=by
  unfold ZoI;split
  ·refine⟨λe=>?_,?_⟩
   ·have:=congrArg Zzo e
    simp at this;omega
   ·have:=Zh5 (ZM ns at_) λ_=>true
    rwa [ZAa.mpr λ_ _=>rfl]at this
  ·exact⟨cb.2,cb.1⟩
 exact⟨hm.1,hm.2,lv.1,lv.2,λdd h=>(dv dd h).1,λdd h=>(dv dd h).2,ll,λl h=>(lo l h).1,λl h=>(lo l h).2,hb.1,hb.2,cg.2,cg.1⟩
theorem Zx4(k:Int)(h:0<=k):ZaM [.list (ns.map dI),.int k]=some (.int (Zz ns k.toNat)):=by
 have:=ZeF ns k.toNat
 rwa [ZCg h]at this
theorem Zro(k n:Nat)(c:Option B)(ds:List D)(o6 o7 o8 o9 o10:Option B)(hk:k<1000)(h1:ds.length<1000)(hn:0<n)(hb:n<1000) :
  ZdL [some (.pl (.list (ns.map dI))),some (.pl (.int at_)),c,some (.pl (.int n)),some (.ol ds),some (.pl (dN k)),o6,o7,o8,o9,o10] =
   some (.nx [some (.pl (.list (ns.map dI))),some (.pl (.int at_)),c,some (.pl (.int n)),some (.ol (ds++[ZN ((ZyF n).map λs=>Zfl (Zz ns (at_+1+k)+61*(k:Int)) n s)])),some (.pl (dN k)),o6,o7,o8,o9,o10]):=by
 have h1':ds.length<1000000:=by omega
 have hc:=ZeF ns (at_+1+k);have e:((at_+1+k:Nat):Int)=(at_:Int)+1+(k:Int):=by omega
 rw[e]at hc;have hd:=ZuE (Zz ns (at_+1+k)+61*(k:Int)) n hn hb;simp[ZdL,hc,hd,h1']
theorem Zrb(k n:Nat)(c o4:Option B)(ls:List D)(o7 o8 o9 o10:Option B)(hk:k<1000)(h1:ls.length<1000)(hn:n=ZM ns at_) :
  ∃r7 r8,ZcQ [some (.pl (.list (ns.map dI))),some (.pl (.int at_)),c,some (.pl (.int n)),o4,some (.pl (dN k)),some (.ol ls),o7,o8,o9,o10] =
   some (.nx [some (.pl (.list (ns.map dI))),some (.pl (.int at_)),c,some (.pl (.int n)),o4,some (.pl (dN k)),some (.ol (ls++[tupI (ZgI ns at_ k)])),r7,r8,o9,o10]):=by
 have hb:=ZjD ns at_;have h1':ls.length<1000000:=by omega
 have hc:=ZeF ns (at_+4+k);have e:((at_+4+k:Nat):Int)=(at_:Int)+4+(k:Int):=by omega
 rw[e]at hc;have m1:=ZcC (Zz ns (at_+4+k)+71*(k:Int)) 9883 2 (by decide) (by decide);have b1:=ZaO (Zz ns (at_+4+k)+71*(k:Int)) 9883 2 (by decide);have hok:okR (n:Int)=true:=ZcI (by omega);have hl:n<1000000:=by omega
 unfold ZgI;rw[<-hn];generalize ZX (Zz ns (at_+4+k)+71*(k:Int)) 9883 2=mo at *;generalize Zz ns (at_+4+k)=cc at *;simp[ZcQ,hc,m1,hok,h1',ZZ,hl];rw[Zbz dN λ(s:Nat)=>dI (ZX (cc+71*(k:Int)+13*(s:Int)*(s:Int)) 9871 (2+mo))]
 ·refine⟨some (.pl (.int (cc+71*(k:Int)))),some (.pl (.int (2+mo))),?_⟩
  simp
 ·intro s hs
  have hs':=ZyZ.mp hs;have s2:ZY (13*(s:Int))=true:=Zjk (by omega) (by omega);have m2:=ZcC (cc+71*(k:Int)+13*(s:Int)*(s:Int)) 9871 (2+mo) (by decide) (by omega);simp[s2,m2]
theorem Zth(h:ns.length<=63):ZaX [.list (ns.map dI),.int at_]=some (wkV ns at_).d:=by
 have hb:=ZjD ns at_;have hmc:=Zvr ns at_;have c0:=ZeF ns at_;have c1:=ZeF ns (at_+1);have c7:=ZeF ns (at_+7);have c8:=ZeF ns (at_+8);have e1:((at_+1:Nat):Int)=(at_:Int)+1:=by omega
 have e7:((at_+7:Nat):Int)=(at_:Int)+7:=by omega
 have e8:((at_+8:Nat):Int)=(at_:Int)+8:=by omega
 rw[e1]at c1;rw[e7]at c7;rw[e8]at c8;have m4:=ZcC (Zz ns at_) 9923 4 (by decide) (by decide);have m3:=ZcC (Zz ns at_) 9907 3 (by decide) (by decide);have b3:=ZaO (Zz ns at_) 9907 3 (by decide);have mw:=ZcC (Zz ns at_) 9901 3 (by decide) (by decide);have ml:=ZcC (Zz ns at_) 9887 4 (by decide) (by decide);have bl:=ZaO (Zz ns at_) 9887 4 (by decide);have mb:=ZcC (Zz ns at_) 9859 3 (by decide) (by decide);have wk:=Zvc (Zz ns (at_+1)) (ZM ns at_) (by omega);have k7:=Zn6 (Zz ns (at_+7)) (ZM ns at_) (by omega) (by omega);have k8:=Zn6 (Zz ns (at_+8)) (ZM ns at_) (by omega) (by omega);have hlen:¬(63:Int)<(ns.length:Int):=by omega
 have ok3:okR (1+ZX (Zz ns at_) 9907 3)=true:=ZBE.mpr (by omega);have okl:okR (ZX (Zz ns at_) 9887 4)=true:=ZBE.mpr (by omega);have okm:okR ((ZM ns at_:Nat):Int)=true:=ZcI (by omega);obtain⟨r1,f1,o5,q1⟩:=ZjC (i:=5) (body:=ZdL) dN (λ(s:List Nat) r=>∃o5,r=[some (.pl (.list (ns.map dI))),some (.pl (.int at_)),some (.pl (.int (Zz ns at_))),some (.pl (.int (ZM ns at_))),
   some (.ol (s.map λk=>ZN ((ZyF (ZM ns at_)).map λs=>Zfl (Zz ns (at_+1+k)+61*(k:Int)) (ZM ns at_) s))),o5,none,none,none,none,none]) (ZyF (1+ZX (Zz ns at_) 9907 3).toNat)
  [some (.pl (.list (ns.map dI))),some (.pl (.int at_)),some (.pl (.int (Zz ns at_))),some (.pl (.int (ZM ns at_))),some (.ol []),none,none,none,none,none,none] ⟨none,rfl⟩ (by
   rintro s k post r hxs ⟨o5,rfl⟩
   have hk':=ZyZ.mp (show k∈ZyF (1+ZX (Zz ns at_) 9907 3).toNat by rw[hxs]; simp);have hs:s.length<4:=by have:=congrArg Zzo hxs; simp at this; omega
   have e:=Zro ns at_ k (ZM ns at_) (some (.pl (.int (Zz ns at_)))) (s.map λk=>ZN ((ZyF (ZM ns at_)).map λs=>Zfl (Zz ns (at_+1+k)+61*(k:Int)) (ZM ns at_) s)) none none none none none (by omega) (by simp; omega) (by omega) (by omega);exact⟨_,e,some (.pl (dN k)),by simp⟩)
 subst q1;have lks:∀(o4 o5:Option B),∃r2,Z1 5 ZcQ ((ZyF (ZX (Zz ns at_) 9887 4).toNat).map dN) [some (.pl (.list (ns.map dI))),some (.pl (.int at_)),some (.pl (.int (Zz ns at_))),some (.pl (.int (ZM ns at_))),o4,o5,some (.ol []),none,none,none,none]=some (.nx r2) /\
   ∃o5 o7 o8,r2=[some (.pl (.list (ns.map dI))),some (.pl (.int at_)),some (.pl (.int (Zz ns at_))),some (.pl (.int (ZM ns at_))),o4,o5,some (.ol ((ZyF (ZX (Zz ns at_) 9887 4).toNat).map λk=>tupI (ZgI ns at_ k))),o7,o8,none,none]:=by
  intro o4 o5;refine ZjC (i:=5) (body:=ZcQ) dN (λ(s:List Nat) r=>∃o5 o7 o8,r=[some (.pl (.list (ns.map dI))),some (.pl (.int at_)),some (.pl (.int (Zz ns at_))),some (.pl (.int (ZM ns at_))),
   o4,o5,some (.ol (s.map λk=>tupI (ZgI ns at_ k))),o7,o8,none,none]) (ZyF (ZX (Zz ns at_) 9887 4).toNat) _ ⟨o5,none,none,rfl⟩ ?_
  rintro s k post r hxs ⟨o5,o7,o8,rfl⟩
  have hk':=ZyZ.mp (show k∈ZyF (ZX (Zz ns at_) 9887 4).toNat by rw[hxs]; simp);have hs:s.length<4:=by have:=congrArg Zzo hxs; simp at this; omega
  obtain⟨r7,r8,e⟩:=Zrb ns at_ k (ZM ns at_) (some (.pl (.int (Zz ns at_)))) o4 (s.map λk=>tupI (ZgI ns at_ k)) o7 o8 none none (by omega) (by simp; omega) rfl;exact⟨_,e,some (.pl (dN k)),r7,r8,by simp⟩
 have n3:(1+ZX (Zz ns at_) 9907 3).toNat<1000000:=by omega
 have nl:(ZX (Zz ns at_) 9887 4).toNat<1000000:=by omega
 have nm:ZM ns at_<1000000:=by omega
 have hdk:((ZyF (1+ZX (Zz ns at_) 9907 3).toNat).map λk=>ZN ((ZyF (ZM ns at_)).map λs=>Zfl (Zz ns (at_+1+k)+61*(k:Int)) (ZM ns at_) s))=(ZbT ns at_).map ZN:=by unfold ZbT; simp
 have hlk:((ZyF (ZX (Zz ns at_) 9887 4).toNat).map λk=>tupI (ZgI ns at_ k))=(Zgi ns at_).map tupI:=by unfold Zgi; simp
 rw[hdk]at f1;simp only[hlk]at lks;have dkl:(ZbT ns at_).length<10:=by unfold ZbT; simp; omega
 unfold wkV Wk.d Zgt ZoI Zux;simp only
 by_cases w1:ZX (Zz ns at_) 9901 3=1
 ·have w1':(ZX (Zz ns at_) 9901 3==1)=true:=by simp[w1]
  have cut:cutD ((ZbT ns at_).map ZN) none (some 1)=((ZbT ns at_).take 1).map ZN:=by unfold cutD sIx;simp
  obtain⟨r2,f2,p5,p7,p8,q2⟩:=lks (some (.ol (ZN ((ZyF (ZM ns at_)).map λk=>wlV (Zz ns (at_+1)) k)::ZN ((ZyF (ZM ns at_)).map λk=>[beV (ZM ns at_) k])::List.take 1 ((ZbT ns at_).map ZN)))) o5;subst q2;have c2:min 1 (ZbT ns at_).length+1+1<1000000:=by omega
  have c3:(2:Nat)+min 1 (ZbT ns at_).length<1000000:=by omega
  by_cases w2:ZX (Zz ns at_) 9859 3=1
  ·have w2':(ZX (Zz ns at_) 9859 3==1)=true:=by simp[w2]
   simp[ZaX,Zdc,c0,m4,<-hmc,hlen,m3,ok3,ZZ,n3,f1,mw,w1',c1,wk,cut,w1,ml,okl,nl,f2,c7,k7,mb,w2',okm,nm,c8,k8,w2,c2,c3]
  ·have w2':(ZX (Zz ns at_) 9859 3==1)=false:=by simp[w2]
   simp[ZaX,Zdc,c0,m4,<-hmc,hlen,m3,ok3,ZZ,n3,f1,mw,w1',c1,wk,cut,w1,ml,okl,nl,f2,c7,k7,mb,w2',okm,nm,c8,k8,w2,c2,c3]
 ·have w1':(ZX (Zz ns at_) 9901 3==1)=false:=by simp[w1]
  obtain⟨r2,f2,p5,p7,p8,q2⟩:=lks (some (.ol ((ZbT ns at_).map ZN))) o5;subst q2
  by_cases w2:ZX (Zz ns at_) 9859 3=1
  ·have w2':(ZX (Zz ns at_) 9859 3==1)=true:=by simp[w2]
   simp[ZaX,Zdc,c0,m4,<-hmc,hlen,m3,ok3,ZZ,n3,f1,mw,w1',w1,ml,okl,nl,f2,c7,k7,mb,w2',okm,nm,c8,k8,w2]
  ·have w2':(ZX (Zz ns at_) 9859 3==1)=false:=by simp[w2]
   simp[ZaX,Zdc,c0,m4,<-hmc,hlen,m3,ok3,ZZ,n3,f1,mw,w1',w1,ml,okl,nl,f2,c7,k7,mb,w2',okm,nm,c8,k8,w2]
end
end HG
namespace HG
open PySem HM
theorem Zpa{e:EF}{r:HM.Env}{f:D->D}(xs:List D)(h:∀x∈xs,e (some (.pl x)::r)=some (f x)):Zax Zaa e r xs=some (xs.map f):=by
 have:=Zbz (e:=e) (r:=r) id f xs h
 rwa [List.map_id]at this
theorem ZoP(xs:List D)(p:D->Bool):Zfa (xs.map λx=>Zz4 (p x))=some (xs.map p):=by
 have:=ZfB (xs.map p)
 rwa [ZyV]at this
def Zfk(d:D)(lo hi:Int):Bool:=match d with
 | .int i=>decide (lo<=i)&&decide (i<=hi)
 | _=>false
def ndD:D->Prop
 | .dict _=>False
 | _=>True
theorem Zev(d:D)(lo hi:Int)(nd:ndD d:=by trivial):Zas [d,.int lo,.int hi]=some (.bool (Zfk d lo hi)):=by
 cases d<;>first | exact nd.elim | simp[Zas,Ziw,Zfk]
 rename_i i
 by_cases h:lo<=i<;>simp[h]
def ZdE(d:D)(lo hi:Int):Bool:=match d with
 | .tuple ds=>decide (lo<=(ds.length:Int))&&decide ((ds.length:Int)<=hi)
 | _=>false
theorem Ze4(d:D)(lo hi:Int)(nd:ndD d:=by trivial):ZaT [d,.int lo,.int hi]=some (.bool (ZdE d lo hi)):=by
 cases d<;>first | exact nd.elim | simp[ZaT,ZlW,ZdE]
 rename_i ds
 by_cases h:lo<=(ds.length:Int)<;>simp[h]
def Zcj(many:Int):Int->List D->Bool
 | _,[]=>true
 | l,.int i::r=>(decide (l<=i)&&decide (i<=many-1))&&Zcj many (i+1) r
 | _,_::_=>false
def Zjz(d:D)(many:Int):Bool:=match d with
 | .tuple ds=>Zcj many 0 ds
 | _=>false
theorem Zqk(d:D)(many:Int):∀(ds:List D) (l:Int) (o:Option B),(∀x∈ds,ndD x) ->
  (Zcj many l ds=true->∃l' o',Z1 3 Zat ds [some (.pl d),some (.pl (.int many)),some (.pl (.int l)),o]=some (.nx [some (.pl d),some (.pl (.int many)),some (.pl (.int l')),o'])) /\
  (Zcj many l ds=false->Z1 3 Zat ds [some (.pl d),some (.pl (.int many)),some (.pl (.int l)),o]=some (.rt (.bool false)))
 | [],l,o,_=>⟨λ_=>⟨l,o,rfl⟩,λh=>by simp[Zcj]at h⟩
 | x::ds,l,o,nd=>by
  have key:=Zev x l (many-1) (nd x (ZyE ..));cases hx:Zfk x l (many-1)with
  | false =>
   have e:Zat [some (.pl d),some (.pl (.int many)),some (.pl (.int l)),some (.pl x)]=some (.rt (.bool false)):=by rw[hx]at key;simp[Zat,key]
   have e2:Zcj many l (x::ds)=false:=by cases x<;>simp[Zcj];rename_i i;simp[Zfk]at hx;intro h1 h2;exact absurd (hx h1) (by omega)
   refine⟨λh=>?_,λ_=>?_⟩
   ·rw[e2]at h; cases h
   ·unfold Z1
    show(match Zat [some (.pl d),some (.pl (.int many)),some (.pl (.int l)),some (.pl x)]with | some (.nx r')=>_ | some (.ct r')=>_ | some (.bk r')=>_ | some (.rt d)=>_ | none=>_)=_;rw[e]
  | true =>
   cases x with
   | int i =>
    have e:Zat [some (.pl d),some (.pl (.int many)),some (.pl (.int l)),some (.pl (.int i))]=some (.nx [some (.pl d),some (.pl (.int many)),some (.pl (.int (i+1))),some (.pl (.int i))]):=by rw[hx]at key;simp[Zat,key]
    have e2:Zcj many l (.int i::ds)=Zcj many (i+1) ds:=by have:(decide (l<=i)&&decide (i<=many-1))=true:=hx;simp only[Zcj,this,ZDt]
    obtain⟨a1,a2⟩:=Zqk d many ds (i+1) (some (.pl (.int i))) λx hx=>nd x (ZyD _ hx);rw[e2];have e3:Z1 3 Zat (.int i::ds) [some (.pl d),some (.pl (.int many)),some (.pl (.int l)),o]=Z1 3 Zat ds [some (.pl d),some (.pl (.int many)),some (.pl (.int (i+1))),some (.pl (.int i))]:=by show(match Zat [some (.pl d),some (.pl (.int many)),some (.pl (.int l)),some (.pl (.int i))]with | some (.nx r')=>_ | some (.ct r')=>_ | some (.bk r')=>_ | some (.rt d)=>_ | none=>_)=_;rw[e]
    rw[e3];exact⟨a1,a2⟩
   | _=>simp[Zfk]at hx
theorem Zjl(d:D)(many:Int)(hl:∀ds,d=.tuple ds->ds.length<1000000/\∀x∈ds,ndD x)(nd:ndD d:=by trivial):Z7 [d,.int many]=some (.bool (Zjz d many)):=by
 cases d with
 | tuple ds =>
  obtain⟨hl,hn⟩:=hl ds rfl;obtain⟨a1,a2⟩:=Zqk (.tuple ds) many ds 0 none hn;cases h:Zcj many 0 ds with
  | true=>obtain⟨l',o',e⟩:=a1 h;simp[Z7,Zeb,Zjz,h,hl,e]
  | false=>have e:=a2 h;simp[Z7,Zeb,Zjz,h,hl,e]
 | dict _=>exact nd.elim
 | _=>simp[Z7,Zeb,Zjz]
def small:D->Prop
 | .tuple ds=>ds.length<1000000/\∀x∈ds,ndD x
 | .dict _=>False
 | _=>True
theorem ZkQ{c:List Int}(h:(c.map dI).length<1000000):small (tupI c):=⟨h,λx hx=>by obtain⟨i,_,rfl⟩:=ZyN.mp hx; trivial⟩
theorem Zpd{d:D}(h:small d):ndD d:=by cases d<;>first | exact h.elim | trivial
theorem Zsx{d:D}(h:small d):∀ds,d=.tuple ds->ds.length<1000000/\∀x∈ds,ndD x:=by rintro ds rfl; exact h
def Zi6(d:D)(many:Int):Bool:=ZdE d many many&&(match d with | .tuple ds=>ds.all λc=>Zjz c many | _=>false)
def ZkS(d:D):Prop:=match d with | .tuple ds=>ds.length<1000000/\∀x∈ds,small x | .dict _=>False | _=>True
theorem Zue{d:D}(h:ZkS d):ndD d:=by cases d<;>first | exact h.elim | trivial
theorem ZqQ(d:D)(many:Int)(hs:ZkS d):Zcg [d,.int many]=some (.bool (Zi6 d many)):=by
 have h1:=Ze4 d many many (Zue hs);cases hr:ZdE d many many with
 | false=>rw[hr]at h1; simp[Zcg,ZhC,h1,Zi6,hr]
 | true =>
  rw[hr]at h1;cases d with
  | tuple ds =>
   have hs':ds.length<1000000/\∀x∈ds,small x:=hs;simp[Zcg,ZhC,h1,Zi6,hr,hs'.1];rw[Zpa (f:=λc=>.bool (Zjz c many))]
   ·simp[ZoP]
   ·intro x hx
    simp[Zjl x many (Zsx (hs'.2 x hx)) (Zpd (hs'.2 x hx))]
  | _=>simp[ZdE]at hr
def Zi1(d:D)(many:Int):Bool:=ZdE d many many&&(match d with | .tuple ds=>ds.all λc=>Zfk c 0 9 | _=>false)
theorem ZqZ(d:D)(many:Int)(hs:small d):Zch [d,.int many]=some (.bool (Zi1 d many)):=by
 have h1:=Ze4 d many many (Zpd hs);cases hr:ZdE d many many with
 | false=>rw[hr]at h1; simp[Zch,ZhD,h1,Zi1,hr]
 | true =>
  rw[hr]at h1;cases d with
  | tuple ds =>
   have hs':ds.length<1000000:=hs.1;simp[Zch,ZhD,h1,Zi1,hr,hs'];rw[Zpa (f:=λc=>.bool (Zfk c 0 9))]
   ·simp[ZoP]
   ·intro x hx
    simp[Zev x 0 9 (hs.2 x hx)]
  | _=>simp[ZdE]at hr
structure Wk.V(w:Wk):Prop where
 m1:1<=w.many
 m2:w.many<=8
 d1:1<=w.deeds.length
 d2:w.deeds.length<=5
 dl:∀dd∈w.deeds,dd.length=w.many
 dc:∀dd∈w.deeds,∀c∈dd,Cr w.many c
 l2:w.looks.length<=4
 ll:∀l∈w.looks,l.length=w.many
 lc:∀l∈w.looks,∀x∈l,0<=x/\x<=9
 b1:w.beg≠[]
 bc:Cr w.many w.beg
 gc:Cr w.many w.goal
theorem Wk.Ok.v{w:Wk}(h:w.Ok):Wk.V w:=by obtain⟨m1,m2,d1,d2,dl,dc,l2,ll,lc,b1,bc,g1,gc⟩:=h;exact⟨by omega,by omega,d1,by omega,dl,dc,by omega,ll,lc,b1,bc,gc⟩
theorem Zlo(n:Nat):∀(c:List Int) (l:Int),c.Pairwise (· < ·)->(∀x∈c,l<=x/\x<(n:Int))->Zcj n l (c.map dI)=true
 | [],_,_,_=>rfl
 | x::c,l,hp,hb=>by have h1:=hb x (ZyE ..);have ih:=Zlo n c (x+1) (Zzq.mp hp).2 λy hy=>⟨by have:=(Zzq.mp hp).1 y hy; omega,(hb y (ZyD _ hy)).2⟩;show((decide (l<=x)&&decide (x<=(n:Int)-1))&&Zcj n (x+1) (c.map dI))=true;rw[ih,decide_eq_true h1.1,decide_eq_true (show x<=(n:Int)-1 by omega)];rfl
theorem Zjc{n:Nat}{c:List Int}(h:Cr n c)(hn:n<1000):Z7 [tupI c,.int n]=some (.bool true):=by have hl:=h.len;rw[Zjl (tupI c) n (by intro ds e; cases e; exact⟨by simp; omega,λx hx=>by obtain⟨i,_,rfl⟩:=ZyN.mp hx; trivial⟩)];show some (Zz4 (Zcj n 0 (c.map dI)))=_;rw[Zlo n c 0 h.1 h.2]
theorem ZpX{n:Nat}{c:List Int}(h:Cr n c)(h0:c≠[])(hn:n<1000):ZcU [tupI c,.int n]=some (.bool true):=by
 have h1:=Zjc h hn;have h2:(0:Int)<(c.length:Int):=by have:=ZCh.mpr h0;omega
 simp[ZcU,ZjQ,h1];exact ZCh.mpr h0
theorem Zu5{w:Wk}(h:Wk.V w){dd:List (List Int)}(hd:dd∈w.deeds):Zcg [ZN dd,.int w.many]=some (.bool true):=by
 have hl:=h.dl dd hd;have m2:=h.m2;rw[ZqQ (ZN dd) _ (show(dd.map tupI).length<1000000/\∀x∈dd.map tupI,small x by refine⟨by simp; omega,λx hx=>?_⟩;obtain⟨c,hc,rfl⟩:=ZyN.mp hx;have:=(h.dc dd hd c hc).len;refine ZkQ ?_;simp; omega)];have e:Zi6 (ZN dd) w.many=true:=by unfold Zi6 ZN ZdE;simp[hl];intro c hc;exact Zlo w.many c 0 (h.dc dd hd c hc).1 (h.dc dd hd c hc).2
 rw[e]
theorem Zva{w:Wk}(h:Wk.V w){l:List Int}(hd:l∈w.looks):Zch [tupI l,.int w.many]=some (.bool true):=by
 have hl:=h.ll l hd;have m2:=h.m2;rw[ZqZ (tupI l) _ (ZkQ (show(l.map dI).length<1000000 by simp; omega))];have e:Zi1 (tupI l) w.many=true:=by unfold Zi1 ZdE;simp[hl];intro x hx;have:=h.lc l hd x hx;simp[Zfk];omega
 rw[e]
theorem allTrue(α:Type)(xs:List α):Zfa (xs.map λ_=>Zz4 true)=some (xs.map λ_=>true):=by
 have:=ZfB (xs.map λ_=>true)
 rwa [ZyV]at this
theorem ZoG{w:Wk}(h:Wk.V w):Zct [.tuple (w.deeds.map ZN),.int w.many]=some (.bool true):=by
 have h1:=Ze4 (.tuple (w.deeds.map ZN)) 1 5;have d1:=h.d1;have d2:=h.d2;have e:ZdE (.tuple (w.deeds.map ZN)) 1 5=true:=by simp[ZdE]; omega
 rw[e]at h1;have hl:w.deeds.length<1000000:=by omega
 simp[Zct,Zix,h1,hl];rw[Zbz ZN (λ_=>.bool true)]
 ·simp[allTrue]
 ·intro x hx
  simp[Zu5 h hx]
theorem ZoR{w:Wk}(h:Wk.V w):Zcu [.tuple (w.looks.map tupI),.int w.many]=some (.bool true):=by
 have h1:=Ze4 (.tuple (w.looks.map tupI)) 0 4;have d2:=h.l2;have e:ZdE (.tuple (w.looks.map tupI)) 0 4=true:=by simp[ZdE]; omega
 rw[e]at h1;have hl:w.looks.length<1000000:=by omega
 simp[Zcu,Ziy,h1,hl];rw[Zbz tupI (λ_=>.bool true)]
 ·simp[allTrue]
 ·intro x hx
  simp[Zva h hx]
theorem Zod{w:Wk}(h:Wk.V w):Zcv [w.d]=some (.bool true):=by
 have h1:=Ze4 w.d 5 5;have e:ZdE w.d 5 5=true:=by simp[ZdE,Wk.d]
 rw[e]at h1;have h2:=Zev (.int w.many) 1 8;have m1:=h.m1;have m2:=h.m2;have e2:Zfk (.int w.many) 1 8=true:=by simp[Zfk]; omega
 rw[e2]at h2;have h3:=ZoG h;have h4:=ZoR h;have h5:=ZpX h.bc h.b1 (by omega);have h6:=Zjc h.gc (by omega);unfold Wk.d at h1 ⊢;simp[Zcv,Ziz,h1,h2,h3,h4,h5,h6]
theorem ZfF{w:Wk}(h:Wk.V w):Za4 [w.d]=some w.d:=by simp[Za4,Zkz,Zod h]
theorem Zhh(w:Wk):Zbg [w.d]=some (.tuple (w.deeds.map ZN)):=by simp[Zbg,ZjR,Wk.d]
theorem Zhf(w:Wk):ZaA [w.d]=some (.tuple (w.looks.map tupI)):=by simp[ZaA,ZjS,Wk.d]
theorem Zkq{w:Wk}(h:Wk.V w){ls:List Int}(hl:Cr w.looks.length ls):Zbv [w.d,tupI ls]=some (tupI ls):=by have l2:=h.l2;have h1:=Zjc hl (by omega);simp[Zbv,ZfP,Zhf,h1]
end HG
namespace HG
open PySem HM
def ZbJ(w:Wk)(d s:Int):List Int:=(w.deeds[d.toNat]?.getD [])[s.toNat]?.getD []
def ZkH(w:Wk)(l s:Int):Int:=(w.looks[l.toNat]?.getD [])[s.toNat]?.getD 0
def Zam(w:Wk)(c:List Int)(d:Int):Bool:=c.all λs=>decide (0<(ZbJ w d s).length)
def Za7(w:Wk)(c:List Int)(d:Int):List Int:=c.flatMap λs=>ZbJ w d s
def ZH(w:Wk)(c:List Int)(d:Int):List Int:=sortI (dedup [] (Za7 w c d))
def Zx(w:Wk)(ls:List Int)(s:Int):List Int:=ls.map λl=>ZkH w l s
theorem ZlB{w:Wk}{d:Int}(h0:0<=d)(h1:d<w.deeds.length):atD (w.deeds.map ZN) d=some (ZN (w.deeds[d.toNat]?.getD [])):=by
 refine Zjt h0 ?_;have h:d.toNat<w.deeds.length:=by omega
 simp[h,Zz7]
theorem Zoe{w:Wk}(hv:Wk.V w){d s:Int}(h0:0<=d)(h1:d<w.deeds.length)(h2:0<=s)(h3:s<w.many):atD ((w.deeds[d.toNat]?.getD []).map tupI) s=some (tupI (ZbJ w d s)):=by
 refine Zjt h2 ?_;have h:d.toNat<w.deeds.length:=by omega
 have hl:(w.deeds[d.toNat]?.getD []).length=w.many:=by
  have:w.deeds[d.toNat]?.getD []=w.deeds[d.toNat]:=by simp[h,Zz7]
  rw[this];exact hv.dl _ (ZAt h)
 have h':s.toNat<(w.deeds[d.toNat]?.getD []).length:=by omega
 unfold ZbJ;rw[Zy1,ZyO h'];simp[Zz7,h']
theorem ZoE{w:Wk}(hv:Wk.V w){d s:Int}(h0:0<=d)(h1:d<w.deeds.length)(h2:0<=s)(h3:s<w.many):Cr w.many (ZbJ w d s):=by
 have h:d.toNat<w.deeds.length:=by omega
 have e:w.deeds[d.toNat]?.getD []=w.deeds[d.toNat]:=by simp[h,Zz7]
 have hl:=hv.dl _ (ZAt h);unfold ZbJ;rw[e];have h':s.toNat<(w.deeds[d.toNat]).length:=by omega
 have e2:(w.deeds[d.toNat])[s.toNat]?.getD []=(w.deeds[d.toNat])[s.toNat]:=by simp[h',Zz7]
 rw[e2];exact hv.dc _ (ZAt h) _ (ZAt h')
theorem Zp2{w:Wk}{l:Int}(h0:0<=l)(h1:l<w.looks.length):atD (w.looks.map tupI) l=some (tupI (w.looks[l.toNat]?.getD [])):=by
 refine Zjt h0 ?_;have h:l.toNat<w.looks.length:=by omega
 simp[h,Zz7]
theorem Zp6{w:Wk}(hv:Wk.V w){l s:Int}(h0:0<=l)(h1:l<w.looks.length)(h2:0<=s)(h3:s<w.many):atD ((w.looks[l.toNat]?.getD []).map dI) s=some (.int (ZkH w l s)):=by
 refine Zjt h2 ?_;have h:l.toNat<w.looks.length:=by omega
 have hl:(w.looks[l.toNat]?.getD []).length=w.many:=by
  have:w.looks[l.toNat]?.getD []=w.looks[l.toNat]:=by simp[h,Zz7]
  rw[this];exact hv.ll _ (ZAt h)
 have h':s.toNat<(w.looks[l.toNat]?.getD []).length:=by omega
 unfold ZkH;rw[Zy1,ZyO h'];simp[Zz7,h']
theorem Zq1{w:Wk}(hv:Wk.V w){ls:List Int}(hl:Cr w.looks.length ls){s:Int}(h2:0<=s)(h3:s<w.many):Zdq [w.d,tupI ls,.int s]=some (tupI (Zx w ls s)):=by
 have l2:=hv.l2;have hlen:=hl.len;have hb:ls.length<1000000:=by omega
 simp[Zdq,ZkA,hb];rw[Zbz dI (λl=>dI (ZkH w l s))]
 ·simp[Zx]
 ·intro l hl'
  have hb:=hl.2 l hl';simp[Zhf,Zp2 hb.1 hb.2,Zp6 hv hb.1 hb.2 h2 h3]
theorem ZlV{w:Wk}(hv:Wk.V w){c:List Int}(hc:Cr w.many c){d:Int}(h0:0<=d)(h1:d<w.deeds.length):Zb1 [w.d,tupI c,.int d]=some (.bool (Zam w c d)):=by
 have m2:=hv.m2;have hlen:=hc.len;have hb:c.length<1000000:=by omega
 simp[Zb1,Zhn,Zhh,ZlB h0 h1,hb];rw[Zbz dI (λs=>.bool (decide (0<(ZbJ w d s).length)))]
 ·have e:=ZfB (c.map λs=>decide (0<(ZbJ w d s).length))
  rw[ZyV]at e;have e':((λb=>Zz4 b)∘λs=>decide (0<(ZbJ w d s).length))=λs=>Zz4 (decide (0<(ZbJ w d s).length)):=rfl;rw[e']at e;simp[e,Zam]
 ·intro s hs
  have hb:=hc.2 s hs;simp[ZN,Zoe hv h0 h1 hb.1 hb.2]
def doV(w:Wk)(c:List Int):List Int:=((ZyF w.deeds.length).filter λ(d:Nat)=>Zam w c (d:Int)).map λ(k:Nat)=>(k:Int)
theorem ZmU{w:Wk}(hv:Wk.V w){c:List Int}(hc:Cr w.many c):Zca [w.d,tupI c]=some (.list ((doV w c).map dI)):=by
 have d2:=hv.d2;have hok:okR (w.deeds.length:Int)=true:=ZcI (by omega);have hb:w.deeds.length<1000000:=by omega
 simp[Zca,Zil,Zhh,hok,ZZ,hb];rw[ZbO dN (λk:Nat=>Zam w c k) dN]
 ·simp[doV]
 ·intro k hk
  have hk':=ZyZ.mp hk;simp[ZlV hv hc (show(0:Int)<=(k:Int) by omega) (by omega)]
 ·intro k hk _
  simp
def Zco(acc:List Int)(x:Int):List Int:=if acc.contains x then acc else acc++[x]
theorem ZfJ:∀(l acc:List Int),dedup acc l=l.foldl Zco acc
 | [],acc=>rfl
 | x::l,acc=>by
  unfold dedup;rw[ZzG];unfold Zco;split
  ·rw[ZfJ l acc]; rfl
  ·rw[ZfJ l (acc++[x])]; rfl
def tru(acc:List Int):List (Ky × D):=acc.map λi=>(ZAu i,Zz4 true)
theorem Zvk(acc:List Int)(x:Int):putD (tru acc) (ZAu x) (Zz4 true)=tru (Zco acc x):=by
 unfold putD Zco tru
 by_cases h:x∈acc
 ·have e1:((acc.map λi=>((ZAu i:Ky),Zz4 true)).any λp=>decide (p.1=ZAu x))=true:=by
   simp; exact h
  have e2:acc.contains x=true:=by simpa using h
  rw[if_pos e1,if_pos e2,ZyV];refine Zz9 λi _=>?_;simp
 ·have e1:¬((acc.map λi=>((ZAu i:Ky),Zz4 true)).any λp=>decide (p.1=ZAu x))=true:=by
   simp; exact h
  have e2:¬acc.contains x=true:=by simpa using h
  rw[if_neg e1,if_neg e2];simp
theorem Zl6(acc:List Int)(x:Int):(Zco acc x).length<=acc.length+1:=by unfold Zco; split<;>simp
theorem Zow:∀(l acc:List Int),(l.foldl Zco acc).length<=acc.length+l.length
 | [],acc=>by simp
 | x::l,acc=>by rw[ZzG];have:=Zow l (Zco acc x);have:=Zl6 acc x;simp; omega
theorem ZsP(e0 e1 e2 e3 e5:Option B):∀(l acc:List Int) (o:Option B),acc.length+l.length<1000000 ->
  ∃o',Z1 6 Zec (l.map dI) [e0,e1,e2,e3,some (.ok (tru acc)),e5,o]=some (.nx [e0,e1,e2,e3,some (.ok (tru (l.foldl Zco acc))),e5,o'])
 | [],acc,o,_=>⟨o,rfl⟩
 | x::l,acc,o,h=>by
  rw[ZyP]at h;have hb:acc.length<1000000:=by omega
  have e:Zec [e0,e1,e2,e3,some (.ok (tru acc)),e5,some (.pl (dI x))]=some (.nx [e0,e1,e2,e3,some (.ok (tru (Zco acc x))),e5,some (.pl (dI x))]):=by
   have hl:(tru acc).length<1000000:=by unfold tru; simp; exact hb
   simp[Zec,hl,Zvk]
  have hd:=Zl6 acc x;obtain⟨o',e'⟩:=ZsP e0 e1 e2 e3 e5 l (Zco acc x) (some (.pl (dI x))) (by omega);refine⟨o',?_⟩;rw[ZyH,ZzG,<-e'];unfold Z1;show(match Zec [e0,e1,e2,e3,some (.ok (tru acc)),e5,some (.pl (dI x))]with | some (.nx r')=>_ | some (.ct r')=>_ | some (.bk r')=>_ | some (.rt d)=>_ | none=>_)=_;rw[e];cases l<;>rfl
theorem ZsT{w:Wk}(hv:Wk.V w){d:Int}(h0:0<=d)(h1:d<w.deeds.length)(e1 e2:Option B):∀(c acc:List Int) (o5 o6:Option B),(∀s∈c,0<=s/\s<(w.many:Int))->acc.length+c.length*10<100000 ->
  ∃o5' o6',Z1 5 Zed (c.map dI) [some (.pl w.d),e1,e2,some (.pl (ZN (w.deeds[d.toNat]?.getD []))),some (.ok (tru acc)),o5,o6]=some (.nx [some (.pl w.d),e1,e2,some (.pl (ZN (w.deeds[d.toNat]?.getD []))),some (.ok (tru ((Za7 w c d).foldl Zco acc))),o5',o6'])
 | [],acc,o5,o6,_,_=>⟨o5,o6,rfl⟩
 | s::c,acc,o5,o6,hs,hl=>by
  rw[ZyP]at hl;have hb:=hs s (ZyE ..);have hr:=(ZoE hv h0 h1 hb.1 hb.2).len;have m2:=hv.m2;have hrl:(ZbJ w d s).length<1000000:=by omega
  obtain⟨o',e⟩:=ZsP (some (.pl w.d)) e1 e2 (some (.pl (ZN (w.deeds[d.toNat]?.getD [])))) (some (.pl (dI s))) (ZbJ w d s) acc o6 (by omega);have e':Zed [some (.pl w.d),e1,e2,some (.pl (ZN (w.deeds[d.toNat]?.getD []))),some (.ok (tru acc)),some (.pl (dI s)),o6]=some (.nx [some (.pl w.d),e1,e2,some (.pl (ZN (w.deeds[d.toNat]?.getD []))),some (.ok (tru ((ZbJ w d s).foldl Zco acc))),some (.pl (dI s)),o']):=by unfold ZN at e ⊢;simp[Zed,Zoe hv h0 h1 hb.1 hb.2,hrl,e]
  have hf:=Zow (ZbJ w d s) acc;obtain⟨p5,p6,ih⟩:=ZsT hv h0 h1 e1 e2 c ((ZbJ w d s).foldl Zco acc) (some (.pl (dI s))) o' (λx hx=>hs x (ZyD _ hx)) (by omega);refine⟨p5,p6,?_⟩;have ef:Za7 w (s::c) d=ZbJ w d s++Za7 w c d:=rfl;rw[ef,List.foldl_append,<-ih,ZyH];show(match Zed [some (.pl w.d),e1,e2,some (.pl (ZN (w.deeds[d.toNat]?.getD []))),some (.ok (tru acc)),some (.pl (dI s)),o6]with | some (.nx r')=>_ | some (.ct r')=>_ | some (.bk r')=>_ | some (.rt d)=>_ | none=>_)=_;rw[e']
theorem ZrR{w:Wk}(hv:Wk.V w){c:List Int}(hc:Cr w.many c){d:Int}(h0:0<=d)(h1:d<w.deeds.length):∀x∈Za7 w c d,0<=x/\x<(w.many:Int):=by intro x hx;obtain⟨s,hs,h⟩:=ZA0.mp hx;exact(ZoE hv h0 h1 (hc.2 s hs).1 (hc.2 s hs).2).2 x h
theorem Zd7{w:Wk}(hv:Wk.V w){c:List Int}(hc:Cr w.many c){d:Int}(h0:0<=d)(h1:d<w.deeds.length):Cr w.many (ZH w c d):=by refine Zh1 (Ze0 _ _ (by simp)) λx hx=>ZrR hv hc h0 h1 x ?_;rw[Zfc]at hx;simpa using hx
theorem ZsR{w:Wk}(hv:Wk.V w){c:List Int}(hc:Cr w.many c){d:Int}(h0:0<=d)(h1:d<w.deeds.length):Zda [w.d,tupI c,.int d]=some (tupI (ZH w c d)):=by
 have m2:=hv.m2;have hlen:=hc.len;have hb:c.length<1000000:=by omega
 obtain⟨o5,o6,e⟩:=ZsT hv h0 h1 (some (.pl (tupI c))) (some (.pl (.int d))) c [] none none hc.2 (by simp; omega);have hl:(dedup [] (Za7 w c d)).length<64:=by have h:=(Zd7 hv hc h0 h1).len;have:=(sortI_perm (dedup [] (Za7 w c d))).length_eq;unfold ZH at h;omega
 have hs:=Zh7 _ hl;rw[ZfJ]at hs;have ek:(tru ((Za7 w c d).foldl Zco [])).map (λp=>ZaE p.1)=((Za7 w c d).foldl Zco []).map dI:=by unfold tru;rw[ZyV];rfl
 simp[Zda,ZlX,Zhh,ZlB h0 h1,hb];rw[show some (B.ok [])=some (B.ok (tru [])) from rfl,e];simp[ek,hs,ZH,ZfJ]
end HG
namespace HG
open PySem HM
abbrev Gs:=List (List Int × List Int)
abbrev Zad(k:List Int):List Ky:=k.map ZAu
def ZaD(g:Gs):List (List Ky × List D):=g.map λp=>(Zad p.1,p.2.map dI)
theorem Zgs{a b:List Int}(h:Zad a=Zad b):a=b:=by
 induction a generalizing b with
 | nil=>cases b with
  | nil=>rfl
  | cons _ _=>simp at h
 | cons x a ih=>cases b with
  | nil=>simp at h
  | cons y b=>simp at h;rw[h.1,ih (by simpa using h.2)]
theorem ZlJ(a b:List Int):(Zad a=Zad b)↔a=b:=⟨Zgs,λh=>by rw[h]⟩
theorem Zrh(k:List Int):Zlv (k.map dI)=some (Zad k):=by
 induction k with
 | nil=>rfl
 | cons x k ih=>show(Zlv (k.map dI)).map (ZAu x::·)=_;rw[ih];rfl
theorem ZaK(k:List Int):ZaS (tupI k)=some (Zad k):=Zrh k
theorem Zgb(g:Gs)(k:List Int):Zi (ZaD g) (Zad k)=(Zi g k).map λp=>p.map dI:=by
 unfold Zi ZaD;rw[List.find?_map];have e:((λp:List Ky × List D=>decide (p.1=Zad k))∘λp:List Int × List Int=>(Zad p.1,p.2.map dI))=λp=>decide (p.1=k):=by
  funext p
  simp only[ZBW];exact decide_eq_decide.mpr (ZlJ p.1 k)
 rw[e];cases g.find? λp=>decide (p.1=k)<;>rfl
theorem Zqo(g:Gs)(k:List Int):ZbH (ZaD g) (Zad k)=ZaD (ZbH g k):=by
 unfold ZbH;rw[Zgb];cases Zi g k with
 | none=>simp[ZaD]
 | some p=>rfl
theorem Zjy(k:List Int)(s:Int):∀(g:Gs),Zdk (ZaD g) (Zad k) (dI s)=ZaD (Zdk g k s)
 | []=>rfl
 | (x,p)::g=>by
  show Zdk ((Zad x,p.map dI)::ZaD g) (Zad k) (dI s)=ZaD (Zdk ((x,p)::g) k s);unfold Zdk
  by_cases h:x=k
  ·rw[if_pos (by rw[h]),if_pos h]
   simp[ZaD]
  ·rw[if_neg (λe=>h (Zgs e)),if_neg h,Zjy k s g]
   rfl
def ZdH(g:Gs)(k:List Int)(s:Int):Gs:=Zdk (ZbH g k) k s
theorem ZeQ(k:List Int):Zi ([]:Gs) k=none:=rfl
theorem Zb0(x:List Int)(p:List Int)(g:Gs)(k:List Int):Zi ((x,p)::g) k=if x=k then some p else Zi g k:=by
 unfold Zi;rw[Zzy]
 by_cases h:x=k<;>simp[h]
theorem Zn2(k:List Int)(s:Int)(k':List Int):∀(g:Gs),Zi (Zdk g k s) k'=if k=k' then(Zi g k).map (·++[s])else Zi g k'
 | []=>by simp[Zdk,ZeQ]
 | (x,p)::g=>by
  unfold Zdk
  by_cases h:x=k
  ·subst h
   rw[if_pos rfl,Zb0,Zb0,Zb0,if_pos rfl];split<;>rfl
  ·rw[if_neg h,Zb0,Zn2 k s k' g,Zb0,Zb0,if_neg h]
   by_cases h2:x=k'
   ·subst h2
    rw[if_pos rfl,if_pos rfl,if_neg (ZzB h)]
   ·rw[if_neg h2,if_neg h2]
theorem Zlb(x:List Int)(p:List Int)(k:List Int):∀(g:Gs),Zi (g++[(x,p)]) k=match Zi g k with | some q=>some q | none=>if x=k then some p else none
 | []=>by simp[ZeQ,Zb0]
 | (y,q)::g=>by rw[ZCW,Zb0,Zb0,Zlb x p k g];split<;>rfl
theorem ZhX(g:Gs)(k k':List Int):Zi (ZbH g k) k'=if k=k' then some ((Zi g k).getD [])else Zi g k':=by
 unfold ZbH;cases h:Zi g k with
 | some p =>
  by_cases e:k=k'
  ·subst e; rw[if_pos rfl]; exact h
  ·rw[if_neg e]
 | none =>
  show Zi (g++[(k,[])]) k'=_;rw[Zlb]
  by_cases e:k=k'
  ·subst e; rw[if_pos rfl,if_pos rfl,h]; rfl
  ·rw[if_neg e,if_neg e]
   cases Zi g k'<;>rfl
theorem ZtR(g:Gs)(k k':List Int)(s:Int):Zi (ZdH g k s) k'=if k=k' then some ((Zi g k).getD []++[s])else Zi g k':=by
 unfold ZdH;rw[Zn2,ZhX,ZhX,if_pos rfl]
 by_cases e:k=k'
 ·rw[if_pos e,if_pos e]; rfl
 ·rw[if_neg e,if_neg e,if_neg e]
theorem ZnY(k:List Int)(s:Int):∀(g:Gs),(Zdk g k s).map (·.1)=g.map (·.1)
 | []=>rfl
 | (x,p)::g=>by
  unfold Zdk;split
  ·rfl
  ·rw[ZyH,ZnY k s g]; rfl
theorem Zkh(g:Gs)(k:List Int):(Zi g k).isSome=true↔k∈g.map (·.1):=by
 induction g with
 | nil=>simp[ZeQ]
 | cons p g ih =>
  obtain⟨x,q⟩:=p;rw[Zb0,ZyH,ZyY]
  by_cases h:x=k
  ·simp[h]
  ·rw[if_neg h,ih]
   constructor
   ·exact .inr
   ·rintro (e | e)
    ·exact absurd e.symm h
    ·exact e
theorem Ztn(g:Gs)(k:List Int):(ZbH g k).map (·.1)=if k∈g.map (·.1)then g.map (·.1)else g.map (·.1)++[k]:=by
 unfold ZbH;cases h:Zi g k with
 | some p=>rw[if_pos ((Zkh g k).mp (by rw[h]; rfl))]
 | none=>rw[if_neg (λm=>by have:=(Zkh g k).mpr m; rw[h]at this; cases this)];simp
theorem ZtJ(g:Gs)(k:List Int)(s:Int):(ZdH g k s).map (·.1)=if k∈g.map (·.1)then g.map (·.1)else g.map (·.1)++[k]:=by unfold ZdH;rw[ZnY,Ztn]
def Zc4(f:Int->List Int)(c:List Int):Gs:=c.foldl (λg s=>ZdH g (f s) s) []
structure Grp(f:Int->List Int)(pre:List Int)(g:Gs):Prop where
 nd:(g.map (·.1)).Nodup
 look:∀k,Zi g k=if k∈pre.map f then some (pre.filter λs=>f s==k)else none
theorem Grp.mem{f:Int->List Int}{pre:List Int}{g:Gs}(h:Grp f pre g)(k:List Int):k∈g.map (·.1)↔k∈pre.map f:=by
 rw[<-Zkh,h.look];split
 ·rename_i m; exact⟨λ_=>m,λ_=>rfl⟩
 ·rename_i m; exact⟨(λe=>by cases e),λe=>absurd e m⟩
theorem Grp.step{f:Int->List Int}{pre:List Int}{g:Gs}(h:Grp f pre g)(s:Int):Grp f (pre++[s]) (ZdH g (f s) s):=by
 refine⟨?_,λk=>?_⟩
 ·rw[ZtJ]
  split
  ·exact h.nd
  ·rename_i m
   rw[ZAU];exact⟨h.nd,by simp,λa ha b hb=>by simp at hb; subst hb; exact λe=>m (e▸ha)⟩
 ·rw[ZtR,h.look,h.look,Zzd,List.filter_append]
  by_cases e:f s=k
  ·subst e
   have e0:f s∈pre.map f++[s].map f:=by simp
   rw[if_pos rfl,if_pos e0];have e2:[s].filter (λx=>f x==f s)=[s]:=by simp
   rw[e2];split
   ·rfl
   ·rename_i m
    have:pre.filter (λx=>f x==f s)=[]:=by rw[ZDg];intro a ha q;exact m (ZyN.mpr ⟨a,ha,by simpa using q⟩)
    rw[this]; rfl
  ·have e2:[s].filter (λx=>f x==k)=[]:=by simp[e]
   rw[if_neg e,e2,Zzb];have e3:(k∈pre.map f++[s].map f)↔k∈pre.map f:=by
    rw[Zy6]
    constructor
    ·rintro (q | q)
     ·exact q
     ·simp at q; exact absurd q.symm e
    ·exact .inl
   by_cases q:k∈pre.map f
   ·rw[if_pos q,if_pos (e3.mpr q)]
   ·rw[if_neg q,if_neg (λz=>q (e3.mp z))]
theorem Zqm(f:Int->List Int):∀(c pre:List Int) (g:Gs),Grp f pre g->Grp f (pre++c) (c.foldl (λg s=>ZdH g (f s) s) g)
 | [],pre,g,h=>by rw[Zzb]; exact h
 | s::c,pre,g,h=>by have:=Zqm f c (pre++[s]) _ (h.step s);rw[ZzT]at this;exact this
theorem ZcG(f:Int->List Int)(c:List Int):Grp f c (Zc4 f c):=by
 have:=Zqm f c [] [] ⟨ZAj,λk=>by simp[ZeQ]⟩
 rwa [ZAz]at this
def ZQ(w:Wk)(ls c:List Int):Gs:=(ZdR ((Zc4 (Zx w ls) c).map (·.1))).map λk=>(k,c.filter λs=>Zx w ls s==k)
def ZaF(p:List Int × List Int):D:=.tuple [tupI p.1,tupI p.2]
theorem Zts(ks:List (List Int)):Zjs (ks.map tupI)=some ks:=by
 induction ks with
 | nil=>rfl
 | cons k ks ih=>show(match ZaG (k.map dI)with | some ns=>(Zjs (ks.map tupI)).map (ns::·) | none=>none)=_;rw[ZbR,ih];rfl
theorem ZqV(ks:List (List Int))(h:ks.length<64)(hn:ks.length<2\/∀k∈ks,k≠[]):Ze1 (ks.map tupI)=some ((ZdR ks).map tupI):=by
 unfold Ze1;rw[if_pos (by rw[ZyA]; exact h)];cases ks with
 | nil=>simp[ZaG,sortI,ZdR,ofInts]
 | cons k ks =>
  have e:ZaG (ZCj tupI (k::ks))=none:=rfl;rw[e,Zts];have e2:(decide ((ZCj tupI (k::ks)).length<2)||(k::ks).all λt=>!t.isEmpty)=true:=by
   rw[ZAn,ZyA];rcases hn with q | q
   ·exact .inl (by simpa using q)
   ·refine .inr (ZyL.mpr λt ht=>?_)
    have:=q t ht;cases t with
    | nil=>exact absurd rfl this
    | cons _ _=>rfl
  dsimp only;rw[if_pos e2];unfold Ze6;simp only[ZfA]
theorem Za8(ks:List (List Int)):(ZdR ks).Perm ks:=ZBp ks _
theorem Zqt(w:Wk)(ls c:List Int)(hc:c.length<60):Ze1 ((ZaD (Zc4 (Zx w ls) c)).map λp=>Zzf (p.1.map ZaE))=some ((ZdR ((Zc4 (Zx w ls) c).map (·.1))).map tupI):=by
 have hg:=ZcG (Zx w ls) c;have e:((ZaD (Zc4 (Zx w ls) c)).map λp=>Zzf (p.1.map ZaE))=((Zc4 (Zx w ls) c).map (·.1)).map tupI:=by unfold ZaD;rw[ZyV,ZyV];refine Zz9 λp _=>?_;simp only[ZBW];unfold Zad tupI;rw[ZyV];rfl
 rw[e];have hsub:∀k∈(Zc4 (Zx w ls) c).map (·.1),k∈c.map (Zx w ls):=λk hk=>(hg.mem k).mp hk;refine ZqV _ ?_ ?_
 ·have:(Zc4 (Zx w ls) c).map (·.1) ⊆ c.map (Zx w ls):=hsub
  have:=(ZAc hg.nd this);rw[ZyA,ZyA]at this;rw[ZyA];omega
 ·cases ls with
  | nil =>
   left
   have:(Zc4 (Zx w []) c).map (·.1) ⊆ [[]]:=λk hk=>by obtain⟨s,_,e⟩:=ZyN.mp (hsub k hk);rw[<-e];simp[Zx]
   have:=(ZAc hg.nd this);simp at this ⊢;omega
  | cons l ls =>
   right
   intro k hk e;obtain⟨s,_,e'⟩:=ZyN.mp (hsub k hk);rw[e]at e';simp[Zx]at e'
theorem Zk7(w:Wk)(ls c:List Int)(e:EF)(r:HM.Env)(h:∀k∈(Zc4 (Zx w ls) c).map (·.1),e (some (.pl (tupI k))::r)=some (.tuple [tupI k,.tuple ((c.filter λs=>Zx w ls s==k).map dI)])) :
  Zax Zaa e r ((ZdR ((Zc4 (Zx w ls) c).map (·.1))).map tupI)=some ((ZQ w ls c).map ZaF):=by
 rw[Zbz tupI (λk=>.tuple [tupI k,.tuple ((c.filter λs=>Zx w ls s==k).map dI)])]
 ·unfold ZQ
  rw[ZyV];rfl
 ·intro k hk
  exact h k ((Za8 _).mem_iff.mp hk)
theorem ZoX(w:Wk)(ls c:List Int)(k:List Int)(hk:k∈(Zc4 (Zx w ls) c).map (·.1)):Zi (ZaD (Zc4 (Zx w ls) c)) (Zad k)=some ((c.filter λs=>Zx w ls s==k).map dI):=by have hg:=ZcG (Zx w ls) c;rw[Zgb,hg.look,if_pos ((hg.mem k).mp hk)];rfl
theorem Zp5(f:Int->List Int)(pre:List Int)(g:Gs)(h:Grp f pre g)(k:List Int)(p:List Int)(e:Zi g k=some p):p.length<=pre.length:=by
 rw[h.look]at e;split at e
 ·cases e; exact Zzu _ _
 ·cases e
theorem ZfC(f:Int->List Int)(pre:List Int)(g:Gs)(h:Grp f pre g):g.length<=pre.length:=by have h2:g.map (·.1) ⊆ pre.map f:=λk hk=>(h.mem k).mp hk;have:=ZAc h.nd h2;simpa using this
theorem Zmh{w:Wk}(hv:Wk.V w){ls:List Int}(hl:Cr w.looks.length ls)(e2:Option B):∀(c pre:List Int) (g:Gs) (o:Option B),Grp (Zx w ls) pre g->(∀s∈c,0<=s/\s<(w.many:Int))->pre.length+c.length<1000 ->
  ∃o',Z1 4 Zee (c.map dI) [some (.pl w.d),some (.pl (tupI ls)),e2,some (.otl (ZaD g)),o]=some (.nx [some (.pl w.d),some (.pl (tupI ls)),e2,some (.otl (ZaD (c.foldl (λg s=>ZdH g (Zx w ls s) s) g))),o'])
 | [],pre,g,o,_,_,_=>⟨o,rfl⟩
 | s::c,pre,g,o,hg,hb,hn=>by
  rw[ZyP]at hn;have hs:=hb s (ZyE ..);have hlen:(ZaD g).length<1000000:=by have:=ZfC _ _ _ hg;unfold ZaD;rw[ZyA]; omega
  have h1:Zi (ZbH (ZaD g) (Zad (Zx w ls s))) (Zad (Zx w ls s))=some (((Zi g (Zx w ls s)).getD []).map dI):=by rw[Zqo,Zgb,ZhX,if_pos rfl]; rfl
  have h2:(((Zi g (Zx w ls s)).getD []).map dI).length<1000000:=by
   rw[ZyA];cases e:Zi g (Zx w ls s)with
   | none=>simp
   | some p=>have:=Zp5 _ _ _ hg _ _ e;simp; omega
  have h2':((Zi g (Zx w ls s)).getD []).length<1000000:=by rwa [ZyA]at h2
  have e:Zee [some (.pl w.d),some (.pl (tupI ls)),e2,some (.otl (ZaD g)),some (.pl (dI s))]=some (.nx [some (.pl w.d),some (.pl (tupI ls)),e2,some (.otl (ZaD (ZdH g (Zx w ls s) s))),some (.pl (dI s))]):=by have ek:=Zq1 hv hl hs.1 hs.2;simp[Zee,ek,ZaK,hlen,h1,h2'];rw[Zqo,Zjy];rfl
  obtain⟨o',ih⟩:=Zmh hv hl e2 c (pre++[s]) (ZdH g (Zx w ls s) s) (some (.pl (dI s))) (hg.step s) (λx hx=>hb x (ZyD _ hx)) (by simp; omega);refine⟨o',?_⟩;rw[ZyH,ZzG,<-ih];show(match Zee [some (.pl w.d),some (.pl (tupI ls)),e2,some (.otl (ZaD g)),some (.pl (dI s))]with | some (.nx r')=>_ | some (.ct r')=>_ | some (.bk r')=>_ | some (.rt d)=>_ | none=>_)=_;rw[e]
theorem Zji{w:Wk}(hv:Wk.V w){ls:List Int}(hl:Cr w.looks.length ls){c:List Int}(hc:Cr w.many c):Zbd [w.d,tupI ls,tupI c]=some (.list ((ZQ w ls c).map ZaF)):=by
 have m2:=hv.m2;have hlen:=hc.len;have hb:c.length<1000000:=by omega
 obtain⟨o',e⟩:=Zmh hv hl (some (.pl (tupI c))) c [] [] none ⟨ZAj,λk=>by simp[ZeQ]⟩ hc.2 (by simp; omega);have hk:=Zqt w ls c (by omega);have hg:c.foldl (λg s=>ZdH g (Zx w ls s) s) []=Zc4 (Zx w ls) c:=rfl;rw[hg]at e;have hn:(ZdR ((Zc4 (Zx w ls) c).map (·.1))).length<1000000:=by rw[(Za8 _).length_eq,ZyA];have:=ZfC _ _ _ (ZcG (Zx w ls) c);omega
 simp[Zbd,ZlY,hb];rw[show some (B.otl [])=some (B.otl (ZaD [])) from rfl,e];simp[hk,hn];rw[Zk7]
 ·simp
 ·intro k hk'
  simp[ZaK,ZoX w ls c k hk']
end HG
namespace HG
open PySem HM
def nbD:Nat->D->Bool
 | _,.none=>true
 | _,.int _=>true
 | _,.str x=>PyData.canLay0 (.str x)
 | 0,_=>false
 | n+1,.list ds=>ds.all (nbD n)
 | n+1,.tuple ds=>ds.all (nbD n)
 | _,_=>false
theorem ZiX{ds:List D}(h:∀d∈ds,d.canLay0=true):ZBe ds=true:=by
 induction ds with
 | nil=>rfl
 | cons d ds ih=>show(d.canLay0&&ZBe ds)=true;rw[h d (ZyE ..),ih λx hx=>h x (ZyD _ hx)];rfl
theorem Zj4{ds:List D}{n:Nat}(h:∀d∈ds,d.depth<=n):ZCe ds<=n:=by
 induction ds with
 | nil=>exact Zz2 _
 | cons d ds ih=>show max d.depth (ZCe ds)<=n;have h1:=h d (ZyE ..);have h2:=ih λx hx=>h x (ZyD _ hx);omega
theorem ZiP:∀(n:Nat) (d:D),nbD n d=true->d.canLay0=true/\d.depth<=n
 | n,.none,_=>⟨rfl,by show 0<=n; omega⟩
 | n,.int _,_=>⟨rfl,by show 0<=n; omega⟩
 | n,.str x,h=>by refine⟨?_,by show 0<=n; omega⟩;cases n<;>exact h
 | 0,.bool _,h=>by cases h
 | 0,.list _,h=>by cases h
 | 0,.tuple _,h=>by cases h
 | 0,.dict _,h=>by cases h
 | n+1,.bool _,h=>by cases h
 | n+1,.dict _,h=>by cases h
 | n+1,.list ds,h=>by have h':ds.all (nbD n)=true:=h;have hh:=ZyL.mp h';refine⟨ZiX λd hd=>(ZiP n d (hh d hd)).1,?_⟩;show ZCe ds+1<=n+1;have:=Zj4 λd hd=>(ZiP n d (hh d hd)).2;omega
 | n+1,.tuple ds,h=>by have h':ds.all (nbD n)=true:=h;have hh:=ZyL.mp h';refine⟨ZiX λd hd=>(ZiP n d (hh d hd)).1,?_⟩;show ZCe ds+1<=n+1;have:=Zj4 λd hd=>(ZiP n d (hh d hd)).2;omega
theorem ZcP{n:Nat}{d:D}(h:nbD n d=true)(hn:n<=60):Zan d=true:=by obtain⟨h1,h2⟩:=ZiP n d h;unfold Zan;rw[h1,decide_eq_true (show d.depth<=60 by omega)];rfl
theorem ZkX{ds:List D}(ih:∀d∈ds,∀e,(∃m,nbD m e=true)->(Zzv d e=true↔d=e)):∀(es:List D),(∀e∈es,∃m,nbD m e=true)->(ZCz ds es=true↔ds=es):=by
 induction ds with
 | nil =>
  intro es _;cases es with
  | nil=>exact⟨λ_=>rfl,λ_=>rfl⟩
  | cons e es=>exact⟨(λh=>by cases h),(λh=>by cases h)⟩
 | cons d ds ihl =>
  intro es he;cases es with
  | nil=>exact⟨(λh=>by cases h),(λh=>by cases h)⟩
  | cons e es=>show((Zzv d e&&ZCz ds es)=true)↔_;rw[ZyT,ih d (ZyE ..) e (he e (ZyE ..)),ihl (λx hx=>ih x (ZyD _ hx)) es (λx hx=>he x (ZyD _ hx)),List.cons.injEq]
theorem ZuU{m:Nat}{ds:List D}(h:nbD m (.list ds)=true):∀d∈ds,∃m,nbD m d=true:=by
 cases m with
 | zero=>cases h
 | succ m=>have h':ds.all (nbD m)=true:=h;exact λd hd=>⟨m,ZyL.mp h' d hd⟩
theorem Zt1{m:Nat}{ds:List D}(h:nbD m (.tuple ds)=true):∀d∈ds,∃m,nbD m d=true:=by
 cases m with
 | zero=>cases h
 | succ m=>have h':ds.all (nbD m)=true:=h;exact λd hd=>⟨m,ZyL.mp h' d hd⟩
theorem ZeK{m:Nat}{b:Bool}(h:nbD m (.bool b)=true):False:=by cases m<;>cases h
theorem ZeI{m:Nat}{b:List (D × D)}(h:nbD m (.dict b)=true):False:=by cases m<;>cases h
theorem Zhv:∀(n:Nat) (d e:D),nbD n d=true->(∃m,nbD m e=true)->(Zzv d e=true↔d=e):=by
 intro n
 induction n with
 | zero =>
  intro d e hd ⟨m,he⟩;cases d<;>first | cases hd | skip
  all_goals cases e<;>first
   | exact(ZeK he).elim
   | exact(ZeI he).elim
   | exact⟨λ_=>rfl,λ_=>rfl⟩
   | exact⟨(λh=>by cases h),(λh=>by cases h)⟩
   | (rename_i a b; show((a==b)=true)↔_; simp)
 | succ n ih =>
  intro d e hd ⟨m,he⟩;cases d with
  | bool _=>exact(ZeK hd).elim
  | dict _=>exact(ZeI hd).elim
  | list ds =>
   cases e with
   | list es=>show(ZCz ds es=true)↔_;rw[ZkX (λd h e he=>ih d e (ZyL.mp (show ds.all (nbD n)=true from hd) d h) he) es (ZuU he)];simp
   | bool _=>exact(ZeK he).elim
   | dict _=>exact(ZeI he).elim
   | _=>exact⟨(λh=>by cases h),(λh=>by cases h)⟩
  | tuple ds =>
   cases e with
   | tuple es=>show(ZCz ds es=true)↔_;rw[ZkX (λd h e he=>ih d e (ZyL.mp (show ds.all (nbD n)=true from hd) d h) he) es (Zt1 he)];simp
   | bool _=>exact(ZeK he).elim
   | dict _=>exact(ZeI he).elim
   | _=>exact⟨(λh=>by cases h),(λh=>by cases h)⟩
  | none=>cases e<;>first
   | exact(ZeK he).elim
   | exact(ZeI he).elim
   | exact⟨λ_=>rfl,λ_=>rfl⟩
   | exact⟨(λh=>by cases h),(λh=>by cases h)⟩
  | int i=>cases e<;>first
   | exact(ZeK he).elim
   | exact(ZeI he).elim
   | exact⟨(λh=>by cases h),(λh=>by cases h)⟩
   | (rename_i b; show((i==b)=true)↔_; simp)
  | str i=>cases e<;>first
   | exact(ZeK he).elim
   | exact(ZeI he).elim
   | exact⟨(λh=>by cases h),(λh=>by cases h)⟩
   | (rename_i b; show((i==b)=true)↔_; simp)
theorem ZuP{n m:Nat}{d e:D}(hd:nbD n d=true)(he:nbD m e=true)(hn:n<=60)(hm:m<=60)[Decidable (d=e)]:gEq d e=some (.bool (decide (d=e))):=by
 unfold gEq;rw[ZcP hd hn,ZcP he hm,if_pos (by rfl)];congr 2;have h:=Zhv n d e hd ⟨m,he⟩;cases q:Zzv d e with
 | true=>exact(decide_eq_true (h.mp q)).symm
 | false=>exact(decide_eq_false λz=>by rw[h.mpr z]at q; cases q).symm
theorem ZeE{n:Nat}{d:D}(hd:nbD n d=true)(hn:n<=60):gEq d d=some (.bool true):=by unfold gEq;rw[ZcP hd hn,(Zhv n d d hd ⟨n,hd⟩).mpr rfl];rfl
theorem Zht{n m:Nat}{d e:D}(hd:nbD n d=true)(he:nbD m e=true)(hn:n<=60)(hm:m<=60)(h:d≠e):gEq d e=some (.bool false):=by have:Decidable (d=e):=isFalse h;rw[ZuP hd he hn hm,decide_eq_false h]
theorem Zw2{n m:Nat}{d e:D}(hd:nbD n d=true)(he:nbD m e=true)(hn:n<=60)(hm:m<=60)(h:d≠e):gNe d e=some (.bool true):=by
 unfold gNe;have q:Zzv d e=false:=by
  cases q:Zzv d e with
  | false=>rfl
  | true=>exact absurd ((Zhv n d e hd ⟨m,he⟩).mp q) h
 rw[ZcP hd hn,ZcP he hm,q];rfl
theorem Zke{n:Nat}{d:D}(hd:nbD n d=true)(hn:n<=60):gNe d d=some (.bool false):=by unfold gNe;rw[ZcP hd hn,(Zhv n d d hd ⟨n,hd⟩).mpr rfl];rfl
theorem Zd4(n:Nat)(ns:List Int):nbD (n+1) (tupI ns)=true:=by show(ns.map dI).all (nbD n)=true;rw[ZyL];intro d hd;obtain⟨i,_,rfl⟩:=ZyN.mp hd;cases n<;>rfl
theorem ZhU(n:Nat)(ns:List Int):nbD (n+1) (.list (ns.map dI))=true:=Zd4 n ns
theorem Zyq{n:Nat}{ds:List D}(h:∀d∈ds,nbD n d=true):nbD (n+1) (.tuple ds)=true:=ZyL.mpr h
theorem ZwM{n:Nat}{ds:List D}(h:∀d∈ds,nbD n d=true):nbD (n+1) (.list ds)=true:=ZyL.mpr h
theorem ZcH(n:Nat)(i:Int):nbD n (.int i)=true:=by cases n<;>rfl
theorem Zqf(n:Nat):nbD n .none=true:=by cases n<;>rfl
end HG
namespace HG
open PySem HM
def lkV(n:Nat)(c:Int):List Int:=((ZyF n).filter λ(k:Nat)=>decide (0<ZX (c+19*(k:Int)) 9857 4)).map λ(k:Nat)=>(k:Int)
theorem Zyr(n:Nat)(c:Int):Cr n (lkV n c):=Zh5 n _
def ZqP(w:Wk)(c:List Int)(d:Int):D:=if Zam w c d then tupI (ZH w c d)else .none
theorem ZkL{w:Wk}(hv:Wk.V w){d:Int}(h0:0<=d)(h1:d<w.deeds.length)(e1:Option B):∀(c acc:List Int) (o:Option B),(∀s∈c,0<=s/\s<(w.many:Int))->acc.length+c.length*10<100000 ->
  (Zam w c d=true->∃o',Z1 4 ZaY (c.map dI) [some (.pl w.d),e1,some (.pl (.int d)),some (.ol (acc.map dI)),o]=some (.nx [some (.pl w.d),e1,some (.pl (.int d)),some (.ol ((acc++Za7 w c d).map dI)),o'])) /\
  (Zam w c d=false->Z1 4 ZaY (c.map dI) [some (.pl w.d),e1,some (.pl (.int d)),some (.ol (acc.map dI)),o]=some (.rt .none))
 | [],acc,o,_,_=>⟨λ_=>⟨o,by simp[Za7]; rfl⟩,λh=>by simp[Zam]at h⟩
 | s::c,acc,o,hs,hl=>by
  rw[ZyP]at hl;have hb:=hs s (ZyE ..);have hr:=(ZoE hv h0 h1 hb.1 hb.2).len;have m2:=hv.m2;have hd:=ZlB h0 h1 (w:=w);have hrow:=Zoe hv h0 h1 hb.1 hb.2;have g1:atD [Zze w.many,.tuple (w.deeds.map ZN),.tuple (w.looks.map tupI),tupI w.beg,tupI w.goal] 1=some (.tuple (w.deeds.map ZN)):=by simp
  have ec:Zam w (s::c) d=(decide (0<(ZbJ w d s).length)&&Zam w c d):=rfl;have ef:Za7 w (s::c) d=ZbJ w d s++Za7 w c d:=rfl;cases hz:ZbJ w d s with
  | nil =>
   have e:ZaY [some (.pl w.d),e1,some (.pl (.int d)),some (.ol (acc.map dI)),some (.pl (dI s))]=some (.rt .none):=by rw[hz]at hrow;have e3:gEq (tupI []) (.tuple [])=some (.bool true):=ZeE (Zd4 0 []) (by decide);unfold Wk.d;simp[ZaY,hd,ZN,hrow,-gEq];rw[e3]
   have ec':Zam w (s::c) d=false:=by rw[ec,hz]; rfl
   refine⟨λh=>(by rw[ec']at h; cases h),λ_=>?_⟩;rw[ZyH];show(match ZaY [some (.pl w.d),e1,some (.pl (.int d)),some (.ol (acc.map dI)),some (.pl (dI s))]with | some (.nx r')=>_ | some (.ct r')=>_ | some (.bk r')=>_ | some (.rt d)=>_ | none=>_)=_;rw[e]
  | cons x xs =>
   have hlen:acc.length+(ZbJ w d s).length<1000000:=by omega
   have e:ZaY [some (.pl w.d),e1,some (.pl (.int d)),some (.ol (acc.map dI)),some (.pl (dI s))]=some (.nx [some (.pl w.d),e1,some (.pl (.int d)),some (.ol ((acc++ZbJ w d s).map dI)),some (.pl (dI s))]):=by rw[hz]at hrow hlen;rw[ZyP]at hlen;have e3:gEq (tupI (x::xs)) (.tuple [])=some (.bool false):=Zht (Zd4 0 (x::xs)) (Zd4 0 []) (by decide) (by decide) (by simp);unfold Wk.d;simp[ZaY,hd,ZN,hrow,hz,-gEq];rw[e3];simp[hd,ZN,hrow,hlen]
   have ec':Zam w (s::c) d=Zam w c d:=by rw[ec,hz]; rfl
   obtain⟨i1,i2⟩:=ZkL hv h0 h1 e1 c (acc++ZbJ w d s) (some (.pl (dI s))) (λx hx=>hs x (ZyD _ hx)) (by rw[ZyS]; omega);have e5:Z1 4 ZaY ((s::c).map dI) [some (.pl w.d),e1,some (.pl (.int d)),some (.ol (acc.map dI)),o]=Z1 4 ZaY (c.map dI) [some (.pl w.d),e1,some (.pl (.int d)),some (.ol ((acc++ZbJ w d s).map dI)),some (.pl (dI s))]:=by rw[ZyH];show(match ZaY [some (.pl w.d),e1,some (.pl (.int d)),some (.ol (acc.map dI)),some (.pl (dI s))]with | some (.nx r')=>_ | some (.ct r')=>_ | some (.bk r')=>_ | some (.rt d)=>_ | none=>_)=_;rw[e]
   rw[e5,ec',ef,<-ZzT];exact⟨i1,i2⟩
theorem Zk3{w:Wk}(hv:Wk.V w)(h7:w.many<=7){c:List Int}(hc:Cr w.many c){d:Int}(h0:0<=d)(h1:d<w.deeds.length):ZbU [w.d,tupI c,.int d]=some (ZqP w c d):=by
 have m2:=hv.m2;have hlen:=hc.len;have hb:c.length<1000000:=by omega
 obtain⟨i1,i2⟩:=ZkL hv h0 h1 (some (.pl (tupI c))) c [] none hc.2 (by simp; omega);unfold ZqP;cases h:Zam w c d with
 | false=>have e:=i2 h;rw[ZAA]at e;simp[ZbU,ZhE,hb,e]
 | true =>
  obtain⟨o',e⟩:=i1 h;rw[ZAA,ZAz]at e;have hf:ZqR (Za7 w c d)=true:=ZyL.mpr λx hx=>by have:=ZrR hv hc h0 h1 x hx;rw[ZyT,decide_eq_true_eq,decide_eq_true_eq];omega
  simp[ZbU,ZhE,hb,e,ZbR,hf,ZH,ZfA]
theorem Zja{w:Wk}(hv:Wk.V w){ls:List Int}(hl:Cr w.looks.length ls)(e2:Option B):∀(c pre:List Int) (g:Gs) (o o':Option B),Grp (Zx w ls) pre g->(∀s∈c,0<=s/\s<(w.many:Int))->pre.length+c.length<1000 ->
  ∃p p',Z1 4 Zcb (c.map dI) [some (.pl w.d),some (.pl (tupI ls)),e2,some (.otl (ZaD g)),o,o']=some (.nx [some (.pl w.d),some (.pl (tupI ls)),e2,some (.otl (ZaD (c.foldl (λg s=>ZdH g (Zx w ls s) s) g))),p,p'])
 | [],pre,g,o,o',_,_,_=>⟨o,o',rfl⟩
 | s::c,pre,g,o,o',hg,hb,hn=>by
  rw[ZyP]at hn;have hs:=hb s (ZyE ..);have hlen:(ZaD g).length<1000000:=by have:=ZfC _ _ _ hg;unfold ZaD;rw[ZyA]; omega
  have l2:=hv.l2;have hll:=hl.len;have hlb:ls.length<1000000:=by omega
  have ec:Zax Zaa (eIx (bOf (eIx (bOf (eIx (Zo 1) (eC (.int 2)))) (Zb 0))) (Zb 5)) [some (.pl w.d),some (.pl (tupI ls)),e2,some (.otl (ZaD g)),some (.pl (dI s)),o'] (ls.map dI)=some ((Zx w ls s).map dI):=by
   rw[Zbz dI (λl=>dI (ZkH w l s))]
   ·simp[Zx]
   ·intro l hl'
    have hb:=hl.2 l hl';unfold Wk.d;simp[Zp2 hb.1 hb.2,Zp6 hv hb.1 hb.2 hs.1 hs.2]
  have e:Zcb [some (.pl w.d),some (.pl (tupI ls)),e2,some (.otl (ZaD g)),some (.pl (dI s)),o']=some (.nx [some (.pl w.d),some (.pl (tupI ls)),e2,some (.otl (ZaD (ZdH g (Zx w ls s) s))),some (.pl (dI s)),some (.pl (tupI (Zx w ls s)))]):=by
   have ek:=Zgb g (Zx w ls s);have et:=ZaK (Zx w ls s);cases h:Zi g (Zx w ls s)with
   | none =>
    rw[h]at ek;have ea:ZbH g (Zx w ls s)=g++[(Zx w ls s,[])]:=by unfold ZbH; rw[h]
    have eb:ZaD g++[(Zad (Zx w ls s),[])]=ZaD (ZbH g (Zx w ls s)):=by rw[ea]; simp[ZaD]
    have h1:Zi (ZaD (ZbH g (Zx w ls s))) (Zad (Zx w ls s))=some []:=by rw[Zgb,ZhX,if_pos rfl,h]; rfl
    simp[Zcb,hlb,ec,et,ek,hlen];rw[eb,h1];simp[Zjy];rfl
   | some p =>
    rw[h]at ek;have ea:ZbH g (Zx w ls s)=g:=by unfold ZbH; rw[h]
    have hp:p.length<1000000:=by have:=Zp5 _ _ _ hg _ _ h; omega
    simp[Zcb,hlb,ec,et,ek,hlen,hp,Zjy];unfold ZdH;rw[ea]
  obtain⟨p,p',ih⟩:=Zja hv hl e2 c (pre++[s]) (ZdH g (Zx w ls s) s) (some (.pl (dI s))) (some (.pl (tupI (Zx w ls s)))) (hg.step s) (λx hx=>hb x (ZyD _ hx)) (by simp; omega);refine⟨p,p',?_⟩;rw[ZyH,ZzG,<-ih];show(match Zcb [some (.pl w.d),some (.pl (tupI ls)),e2,some (.otl (ZaD g)),some (.pl (dI s)),o']with | some (.nx r')=>_ | some (.ct r')=>_ | some (.bk r')=>_ | some (.rt d)=>_ | none=>_)=_;rw[e]
theorem Zez{w:Wk}(hv:Wk.V w){ls:List Int}(hl:Cr w.looks.length ls){c:List Int}(hc:Cr w.many c):ZaH [w.d,tupI ls,tupI c]=some (.list ((ZQ w ls c).map ZaF)):=by
 have m2:=hv.m2;have hlen:=hc.len;have hb:c.length<1000000:=by omega
 obtain⟨p,p',e⟩:=Zja hv hl (some (.pl (tupI c))) c [] [] none none ⟨ZAj,λk=>by simp[ZeQ]⟩ hc.2 (by simp; omega);have hk:=Zqt w ls c (by omega);have hg:c.foldl (λg s=>ZdH g (Zx w ls s) s) []=Zc4 (Zx w ls) c:=rfl;rw[hg]at e;have hn:(ZdR ((Zc4 (Zx w ls) c).map (·.1))).length<1000000:=by rw[(Za8 _).length_eq,ZyA];have:=ZfC _ _ _ (ZcG (Zx w ls) c);omega
 simp[ZaH,ZiA,hb];rw[show some (B.otl [])=some (B.otl (ZaD [])) from rfl,e];simp[hk,hn];rw[Zk7]
 ·simp
 ·intro k hk'
  simp[ZaK,ZoX w ls c k hk']
theorem ZeH{w:Wk}{c:List Int}{d:Int}(h:d∈doV w c):0<=d/\d<w.deeds.length/\Zam w c d=true:=by unfold doV at h;obtain⟨k,hk,rfl⟩:=ZyN.mp h;obtain⟨h1,h2⟩:=Zza.mp hk;have:=ZyZ.mp h1;exact⟨by omega,by omega,h2⟩
end HG
namespace HG4
open PySem HM HG
def ZiB:SF :=
 (ZC (ZeR (ZbW (ZaJ (bOf (Zl ZaA (Zd (Zl Za4 (Zd (Zb 0) Zn)) Zn)))))))
def Z8:List D->Option D:=fnOf 1 1 ZiB
end HG4
namespace HM
open PySem
theorem Ze8{α:Type}{c:TF}{e:EF}{r:Env}(a b:α->D)(p:α->Bool)(f:α->D):∀(xs:List α),(∀x∈xs,c (some (.pl (a x))::some (.pl (b x))::r)=some (p x))->(∀x∈xs,p x=true->e (some (.pl (a x))::some (.pl (b x))::r)=some (f x)) ->
  ZcB c e r (xs.map λx=>.tuple [a x,b x])=some ((xs.filter p).map f)
 | [],_,_=>rfl
 | x::xs,h1,h2=>by
  have ih:=Ze8 a b p f xs (λy hy=>h1 y (ZyD _ hy)) (λy hy=>h2 y (ZyD _ hy));have hc:=h1 x (ZyE ..);rw[ZyH];unfold ZcB;rw[hc];cases hp:p x with
  | true=>have he:=h2 x (ZyE ..) hp;dsimp only;rw[he];dsimp only;rw[ih,ZC0 hp];rfl
  | false=>dsimp only;rw[ih,ZC1 (by simp[hp])]
theorem ZW{P:Option Out->Prop}{a b:SF}{r r':Env}(h:a r=some (.nx r'))(k:P (b r')):P (Zr a b r):=by show P (match a r with | some (.nx r')=>b r' | some (.rt d)=>some (.rt d) | some (.bk r')=>some (.bk r') | some (.ct r')=>some (.ct r') | none=>none);rw[h];exact k
end HM
namespace HG4
open PySem HM HG
def Zq7(w:Wk)(ls c:List Int)(s:Int):List Int:=c.filter λx=>Zx w ls x==Zx w ls s
theorem ZsY{n:Nat}{c:List Int}(p:Int->Bool)(h:Cr n c):Cr n (c.filter p):=⟨h.1.filter p,λx hx=>h.2 x (Zza.mp hx).1⟩
def alV(w:Wk):List Int:=(ZyF w.looks.length).map λ(k:Nat)=>(k:Int)
theorem Zoz(w:Wk):Cr w.looks.length (alV w):=by
 have:=Zh5 w.looks.length λ_=>true
 rwa [ZAa.mpr λ_ _=>rfl]at this
theorem Zog{w:Wk}{ls c:List Int}{s x:Int}:x∈Zq7 w ls c s↔x∈c/\Zx w ls x=Zx w ls s:=by unfold Zq7;rw[Zza,beq_iff_eq]
theorem ZuH{w:Wk}{c:List Int}{d x:Int}:x∈ZH w c d↔∃s∈c,x∈ZbJ w d s:=by
 unfold ZH;rw[(sortI_perm _).mem_iff,Zfc];unfold Za7;rw[ZA0]
 constructor
 ·rintro (h | h)
  ·cases h
  ·exact h
 ·exact .inr
theorem Zgn{w:Wk}(hv:Wk.V w):Z8 [w.d]=some (tupI (alV w)):=by
 have l2:=hv.l2;have hok:okR (w.looks.length:Int)=true:=ZcI (by omega);have hb:w.looks.length<1000000:=by omega
 simp[Z8,ZiB,ZfF hv,Zhf,hok,ZZ,hb,alV]
end HG4
namespace HM
open PySem
def Zar:Option Out->Option D
 | some (.nx _)=>some .none
 | some (.rt d)=>some d
 | _=>none
end HM
namespace HG4
open PySem HM HG
end HG4
namespace HG5
open PySem HM HG HG4
def Zq(w:Wk)(ls c:List Int):List (List Int):=(ZQ w ls c).map (·.2)
theorem Zmb{w:Wk}{ls c p:List Int}:p∈Zq w ls c↔∃s∈c,p=Zq7 w ls c s:=by
 unfold Zq ZQ;rw[ZyV,ZyN];have hg:=ZcG (Zx w ls) c
 constructor
 ·rintro ⟨k,hk,rfl⟩
  obtain⟨s,hs,e⟩:=ZyN.mp ((hg.mem k).mp ((Za8 _).mem_iff.mp hk));refine⟨s,hs,?_⟩;subst e;rfl
 ·rintro ⟨s,hs,rfl⟩
  exact⟨Zx w ls s,(Za8 _).mem_iff.mpr ((hg.mem _).mpr (ZyN.mpr ⟨s,hs,rfl⟩)),rfl⟩
theorem ZfK{w:Wk}{ls c p:List Int}(hc:Cr w.many c)(h:p∈Zq w ls c):Cr w.many p/\p≠[]/\∀x∈p,x∈c:=by obtain⟨s,hs,rfl⟩:=Zmb.mp h;exact⟨ZsY _ hc,ZCt (Zog.mpr ⟨hs,rfl⟩),λx hx=>(Zog.mp hx).1⟩
theorem Zj3(w:Wk)(ls c:List Int):(Zq w ls c).Nodup:=by unfold Zq ZQ;rw[ZyV];have hg:=ZcG (Zx w ls) c;have hn:(ZdR ((Zc4 (Zx w ls) c).map (·.1))).Nodup:=(Za8 _).nodup_iff.mpr hg.nd;rw[ZCA,ZCI];refine List.Pairwise.imp_of_mem (λ{a b} ha hb hne e=>?_) (ZCA.mp hn);obtain⟨s,hs,es⟩:=ZyN.mp ((hg.mem a).mp ((Za8 _).mem_iff.mp ha));have h1:s∈c.filter λs=>Zx w ls s==a:=Zza.mpr ⟨hs,beq_iff_eq.mpr es⟩;have e':(c.filter λs=>Zx w ls s==a)=c.filter λs=>Zx w ls s==b:=e;rw[e']at h1;have:=beq_iff_eq.mp (Zza.mp h1).2;exact hne (es.symm.trans this)
theorem Zgw{w:Wk}{ls c:List Int}(h:c≠[]):Zq w ls c≠[]:=by
 cases c with
 | nil=>exact absurd rfl h
 | cons s c=>exact ZCt (Zmb.mpr ⟨s,ZyE ..,rfl⟩)
def ZiU:Nat->List (List Int)
 | 0=>[[]]
 | n+1=>ZiU n++(ZiU n).map (·++[(n:Int)])
theorem ZnZ:∀n,(ZiU n).length=2 ^ n
 | 0=>rfl
 | n+1=>by show(ZiU n++(ZiU n).map (·++[(n:Int)])).length=_;rw[ZyS,ZyA,ZnZ n,Nat.pow_succ];omega
theorem Zkt:∀(n:Nat) (c:List Int),Cr n c->c∈ZiU n
 | 0,c,h=>by
  cases c with
  | nil=>exact ZyW.mpr rfl
  | cons x c=>have:=h.2 x (ZyE ..); omega
 | n+1,c,h=>by
  show c∈ZiU n++(ZiU n).map (·++[(n:Int)])
  by_cases hm:(n:Int)∈c
  ·-- the last is n
   have key:∀(c:List Int),c.Pairwise (· < ·)->(∀x∈c,0<=x/\x<((n+1:Nat):Int))->(n:Int)∈c->∃c',c=c'++[(n:Int)]/\c'.Pairwise (· < ·)/\∀x∈c',0<=x/\x<(n:Int):=by
    intro c
    induction c with
    | nil=>intro _ _ h; simp at h
    | cons x c ih =>
     intro hp hb hm;obtain⟨p1,p2⟩:=Zzq.mp hp
     by_cases hx:x=(n:Int)
     ·cases c with
      | nil=>exact⟨[],by rw[hx]; rfl,.nil,λy hy=>by simp at hy⟩
      | cons y c=>have h1:=p1 y (ZyE ..);have h2:=hb y (ZyD _ (ZyE ..));omega
     ·have hm':(n:Int)∈c:=by
       rcases ZyY.mp hm with e | e
       ·exact absurd e.symm hx
       ·exact e
      obtain⟨c',e,q1,q2⟩:=ih p2 (λy hy=>hb y (ZyD _ hy)) hm';refine⟨x::c',by rw[e]; rfl,Zzq.mpr ⟨λy hy=>p1 y (by rw[e]; exact Zzg _ hy),q1⟩,λy hy=>?_⟩;rcases ZyY.mp hy with e' | hy
      ·have h1:=p1 (n:Int) hm'
       have h2:=hb x (ZyE ..);rw[e'];omega
      ·exact q2 y hy
   obtain⟨c',e,q1,q2⟩:=key c h.1 h.2 hm;exact Zy5 _ (ZyN.mpr ⟨c',Zkt n c' ⟨q1,q2⟩,e.symm⟩)
  ·refine Zzg _ (Zkt n c ⟨h.1,λx hx=>?_⟩)
   have h1:=h.2 x hx;have:x≠(n:Int):=λe=>hm (e▸hx);omega
theorem ZkG{n:Nat}{L:List (List Int)}(hn:L.Nodup)(h:∀c∈L,Cr n c):L.length<=2 ^ n:=by rw[<-ZnZ n];exact ZAc hn λc hc=>Zkt n c (h c hc)
def Z2(w:Wk)(c:List Int):Bool:=c.all λs=>w.goal.contains s
def Win(w:Wk)(ls:List Int):Nat->List Int->Bool
 | 0,c=>Z2 w c
 | n+1,c=>Z2 w c||(ZyF w.deeds.length).any λd=>Zam w c d&&(Zq w ls (ZH w c d)).all λp=>Win w ls n p
theorem ZhW{w:Wk}{ls:List Int}:∀(n:Nat) (c:List Int),Win w ls n c=true->Win w ls (n+1) c=true
 | 0,c,h=>by show(Z2 w c||_)=true;rw[show Z2 w c=true from h];rfl
 | n+1,c,h=>by
  have h':(Z2 w c||(ZyF w.deeds.length).any λd=>Zam w c d&&(Zq w ls (ZH w c d)).all λp=>Win w ls n p)=true:=h;show(Z2 w c||(ZyF w.deeds.length).any λd=>Zam w c d&&(Zq w ls (ZH w c d)).all λp=>Win w ls (n+1) p)=true;rw[ZAn]at h' ⊢;rcases h' with h' | h'
  ·exact .inl h'
  ·right
   obtain⟨d,hd,hq⟩:=ZzH.mp h';rw[ZyT]at hq;refine ZzH.mpr ⟨d,hd,?_⟩;rw[ZyT];exact⟨hq.1,ZyL.mpr λp hp=>ZhW n p (ZyL.mp hq.2 p hp)⟩
theorem Zfb{w:Wk}{ls:List Int}{n m:Nat}(h:n<=m){c:List Int}(q:Win w ls n c=true):Win w ls m c=true:=by
 induction h with
 | refl=>exact q
 | step _ ih=>exact ZhW _ _ ih
def ZcT(w:Wk)(ls:List Int)(L:List (List Int)):Prop:=∀c∈L,∀d:Nat,d<w.deeds.length->Zam w c d=true->∀p∈Zq w ls (ZH w c d),p∈L
theorem Zh9{w:Wk}{ls:List Int}{L:List (List Int)}(hL:ZcT w ls L){n:Nat}(h:∀c∈L,Win w ls (n+1) c=true->Win w ls n c=true):∀(m:Nat),∀c∈L,Win w ls m c=true->Win w ls n c=true
 | 0,c,_,q=>Zfb (Zz2 n) q
 | m+1,c,hc,q=>by
  refine h c hc ?_;have q':(Z2 w c||(ZyF w.deeds.length).any λd=>Zam w c d&&(Zq w ls (ZH w c d)).all λp=>Win w ls m p)=true:=q;show(Z2 w c||(ZyF w.deeds.length).any λd=>Zam w c d&&(Zq w ls (ZH w c d)).all λp=>Win w ls n p)=true;rw[ZAn]at q' ⊢;rcases q' with q' | q'
  ·exact .inl q'
  ·right
   obtain⟨d,hd,hq⟩:=ZzH.mp q';rw[ZyT]at hq;refine ZzH.mpr ⟨d,hd,?_⟩;rw[ZyT];exact⟨hq.1,ZyL.mpr λp hp=>Zh9 hL h m p (hL c hc d (ZyZ.mp hd) hq.1 p hp) (ZyL.mp hq.2 p hp)⟩
theorem ZdS{α:Type}{p q:α->Bool}:∀{L:List α},(∀x∈L,p x=true->q x=true)->(∃x∈L,q x=true/\p x=false)->(L.filter p).length<(L.filter q).length
 | [],_,⟨x,hx,_⟩=>by simp at hx
 | y::L,h,⟨x,hx,h1,h2⟩=>by
  have le:∀{L:List α},(∀x∈L,p x=true->q x=true)->(L.filter p).length<=(L.filter q).length:=by
   intro L
   induction L with
   | nil=>intro _; exact ZyI _
   | cons z L ih =>
    intro h;have:=ih λx hx=>h x (ZyD _ hx);have hz:=h z (ZyE ..);rw[ZzQ,ZzQ];cases hp:p z with
    | true=>rw[hz hp]; simpa using this
    | false =>
     cases q z
     ·simpa using this
     ·simp; omega
  have hL:=λx hx=>h x (ZyD y hx);have hy:=h y (ZyE ..);rw[ZzQ,ZzQ];rcases ZyY.mp hx with e | hx
  ·subst e
   rw[h2,h1];have:=le hL;simp; omega
  ·have:=ZdS hL ⟨x,hx,h1,h2⟩
   cases hp:p y with
   | true=>rw[hy hp]; simpa using this
   | false =>
    cases q y
    ·simpa using this
    ·simp; omega
theorem Zvj{w:Wk}{ls:List Int}{L:List (List Int)}(hL:ZcT w ls L){m:Nat}{c:List Int}(hc:c∈L)(q:Win w ls m c=true):Win w ls L.length c=true:=by
 have key:∀t:Nat,(∃n,n<=t/\∀c∈L,Win w ls (n+1) c=true->Win w ls n c=true)\/t+1<=(L.filter λc=>Win w ls (t+1) c).length:=by
  intro t
  induction t with
  | zero =>
   by_cases h:∀c∈L,Win w ls 1 c=true->Win w ls 0 c=true
   ·exact .inl ⟨0,ZyI 0,h⟩
   ·right
    have h':∃c∈L,Win w ls 1 c=true/\Win w ls 0 c=false:=by
     apply ZCP;intro z;apply h;intro c hc h1;cases h0:Win w ls 0 c with
     | true=>rfl
     | false=>exact absurd ⟨c,hc,h1,h0⟩ z
    have:=ZdS (p:=λc=>Win w ls 0 c) (q:=λc=>Win w ls 1 c) (L:=L) (λx _ hx=>ZhW 0 x hx) h';show 1<=(L.filter λc=>Win w ls 1 c).length;omega
  | succ t ih =>
   rcases ih with⟨n,hn,hs⟩ | ih
   ·exact .inl ⟨n,by omega,hs⟩
   ·by_cases h:∀c∈L,Win w ls (t+1+1) c=true->Win w ls (t+1) c=true
    ·exact .inl ⟨t+1,ZyI _,h⟩
    ·right
     have h':∃c∈L,Win w ls (t+1+1) c=true/\Win w ls (t+1) c=false:=by
      apply ZCP;intro z;apply h;intro c hc h1;cases h0:Win w ls (t+1) c with
      | true=>rfl
      | false=>exact absurd ⟨c,hc,h1,h0⟩ z
     have:=ZdS (p:=λc=>Win w ls (t+1) c) (q:=λc=>Win w ls (t+1+1) c) (L:=L) (λx _ hx=>ZhW (t+1) x hx) h';omega
 rcases key L.length with⟨n,hn,hs⟩ | h
 ·exact Zfb hn (Zh9 hL hs m c hc q)
 ·have:=Zzu (λc=>Win w ls (L.length+1) c) L
  omega
end HG5
namespace HG5
open PySem HM HG
def Zne:SF :=
 (ZC (Zgr (ZdF (Zb 0) .int) (ZtY (ZdF (Zb 0) .bool))))
def Zcw:List D->Option D:=fnOf 1 1 Zne
def ZcX:SF :=
 (Zr (Z0 5 (Zl ZbU (Zd (Zb 0) (Zd (eIx (Zo 2) (Zb 3)) (Zd (Zb 4) Zn)))))
  (sIf (tV (op2 ZeY (Zb 5) (eC .none))) (Zr (ZT 6 (Ze3 (Z4 (bOf (Zl ZaH (Zd (Zb 0) (Zd (Zb 1) (Zd (Zb 5) Zn)))))) Zaa (Zb 1)))
  (ZeJ 6 (ZT 2 (ZlR (Zo 2) (ZL (Z4 (bOf (Zb 6))) (tV (Zhu (Zb 0) (Zo 3))) (Zb 0)))))) Zae))
def ZdI:SF :=
 (Zr (Za2 4 (ZbW (ZaJ (bOf (eIx (Zo 0) (eC (.int 1)))))) ZcX)
  (Z0 3 (op2 Zbb (Zb 3) (eC (.int 1)))))
def Zfv:SF :=
 (Zr (ZT 2 (Ze3 (Z4 (bOf (Zl ZaH (Zd (Zb 0) (Zd (Zb 1) (Zd (eIx (Zo 0) (eC (.int 3))) Zn)))))) Zaa (Zb 1)))
  (Zr (Z0 3 (eC (.int 0)))
  (Zr (Zk8 100000 (tV (op2 gLt (Zb 3) (ZaJ (Zo 2)))) ZdI)
  (ZeJ 2 (ZC (Zb 2))))))
def Zef:List D->Option D:=fnOf 2 7 Zfv
def ZiC:SF :=
 (ZC (op2 gEq (eOf (ZL (Z4 (bOf (Zb 1))) (tV (Zhr (Zb 0) (bOf (eIx (Zo 1) (eC (.int 4)))))) (Zb 0))) (eOf (Zew Zn))))
def Zcx:List D->Option D:=fnOf 2 2 ZiC
def ZP:SF :=
 (Zr (Z0 5 (Zl ZbU (Zd (Zb 0) (Zd (Zb 2) (Zd (Zb 4) Zn)))))
  (sIf (tV (op2 ZeY (Zb 5) (eC .none))) (sIf (tV (op2 gEq (eOf (Ze3 (Z4 (bOf (Zl ZaH (Zd (Zb 0) (Zd (Zb 1) (Zd (Zb 5) Zn)))))) (tV (Zce (Zb 1) (Zo 5))) (Zb 1))) (eOf (Zew Zn)))) (ZC (eC (.bool true))) Zae) Zae))
def Zbn:SF :=
 (Zr (Za2 4 (ZbW (ZaJ (bOf (eIx (Zo 0) (eC (.int 1)))))) ZP)
  (ZC (eC (.bool false))))
def ZbS:List D->Option D:=fnOf 4 6 Zbn
def ZcR:SF :=
 (Zhd 3 (Zb 4) (Zb 5))
def Za5:SF :=
 (sIf (ZnX (tV (Zce (Zb 4) (Zo 3))) (tV (Zos ZbS (Zd (Zb 0) (Zd (Zb 1) (Zd (Zb 4) (Zd (Zm3 (Zo 3)) Zn))))))) (Zdy 6 (Zb 4)) Zae)
def Zcc:SF :=
 (Zr (ZT 6 (Zew Zn))
  (Zr (Za2 4 (Z4 (bOf (Zb 2))) Za5)
  (ZeJ 6 (Za2 4 (Z4 (bOf (Zb 6))) ZcR))))
def Zbo:SF :=
 (sIf (tV (Zl Zcx (Zd (Zb 0) (Zd (Zb 4) Zn)))) (Zhd 3 (Zb 4) (eC (.int 0))) Zae)
def Zeg:SF :=
 (Zr (Z0 2 (Zl Zef (Zd (Zb 0) (Zd (Zb 1) Zn))))
  (Zr (ZT 3 fDt)
  (Zr (Za2 4 (Z4 (bOf (Zb 2))) Zbo)
  (Zr (Za2 5 (Zjx (eC (.int 1)) (op2 Zbb (ZaJ (Zo 2)) (eC (.int 1)))) Zcc)
  (ZeJ 3 (ZC (Zb 3)))))))
def Zdd:List D->Option D:=fnOf 2 7 Zeg
def Zfd:SF :=
 (Zr (Z0 2 (Zl Zdd (Zd (Zb 0) (Zd (Zb 1) Zn))))
  (Zr (ZT 3 (Ze3 (Z4 (bOf (Zl ZaH (Zd (Zb 0) (Zd (Zb 1) (Zd (eIx (Zo 0) (eC (.int 3))) Zn)))))) Zaa (ZiZ (Zo 4) (Zb 1) (eC (.int 999)))))
  (Zr (sIf (tV (op2 gEq (Zh0 (Zo 3)) (eC (.int 999)))) (ZC (eC .none)) Zae)
  (ZC (Zh0 (Zo 3))))))
def Zau:List D->Option D:=fnOf 2 4 Zfd
end HG5
namespace HG5
open PySem HM HG HG4
theorem Zt5{a b:List Int}(h:tupI a=tupI b):a=b:=by
 injection h with h
 have:=congrArg ZaG h;rw[ZbR,ZbR]at this;exact Zzw this
theorem Zl3(p:List Int):Zan (tupI p)=true:=ZcP (Zd4 0 p) (by decide)
theorem ZuQ(a b:List Int):Zzv (tupI a) (tupI b)=(a==b):=by have h:=Zhv 1 (tupI a) (tupI b) (Zd4 0 a) ⟨1,Zd4 0 b⟩;apply ZCc.mpr;rw[h,beq_iff_eq];exact⟨Zt5,λe=>by rw[e]⟩
theorem Ztv(L:List (List Int))(p:List Int):ZnM (L.map tupI) (tupI p)=some (L.contains p):=by
 unfold ZnM;have h1:(L.map tupI).all Zan=true:=ZyL.mpr λd hd=>by obtain⟨c,_,rfl⟩:=ZyN.mp hd;exact Zl3 c
 rw[Zl3,h1,if_pos (by rfl)];congr 1
 induction L with
 | nil=>rfl
 | cons c L ih=>rw[ZyH,ZAi,ZuQ,List.contains_cons,ih (by rw[ZyH,ZzU,ZyT]at h1;exact h1.2)];rw[show(c==p)=(p==c) from ZCc.mpr ⟨λh=>beq_iff_eq.mpr (beq_iff_eq.mp h).symm,λh=>beq_iff_eq.mpr (beq_iff_eq.mp h).symm⟩]
inductive Rch(w:Wk)(ls:List Int):List Int->Prop where
 | beg {p:List Int} (h:p∈Zq w ls w.beg):Rch w ls p
 | step {c p:List Int} {d:Nat} (r:Rch w ls c) (hd:d<w.deeds.length) (hc:Zam w c d=true) (h:p∈Zq w ls (ZH w c d)):Rch w ls p
structure Zeu(w:Wk)(ls:List Int)(L:List (List Int)):Prop where
 nd:L.Nodup
 cr:∀c∈L,Cr w.many c/\c≠[]
 rch:∀c∈L,Rch w ls c
theorem Zeu.len{w:Wk}{ls:List Int}{L:List (List Int)}(I:Zeu w ls L)(h7:w.many<=7):L.length<=128:=by have h1:=ZkG I.nd λc hc=>(I.cr c hc).1;have h2:2 ^ w.many<=2 ^ 7:=Nat.pow_le_pow_right (by decide) h7;have h3:2 ^ 7=128:=rfl;omega
theorem Zn1{w:Wk}{c:List Int}{d:Int}(h0:c≠[])(hc:Zam w c d=true):ZH w c d≠[]:=by
 cases c with
 | nil=>exact absurd rfl h0
 | cons s c =>
  unfold Zam at hc;have h1:=ZyL.mp hc s (ZyE ..);have h2:0<(ZbJ w d s).length:=by simpa using h1
  cases hr:ZbJ w d s with
  | nil=>rw[hr]at h2; simp at h2
  | cons x xs=>exact ZCt (ZuH.mpr ⟨s,ZyE ..,by rw[hr]; exact ZyE ..⟩)
def Zcq(w:Wk)(ls c:List Int)(L:List (List Int))(d:Nat):List (List Int):=if Zam w c d then L++(Zq w ls (ZH w c d)).filter (λp=>!L.contains p)else L
theorem Zsr{w:Wk}{ls c:List Int}{L:List (List Int)}{d:Nat}:∃M,Zcq w ls c L d=L++M:=by
 unfold Zcq;split
 ·exact⟨_,rfl⟩
 ·exact⟨[],by simp⟩
theorem ZrO{w:Wk}{ls c:List Int}{L:List (List Int)}{d:Nat}(h:Zam w c d=true){p:List Int}(hp:p∈Zq w ls (ZH w c d)):p∈Zcq w ls c L d:=by
 unfold Zcq;rw[if_pos h]
 by_cases q:p∈L
 ·exact Zzg _ q
 ·refine Zy5 _ (Zza.mpr ⟨hp,?_⟩)
  simp[q]
theorem Zsv{w:Wk}(hv:Wk.V w){ls c:List Int}{L:List (List Int)}{d:Nat}(I:Zeu w ls L)(hc:c∈L)(hd:d<w.deeds.length):Zeu w ls (Zcq w ls c L d):=by
 unfold Zcq;split
 ·rename_i can
  have hl:=Zd7 hv (I.cr c hc).1 (show(0:Int)<=(d:Int) by omega) (by omega);refine⟨?_,λp hp=>?_,λp hp=>?_⟩
  ·rw[ZAU]
   refine⟨I.nd,(Zj3 w ls _).filter _,λa ha b hb e=>?_⟩;subst e;have:=(Zza.mp hb).2;simp[ha]at this
  ·rcases Zy6.mp hp with hp | hp
   ·exact I.cr p hp
   ·have:=ZfK hl (Zza.mp hp).1
    exact⟨this.1,this.2.1⟩
  ·rcases Zy6.mp hp with hp | hp
   ·exact I.rch p hp
   ·exact .step (I.rch c hc) hd can (Zza.mp hp).1
 ·exact I
section
variable{w:Wk}(hv:Wk.V w)(h7:w.many<=7){ls:List Int}(hl:Cr w.looks.length ls)
include hv h7 hl
theorem Zuf{L:List (List Int)}(I:Zeu w ls L){at_:Nat}{c:List Int}(hc:L[at_]?=some c){d:Nat}(hd:d<w.deeds.length)(o5 o6:Option B) :
  ∃p5 p6,ZcX [some (.pl w.d),some (.pl (tupI ls)),some (.ol (L.map tupI)),some (.pl (dN at_)),some (.pl (dN d)),o5,o6]=some (.nx [some (.pl w.d),some (.pl (tupI ls)),some (.ol ((Zcq w ls c L d).map tupI)),some (.pl (dN at_)),some (.pl (dN d)),p5,p6]):=by
 have hm:c∈L:=Zy3 hc;obtain⟨cr,ne⟩:=I.cr c hm;have hat:atD (L.map tupI) (at_:Int)=some (tupI c):=Zd1 (by rw[Zy1,hc]; rfl);have hled:=Zk3 hv h7 cr (show(0:Int)<=(d:Int) by omega) (by omega);have hlen:=I.len h7;unfold ZqP at hled;cases can:Zam w c d with
 | false=>rw[can]at hled;refine⟨some (.pl .none),o6,?_⟩;unfold Zcq;rw[can];simp[ZcX,hat,hled]
 | true =>
  rw[can]at hled;have lc:=Zd7 hv cr (show(0:Int)<=(d:Int) by omega) (by omega);have hs:=Zez hv hl lc;have hsn:(ZQ w ls (ZH w c d)).length<=8:=by unfold ZQ;rw[ZyA,(Za8 _).length_eq,ZyA];have:=ZfC _ _ _ (ZcG (Zx w ls) (ZH w c d));have:=lc.len;omega
  have hsb:(ZQ w ls (ZH w c d)).length<1000000:=by omega
  have hpn:(Zq w ls (ZH w c d)).length<=8:=by unfold Zq; rw[ZyA]; exact hsn
  have e1:∀r:HM.Env,ZcB Zaa (Zb 1) r ((ZQ w ls (ZH w c d)).map ZaF)=some ((Zq w ls (ZH w c d)).map tupI):=λr=>by have e:=Ze8 (c:=Zaa) (e:=Zb 1) (r:=r) (λp:List Int × List Int=>tupI p.1) (λp=>tupI p.2) (λ_=>true) (λp=>tupI p.2) (ZQ w ls (ZH w c d)) (λp _=>rfl) (λp _ _=>by simp);rw[ZAa.mpr λ_ _=>rfl]at e;unfold Zq;rw[ZyV];exact e
  have e2:∀r:HM.Env,r[2]?=some (some (.ol (L.map tupI)))->Zax (tV (Zhu (Zb 0) (Zo 3))) (Zb 0) r ((Zq w ls (ZH w c d)).map tupI)=some (((Zq w ls (ZH w c d)).filter λp=>!L.contains p).map tupI):=λr r2=>by
   rw[ZbO tupI (λp=>!L.contains p) tupI]
   ·intro p _
    simp[r2,Ztv,-ZAk]
   ·intro p _ _
    simp
  have hfl:=Zzu (λp=>!L.contains p) (Zq w ls (ZH w c d));have hbig:L.length+((Zq w ls (ZH w c d)).filter λp=>!L.contains p).length<1000000:=by omega
  have hpb:(Zq w ls (ZH w c d)).length<1000000:=by omega
  refine⟨some (.pl (tupI (ZH w c d))),some (.pl (.list ((Zq w ls (ZH w c d)).map tupI))),?_⟩;unfold Zcq;rw[can];simp[ZcX,hat,hled,hs,hsb,e1,hpb,e2,hbig,-ZAk]
theorem Zmi{at_:Nat}{c:List Int}:∀(ds:List Nat) (M:List (List Int)) (o4 o5 o6:Option B),Zeu w ls M->M[at_]?=some c->(∀d∈ds,d<w.deeds.length) ->
  ∃p4 p5 p6,Z1 4 ZcX (ds.map dN) [some (.pl w.d),some (.pl (tupI ls)),some (.ol (M.map tupI)),some (.pl (dN at_)),o4,o5,o6]=some (.nx [some (.pl w.d),some (.pl (tupI ls)),some (.ol ((ds.foldl (Zcq w ls c) M).map tupI)),some (.pl (dN at_)),p4,p5,p6]) /\
   Zeu w ls (ds.foldl (Zcq w ls c) M)/\(∃N,ds.foldl (Zcq w ls c) M=M++N)/\∀d∈ds,Zam w c d=true->∀p∈Zq w ls (ZH w c d),p∈ds.foldl (Zcq w ls c) M
 | [],M,o4,o5,o6,I,hc,_=>⟨o4,o5,o6,rfl,I,⟨[],by simp⟩,λd hd=>by simp at hd⟩
 | d::ds,M,o4,o5,o6,I,hc,hds=>by
  have hm:c∈M:=Zy3 hc;have hd:=hds d (ZyE ..);obtain⟨p5,p6,e⟩:=Zuf hv h7 hl I hc hd o5 o6;obtain⟨N1,eN1⟩:=Zsr (w:=w) (ls:=ls) (c:=c) (L:=M) (d:=d);have hc':(Zcq w ls c M d)[at_]?=some c:=by rw[eN1,Zy9 (ZyM.mp hc).1];exact hc
  obtain⟨q4,q5,q6,f,I',⟨N2,eN2⟩,hall⟩:=Zmi ds (Zcq w ls c M d) (some (.pl (dN d))) p5 p6 (Zsv hv I hm hd) hc' λx hx=>hds x (ZyD _ hx);refine⟨q4,q5,q6,?_,I',⟨N1++N2,?_⟩,λx hx can p hp=>?_⟩
  ·rw[ZyH,ZzG,<-f]
   show(match ZcX [some (.pl w.d),some (.pl (tupI ls)),some (.ol (M.map tupI)),some (.pl (dN at_)),some (.pl (dN d)),o5,o6]with | some (.nx r')=>_ | some (.ct r')=>_ | some (.bk r')=>_ | some (.rt d)=>_ | none=>_)=_;rw[e]
  ·rw[ZzG,eN2,eN1,ZzT]
  ·rw[ZzG]
   rcases ZyY.mp hx with e' | hx
   ·subst e'
    rw[eN2];exact Zzg _ (ZrO can hp)
   ·exact hall x hx can p hp
theorem Zk4:∀(fuel at_:Nat) (L:List (List Int)) (o4 o5 o6:Option B),Zeu w ls L->at_<=L.length->129<=at_+fuel->(∀i c,i<at_->L[i]?=some c->∀d:Nat,d<w.deeds.length->Zam w c d=true->∀p∈Zq w ls (ZH w c d),p∈L) ->
  ∃L' p3 p4 p5 p6,ZaW (tV (op2 gLt (Zb 3) (ZaJ (Zo 2)))) ZdI fuel [some (.pl w.d),some (.pl (tupI ls)),some (.ol (L.map tupI)),some (.pl (dN at_)),o4,o5,o6]=some (.nx [some (.pl w.d),some (.pl (tupI ls)),some (.ol (L'.map tupI)),p3,p4,p5,p6]) /\
   Zeu w ls L'/\(∃N,L'=L++N)/\ZcT w ls L'
 | 0,at_,L,o4,o5,o6,I,h1,h2,_=>by have:=I.len h7;omega
 | fuel+1,at_,L,o4,o5,o6,I,h1,h2,hdone=>by
  by_cases hlt:at_<L.length
  ·have hok:okR (w.deeds.length:Int)=true:=ZcI (by have:=hv.d2; omega)
   have hdb:w.deeds.length<1000000:=by have:=hv.d2; omega
   obtain⟨c,hc⟩:∃c,L[at_]?=some c:=⟨_,ZyO hlt⟩;obtain⟨p4,p5,p6,f,I',⟨N,eN⟩,hall⟩:=Zmi hv h7 hl (at_:=at_) (c:=c) (ZyF w.deeds.length) L o4 o5 o6 I hc λd hd=>ZyZ.mp hd;generalize hM:(ZyF w.deeds.length).foldl (Zcq w ls c) L=M at *;have body:ZdI [some (.pl w.d),some (.pl (tupI ls)),some (.ol (L.map tupI)),some (.pl (dN at_)),o4,o5,o6]=some (.nx [some (.pl w.d),some (.pl (tupI ls)),some (.ol (M.map tupI)),some (.pl (dN (at_+1))),p4,p5,p6]):=by have i0:Za9 (.pl w.d)=some [Zze w.many,.tuple (w.deeds.map ZN),.tuple (w.looks.map tupI),tupI w.beg,tupI w.goal]:=rfl;simp[ZdI,i0,hok,ZZ,hdb,-Za9];simp[hok,ZZ,hdb,f]
   obtain⟨L',q3,q4,q5,q6,g,J,⟨N',eN'⟩,hcl⟩:=Zk4 fuel (at_+1) M p4 p5 p6 I' (by rw[eN,ZyS]; omega) (by omega) (λi c' hi hc' d hd can p hp=>by
    by_cases e:i=at_
    ·subst e
     rw[eN,Zy9 hlt,hc]at hc';cases hc';exact hall d (ZyZ.mpr hd) can p hp
    ·have hi':i<at_:=by omega
     rw[eN,Zy9 (by omega)]at hc';rw[eN];exact Zzg _ (hdone i c' hi' hc' d hd can p hp))
   refine⟨L',q3,q4,q5,q6,?_,J,⟨N++N',by rw[eN',eN,ZzT]⟩,hcl⟩;have ht:(tV (op2 gLt (Zb 3) (ZaJ (Zo 2)))) [some (.pl w.d),some (.pl (tupI ls)),some (.ol (L.map tupI)),some (.pl (dN at_)),o4,o5,o6]=some true:=by simp[hlt]
   unfold ZaW;rw[ht];dsimp only;rw[body];exact g
  ·have e:at_=L.length:=by omega
   have ht:(tV (op2 gLt (Zb 3) (ZaJ (Zo 2)))) [some (.pl w.d),some (.pl (tupI ls)),some (.ol (L.map tupI)),some (.pl (dN at_)),o4,o5,o6]=some false:=by simp[hlt]
   refine⟨L,some (.pl (dN at_)),o4,o5,o6,?_,I,⟨[],by simp⟩,λc hc d hd can p hp=>?_⟩
   ·unfold ZaW
    rw[ht]
   ·obtain⟨i,hi,hq⟩:=ZA3 hc
    exact hdone i c (by omega) (by rw[ZyO hi,hq]) d hd can p hp
theorem Zrd:∃L,Zef [w.d,tupI ls]=some (.list (L.map tupI))/\Zeu w ls L/\ZcT w ls L/\∀p∈Zq w ls w.beg,p∈L:=by
 have hs:=Zez hv hl hv.bc;have hbl:=hv.bc.len;have hsb:(ZQ w ls w.beg).length<1000000:=by unfold ZQ;rw[ZyA,(Za8 _).length_eq,ZyA];have:=ZfC _ _ _ (ZcG (Zx w ls) w.beg);omega
 have e1:∀r:HM.Env,ZcB Zaa (Zb 1) r ((ZQ w ls w.beg).map ZaF)=some ((Zq w ls w.beg).map tupI):=λr=>by have e:=Ze8 (c:=Zaa) (e:=Zb 1) (r:=r) (λp:List Int × List Int=>tupI p.1) (λp=>tupI p.2) (λ_=>true) (λp=>tupI p.2) (ZQ w ls w.beg) (λp _=>rfl) (λp _ _=>by simp);rw[ZAa.mpr λ_ _=>rfl]at e;unfold Zq;rw[ZyV];exact e
 have I0:Zeu w ls (Zq w ls w.beg):=⟨Zj3 w ls w.beg,λc hc=>⟨(ZfK hv.bc hc).1,(ZfK hv.bc hc).2.1⟩,λc hc=>.beg hc⟩;obtain⟨L,p3,p4,p5,p6,g,I,⟨N,eN⟩,hcl⟩:=Zk4 hv h7 hl 100000 0 (Zq w ls w.beg) none none none I0 (Zz2 _) (by omega) (λi c hi=>by omega);refine⟨L,?_,I,hcl,λp hp=>by rw[eN]; exact Zzg _ hp⟩;have i0:Za9 (.pl w.d)=some [Zze w.many,.tuple (w.deeds.map ZN),.tuple (w.looks.map tupI),tupI w.beg,tupI w.goal]:=rfl;have g':ZaW (tV (op2 gLt (Zb 3) (ZaJ (Zo 2)))) ZdI 100000 [some (.pl w.d),some (.pl (tupI ls)),some (.ol ((Zq w ls w.beg).map tupI)),some (.pl (.int 0)),none,none,none]=some (.nx [some (.pl w.d),some (.pl (tupI ls)),some (.ol (L.map tupI)),p3,p4,p5,p6]):=g;show Zar (Zfv [some (.pl w.d),some (.pl (tupI ls)),none,none,none,none,none])=_;have e':Zfv [some (.pl w.d),some (.pl (tupI ls)),none,none,none,none,none]=some (.rt (.list (L.map tupI))):=by unfold Zfv;refine ZW (P:=λq=>q=_) (r':=[some (.pl w.d),some (.pl (tupI ls)),some (.ol ((Zq w ls w.beg).map tupI)),none,none,none,none]) (by simp[i0,hs,hsb,e1,-Za9]; simp[hs,hsb,e1]) ?_;refine ZW (P:=λq=>q=_) (r':=[some (.pl w.d),some (.pl (tupI ls)),some (.ol ((Zq w ls w.beg).map tupI)),some (.pl (.int 0)),none,none,none]) (by simp) ?_;refine ZW (P:=λq=>q=_) (r':=[some (.pl w.d),some (.pl (tupI ls)),some (.ol (L.map tupI)),p3,p4,p5,p6]) g' ?_;simp
 rw[e'];rfl
end
end HG5
namespace HG5
open PySem HM HG HG4
theorem ZoW{α:Type}(ns:List Int):gEq (.list (ns.map dI)) (.list [])=some (.bool ns.isEmpty):=by
 cases ns with
 | nil=>exact ZeE (ZhU 0 []) (by decide)
 | cons n ns=>exact Zht (ZhU 0 (n::ns)) (ZhU 0 []) (by decide) (by decide) (by simp)
theorem ZtS(L:List (List Int)):gEq (.list (L.map tupI)) (.list [])=some (.bool L.isEmpty):=by
 have h:∀L:List (List Int),nbD 2 (.list (L.map tupI))=true:=λL=>ZwM λd hd=>by obtain⟨c,_,rfl⟩:=ZyN.mp hd;exact Zd4 0 c
 cases L with
 | nil=>exact ZeE (h []) (by decide)
 | cons c L=>exact Zht (h (c::L)) (h []) (by decide) (by decide) (by simp)
theorem filter_empty{α:Type}(p:α->Bool)(L:List α):(L.filter λx=>!p x).isEmpty=L.all p:=by
 induction L with
 | nil=>rfl
 | cons x L ih =>
  rw[ZzQ,ZzU];cases p x with
  | true=>simpa using ih
  | false=>rfl
theorem ZoS{w:Wk}(hv:Wk.V w){c:List Int}(hc:c.length<1000):Zcx [w.d,tupI c]=some (.bool (Z2 w c)):=by
 have hb:c.length<1000000:=by omega
 have i0:Za9 (.pl w.d)=some [Zze w.many,.tuple (w.deeds.map ZN),.tuple (w.looks.map tupI),tupI w.beg,tupI w.goal]:=rfl;have e:∀r:HM.Env,r[0]?=some (some (.pl w.d))->Zax (tV (Zhr (Zb 0) (bOf (eIx (Zo 1) (eC (.int 4)))))) (Zb 0) r (c.map dI)=some ((c.filter λs=>!w.goal.contains s).map dI):=λr r0=>by
  rw[ZbO dI (λs=>!w.goal.contains s) dI]
  ·intro s _
   simp[r0,i0,ZnP,ZbR,-Za9,-ZAk];simp[ZnP,ZbR,-ZAk]
  ·intro s _ _
   simp
 have g:=ZoW (α:=Int) (c.filter λs=>!w.goal.contains s);rw[filter_empty (λs=>w.goal.contains s) c]at g;simp[Zcx,ZiC,hb,e,g,Z2,-gEq,-ZAk]
abbrev Tb:=List (List Int × Int)
def encM(M:Tb):List (List Ky × D):=M.map λp=>(Zad p.1,dI p.2)
theorem ZcN(M:Tb)(k:List Int):Zi (encM M) (Zad k)=(Zi M k).map dI:=by
 unfold Zi encM;rw[List.find?_map];have e:((λp:List Ky × D=>decide (p.1=Zad k))∘λp:List Int × Int=>(Zad p.1,dI p.2))=λp=>decide (p.1=k):=by
  funext p
  simp only[ZBW];exact decide_eq_decide.mpr (ZlJ p.1 k)
 rw[e];cases M.find? λp=>decide (p.1=k)<;>rfl
theorem Zh4(M:Tb)(k:List Int)(v:Int):putD (encM M) (Zad k) (dI v)=encM (putD M k v):=by
 unfold putD;have e1:((encM M).any λp=>decide (p.1=Zad k))=M.any λp=>decide (p.1=k):=by
  unfold encM;rw[List.any_map];congr 1
  funext p
  simp only[ZBW];exact decide_eq_decide.mpr (ZlJ p.1 k)
 rw[e1];split
 ·unfold encM
  rw[ZyV,ZyV];refine Zz9 λp _=>?_;simp only[ZBW]
  by_cases h:p.1=k
  ·rw[if_pos h,if_pos (by rw[h])]
  ·rw[if_neg h,if_neg (λe=>h (Zgs e))]
 ·unfold encM
  rw[Zzd];rfl
theorem Zjh(k:List Int):Zi ([]:Tb) k=none:=rfl
theorem ZbX(x:List Int)(v:Int)(M:Tb)(k:List Int):Zi ((x,v)::M) k=if x=k then some v else Zi M k:=by
 unfold Zi;rw[Zzy]
 by_cases h:x=k<;>simp[h]
theorem Zr7(x k:List Int)(v:Int)(M:Tb):Zi (putD M x v) k=if x=k then some v else Zi M k:=by
 have rep:∀M:Tb,Zi (M.map λp=>if p.1=x then(p.1,v)else p) k=if x=k then(Zi M k).map (λ_=>v)else Zi M k:=by
  intro M
  induction M with
  | nil=>rw[ZAA,Zjh]; split<;>rfl
  | cons p M ih =>
   obtain⟨a,b⟩:=p;rw[ZyH]
   by_cases ha:a=x
   ·rw[if_pos (show(a,b).1=x from ha),ZbX,ZbX,ih]
    show(if a=k then some v else _)=_
    by_cases hk:x=k
    ·rw[if_pos (by rw[ha,hk]),if_pos hk,if_pos (by rw[ha,hk])]; rfl
    ·rw[if_neg (by rw[ha]; exact hk),if_neg hk,if_neg hk,if_neg (by rw[ha]; exact hk)]
   ·rw[if_neg (show ¬(a,b).1=x from ha),ZbX,ZbX,ih]
    by_cases hk:a=k
    ·rw[if_pos hk,if_pos hk]
     have:x≠k:=λe=>ha (hk.trans e.symm);rw[if_neg this]
    ·rw[if_neg hk,if_neg hk]
 have app:∀M:Tb,Zi (M++[(x,v)]) k=match Zi M k with | some u=>some u | none=>if x=k then some v else none:=by
  intro M
  induction M with
  | nil=>rw[ZAz,ZbX,Zjh]
  | cons p M ih =>
   obtain⟨a,b⟩:=p;rw[ZCW,ZbX,ZbX,ih]
   by_cases hk:a=k
   ·rw[if_pos hk,if_pos hk]
   ·rw[if_neg hk,if_neg hk]
 have has:∀M:Tb,(M.any λp=>decide (p.1=x))=(Zi M x).isSome:=by
  intro M
  induction M with
  | nil=>rfl
  | cons p M ih =>
   obtain⟨a,b⟩:=p;rw[ZAi,ZbX,ih]
   by_cases ha:a=x<;>simp[ha]
 unfold putD;split
 ·rename_i h
  rw[rep]
  by_cases hk:x=k
  ·subst hk
   rw[has]at h;rw[if_pos rfl,if_pos rfl];obtain⟨u,hu⟩:=Zzm.mp h;rw[hu]; rfl
  ·rw[if_neg hk,if_neg hk]
 ·rename_i h
  rw[app]
  by_cases hk:x=k
  ·subst hk
   rw[has]at h;rw[if_pos rfl,if_pos rfl];cases hq:Zi M x with
   | none=>rfl
   | some u=>rw[hq]at h; exact absurd rfl h
  ·rw[if_neg hk,if_neg hk]
   cases Zi M k<;>rfl
theorem ZjE(x:List Int)(v:Int)(M:Tb):(putD M x v).length<=M.length+1:=by
 unfold putD;split
 ·rw[ZyA]; omega
 ·rw[ZyS]; exact ZyI _
def ZD(M:Tb)(p:List Int):Bool:=(Zi M p).isSome
def Zdn(w:Wk)(ls c:List Int)(M:Tb):Bool:=(ZyF w.deeds.length).any λd=>Zam w c d&&(Zq w ls (ZH w c d)).all λp=>ZD M p
section
variable{w:Wk}(hv:Wk.V w)(h7:w.many<=7){ls:List Int}(hl:Cr w.looks.length ls)
include hv h7 hl
theorem ZpI{c:List Int}(hc:Cr w.many c){M:Tb}{d:Nat}(hd:d<w.deeds.length)(o5:Option B) :
  ((Zam w c d&&(Zq w ls (ZH w c d)).all λp=>ZD M p)=true->ZP [some (.pl w.d),some (.pl (tupI ls)),some (.pl (tupI c)),some (.pl (.dict (Zk (encM M)))),some (.pl (dN d)),o5]=some (.rt (.bool true))) /\
  ((Zam w c d&&(Zq w ls (ZH w c d)).all λp=>ZD M p)=false->∃p5,ZP [some (.pl w.d),some (.pl (tupI ls)),some (.pl (tupI c)),some (.pl (.dict (Zk (encM M)))),some (.pl (dN d)),o5]=some (.nx [some (.pl w.d),some (.pl (tupI ls)),some (.pl (tupI c)),some (.pl (.dict (Zk (encM M)))),some (.pl (dN d)),p5])):=by
 have hled:=Zk3 hv h7 hc (show(0:Int)<=(d:Int) by omega) (by omega);unfold ZqP at hled;cases can:Zam w c d with
 | false=>rw[can]at hled;refine⟨λh=>(by cases h),λ_=>⟨some (.pl .none),?_⟩⟩;simp[ZP,hled]
 | true =>
  rw[can]at hled;have lc:=Zd7 hv hc (show(0:Int)<=(d:Int) by omega) (by omega);have hs:=Zez hv hl lc;have hsb:(ZQ w ls (ZH w c d)).length<1000000:=by unfold ZQ;rw[ZyA,(Za8 _).length_eq,ZyA];have:=ZfC _ _ _ (ZcG (Zx w ls) (ZH w c d));have:=lc.len;omega
  have e1:∀r:HM.Env,r[3]?=some (some (.pl (.dict (Zk (encM M)))))->ZcB (tV (Zce (Zb 1) (Zo 5))) (Zb 1) r ((ZQ w ls (ZH w c d)).map ZaF)=some (((Zq w ls (ZH w c d)).filter λp=>!ZD M p).map tupI):=λr r3=>by have e:=Ze8 (c:=tV (Zce (Zb 1) (Zo 5))) (e:=Zb 1) (r:=r) (λp:List Int × List Int=>tupI p.1) (λp=>tupI p.2) (λp=>!ZD M p.2) (λp=>tupI p.2) (ZQ w ls (ZH w c d)) (λp _=>by have hk:ZaS (tupI p.2)=some (Zad p.2):=ZaK p.2;simp[r3,dec_enc,hk,ZcN,ZD]) (λp _ _=>by simp);have e':((ZQ w ls (ZH w c d)).map λp:List Int × List Int=>Zzf [tupI p.1,tupI p.2])=(ZQ w ls (ZH w c d)).map ZaF:=rfl;rw[<-e',e];unfold Zq;rw[List.filter_map,ZyV];rfl
  have g:=ZtS ((Zq w ls (ZH w c d)).filter λp=>!ZD M p);rw[filter_empty]at g;cases ha:(Zq w ls (ZH w c d)).all λp=>ZD M p with
  | true=>rw[ha]at g;refine⟨λ_=>?_,λh=>(by cases h)⟩;simp[ZP,hled,hs,hsb,e1,g,-gEq]
  | false=>rw[ha]at g;refine⟨λh=>(by cases h),λ_=>⟨some (.pl (tupI (ZH w c d))),?_⟩⟩;simp[ZP,hled,hs,hsb,e1,g,-gEq]
theorem Zmc{c:List Int}(hc:Cr w.many c){M:Tb}:∀(ds:List Nat) (o4 o5:Option B),(∀d∈ds,d<w.deeds.length) ->
  ((ds.any λd=>Zam w c d&&(Zq w ls (ZH w c d)).all λp=>ZD M p)=true->Z1 4 ZP (ds.map dN) [some (.pl w.d),some (.pl (tupI ls)),some (.pl (tupI c)),some (.pl (.dict (Zk (encM M)))),o4,o5]=some (.rt (.bool true))) /\
  ((ds.any λd=>Zam w c d&&(Zq w ls (ZH w c d)).all λp=>ZD M p)=false->∃p4 p5,Z1 4 ZP (ds.map dN) [some (.pl w.d),some (.pl (tupI ls)),some (.pl (tupI c)),some (.pl (.dict (Zk (encM M)))),o4,o5]=some (.nx [some (.pl w.d),some (.pl (tupI ls)),some (.pl (tupI c)),some (.pl (.dict (Zk (encM M)))),p4,p5]))
 | [],o4,o5,_=>⟨λh=>(by cases h),λ_=>⟨o4,o5,rfl⟩⟩
 | d::ds,o4,o5,hds=>by
  obtain⟨t1,t2⟩:=ZpI hv h7 hl hc (M:=M) (hds d (ZyE ..)) o5;rw[ZAi];cases hq:(Zam w c d&&(Zq w ls (ZH w c d)).all λp=>ZD M p)with
  | true=>refine⟨λ_=>?_,λh=>(by cases h)⟩;rw[ZyH];show(match ZP [some (.pl w.d),some (.pl (tupI ls)),some (.pl (tupI c)),some (.pl (.dict (Zk (encM M)))),some (.pl (dN d)),o5]with | some (.nx r')=>_ | some (.ct r')=>_ | some (.bk r')=>_ | some (.rt d)=>_ | none=>_)=_;rw[t1 hq]
  | false =>
   obtain⟨p5,e⟩:=t2 hq;obtain⟨i1,i2⟩:=Zmc hc ds (some (.pl (dN d))) p5 λx hx=>hds x (ZyD _ hx);have e5:Z1 4 ZP ((d::ds).map dN) [some (.pl w.d),some (.pl (tupI ls)),some (.pl (tupI c)),some (.pl (.dict (Zk (encM M)))),o4,o5]=Z1 4 ZP (ds.map dN) [some (.pl w.d),some (.pl (tupI ls)),some (.pl (tupI c)),some (.pl (.dict (Zk (encM M)))),some (.pl (dN d)),p5]:=by rw[ZyH];show(match ZP [some (.pl w.d),some (.pl (tupI ls)),some (.pl (tupI c)),some (.pl (.dict (Zk (encM M)))),some (.pl (dN d)),o5]with | some (.nx r')=>_ | some (.ct r')=>_ | some (.bk r')=>_ | some (.rt d)=>_ | none=>_)=_;rw[e]
   rw[e5,ZCw];exact⟨i1,i2⟩
theorem ZsX{c:List Int}(hc:Cr w.many c){M:Tb}:ZbS [w.d,tupI ls,tupI c,.dict (Zk (encM M))]=some (.bool (Zdn w ls c M)):=by
 obtain⟨i1,i2⟩:=Zmc hv h7 hl hc (M:=M) (ZyF w.deeds.length) none none λd hd=>ZyZ.mp hd;have hok:okR (w.deeds.length:Int)=true:=ZcI (by have:=hv.d2; omega);have hdb:w.deeds.length<1000000:=by have:=hv.d2; omega
 have i0:Za9 (.pl w.d)=some [Zze w.many,.tuple (w.deeds.map ZN),.tuple (w.looks.map tupI),tupI w.beg,tupI w.goal]:=rfl;show Zar (Zbn [some (.pl w.d),some (.pl (tupI ls)),some (.pl (tupI c)),some (.pl (.dict (Zk (encM M)))),none,none])=_;unfold Zdn;cases h:(ZyF w.deeds.length).any λd=>Zam w c d&&(Zq w ls (ZH w c d)).all λp=>ZD M p with
 | true =>
  have e:Zbn [some (.pl w.d),some (.pl (tupI ls)),some (.pl (tupI c)),some (.pl (.dict (Zk (encM M)))),none,none]=some (.rt (.bool true)):=by simp[Zbn,i0,-Za9];simp[hok,ZZ,hdb,i1 h]
  rw[e]; rfl
 | false =>
  obtain⟨p4,p5,f⟩:=i2 h;have e:Zbn [some (.pl w.d),some (.pl (tupI ls)),some (.pl (tupI c)),some (.pl (.dict (Zk (encM M)))),none,none]=some (.rt (.bool false)):=by simp[Zbn,i0,-Za9];simp[hok,ZZ,hdb,f]
  rw[e]; rfl
end
end HG5
namespace HG5
open PySem HM HG HG4
def Zcr(w:Wk)(ls:List Int)(t:Nat)(c:List Int):Option Int:=((ZyF (t+1)).find? λn=>Win w ls n c).map λ(n:Nat)=>(n:Int)
theorem Zcl{w:Wk}{ls:List Int}{t:Nat}{c:List Int}:(Zcr w ls t c).isSome=Win w ls t c:=by
 unfold Zcr;rw[Zz5];cases h:Win w ls t c with
 | true=>rw[ZCJ]; exact⟨t,ZyZ.mpr (by omega),h⟩
 | false =>
  cases q:(ZyF (t+1)).find? λn=>Win w ls n c with
  | none=>rfl
  | some n=>have h1:=List.find?_some q;have h2:=ZyZ.mp (ZBs q);rw[Zfb (show n<=t by omega) h1]at h;cases h
theorem Zrr{w:Wk}{ls:List Int}{t:Nat}{c:List Int}:Zcr w ls (t+1) c=match Zcr w ls t c with
  | some k=>some k
  | none=>if Win w ls (t+1) c then some ((t+1:Nat):Int)else none:=by
 unfold Zcr;rw[List.range_succ (n:=t+1),ZCF];cases(ZyF (t+1)).find? λn=>Win w ls n c with
 | some n=>rfl
 | none=>show ZzN _ (Option.or none ([t+1].find? λn=>Win w ls n c))=_;rw[Option.none_or,Zzy];cases Win w ls (t+1) c<;>rfl
theorem Zes{w:Wk}{ls:List Int}{t:Nat}{c:List Int}{k:Int}(h:Zcr w ls t c=some k):∃n:Nat,k=(n:Int)/\n<=t/\Win w ls n c=true/\∀m,m<n->Win w ls m c=false:=by
 unfold Zcr at h;obtain⟨n,hn,rfl⟩:=ZyB.mp h;refine⟨n,rfl,?_,List.find?_some (p:=λn=>Win w ls n c) hn,λm hm=>?_⟩
 ·have:=ZyZ.mp (ZBs hn)
  omega
 ·cases q:Win w ls m c with
  | false=>rfl
  | true =>
   obtain⟨_,as,bs,e,hno⟩:=List.find?_eq_some_iff_append.mp hn;have hmem:m∈ZyF (t+1):=ZyZ.mpr (by have:=ZyZ.mp (ZBs hn);omega);have hp:(as++n::bs).Pairwise (· < ·):=by rw[<-e]; exact ZDf
   rw[e]at hmem;rcases Zy6.mp hmem with h1 | h1
   ·have:=hno m h1
    rw[q]at this;cases this
   ·rcases ZyY.mp h1 with h2 | h2
    ·omega
    ·have:=(Zzq.mp (List.pairwise_append.mp hp).2.1).1 m h2
     omega
structure Zfq(w:Wk)(ls:List Int)(L:List (List Int))(t:Nat)(M:Tb):Prop where
 look:∀c,Zi M c=if c∈L then Zcr w ls t c else none
theorem ZgJ(v:Int)(k:List Int):∀(ms:List (List Int)) (M:Tb),Zi (ms.foldl (λM c=>putD M c v) M) k=if k∈ms then some v else Zi M k
 | [],M=>by simp
 | c::ms,M=>by
  rw[ZzG,ZgJ v k ms,Zr7]
  by_cases h1:k∈ms
  ·rw[if_pos h1,if_pos (ZyD _ h1)]
  ·rw[if_neg h1]
   by_cases h2:c=k
   ·rw[if_pos h2,if_pos (by rw[h2]; exact ZyE ..)]
   ·rw[if_neg h2,if_neg]
    intro h;rcases ZyY.mp h with e | e
    ·exact h2 e.symm
    ·exact h1 e
theorem ZgH(v:Int):∀(ms:List (List Int)) (M:Tb),(ms.foldl (λM c=>putD M c v) M).length<=M.length+ms.length
 | [],M=>ZyI _
 | c::ms,M=>by rw[ZzG,ZyP];have:=ZgH v ms (putD M c v);have:=ZjE c v M;omega
def ZaV(w:Wk)(ls:List Int)(L:List (List Int))(M:Tb):List (List Int):=L.filter λc=>!ZD M c&&Zdn w ls c M
theorem Zkc{w:Wk}{ls:List Int}{L:List (List Int)}(hL:ZcT w ls L){t:Nat}{M:Tb}(T:Zfq w ls L t M):Zfq w ls L (t+1) ((ZaV w ls L M).foldl (λM c=>putD M c ((t+1:Nat):Int)) M):=by
 have hhas:∀c∈L,ZD M c=Win w ls t c:=λc hc=>by unfold ZD;rw[T.look,if_pos hc,Zcl]
 refine⟨λc=>?_⟩;rw[ZgJ,T.look]
 by_cases hc:c∈L
 ·rw[if_pos hc,if_pos hc,Zrr]
  have hcan:Zdn w ls c M=(ZyF w.deeds.length).any λd=>Zam w c d&&(Zq w ls (ZH w c d)).all λp=>Win w ls t p:=by
   unfold Zdn;apply ZCc.mpr;rw[ZzH,ZzH]
   constructor
   ·rintro ⟨d,hd,hq⟩
    rw[ZyT]at hq;refine⟨d,hd,?_⟩;rw[ZyT];refine⟨hq.1,ZyL.mpr λp hp=>?_⟩;rw[<-hhas p (hL c hc d (ZyZ.mp hd) hq.1 p hp)];exact ZyL.mp hq.2 p hp
   ·rintro ⟨d,hd,hq⟩
    rw[ZyT]at hq;refine⟨d,hd,?_⟩;rw[ZyT];refine⟨hq.1,ZyL.mpr λp hp=>?_⟩;rw[hhas p (hL c hc d (ZyZ.mp hd) hq.1 p hp)];exact ZyL.mp hq.2 p hp
  have hmem:c∈ZaV w ls L M↔(Win w ls t c=false/\Zdn w ls c M=true):=by
   unfold ZaV;rw[Zza,ZyT,hhas c hc]
   constructor
   ·rintro ⟨_,h1,h2⟩
    exact⟨by simpa using h1,h2⟩
   ·rintro ⟨h1,h2⟩
    exact⟨hc,by simp[h1],h2⟩
  cases hw:Win w ls t c with
  | true =>
   have hs:(Zcr w ls t c).isSome=true:=by rw[Zcl]; exact hw
   obtain⟨k,hk⟩:=Zzm.mp hs;rw[if_neg (λh=>by rw[hw]at hmem; cases(hmem.mp h).1),hk]
  | false =>
   have hs:Zcr w ls t c=none:=by
    have:=Zcl (w:=w) (ls:=ls) (t:=t) (c:=c);rw[hw]at this;cases q:Zcr w ls t c with
    | none=>rfl
    | some k=>rw[q]at this; cases this
   have hth:Z2 w c=false:=by
    cases q:Z2 w c with
    | false=>rfl
    | true=>have:Win w ls t c=true:=Zfb (Zz2 t) (show Win w ls 0 c=true from q);rw[hw]at this;cases this
   have hwin:Win w ls (t+1) c=Zdn w ls c M:=by rw[hcan];show(Z2 w c||_)=_;rw[hth,ZCw]
   rw[hs];dsimp only;rw[hwin];cases hcw:Zdn w ls c M with
   | true=>rw[if_pos (hmem.mpr ⟨hw,hcw⟩),if_pos rfl]
   | false=>rw[if_neg (λh=>by have:=(hmem.mp h).2; rw[hcw]at this; cases this)]; rfl
 ·rw[if_neg hc,if_neg hc,if_neg]
  intro h;exact hc (Zza.mp h).1
def M0(w:Wk)(L:List (List Int)):Tb:=(L.filter λc=>Z2 w c).foldl (λM c=>putD M c 0) []
theorem Zks{w:Wk}{ls:List Int}{L:List (List Int)}:Zfq w ls L 0 (M0 w L):=by
 refine⟨λc=>?_⟩;unfold M0;rw[ZgJ,Zjh];have e:Zcr w ls 0 c=if Z2 w c then some 0 else none:=by unfold Zcr;show ZzN _ (([0]:List Nat).find? λn=>Win w ls n c)=_;rw[Zzy];show ZzN _ (match Win w ls 0 c with | true=>some 0 | false=>_)=_;have:Win w ls 0 c=Z2 w c:=rfl;rw[this];cases Z2 w c<;>rfl
 rw[e]
 by_cases hc:c∈L
 ·rw[if_pos hc]
  cases ht:Z2 w c with
  | true=>rw[if_pos (Zza.mpr ⟨hc,ht⟩)]; rfl
  | false=>rw[if_neg (λh=>by have:=(Zza.mp h).2; rw[ht]at this; cases this)]; rfl
 ·rw[if_neg hc,if_neg λh=>hc (Zza.mp h).1]
section
variable{w:Wk}(hv:Wk.V w)(h7:w.many<=7){ls:List Int}(hl:Cr w.looks.length ls){L:List (List Int)}(I:Zeu w ls L)
include hv h7 hl I
theorem ZlQ(e2 e5 e6:Option B):∀(cs:List (List Int)) (M:Tb) (o4:Option B),(∀c∈cs,c∈L)->M.length+cs.length<100000 ->
  ∃p4,Z1 4 Zbo (cs.map tupI) [some (.pl w.d),some (.pl (tupI ls)),e2,some (.ot (encM M)),o4,e5,e6]=some (.nx [some (.pl w.d),some (.pl (tupI ls)),e2,some (.ot (encM ((cs.filter λc=>Z2 w c).foldl (λM c=>putD M c 0) M))),p4,e5,e6])
 | [],M,o4,_,_=>⟨o4,rfl⟩
 | c::cs,M,o4,hcs,hlen=>by
  rw[ZyP]at hlen;have hc:=(I.cr c (hcs c (ZyE ..))).1;have hcl:=hc.len;have ht:=ZoS hv (c:=c) (by omega);have hml:(encM M).length<1000000:=by unfold encM; rw[ZyA]; omega
  have hk:ZaS (tupI c)=some (Zad c):=ZaK c;have hput:=Zh4 M c 0;have hpl:=ZjE c 0 M;rw[ZyH,ZzQ];cases hth:Z2 w c with
  | true =>
   rw[hth]at ht;have e:Zbo [some (.pl w.d),some (.pl (tupI ls)),e2,some (.ot (encM M)),some (.pl (tupI c)),e5,e6]=some (.nx [some (.pl w.d),some (.pl (tupI ls)),e2,some (.ot (encM (putD M c 0))),some (.pl (tupI c)),e5,e6]):=by rw[<-hput];simp[Zbo,ht,hk,hml]
   obtain⟨p4,ih⟩:=ZlQ e2 e5 e6 cs (putD M c 0) (some (.pl (tupI c))) (λx hx=>hcs x (ZyD _ hx)) (by omega);refine⟨p4,?_⟩;rw[if_pos rfl,ZzG,<-ih];show(match Zbo [some (.pl w.d),some (.pl (tupI ls)),e2,some (.ot (encM M)),some (.pl (tupI c)),e5,e6]with | some (.nx r')=>_ | some (.ct r')=>_ | some (.bk r')=>_ | some (.rt d)=>_ | none=>_)=_;rw[e]
  | false =>
   rw[hth]at ht;have e:Zbo [some (.pl w.d),some (.pl (tupI ls)),e2,some (.ot (encM M)),some (.pl (tupI c)),e5,e6]=some (.nx [some (.pl w.d),some (.pl (tupI ls)),e2,some (.ot (encM M)),some (.pl (tupI c)),e5,e6]):=by simp[Zbo,ht]
   obtain⟨p4,ih⟩:=ZlQ e2 e5 e6 cs M (some (.pl (tupI c))) (λx hx=>hcs x (ZyD _ hx)) (by omega);refine⟨p4,?_⟩;rw[if_neg (by simp),<-ih];show(match Zbo [some (.pl w.d),some (.pl (tupI ls)),e2,some (.ot (encM M)),some (.pl (tupI c)),e5,e6]with | some (.nx r')=>_ | some (.ct r')=>_ | some (.bk r')=>_ | some (.rt d)=>_ | none=>_)=_;rw[e]
theorem ZlL(e2 e5:Option B)(M:Tb):∀(cs ms:List (List Int)) (o4:Option B),(∀c∈cs,c∈L)->ms.length+cs.length<100000 ->
  ∃p4,Z1 4 Za5 (cs.map tupI) [some (.pl w.d),some (.pl (tupI ls)),e2,some (.ot (encM M)),o4,e5,some (.ol (ms.map tupI))]=some (.nx [some (.pl w.d),some (.pl (tupI ls)),e2,some (.ot (encM M)),p4,e5,some (.ol ((ms++ZaV w ls cs M).map tupI))])
 | [],ms,o4,_,_=>⟨o4,by unfold ZaV; simp[Z1]⟩
 | c::cs,ms,o4,hcs,hlen=>by
  rw[ZyP]at hlen;have hc:=(I.cr c (hcs c (ZyE ..))).1;have hw:=ZsX hv h7 hl hc (M:=M);have hk:ZaS (tupI c)=some (Zad c):=ZaK c;have hlk:=ZcN M c;have hmb:ms.length<1000000:=by omega
  have em:ZaV w ls (c::cs) M=if(!ZD M c&&Zdn w ls c M)=true then c::ZaV w ls cs M else ZaV w ls cs M:=by unfold ZaV; rw[ZzQ]
  cases hq:(!ZD M c&&Zdn w ls c M)with
  | true =>
   have hq':=hq;rw[ZyT]at hq';have h1:ZD M c=false:=by simpa using hq'.1
   have h1':Zi M c=none:=by
    have h1:(Zi M c).isSome=false:=h1;cases q:Zi M c with
    | none=>rfl
    | some k=>rw[q]at h1; cases h1
   rw[h1']at hlk;have e:Za5 [some (.pl w.d),some (.pl (tupI ls)),e2,some (.ot (encM M)),some (.pl (tupI c)),e5,some (.ol (ms.map tupI))]=some (.nx [some (.pl w.d),some (.pl (tupI ls)),e2,some (.ot (encM M)),some (.pl (tupI c)),e5,some (.ol ((ms++[c]).map tupI))]):=by rw[hq'.2]at hw;simp[Za5,hk,hlk,hw,hmb]
   obtain⟨p4,ih⟩:=ZlL e2 e5 M cs (ms++[c]) (some (.pl (tupI c))) (λx hx=>hcs x (ZyD _ hx)) (by rw[ZyS,ZzW]; omega);refine⟨p4,?_⟩;rw[em,hq,if_pos rfl,show ms++c::ZaV w ls cs M=(ms++[c])++ZaV w ls cs M by simp,<-ih,ZyH];show(match Za5 [some (.pl w.d),some (.pl (tupI ls)),e2,some (.ot (encM M)),some (.pl (tupI c)),e5,some (.ol (ms.map tupI))]with | some (.nx r')=>_ | some (.ct r')=>_ | some (.bk r')=>_ | some (.rt d)=>_ | none=>_)=_;rw[e]
  | false =>
   have e:Za5 [some (.pl w.d),some (.pl (tupI ls)),e2,some (.ot (encM M)),some (.pl (tupI c)),e5,some (.ol (ms.map tupI))]=some (.nx [some (.pl w.d),some (.pl (tupI ls)),e2,some (.ot (encM M)),some (.pl (tupI c)),e5,some (.ol (ms.map tupI))]):=by
    cases h1:Zi M c with
    | some k=>rw[h1]at hlk; simp[Za5,hk,hlk]
    | none =>
     have h2:ZD M c=false:=by unfold ZD; rw[h1]; rfl
     rw[h2]at hq;have h3:Zdn w ls c M=false:=by simpa using hq
     rw[h3]at hw;rw[h1]at hlk;simp[Za5,hk,hlk,hw]
   obtain⟨p4,ih⟩:=ZlL e2 e5 M cs ms (some (.pl (tupI c))) (λx hx=>hcs x (ZyD _ hx)) (by omega);refine⟨p4,?_⟩;rw[em,hq,if_neg (by simp),<-ih,ZyH];show(match Za5 [some (.pl w.d),some (.pl (tupI ls)),e2,some (.ot (encM M)),some (.pl (tupI c)),e5,some (.ol (ms.map tupI))]with | some (.nx r')=>_ | some (.ct r')=>_ | some (.bk r')=>_ | some (.rt d)=>_ | none=>_)=_;rw[e]
end
theorem ZrN(e0 e1 e2 e6:Option B)(v:Int):∀(ms:List (List Int)) (M:Tb) (o4:Option B),M.length+ms.length<100000 ->
  ∃p4,Z1 4 ZcR (ms.map tupI) [e0,e1,e2,some (.ot (encM M)),o4,some (.pl (dI v)),e6]=some (.nx [e0,e1,e2,some (.ot (encM (ms.foldl (λM c=>putD M c v) M))),p4,some (.pl (dI v)),e6])
 | [],M,o4,_=>⟨o4,rfl⟩
 | c::ms,M,o4,hlen=>by
  rw[ZyP]at hlen;have hml:(encM M).length<1000000:=by unfold encM; rw[ZyA]; omega
  have hk:ZaS (tupI c)=some (Zad c):=ZaK c;have hput:=Zh4 M c v;have hpl:=ZjE c v M;have e:ZcR [e0,e1,e2,some (.ot (encM M)),some (.pl (tupI c)),some (.pl (dI v)),e6]=some (.nx [e0,e1,e2,some (.ot (encM (putD M c v))),some (.pl (tupI c)),some (.pl (dI v)),e6]):=by rw[<-hput];simp[ZcR,hk,hml]
  obtain⟨p4,ih⟩:=ZrN e0 e1 e2 e6 v ms (putD M c v) (some (.pl (tupI c))) (by omega);refine⟨p4,?_⟩;rw[ZyH,ZzG,<-ih];show(match ZcR [e0,e1,e2,some (.ot (encM M)),some (.pl (tupI c)),some (.pl (dI v)),e6]with | some (.nx r')=>_ | some (.ct r')=>_ | some (.bk r')=>_ | some (.rt d)=>_ | none=>_)=_;rw[e]
end HG5
namespace HG5
open PySem HM HG HG4
section
variable{w:Wk}(hv:Wk.V w)(h7:w.many<=7){ls:List Int}(hl:Cr w.looks.length ls){L:List (List Int)}(I:Zeu w ls L)
include hv h7 hl I
theorem Zrw{M:Tb}(hM:M.length<50000)(v:Int)(o4 o6:Option B) :
  ∃p4 p6,Zcc [some (.pl w.d),some (.pl (tupI ls)),some (.pl (.list (L.map tupI))),some (.ot (encM M)),o4,some (.pl (dI v)),o6] =
   some (.nx [some (.pl w.d),some (.pl (tupI ls)),some (.pl (.list (L.map tupI))),some (.ot (encM ((ZaV w ls L M).foldl (λM c=>putD M c v) M))),p4,some (.pl (dI v)),p6]):=by
 have hlen:=I.len h7;have hLb:L.length<1000000:=by omega
 obtain⟨p4,e1⟩:=ZlL hv h7 hl I (some (.pl (.list (L.map tupI)))) (some (.pl (dI v))) M L [] o4 (λ_ h=>h) (by simp; omega);have hml:(ZaV w ls L M).length<=L.length:=Zzu _ _;have hmb:(ZaV w ls L M).length<1000000:=by omega
 obtain⟨q4,e2⟩:=ZrN (some (.pl w.d)) (some (.pl (tupI ls))) (some (.pl (.list (L.map tupI)))) (some (.pl (.list ((ZaV w ls L M).map tupI)))) v (ZaV w ls L M) M p4 (by omega);rw[ZAA,ZAz]at e1;refine⟨q4,some (.pl (.list ((ZaV w ls L M).map tupI))),?_⟩;simp[Zcc,hLb,e1,hmb,e2]
theorem Zjd(hL:ZcT w ls L):∀(n t:Nat) (M:Tb) (o4 o5 o6:Option B),Zfq w ls L t M->M.length<=128*(t+1)->t+n<=128 ->
  ∃M' p4 p5 p6,Z1 5 Zcc ((ZCo (t+1) n).map dN) [some (.pl w.d),some (.pl (tupI ls)),some (.pl (.list (L.map tupI))),some (.ot (encM M)),o4,o5,o6] =
   some (.nx [some (.pl w.d),some (.pl (tupI ls)),some (.pl (.list (L.map tupI))),some (.ot (encM M')),p4,p5,p6])/\Zfq w ls L (t+n) M'
 | 0,t,M,o4,o5,o6,T,_,_=>⟨M,o4,o5,o6,rfl,T⟩
 | n+1,t,M,o4,o5,o6,T,hM,ht=>by obtain⟨p4,p6,e⟩:=Zrw hv h7 hl I (M:=M) (by omega) ((t+1:Nat):Int) o4 o6;have T':=Zkc hL T;have hlen:=I.len h7;have hml:(ZaV w ls L M).length<=L.length:=Zzu _ _;have hfl:=ZgH ((t+1:Nat):Int) (ZaV w ls L M) M;have hM1:((ZaV w ls L M).foldl (λM c=>putD M c ((t+1:Nat):Int)) M).length<=128*(t+1+1):=Zzl hfl (by omega);obtain⟨M',q4,q5,q6,f,T''⟩:=Zjd hL n (t+1) _ p4 (some (.pl (dN (t+1)))) p6 T' hM1 (by omega);refine⟨M',q4,q5,q6,?_,by rw[show t+(n+1)=t+1+n by omega]; exact T''⟩;rw[List.range'_succ,ZyH,<-f];show(match Zcc [some (.pl w.d),some (.pl (tupI ls)),some (.pl (.list (L.map tupI))),some (.ot (encM M)),o4,some (.pl (dN (t+1))),o6]with | some (.nx r')=>_ | some (.ct r')=>_ | some (.bk r')=>_ | some (.rt d)=>_ | none=>_)=_;rw[e]
end
theorem Zre(n:Nat):ZbK 1 n=(ZCo 1 n).map dN:=by unfold ZbK;rw[List.range'_eq_map_range,ZyV];refine Zz9 λk _=>?_;show Zze (1+(k:Int))=Zze ((1+k:Nat):Int);congr 1
section
variable{w:Wk}(hv:Wk.V w)(h7:w.many<=7){ls:List Int}(hl:Cr w.looks.length ls)
include hv h7 hl
theorem Zox:∃L M,Zdd [w.d,tupI ls]=some (.dict (Zk (encM M)))/\Zeu w ls L/\ZcT w ls L/\(∀p∈Zq w ls w.beg,p∈L)/\Zfq w ls L L.length M:=by
 obtain⟨L,hall,I,hL,hbeg⟩:=Zrd hv h7 hl;have hlen:=I.len h7;have hLb:L.length<1000000:=by omega
 obtain⟨p4,e0⟩:=ZlQ hv h7 hl I (some (.pl (.list (L.map tupI)))) none none L [] none (λ_ h=>h) (by simp; omega);have hm0:(M0 w L).length<=L.length:=by unfold M0;have h1:=ZgH 0 (L.filter λc=>Z2 w c) [];have h2:=Zzu (λc=>Z2 w c) L;exact Zzl h1 (by rw[ZC3]; omega)
 obtain⟨M,q4,q5,q6,f,T⟩:=Zjd hv h7 hl I hL L.length 0 (M0 w L) p4 none none Zks (by omega) (by omega);rw[Nat.zero_add]at T;refine⟨L,M,?_,I,hL,hbeg,T⟩;have hok1:okR 1=true:=rfl;have hok:okR ((L.length:Int)+1)=true:=by
  have:=ZcI (n:=L.length+1) (by omega)
  rwa [show((L.length+1:Nat):Int)=(L.length:Int)+1 by omega]at this
 have hr:ZbK 1 ((L.length:Int)+1-1).toNat=(ZCo 1 L.length).map dN:=by rw[show((L.length:Int)+1-1).toNat=L.length by omega,Zre]
 show Zar (Zeg [some (.pl w.d),some (.pl (tupI ls)),none,none,none,none,none])=_;have e:Zeg [some (.pl w.d),some (.pl (tupI ls)),none,none,none,none,none]=some (.rt (.dict (Zk (encM M)))):=by
  unfold Zeg;refine ZW (P:=λq=>q=_) (r':=[some (.pl w.d),some (.pl (tupI ls)),some (.pl (.list (L.map tupI))),none,none,none,none]) (by simp[hall]) ?_;refine ZW (P:=λq=>q=_) (r':=[some (.pl w.d),some (.pl (tupI ls)),some (.pl (.list (L.map tupI))),some (.ot (encM [])),none,none,none]) (by simp[encM]) ?_;refine ZW (P:=λq=>q=_) (r':=[some (.pl w.d),some (.pl (tupI ls)),some (.pl (.list (L.map tupI))),some (.ot (encM (M0 w L))),p4,none,none]) (by simp[hLb,e0,M0]) ?_;refine ZW (P:=λq=>q=_) (r':=[some (.pl w.d),some (.pl (tupI ls)),some (.pl (.list (L.map tupI))),some (.ot (encM M)),q4,q5,q6]) ?_ (by simp);have f':Z1 5 Zcc ((ZCo 1 L.length).map dN) [some (.pl w.d),some (.pl (tupI ls)),some (.pl (.list (L.map tupI))),some (.ot (encM (M0 w L))),p4,none,none]=some (.nx [some (.pl w.d),some (.pl (tupI ls)),some (.pl (.list (L.map tupI))),some (.ot (encM M)),q4,q5,q6]):=f;have ei:Zjx (eC (.int 1)) (op2 Zbb (ZaJ (Zo 2)) (eC (.int 1))) [some (.pl w.d),some (.pl (tupI ls)),some (.pl (.list (L.map tupI))),some (.ot (encM (M0 w L))),p4,none,none]=some ((ZCo 1 L.length).map dN):=by simp[hok1,hok];rw[show((L.length:Int)+1-1).toNat=L.length by omega]at hr;exact hr
  unfold Za2;rw[ei];dsimp only;rw[if_pos (by rw[ZyA,List.length_range']; exact hLb)];exact f'
 rw[e];rfl
end
def Zty(w:Wk)(ls:List Int)(n:Nat):Prop:=∀p∈Zq w ls w.beg,Win w ls n p=true
def Few(w:Wk)(ls:List Int)(d:D):Prop:=(∃n:Nat,d=.int n/\Zty w ls n/\∀m,m<n->¬Zty w ls m)\/(d=.none/\∀n,¬Zty w ls n)
theorem Few.unique{w:Wk}{ls:List Int}{d e:D}(h1:Few w ls d)(h2:Few w ls e):d=e:=by
 rcases h1 with⟨n,rfl,a1,a2⟩ | ⟨rfl,a⟩
 ·rcases h2 with⟨m,rfl,b1,b2⟩ | ⟨rfl,b⟩
  ·have:n=m:=by
    rcases Nat.lt_trichotomy n m with h | h | h
    ·exact absurd a1 (b2 n h)
    ·exact h
    ·exact absurd b1 (a2 m h)
   rw[this]
  ·exact absurd a1 (b n)
 ·rcases h2 with⟨m,rfl,b1,b2⟩ | ⟨rfl,b⟩
  ·exact absurd b1 (a m)
  ·rfl
section
variable{w:Wk}(hv:Wk.V w)(h7:w.many<=7){ls:List Int}(hl:Cr w.looks.length ls)
include hv h7 hl
theorem ZmP:∃d,Zau [w.d,tupI ls]=some d/\Few w ls d:=by
 obtain⟨L,M,hco,I,hL,hbeg,T⟩:=Zox hv h7 hl;have hlen:=I.len h7;have hs:=Zez hv hl hv.bc;have hbl:=hv.bc.len;have hsb:(ZQ w ls w.beg).length<1000000:=by unfold ZQ;rw[ZyA,(Za8 _).length_eq,ZyA];have:=ZfC _ _ _ (ZcG (Zx w ls) w.beg);omega
 have hlook:∀p∈Zq w ls w.beg,Zi M p=Zcr w ls L.length p:=λp hp=>by rw[T.look,if_pos (hbeg p hp)]
 have e1:∀r:HM.Env,r[2]?=some (some (.pl (.dict (Zk (encM M)))))->ZcB Zaa (ZiZ (Zo 4) (Zb 1) (eC (.int 999))) r ((ZQ w ls w.beg).map ZaF)=some (((Zq w ls w.beg).map λp=>(Zi M p).getD 999).map dI):=λr r2=>by
  have e:=Ze8 (c:=Zaa) (e:=ZiZ (Zo 4) (Zb 1) (eC (.int 999))) (r:=r) (λp:List Int × List Int=>tupI p.1) (λp=>tupI p.2) (λ_=>true) (λp=>dI ((Zi M p.2).getD 999)) (ZQ w ls w.beg) (λp _=>rfl) (λp _ _=>by
   have hk:ZaS (tupI p.2)=some (Zad p.2):=ZaK p.2;have hlk:=ZcN M p.2;cases hq:Zi M p.2 with
   | none=>rw[hq]at hlk; simp[r2,dec_enc,hk,hlk]
   | some k=>rw[hq]at hlk; simp[r2,dec_enc,hk,hlk])
  rw[ZAa.mpr λ_ _=>rfl]at e;have e':((ZQ w ls w.beg).map λp:List Int × List Int=>Zzf [tupI p.1,tupI p.2])=(ZQ w ls w.beg).map ZaF:=rfl;rw[<-e',e];unfold Zq;rw[ZyV,ZyV];rfl
 have hne:(Zq w ls w.beg).map (λp=>(Zi M p).getD 999)≠[]:=λe=>Zgw hv.b1 (ZCi.mp e);obtain⟨m,hm⟩:∃m,((Zq w ls w.beg).map λp=>(Zi M p).getD 999).max?=some m:=by
  cases q:((Zq w ls w.beg).map λp=>(Zi M p).getD 999).max? with
  | none=>rw[ZB4]at q; exact absurd q hne
  | some m=>exact⟨m,rfl⟩
 obtain⟨m1,m2⟩:=ZB2.mp hm;have i0:Za9 (.pl w.d)=some [Zze w.many,.tuple (w.deeds.map ZN),.tuple (w.looks.map tupI),tupI w.beg,tupI w.goal]:=rfl;have ecs:∀tl:Option D,Zfd [some (.pl w.d),some (.pl (tupI ls)),none,none]=(if m=999 then some (.rt .none)else some (.rt (.int m))):=λ_=>by
  unfold Zfd;refine ZW (P:=λq=>q=_) (r':=[some (.pl w.d),some (.pl (tupI ls)),some (.pl (.dict (Zk (encM M)))),none]) (by simp[hco]) ?_;refine ZW (P:=λq=>q=_) (r':=[some (.pl w.d),some (.pl (tupI ls)),some (.pl (.dict (Zk (encM M)))),some (.ol (((Zq w ls w.beg).map λp=>(Zi M p).getD 999).map dI))]) (by simp[i0,hs,hsb,e1,-Za9]; simp[hs,hsb,e1]) ?_;generalize hcs:(Zq w ls w.beg).map (λp=>(Zi M p).getD 999)=cs at *
  by_cases hq:m=999
  ·rw[if_pos hq]
   subst hq;simp[ZbR,hm]
  ·rw[if_neg hq]
   have hq':(m==999)=false:=by simp[hq]
   simp[ZbR,hm,hq']
 have hend:Zau [w.d,tupI ls]=Zar (if m=999 then some (.rt .none)else some (.rt (.int m))):=by rw[<-ecs none];rfl
 by_cases hq:m=999
 ·rw[if_pos hq]at hend
  refine⟨.none,hend,.inr ⟨rfl,λn hn=>?_⟩⟩;subst hq;obtain⟨p,hp,e⟩:=ZyN.mp m1;rw[hlook p hp]at e;have hwin:Win w ls L.length p=true:=Zvj hL (hbeg p hp) (hn p hp);rw[<-Zcl]at hwin;obtain⟨k,hk⟩:=Zzm.mp hwin;obtain⟨j,rfl,hj,_⟩:=Zes hk;rw[hk]at e;have:((j:Nat):Int)=999:=e;omega
 ·rw[if_neg hq]at hend
  have hall:∀p∈Zq w ls w.beg,∃n:Nat,Zi M p=some (n:Int)/\(n:Int)<=m/\Win w ls n p=true/\∀j,j<n->Win w ls j p=false:=λp hp=>by
   have hle:=m2 _ (ZyN.mpr ⟨p,hp,rfl⟩);cases hk:Zi M p with
   | none =>
    rw[hk]at hle;have hle:(999:Int)<=m:=hle;obtain⟨p',hp',e⟩:=ZyN.mp m1;cases hk':Zi M p' with
    | none=>rw[hk']at e; exact absurd e.symm hq
    | some k'=>rw[hk']at e;rw[hlook p' hp']at hk';obtain⟨j,rfl,hj,_⟩:=Zes hk';have:((j:Nat):Int)=m:=e;omega
   | some k=>rw[hk]at hle;have hk0:=hk;rw[hlook p hp]at hk;obtain⟨n,rfl,_,h2,h3⟩:=Zes hk;exact⟨n,rfl,hle,h2,h3⟩
  obtain⟨p,hp,e⟩:=ZyN.mp m1;obtain⟨n,k1,k2,k3,k4⟩:=hall p hp;rw[k1]at e;have e:(n:Int)=m:=e;subst e;refine⟨_,hend,.inl ⟨n,rfl,λq hq'=>?_,λj hj hw=>?_⟩⟩
  ·obtain⟨n',a1,a2,a3,_⟩:=hall q hq'
   exact Zfb (by omega) a3
  ·have:=hw p hp
   rw[k4 j hj]at this;cases this
end
end HG5
namespace HG5
open PySem HM HG
def Zpf:SF :=
 (ZC (eIx (Zo 0) (eC (.int 3))))
def ZdJ:List D->Option D:=fnOf 1 1 Zpf
def ZqA:SF :=
 (ZC (eIx (Zo 0) (eC (.int 4))))
def Zdr:List D->Option D:=fnOf 1 1 ZqA
def ZjW:SF :=
 (ZC (Zjb (ZL (Z4 (bOf (Zb 1))) Zaa (ZoD (Zb 0) (bOf (Zl Zdr (Zd (Zb 1) Zn)))))))
def ZbA:List D->Option D:=fnOf 2 2 ZjW
def ZiD:SF :=
 (ZC (eOf (ZL (Z4 (bOf (Zb 0))) Zaa (eIx (Zo 0) (eC (.int 1))))))
def ZK:List D->Option D:=fnOf 1 1 ZiD
def Zb4(ap:AP):SF :=
 (Zjr 3 (ZiW ZK (Zd (eIx (Zo 5) (eC (.int 1))) Zn)))
def Zbw(ap:AP):SF :=
 (Zr (Ztp 4 3)
  (sIf (tV (Zce (Zb 4) (Zo 2))) (Zr (Zhd 2 (Zb 4) (Zgp ap 1 (Zd (Zb 4) Zn)))
  (Za2 5 (Z4 (bOf (Zbt (Zo 2) (Zb 4)))) (Zb4 ap))) Zae))
def Zc5(ap:AP):SF :=
 (Zr (ZT 2 fDt)
  (Zr (ZT 3 (ZhA (Zo 0)))
  (Zr (Zk8 100000 (tV (op2 gGt (ZaJ (Zo 3)) (eC (.int 0)))) (Zbw ap))
  (ZeJ 2 (ZC (Zb 2))))))
def ZbM(ap:AP):List D->Option D:=fnOf 2 6 (Zc5 ap)
def Zfe(ap:AP):SF :=
 (Zr (ZT 3 (ZL (Z4 (bOf (Zb 0))) Zaa (Zgp ap 3 (Zd (Zb 0) (Zd (Zb 2) Zn)))))
  (ZeJ 3 (ZC (ZfH (ZL (Z4 (bOf (Zb 3))) (tV (op2 ZeY (Zb 0) (eC .none))) (Zb 0))))))
def ZbN(ap:AP):List D->Option D:=fnOf 3 4 (Zfe ap)
def Z3(ap:AP):SF :=
 (sIf (tV (Zce (Zb 4) (Zo 1))) (Zr (Z0 5 (Zl (ZbN ap) (Zd (Zbt (Zo 0) (Zb 4)) (Zd (Zb 1) (Zd (Zb 2) Zn)))))
  (sIf (tV (op2 ZeY (Zb 5) (eC .none))) (Zhd 3 (Zb 4) (Zb 5)) Zae)) Zae)
def Zbq(ap:AP):List D->Option (List (List Ky × D)):=newOf 3 6
 (Zku (ZT 3 fDt)
 (Zku (ZeZ 0 (Za2 4 (Zbf 0) (Z3 ap)))
 (ZnO 3)))
def Zde(ap:AP):SF :=
 (Zhd 3 (Zb 6) (Zb 4))
def Zdf(ap:AP):SF :=
 (Zr (ZeJ 5 (Za2 6 (Z4 (bOf (Zb 5))) (Zde ap)))
  (Zr (ZT 7 (Zi8 (Zbq ap) (Zd (Zb 1) (Zd (Zm3 (Zo 3)) (Zd (Zb 2) Zn)))))
  (Zr (ZeJ 7 (ZeZ 7 (Z0 4 (ZfH (ZL (Zbf 7) Zaa (Zbt (Zo 8) (Zb 0)))))))
  (ZeJ 7 (ZeZ 7 (ZT 5 (ZL (Zbf 7) (tV (op2 gEq (Zbt (Zo 8) (Zb 0)) (Zb 5))) (Zb 0))))))))
def ZeT(ap:AP):SF :=
 (Zr (ZT 3 fDt)
  (Zr (Z0 4 (eC (.int 0)))
  (Zr (ZeZ 1 (ZT 5 (ZL (Zbf 1) (tV (Zl ZbA (Zd (Zb 1) (Zd (Zb 0) Zn)))) (Zb 0))))
  (Zr (Zk8 100000 (tV (op2 gGt (ZaJ (Zo 5)) (eC (.int 0)))) (Zdf ap))
  (ZeJ 3 (ZC (Zb 3)))))))
def ZcY(ap:AP):List D->Option D:=fnOf 3 8 (ZeT ap)
def ZdT:SF :=
 (Zr (ZT 2 (ZL (Z4 (bOf (Zl ZK (Zd (Zb 0) Zn)))) (tV (Zn0 (Zb 0) (Zo 2))) (Zbt (Zo 2) (Zb 0))))
  (ZC (eIf (tV (op2 gEq (ZaJ (Zo 2)) (ZaJ (Zo 0)))) (Zh0 (Zo 2)) (eC .none))))
def Zaf:List D->Option D:=fnOf 2 3 ZdT
def ZiE:SF :=
 (ZC (eOf (ZL (Z4 (bOf (Zl Zca (Zd (Zb 0) (Zd (Zb 2) Zn))))) Zaa (Zg8 (Zd (Zb 0) (Zd (Zl Zbd (Zd (Zb 1) (Zd (Zb 2) (Zd (Zl Zda (Zd (Zb 1) (Zd (Zb 3) (Zd (Zb 0) Zn)))) Zn)))) Zn))))))
def ZaZ:List D->Option D:=fnOf 3 3 ZiE
def ZeA(ap:AP):SF :=
 (ZC (Zie (ZbM ap) 1 [0,1] (Zl ZK (Zd (Zl Zbd (Zd (Zb 0) (Zd (Zb 1) (Zd (Zb 2) Zn)))) Zn))))
def Zcy(ap:AP):List D->Option D:=fnOf 3 3 (ZeA ap)
def ZgO:SF :=
 (Zr (Z0 2 (Zl Zaf (Zd (eIx (Zo 0) (eC (.int 1))) (Zd (Zb 1) Zn))))
  (ZC (eIf (tV (op2 Zi9 (Zb 2) (eC .none))) (eC .none) (op2 Zbb (Zb 2) (eC (.int 1))))))
def ZcZ:List D->Option D:=fnOf 2 3 ZgO
def ZfR(ap:AP):SF :=
 (ZC (Zl (ZcY ap) (Zd (Zb 0) (Zd (Zb 1) (Zd (eC (fnD 0 [])) Zn)))))
def Zdg(ap:AP):List D->Option D:=fnOf 2 2 (ZfR ap)
def ZiF(ap:AP):SF :=
 (Zr (ZkJ (Zl Za4 (Zd (Zb 0) Zn)))
  (Zr (ZkJ (Zl Zbv (Zd (Zb 0) (Zd (Zb 1) Zn))))
  (Zr (Z0 2 (Zl ZdJ (Zd (Zb 0) Zn)))
  (Zr (Z0 3 (Zl (Zdg ap) (Zd (Zb 0) (Zd (Zl (Zcy ap) (Zd (Zb 0) (Zd (Zb 1) (Zd (Zb 2) Zn)))) Zn))))
  (ZC (Zl Zaf (Zd (Zl Zbd (Zd (Zb 0) (Zd (Zb 1) (Zd (Zb 2) Zn)))) (Zd (Zb 3) Zn))))))))
def ZaB(ap:AP):List D->Option D:=fnOf 2 4 (ZiF ap)
end HG5
namespace HG5
open PySem HM HG HG4
theorem Zyx(w:Wk):Za9 (.pl w.d)=some [Zze w.many,.tuple (w.deeds.map ZN),.tuple (w.looks.map tupI),tupI w.beg,tupI w.goal]:=rfl
theorem ZpV(w:Wk):ZdJ [w.d]=some (tupI w.beg):=rfl
theorem Zrt(w:Wk):Zdr [w.d]=some (tupI w.goal):=rfl
theorem ZtF{α:Type}(xs:List α)(p:α->Bool):Zfa (xs.map λx=>Zz4 (p x))=some (xs.map p):=by
 have:=ZfB (xs.map p)
 rwa [ZyV]at this
theorem ZpN{w:Wk}{c:List Int}(hc:c.length<1000):ZbA [w.d,tupI c]=some (.bool (Z2 w c)):=by
 have hb:c.length<1000000:=by omega
 have e:∀r:HM.Env,r[0]?=some (some (.pl w.d))->Zax Zaa (ZoD (Zb 0) (bOf (Zl Zdr (Zd (Zb 1) Zn)))) r (c.map dI)=some (c.map λs=>Zz4 (w.goal.contains s)):=λr r0=>by
  rw[Zbz dI (λs=>Zz4 (w.goal.contains s))]
  ·intro s _
   simp[r0,Zrt,ZnP,ZbR,-ZAk]
 simp[ZbA,ZjW,hb,e,ZtF,Z2,-ZAk]
theorem Zgm(g:Gs)(h:g.length<1000000):ZK [.list (g.map ZaF)]=some (.list ((g.map (·.2)).map tupI)):=by
 have e:∀r:HM.Env,Zax Zaa (eIx (Zo 0) (eC (.int 1))) r (g.map ZaF)=some ((g.map (·.2)).map tupI):=λr=>by
  rw[Zbz ZaF (λp=>tupI p.2),ZyV]
  ·rfl
  ·intro p _
   rfl
 simp[ZK,ZiD,h,e]
def Zrp(w:Wk)(ls c:List Int)(d:Int):D:=.tuple [dI d,.list ((ZQ w ls (ZH w c d)).map ZaF)]
def Zm4(w:Wk)(ls c:List Int):D:=.list ((doV w c).map (Zrp w ls c))
theorem split_len{w:Wk}{ls c:List Int}:(ZQ w ls c).length<=c.length:=by unfold ZQ;rw[ZyA,(Za8 _).length_eq,ZyA];exact ZfC _ _ _ (ZcG (Zx w ls) c)
theorem ZlC(w:Wk)(c:List Int):(doV w c).length<=w.deeds.length:=by
 unfold doV;rw[ZyA];have:=Zzu (λ(d:Nat)=>Zam w c (d:Int)) (ZyF w.deeds.length)
 rwa [Zz6]at this
theorem Zp0{w:Wk}{c:List Int}{d:Nat}(hd:d<w.deeds.length)(hc:Zam w c d=true):(d:Int)∈doV w c:=by unfold doV;exact ZyN.mpr ⟨d,Zza.mpr ⟨ZyZ.mpr hd,hc⟩,rfl⟩
section
variable{w:Wk}(hv:Wk.V w){ls:List Int}(hl:Cr w.looks.length ls)
include hv hl
theorem Zob{c:List Int}(hc:Cr w.many c):ZaZ [w.d,tupI ls,tupI c]=some (Zm4 w ls c):=by
 have hdo:=ZmU hv hc;have hb:(doV w c).length<1000000:=by have:=ZlC w c; have:=hv.d2; omega
 have e:∀r:HM.Env,r[0]?=some (some (.pl w.d))->r[1]?=some (some (.pl (tupI ls)))->r[2]?=some (some (.pl (tupI c))) ->
   Zax Zaa (Zg8 (Zd (Zb 0) (Zd (Zl Zbd (Zd (Zb 1) (Zd (Zb 2) (Zd (Zl Zda (Zd (Zb 1) (Zd (Zb 3) (Zd (Zb 0) Zn)))) Zn)))) Zn))) r ((doV w c).map dI)=some ((doV w c).map (Zrp w ls c)):=λr r0 r1 r2=>by
  rw[Zbz dI (Zrp w ls c)];intro d hd;obtain⟨d0,d1,_⟩:=ZeH hd;have h1:=ZsR hv hc d0 d1;have h2:=Zji hv hl (Zd7 hv hc d0 d1);simp[r0,r1,r2,h1,h2,Zrp]
 simp[ZaZ,ZiE,hdo,hb,e,Zm4]
end
end HG5
namespace HG5
open PySem HM HG HG4
abbrev Wy:=D × Gs
def wyD(y:Wy):D:=.tuple [y.1,.list (y.2.map ZaF)]
def wyP(y:Wy):List (List Int):=y.2.map (·.2)
abbrev Wf:=List Int->List Wy
inductive Zlz(wf:Wf)(B:List (List Int)):List Int->Prop where
 | beg {p:List Int} (h:p∈B):Zlz wf B p
 | step {c p:List Int} {y:Wy} (r:Zlz wf B c) (hy:y∈wf c) (h:p∈wyP y):Zlz wf B p
structure Zhc(wf:Wf)(Ok:List Int->Prop)(B C W:List (List Int)):Prop where
 nd:C.Nodup
 cr:∀c∈C,Ok c
 wr:∀c∈W,Ok c
 rc:∀c∈C,Zlz wf B c
 rw:∀c∈W,Zlz wf B c
 cl:∀c∈C,∀y∈wf c,∀p∈wyP y,p∈C\/p∈W
 bg:∀p∈B,p∈C\/p∈W
def Zw(wf:Wf)(C:List (List Int)):List (List Ky × D):=C.map λc=>(Zad c,.list ((wf c).map wyD))
theorem ZiR(wf:Wf)(C:List (List Int))(k:List Int):Zi (Zw wf C) (Zad k)=if k∈C then some (.list ((wf k).map wyD))else none:=by
 unfold Zi Zw
 induction C with
 | nil=>rfl
 | cons c C ih =>
  rw[ZyH,Zzy]
  by_cases h:c=k
  ·subst h
   rw[if_pos (ZyE ..)];simp
  ·have h':decide ((Zad c,(PyData.list ((wf c).map wyD))).1=Zad k)=false:=decide_eq_false λe=>h (Zgs e)
   rw[h'];dsimp only;rw[ih]
   by_cases q:k∈C
   ·rw[if_pos q,if_pos (ZyD _ q)]
   ·rw[if_neg q,if_neg λz=>by
     rcases ZyY.mp z with e | e
     ·exact h e.symm
     ·exact q e]
theorem Zuk{wf:Wf}{C:List (List Int)}{k:List Int}(h:k ∉ C):putD (Zw wf C) (Zad k) (.list ((wf k).map wyD))=Zw wf (C++[k]):=by
 unfold putD;rw[if_neg]
 ·unfold Zw
  rw[Zzd];rfl
 ·intro z
  obtain⟨p,hp,e⟩:=ZzH.mp z;unfold Zw at hp;obtain⟨c,hc,rfl⟩:=ZyN.mp hp;have e:=Zgs (of_decide_eq_true e);subst e;exact h hc
theorem Zmk(wf:Wf)(L:List (List Int)):((Zw wf L).map λp=>Zzf (p.1.map ZaE))=L.map tupI:=by unfold Zw;rw[ZyV];refine Zz9 λc _=>?_;show Zzf ((c.map ZAu).map ZaE)=Zzf (c.map dI);rw[ZyV];rfl
def ZlM(wf:Wf)(c:List Int):List (List Int):=(wf c).flatMap wyP
theorem Zhc.old{wf:Wf}{Ok:List Int->Prop}{B C V:List (List Int)}{p:List Int}(I:Zhc wf Ok B C (V++[p]))(hp:p∈C):Zhc wf Ok B C V:=by
 have key:∀q,q∈C\/q∈V++[p]->q∈C\/q∈V:=λq h=>by
  rcases h with h | h
  ·exact .inl h
  ·rcases Zy6.mp h with h | h
   ·exact .inr h
   ·rw[ZyW.mp h]; exact .inl hp
 exact⟨I.nd,I.cr,λc h=>I.wr c (Zzg _ h),I.rc,λc h=>I.rw c (Zzg _ h),λc hc y hy q hq=>key q (I.cl c hc y hy q hq),λq hq=>key q (I.bg q hq)⟩
structure Zrj(wf:Wf)(Ok:List Int->Prop):Prop where
 ok:∀c,Ok c->∀y∈wf c,∀p∈wyP y,Ok p
 ys:∀c,Ok c->(wf c).length<=10
 ps:∀c,Ok c->∀y∈wf c,y.2.length<=8
 cs:∀C:List (List Int),C.Nodup->(∀c∈C,Ok c)->C.length<=128
theorem Zhc.new{wf:Wf}{Ok:List Int->Prop}(O:Zrj wf Ok){B C V:List (List Int)}{p:List Int}(I:Zhc wf Ok B C (V++[p]))(hp:p ∉ C):Zhc wf Ok B (C++[p]) (V++ZlM wf p):=by
 have hpc:=I.wr p (Zy5 _ (ZyW.mpr rfl));have hpr:=I.rw p (Zy5 _ (ZyW.mpr rfl));have key:∀q,q∈C\/q∈V++[p]->q∈C++[p]\/q∈V++ZlM wf p:=λq h=>by
  rcases h with h | h
  ·exact .inl (Zzg _ h)
  ·rcases Zy6.mp h with h | h
   ·exact .inr (Zzg _ h)
   ·exact .inl (Zy5 _ h)
 refine⟨?_,λc h=>?_,λc h=>?_,λc h=>?_,λc h=>?_,λc h y hy q hq=>?_,λq hq=>key q (I.bg q hq)⟩
 ·rw[ZAU]
  refine⟨I.nd,by simp,λx hx y hy e=>?_⟩;rw[ZyW.mp hy]at e;exact hp (e▸hx)
 ·rcases Zy6.mp h with h | h
  ·exact I.cr c h
  ·rw[ZyW.mp h]; exact hpc
 ·rcases Zy6.mp h with h | h
  ·exact I.wr c (Zzg _ h)
  ·obtain⟨y,hy,hq⟩:=ZA0.mp h
   exact O.ok p hpc y hy c hq
 ·rcases Zy6.mp h with h | h
  ·exact I.rc c h
  ·rw[ZyW.mp h]; exact hpr
 ·rcases Zy6.mp h with h | h
  ·exact I.rw c (Zzg _ h)
  ·obtain⟨y,hy,hq⟩:=ZA0.mp h
   exact .step hpr hy hq
 ·rcases Zy6.mp h with h | h
  ·exact key q (I.cl c h y hy q hq)
  ·rw[ZyW.mp h]at hy
   exact .inr (Zy5 _ (ZA0.mpr ⟨y,hy,hq⟩))
theorem Ztd{wf:Wf}{Ok:List Int->Prop}(O:Zrj wf Ok){c:List Int}(hc:Ok c):(ZlM wf c).length<=80:=by
 have key:∀ys:List Wy,(∀y∈ys,y∈wf c)->(ys.flatMap wyP).length<=8*ys.length:=by
  intro ys
  induction ys with
  | nil=>intro _; exact ZyI 0
  | cons y ys ih =>
   intro h;rw[List.flatMap_cons,ZyS,ZyP];have h1:=ih λx hx=>h x (ZyD _ hx);have h2:=O.ps c hc y (h y (ZyE ..));have h3:(wyP y).length=y.2.length:=by unfold wyP; rw[ZyA]
   omega
 have h1:=key (wf c) λ_ h=>h;have h2:=O.ys c hc;unfold ZlM;omega
theorem Zse(ap:AP)(e0 e1 e2 e4:Option B):∀(ys:List Wy) (W:List (List Int)) (o:Option B),(∀y∈ys,y.2.length<=8)->W.length+8*ys.length<900000 ->
  ∃o',Z1 5 (Zb4 ap) (ys.map wyD) [e0,e1,e2,some (.ol (W.map tupI)),e4,o]=some (.nx [e0,e1,e2,some (.ol ((W++ys.flatMap wyP).map tupI)),e4,o'])
 | [],W,o,_,_=>⟨o,by rw[List.flatMap_nil,Zzb]; rfl⟩
 | y::ys,W,o,hds,hlen=>by
  rw[ZyP]at hlen;have hb:=hds y (ZyE ..);have hci:=Zgm y.2 (by omega);have hpl:(wyP y).length<=8:=by unfold wyP; rw[ZyA]; exact hb
  have body:Zb4 ap [e0,e1,e2,some (.ol (W.map tupI)),e4,some (.pl (wyD y))]=some (.nx [e0,e1,e2,some (.ol ((W++wyP y).map tupI)),e4,some (.pl (wyD y))]):=by
   have h1:ZiW ZK (Zd (eIx (Zo 5) (eC (.int 1))) Zn) [e0,e1,e2,some (.ol (W.map tupI)),e4,some (.pl (wyD y))]=some (.ol ((wyP y).map tupI)):=by unfold ZiW;show(match ZK [.list (y.2.map ZaF)]with | some (.list ys)=>some (B.ol ys) | _=>none)=_;rw[hci];rfl
   unfold Zb4 Zjr;rw[h1];show(if _ then _ else _)=_;rw[if_pos (by rw[ZyA,ZyA]; show _<1000000; omega),Zzd];rfl
  obtain⟨o',ih⟩:=Zse ap e0 e1 e2 e4 ys (W++wyP y) (some (.pl (wyD y))) (λx hx=>hds x (ZyD _ hx)) (by rw[ZyS]; omega);refine⟨o',?_⟩;rw[List.flatMap_cons,<-ZzT,<-ih,ZyH];show(match Zb4 ap [e0,e1,e2,some (.ol (W.map tupI)),e4,some (.pl (wyD y))]with | some (.nx r')=>_ | some (.ct r')=>_ | some (.bk r')=>_ | some (.rt d)=>_ | none=>_)=_;rw[body]
theorem ZjY(wf:Wf)(C:List (List Int))(p:List Int)(r:HM.Env)(i j:Nat)(h1:r[i]?=some (some (.pl (tupI p))))(h2:r[j]?=some (some (.ot (Zw wf C)))):tV (Zce (Zb i) (Zo j)) r=some (!decide (p∈C)):=by
 have hk:ZaS (tupI p)=some (Zad p):=ZaK p;have hlk:=ZiR wf C p
 by_cases hp:p∈C
 ·rw[if_pos hp]at hlk
  simp[h1,h2,hk,hlk,hp]
 ·rw[if_neg hp]at hlk
  simp[h1,h2,hk,hlk,hp]
theorem Zqq(t:Nat)(cs:List D):ZlK (fnD t cs)=some (t,cs):=rfl
section
variable{ap:AP}{wf:Wf}{Ok:List Int->Prop}(O:Zrj wf Ok){t:Nat}{cs:List D}(ha:∀c,Ok c->ap t cs [tupI c]=some (.list ((wf c).map wyD)))
include O ha
omit ha O in
theorem ZtQ{C V:List (List Int)}{p:List Int}(e0 e1 o4 o5:Option B)(hp:p∈C) :
  Zbw ap [e0,e1,some (.ot (Zw wf C)),some (.ol ((V++[p]).map tupI)),o4,o5]=some (.nx [e0,e1,some (.ot (Zw wf C)),some (.ol (V.map tupI)),some (.pl (tupI p)),o5]):=by
 unfold Zbw;refine ZW (P:=λq=>q=_) (r':=[e0,e1,some (.ot (Zw wf C)),some (.ol (V.map tupI)),some (.pl (tupI p)),o5]) ?_ ?_
 ·rw[Zzd]
  simp
 ·have ht:=ZjY wf C p [e0,e1,some (.ot (Zw wf C)),some (.ol (V.map tupI)),some (.pl (tupI p)),o5] 4 2 rfl rfl
  rw[decide_eq_true hp]at ht;unfold sIf;rw[ht];rfl
theorem Zt3{C V:List (List Int)}{p:List Int}(e0 o4 o5:Option B)(hp:p ∉ C)(hc:Ok p)(hC:C.length<1000)(hV:V.length<100000) :
  ∃o5',Zbw ap [e0,some (.pl (fnD t cs)),some (.ot (Zw wf C)),some (.ol ((V++[p]).map tupI)),o4,o5]=some (.nx [e0,some (.pl (fnD t cs)),some (.ot (Zw wf (C++[p]))),some (.ol ((V++ZlM wf p).map tupI)),some (.pl (tupI p)),o5']):=by
 have hdl:=O.ys p hc;obtain⟨o5',go⟩:=Zse ap e0 (some (.pl (fnD t cs))) (some (.ot (Zw wf (C++[p])))) (some (.pl (tupI p))) (wf p) V o5 (λy hy=>O.ps p hc y hy) (by omega);refine⟨o5',?_⟩;unfold Zbw;refine ZW (P:=λq=>q=_) (r':=[e0,some (.pl (fnD t cs)),some (.ot (Zw wf C)),some (.ol (V.map tupI)),some (.pl (tupI p)),o5]) ?_ ?_
 ·rw[Zzd]
  simp
 ·have ht:=ZjY wf C p [e0,some (.pl (fnD t cs)),some (.ot (Zw wf C)),some (.ol (V.map tupI)),some (.pl (tupI p)),o5] 4 2 rfl rfl
  rw[decide_eq_false hp]at ht;unfold sIf;rw[ht];show Zr _ _ _=_;have hk:ZaS (tupI p)=some (Zad p):=ZaK p;have hww:=ha p hc;have hcl:(Zw wf C).length<1000000:=by unfold Zw; rw[ZyA]; omega
  refine ZW (P:=λq=>q=_) (r':=[e0,some (.pl (fnD t cs)),some (.ot (Zw wf (C++[p]))),some (.ol (V.map tupI)),some (.pl (tupI p)),o5]) ?_ ?_
  ·rw[<-Zuk hp]
   have hv:Zgp ap 1 (Zd (Zb 4) Zn) [e0,some (.pl (fnD t cs)),some (.ot (Zw wf C)),some (.ol (V.map tupI)),some (.pl (tupI p)),o5]=some (.list ((wf p).map wyD)):=by unfold Zgp;show(match ZlK (fnD t cs)with | some (t,cs)=>_ | none=>none)=_;rw[Zqq];exact hww
   unfold Zhd;rw[hv];show(match ZaS (tupI p)with | some y=>_ | none=>none)=_;rw[hk];dsimp only;rw[if_pos (show _<big from hcl)];rfl
  ·have hlk:=ZiR wf (C++[p]) p
   rw[if_pos (Zy5 _ (ZyW.mpr rfl))]at hlk;have hi:Z4 (bOf (Zbt (Zo 2) (Zb 4))) [e0,some (.pl (fnD t cs)),some (.ot (Zw wf (C++[p]))),some (.ol (V.map tupI)),some (.pl (tupI p)),o5]=some ((wf p).map wyD):=by simp[hk,hlk]
   unfold Za2;rw[hi];dsimp only;rw[if_pos (by rw[ZyA]; show _<1000000; omega)];exact go
theorem ZeM(B:List (List Int))(e0:Option HM.B):∀(fuel:Nat) (C W:List (List Int)) (o4 o5:Option HM.B),Zhc wf Ok B C W->(128-C.length)*81+W.length<fuel->(128-C.length)*81+W.length<60000 ->
  ∃C' o4' o5',ZaW (tV (op2 gGt (ZaJ (Zo 3)) (eC (.int 0)))) (Zbw ap) fuel [e0,some (.pl (fnD t cs)),some (.ot (Zw wf C)),some (.ol (W.map tupI)),o4,o5]=some (.nx [e0,some (.pl (fnD t cs)),some (.ot (Zw wf C')),some (.ol []),o4',o5'])/\Zhc wf Ok B C' []
 | 0,C,W,o4,o5,I,h,_=>by omega
 | fuel+1,C,W,o4,o5,I,h,hW=>by
  have hlen:=O.cs C I.nd I.cr
  by_cases hw:W=[]
  ·subst hw
   refine⟨C,o4,o5,?_,I⟩;unfold ZaW;have ht:(tV (op2 gGt (ZaJ (Zo 3)) (eC (.int 0)))) [e0,some (.pl (fnD t cs)),some (.ot (Zw wf C)),some (.ol (([]:List (List Int)).map tupI)),o4,o5]=some false:=by simp
   rw[ht];rfl
  ·obtain⟨V,p,rfl⟩:∃V p,W=V++[p]:=⟨W.dropLast,W.getLast hw,(List.dropLast_concat_getLast hw).symm⟩
   rw[ZyS,ZzW]at h hW;have ht:(tV (op2 gGt (ZaJ (Zo 3)) (eC (.int 0)))) [e0,some (.pl (fnD t cs)),some (.ot (Zw wf C)),some (.ol ((V++[p]).map tupI)),o4,o5]=some true:=by simp
   by_cases hp:p∈C
   ·obtain⟨C',o4',o5',g,J⟩:=ZeM B e0 fuel C V (some (.pl (tupI p))) o5 (I.old hp) (by omega) (by omega)
    refine⟨C',o4',o5',?_,J⟩;unfold ZaW;rw[ht];dsimp only;rw[ZtQ e0 _ o4 o5 hp];exact g
   ·have hpc:=I.wr p (Zy5 _ (ZyW.mpr rfl))
    have J0:=I.new O hp;have hl2:=O.cs _ J0.nd J0.cr;rw[ZyS,ZzW]at hl2;have hbl:=Ztd O hpc;obtain⟨q5,e⟩:=Zt3 O ha (V:=V) e0 o4 o5 hp hpc (by omega) (by omega);obtain⟨C',o4',o5',g,J⟩:=ZeM B e0 fuel (C++[p]) (V++ZlM wf p) (some (.pl (tupI p))) q5 J0 (by rw[ZyS,ZyS,ZzW]; omega) (by rw[ZyS,ZyS,ZzW]; omega);refine⟨C',o4',o5',?_,J⟩;unfold ZaW;rw[ht];dsimp only;rw[e];exact g
theorem Zrg{B:List (List Int)}(hB:∀c∈B,Ok c)(hl:B.length<=100):∃L,ZbM ap [.list (B.map tupI),fnD t cs]=some (.dict (Zk (Zw wf L)))/\Zhc wf Ok B L []:=by
 have I0:Zhc wf Ok B [] B:=⟨.nil,λc h=>(by simp at h),hB,λc h=>(by simp at h),λc h=>.beg h,λc h=>(by simp at h),λp h=>.inr h⟩;obtain⟨L,o4,o5,g,J⟩:=ZeM O ha B (some (.pl (.list (B.map tupI)))) 100000 [] B none none I0 (by simp; omega) (by simp; omega);refine⟨L,?_,J⟩;show Zar (Zc5 ap [some (.pl (.list (B.map tupI))),some (.pl (fnD t cs)),none,none,none,none])=_;have e:Zc5 ap [some (.pl (.list (B.map tupI))),some (.pl (fnD t cs)),none,none,none,none]=some (.rt (.dict (Zk (Zw wf L)))):=by unfold Zc5;refine ZW (P:=λq=>q=_) (r':=[some (.pl (.list (B.map tupI))),some (.pl (fnD t cs)),some (.ot (Zw wf [])),none,none,none]) rfl ?_;refine ZW (P:=λq=>q=_) (r':=[some (.pl (.list (B.map tupI))),some (.pl (fnD t cs)),some (.ot (Zw wf [])),some (.ol (B.map tupI)),none,none]) rfl ?_;refine ZW (P:=λq=>q=_) g ?_;simp
 rw[e];rfl
end
theorem Zd3(n:Nat)(p:List Int):noF (n+1) (tupI p)=true:=by show(p.map dI).all (noF n)=true;rw[List.all_map];exact ZyL.mpr λx _=>by cases n<;>rfl
theorem ZuZ(n:Nat)(i:Int):noF n (.int i)=true:=by cases n<;>rfl
theorem Zd5{n:Nat}{ds:List D}(h:∀d∈ds,noF n d=true):noF (n+1) (.tuple ds)=true:=ZyL.mpr h
theorem Zoo{n:Nat}{ds:List D}(h:∀d∈ds,noF n d=true):noF (n+1) (.list ds)=true:=ZyL.mpr h
theorem Ztf(n:Nat)(p:List Int × List Int):noF (n+2) (ZaF p)=true:=Zd5 λd hd=>by
 rcases ZyY.mp hd with e | hd
 ·subst e; exact Zd3 n _
 ·rw[ZyW.mp hd]; exact Zd3 n _
theorem Zwm{n:Nat}{y:Wy}(h:noF (n+3) y.1=true):noF (n+4) (wyD y)=true:=Zd5 λd hd=>by
 rcases ZyY.mp hd with e | hd
 ·subst e; exact h
 ·rw[ZyW.mp hd]
  exact Zoo λd hd=>by obtain⟨p,_,rfl⟩:=ZyN.mp hd;exact Ztf n p
theorem Zxe{wf:Wf}{n:Nat}{L:List (List Int)}(h:∀c∈L,∀y∈wf c,noF (n+3) y.1=true):noF (n+6) (.dict (Zk (Zw wf L)))=true:=by show(Zk (Zw wf L)).all _=true;refine ZyL.mpr λp hp=>?_;unfold Zk Zw at hp;rw[ZyV]at hp;obtain⟨c,hc,rfl⟩:=ZyN.mp hp;show noF (n+5) (.list ((wf c).map wyD))=true;exact Zoo λd hd=>by obtain⟨y,hy,rfl⟩:=ZyN.mp hd;exact Zwm (h c hc y hy)
theorem Zxk(w:Wk):noF 20 w.d=true:=by
 refine Zd5 λd hd=>?_;have h:∀x:List (List Int),∀d∈x.map tupI,noF 17 d=true:=λx d hd=>by obtain⟨p,_,rfl⟩:=ZyN.mp hd;exact Zd3 16 p
 have hd:=ZyY.mp hd;rcases hd with e | hd
 ·subst e; rfl
 rcases ZyY.mp hd with e | hd
 ·subst e
  exact Zd5 λd hd=>by obtain⟨x,_,rfl⟩:=ZyN.mp hd;exact Zd5 (h x)
 rcases ZyY.mp hd with e | hd
 ·subst e
  exact Zd5 λd hd=>by obtain⟨x,_,rfl⟩:=ZyN.mp hd;exact Zd3 17 x
 rcases ZyY.mp hd with e | hd
 ·subst e; exact Zd3 18 _
 ·rw[ZyW.mp hd]; exact Zd3 18 _
end HG5
namespace HG5
open PySem HM HG HG4
def oI:Option Int->D
 | some k=>.int k
 | none=>.none
abbrev Cb:=Wy->Tb->Option Int
def ZcE(cb:Cb)(ys:List Wy)(M:Tb):Option Int:=(ys.filterMap λy=>cb y M).min?
def ZaP(wf:Wf)(cb:Cb)(L:List (List Int))(M:Tb):Tb:=L.filterMap λc=>if ZD M c then none else(ZcE cb (wf c) M).map λk=>(c,k)
def Zb9(T:Tb):Option Int:=(T.map (·.2)).min?
def Zfp(T:Tb):List (List Int):=(T.filter λp=>some p.2==Zb9 T).map (·.1)
def Zbs(found:List (List Int))(k:Int)(M:Tb):Tb:=found.foldl (λM c=>putD M c k) M
inductive Zkl(wf:Wf)(cb:Cb)(L:List (List Int)):Tb->Option Int->List (List Int)->Tb->Prop where
 | done {M:Tb} {k:Option Int}:Zkl wf cb L M k [] M
 | step {M R:Tb} {k:Int} {found:List (List Int)} (hf:found≠[]) (h:Zkl wf cb L (Zbs found k M) (Zb9 (ZaP wf cb L (Zbs found k M))) (Zfp (ZaP wf cb L (Zbs found k M))) R):Zkl wf cb L M (some k) found R
theorem Zo3:∀os:List (Option Int),ZaG ((os.filter ZBn).map oI)=some (os.filterMap id)
 | []=>rfl
 | none::os=>Zo3 os
 | some k::os=>by show(ZaG ((os.filter ZBn).map oI)).map (k::·)=_;rw[Zo3 os];rfl
theorem ZmO{ap:AP}{t:Nat}{cs:List D}{cb:Cb}{ys:List Wy}{M:Tb}(hy:ys.length<1000)(ha:∀y∈ys,ap t cs [wyD y,.dict (Zk (encM M))]=some (oI (cb y M))) :
  ZbN ap [.list (ys.map wyD),.dict (Zk (encM M)),fnD t cs]=some (oI (ZcE cb ys M)):=by
 show Zar (Zfe ap [some (.pl (.list (ys.map wyD))),some (.pl (.dict (Zk (encM M)))),some (.pl (fnD t cs)),none])=_;have hb:ys.length<big:=by show _<1000000; omega
 have e1:Zax Zaa (Zgp ap 3 (Zd (Zb 0) (Zd (Zb 2) Zn))) [some (.pl (.list (ys.map wyD))),some (.pl (.dict (Zk (encM M)))),some (.pl (fnD t cs)),none] (ys.map wyD)=some ((ys.map λy=>cb y M).map oI):=by
  rw[Zbz wyD (λy=>oI (cb y M)),ZyV]
  ·rfl
  ·intro y h
   show(match ZlK (fnD t cs)with | some (t,cs)=>_ | none=>none)=_;rw[Zqq];exact ha y h
 have e2:Zax (tV (op2 ZeY (Zb 0) (eC .none))) (Zb 0) [some (.pl (.list (ys.map wyD))),some (.pl (.dict (Zk (encM M)))),some (.pl (fnD t cs)),some (.pl (.list ((ys.map λy=>cb y M).map oI)))] ((ys.map λy=>cb y M).map oI)=some (((ys.map λy=>cb y M).filter ZBn).map oI):=by
  rw[ZbO oI ZBn oI]
  ·intro o _
   cases o<;>rfl
  ·intro o _ _
   rfl
 unfold Zfe;refine ZW (P:=λq=>Zar q=_) (r':=[some (.pl (.list (ys.map wyD))),some (.pl (.dict (Zk (encM M)))),some (.pl (fnD t cs)),some (.ol ((ys.map λy=>cb y M).map oI))]) ?_ ?_
 ·unfold ZT ZL
  show ZzN _ (if(ys.map wyD).length<big then _ else _)=_;rw[if_pos (by rw[ZyA]; exact hb),e1];rfl
 ·show Zar (ZzN Out.rt (ZfH _ [some (.pl (.list (ys.map wyD))),some (.pl (.dict (Zk (encM M)))),some (.pl (fnD t cs)),some (.pl (.list ((ys.map λy=>cb y M).map oI)))]))=_
  have e3:ZL (Z4 (bOf (Zb 3))) (tV (op2 ZeY (Zb 0) (eC .none))) (Zb 0) [some (.pl (.list (ys.map wyD))),some (.pl (.dict (Zk (encM M)))),some (.pl (fnD t cs)),some (.pl (.list ((ys.map λy=>cb y M).map oI)))]=some (.ol (((ys.map λy=>cb y M).filter ZBn).map oI)):=by unfold ZL;show(if((ys.map λy=>cb y M).map oI).length<big then _ else none)=_;rw[if_pos (by rw[ZyA,ZyA]; exact hb),e2];rfl
  unfold ZfH;rw[e3];show Zar (ZzN Out.rt (match ZaG (((ys.map λy=>cb y M).filter ZBn).map oI)with | some ns=>some (match ns.min? with | some i=>Zze i | none=>.none) | none=>none))=_;rw[Zo3];show some (match((ys.map λy=>cb y M).filterMap id).min? with | some i=>Zze i | none=>.none)=_;unfold ZcE;rw[List.filterMap_map];show some (match(ys.filterMap λy=>cb y M).min? with | some i=>Zze i | none=>.none)=_;cases(ys.filterMap λy=>cb y M).min?<;>rfl
theorem Ztr{M:Tb}{c:List Int}{k:Int}(h:ZD M c=false):putD M c k=M++[(c,k)]:=by unfold putD;rw[if_neg];intro z;obtain⟨p,hp,e⟩:=ZzH.mp z;have e:=of_decide_eq_true e;unfold ZD Zi at h;rw[Zz5]at h;have:(M.find? λp=>decide (p.1=c)).isSome=true:=ZCJ.mpr ⟨p,hp,decide_eq_true e⟩;rw[h]at this;cases this
theorem Zrm(M N:Tb)(c:List Int):ZD (M++N) c=(ZD M c||ZD N c):=by unfold ZD Zi;rw[ZCF,Zz5,Zz5,Zz5,Option.isSome_or]
theorem ZuR{M:Tb}{c:List Int}:ZD M c=true↔∃k,(c,k)∈M:=by
 unfold ZD Zi;rw[Zz5,ZCJ]
 constructor
 ·rintro ⟨⟨c',k⟩,h,e⟩
  have e:=of_decide_eq_true e;exact⟨k,by rw[<-e]; exact h⟩
 ·rintro ⟨k,h⟩
  exact⟨_,h,decide_eq_true rfl⟩
theorem Zvo{wf:Wf}{cb:Cb}{L:List (List Int)}{M:Tb}{c:List Int}{k:Int}:(c,k)∈ZaP wf cb L M↔c∈L/\ZD M c=false/\ZcE cb (wf c) M=some k:=by
 unfold ZaP;rw[ZzY]
 constructor
 ·rintro ⟨c',h1,h2⟩
  split at h2
  ·cases h2
  ·rename_i hn
   obtain⟨k',h3,h4⟩:=ZyB.mp h2;cases h4;exact⟨h1,by simpa using hn,h3⟩
 ·rintro ⟨h1,h2,h3⟩
  exact⟨c,h1,by rw[h2,h3]; rfl⟩
section
variable{ap:AP}{wf:Wf}{L:List (List Int)}{t:Nat}{cs:List D}{cb:Cb}(hnd:L.Nodup)(hlen:L.length<=128)(hys:∀c∈L,(wf c).length<1000)(ha:∀c∈L,∀y∈wf c,∀M,ap t cs [wyD y,.dict (Zk (encM M))]=some (oI (cb y M)))
include hys ha
theorem Zp9{M:Tb}:∀(K:List (List Int)) (acc:Tb) (o4 o5:Option B),(∀c∈K,c∈L)->K.Nodup->(∀c∈K,ZD acc c=false)->Zbr o4=false->Zbr o5=false->acc.length+K.length<100000 ->
  ∃p4 p5,Zbr p4=false/\Zbr p5=false/\Z1 4 (Z3 ap) (K.map tupI) [some (.hd (Zk (Zw wf L))),some (.pl (.dict (Zk (encM M)))),some (.pl (fnD t cs)),some (.ot (encM acc)),o4,o5] =
   some (.nx [some (.hd (Zk (Zw wf L))),some (.pl (.dict (Zk (encM M)))),some (.pl (fnD t cs)),some (.ot (encM (acc++ZaP wf cb K M))),p4,p5])
 | [],acc,o4,o5,_,_,_,h4,h5,_=>⟨o4,o5,h4,h5,by show some (Out.nx _)=_; rw[show ZaP wf cb [] M=[] from rfl,Zzb]⟩
 | c::K,acc,o4,o5,hK,hn,hacc,h4,h5,hl=>by
  rw[ZyP]at hl;have hc:=hK c (ZyE ..);have hk:ZaS (tupI c)=some (Zad c):=ZaK c;have hlk:=ZcN M c;have hlr:=ZiR wf L c;rw[if_pos hc]at hlr;have hlc:=ZmO (ap:=ap) (t:=t) (cs:=cs) (cb:=cb) (ys:=wf c) (M:=M) (hys c hc) λy hy=>ha c hc y hy M;have hcons:ZaP wf cb (c::K) M=(if ZD M c then[]else match ZcE cb (wf c) M with | some k=>[(c,k)] | none=>[])++ZaP wf cb K M:=by
   unfold ZaP;rw[ZzR];cases ZD M c with
   | true=>rfl
   | false=>cases ZcE cb (wf c) M<;>rfl
  have step:∀(acc':Tb) (p5:Option B),Zbr p5=false->(∀x∈K,ZD acc' x=false)->acc'.length+K.length<100000->Z3 ap [some (.hd (Zk (Zw wf L))),some (.pl (.dict (Zk (encM M)))),some (.pl (fnD t cs)),some (.ot (encM acc)),some (.pl (tupI c)),o5] =
     some (.nx [some (.hd (Zk (Zw wf L))),some (.pl (.dict (Zk (encM M)))),some (.pl (fnD t cs)),some (.ot (encM acc')),some (.pl (tupI c)),p5])->acc'++ZaP wf cb K M=acc++ZaP wf cb (c::K) M ->
    ∃p4 p5,Zbr p4=false/\Zbr p5=false/\Z1 4 (Z3 ap) ((c::K).map tupI) [some (.hd (Zk (Zw wf L))),some (.pl (.dict (Zk (encM M)))),some (.pl (fnD t cs)),some (.ot (encM acc)),o4,o5] =
     some (.nx [some (.hd (Zk (Zw wf L))),some (.pl (.dict (Zk (encM M)))),some (.pl (fnD t cs)),some (.ot (encM (acc++ZaP wf cb (c::K) M))),p4,p5]):=λacc' p5 hp5 hx hl' e eq=>by
   obtain⟨q4,q5,g4,g5,ih⟩:=Zp9 (M:=M) K acc' (some (.pl (tupI c))) p5 (λx hx=>hK x (ZyD _ hx)) (Zzx.mp hn).2 hx rfl hp5 hl';refine⟨q4,q5,g4,g5,?_⟩;rw[<-eq,<-ih,ZyH];show(match Z3 ap [some (.hd (Zk (Zw wf L))),some (.pl (.dict (Zk (encM M)))),some (.pl (fnD t cs)),some (.ot (encM acc)),some (.pl (tupI c)),o5]with | some (.nx r')=>_ | some (.ct r')=>_ | some (.bk r')=>_ | some (.rt d)=>_ | none=>_)=_;rw[e]
  have hKa:∀x∈K,ZD acc x=false:=λx hx=>hacc x (ZyD _ hx);cases hq:Zi M c with
  | some k =>
   have hh:ZD M c=true:=by unfold ZD; rw[hq]; rfl
   rw[hq]at hlk;refine step acc o5 h5 hKa (by omega) ?_ (by rw[hcons,hh]; rfl);have ht:tV (Zce (Zb 4) (Zo 1)) [some (.hd (Zk (Zw wf L))),some (.pl (.dict (Zk (encM M)))),some (.pl (fnD t cs)),some (.ot (encM acc)),some (.pl (tupI c)),o5]=some false:=by simp[dec_enc,hk,hlk]
   unfold Z3 sIf;rw[ht];rfl
  | none =>
   have hh:ZD M c=false:=by unfold ZD; rw[hq]; rfl
   rw[hq]at hlk;have ht:tV (Zce (Zb 4) (Zo 1)) [some (.hd (Zk (Zw wf L))),some (.pl (.dict (Zk (encM M)))),some (.pl (fnD t cs)),some (.ot (encM acc)),some (.pl (tupI c)),o5]=some true:=by simp[dec_enc,hk,hlk]
   have hca:Zl (ZbN ap) (Zd (Zbt (Zo 0) (Zb 4)) (Zd (Zb 1) (Zd (Zb 2) Zn))) [some (.hd (Zk (Zw wf L))),some (.pl (.dict (Zk (encM M)))),some (.pl (fnD t cs)),some (.ot (encM acc)),some (.pl (tupI c)),o5]=some (oI (ZcE cb (wf c) M)):=by
    have hg:Zbt (Zo 0) (Zb 4) [some (.hd (Zk (Zw wf L))),some (.pl (.dict (Zk (encM M)))),some (.pl (fnD t cs)),some (.ot (encM acc)),some (.pl (tupI c)),o5]=some (.list ((wf c).map wyD)):=by simp[dec_enc,hk,hlr]
    unfold Zl Zd;rw[hg];exact hlc
   have hs5:Z0 5 (Zl (ZbN ap) (Zd (Zbt (Zo 0) (Zb 4)) (Zd (Zb 1) (Zd (Zb 2) Zn)))) [some (.hd (Zk (Zw wf L))),some (.pl (.dict (Zk (encM M)))),some (.pl (fnD t cs)),some (.ot (encM acc)),some (.pl (tupI c)),o5]=some (.nx [some (.hd (Zk (Zw wf L))),some (.pl (.dict (Zk (encM M)))),some (.pl (fnD t cs)),some (.ot (encM acc)),some (.pl (tupI c)),some (.pl (oI (ZcE cb (wf c) M)))]):=by unfold Z0;rw[hca];rfl
   cases hle:ZcE cb (wf c) M with
   | none=>rw[hle]at hs5;refine step acc (some (.pl .none)) rfl hKa (by omega) ?_ (by rw[hcons,hh,hle]; rfl);unfold Z3 sIf;rw[ht];dsimp only;refine ZW (P:=λq=>q=_) hs5 ?_;rfl
   | some k =>
    rw[hle]at hs5;have hput:=Ztr (k:=k) (hacc c (ZyE ..));have hpe:=Zh4 acc c k;have hal:(encM acc).length<1000000:=by unfold encM; rw[ZyA]; omega
    refine step (acc++[(c,k)]) (some (.pl (.int k))) rfl (λx hx=>?_) (by rw[ZyS,ZzW]; omega) ?_ (by rw[hcons,hh,hle,ZzT]; rfl)
    ·rw[Zrm,hKa x hx,ZCw]
     cases hb:ZD [(c,k)] x with
     | false=>rfl
     | true=>obtain⟨k',hm⟩:=ZuR.mp hb;cases ZyW.mp hm;exact absurd hx (Zzx.mp hn).1
    ·unfold Z3 sIf
     rw[ht];dsimp only;refine ZW (P:=λq=>q=_) hs5 ?_;have h2:tV (op2 ZeY (Zb 5) (eC .none)) [some (.hd (Zk (Zw wf L))),some (.pl (.dict (Zk (encM M)))),some (.pl (fnD t cs)),some (.ot (encM acc)),some (.pl (tupI c)),some (.pl (oI (some k)))]=some true:=rfl;rw[h2,<-hput,<-hpe];show(match ZaS (tupI c)with | some y=>_ | none=>none)=_;rw[hk];show(if(encM acc).length<big then _ else none)=_;rw[if_pos (show _<big from hal)];rfl
include hnd hlen
theorem ZmS(M:Tb):Zbq ap [.dict (Zk (Zw wf L)),.dict (Zk (encM M)),fnD t cs]=some (encM (ZaP wf cb L M)):=by
 obtain⟨p4,p5,g4,g5,go⟩:=Zp9 hys ha (M:=M) L [] none none (λ_ h=>h) hnd (λ_ _=>rfl) rfl rfl (by simp; omega);have hw:Zbf 0 [some (.hd (Zk (Zw wf L))),some (.pl (.dict (Zk (encM M)))),some (.pl (fnD t cs)),some (.ot (encM [])),none,none]=some (L.map tupI):=by show(Zfj (Zk (Zw wf L))).map _=_;rw[dec_enc,<-Zmk wf L];rfl
 have hf:Za2 4 (Zbf 0) (Z3 ap) [some (.hd (Zk (Zw wf L))),some (.pl (.dict (Zk (encM M)))),some (.pl (fnD t cs)),some (.ot (encM [])),none,none]=some (.nx [some (.hd (Zk (Zw wf L))),some (.pl (.dict (Zk (encM M)))),some (.pl (fnD t cs)),some (.ot (encM (ZaP wf cb L M))),p4,p5]):=by unfold Za2;rw[hw];dsimp only;rw[if_pos (by rw[ZyA]; show _<1000000; omega),go];rfl
 have hh:ZeZ 0 (Za2 4 (Zbf 0) (Z3 ap)) [some (.pl (.dict (Zk (Zw wf L)))),some (.pl (.dict (Zk (encM M)))),some (.pl (fnD t cs)),some (.ot (encM [])),none,none]=some (.nx [some (.pl (.dict (Zk (Zw wf L)))),some (.pl (.dict (Zk (encM M)))),some (.pl (fnD t cs)),some (.ot (encM (ZaP wf cb L M))),p4,p5]):=by
  show(match Za2 4 (Zbf 0) (Z3 ap) [some (.hd (Zk (Zw wf L))),some (.pl (.dict (Zk (encM M)))),some (.pl (fnD t cs)),some (.ot (encM [])),none,none]with | some (.nx r')=>_ | some (.rt d)=>_ | _=>none)=_;rw[hf];have a2:([none,some (B.pl (.dict (Zk (encM M)))),some (.pl (fnD t cs)),some (.ot (encM (ZaP wf cb L M))),p4,p5]:HM.Env).all (λq=>!Zbr q)=true:=by simp only[ZzU,ZDD,g4,g5];rfl
  show(if([none,some (B.pl (.dict (Zk (encM M)))),some (.pl (fnD t cs)),some (.ot (encM (ZaP wf cb L M))),p4,p5]:HM.Env).all (λq=>!Zbr q)=true then _ else _)=_;rw[if_pos a2];rfl
 unfold Zbq newOf;rw[if_pos (show([PyData.dict (Zk (Zw wf L)),PyData.dict (Zk (encM M)),fnD t cs]:List D).length=3 from rfl)];show(match ZT 3 fDt [some (.pl (.dict (Zk (Zw wf L)))),some (.pl (.dict (Zk (encM M)))),some (.pl (fnD t cs)),none,none,none]with | some (.nx r')=>Zku (ZeZ 0 (Za2 4 (Zbf 0) (Z3 ap))) (ZnO 3) r' | _=>none)=_;show Zku (ZeZ 0 (Za2 4 (Zbf 0) (Z3 ap))) (ZnO 3) [some (.pl (.dict (Zk (Zw wf L)))),some (.pl (.dict (Zk (encM M)))),some (.pl (fnD t cs)),some (.ot (encM [])),none,none]=_;unfold Zku;rw[hh];rfl
end
end HG5
namespace HG5
open PySem HM HG HG4
theorem Zp4(ap:AP)(e0 e1 e2 e5 e7:Option B)(v:Int):∀(ms:List (List Int)) (M:Tb) (o:Option B),M.length+ms.length<100000->Zbr o=false ->
  ∃p,Zbr p=false/\Z1 6 (Zde ap) (ms.map tupI) [e0,e1,e2,some (.ot (encM M)),some (.pl (dI v)),e5,o,e7]=some (.nx [e0,e1,e2,some (.ot (encM (Zbs ms v M))),some (.pl (dI v)),e5,p,e7])
 | [],M,o,_,h=>⟨o,h,rfl⟩
 | c::ms,M,o,hlen,_=>by
  rw[ZyP]at hlen;have hml:(encM M).length<1000000:=by unfold encM; rw[ZyA]; omega
  have hk:ZaS (tupI c)=some (Zad c):=ZaK c;have hput:=Zh4 M c v;have hpl:=ZjE c v M;have e:Zde ap [e0,e1,e2,some (.ot (encM M)),some (.pl (dI v)),e5,some (.pl (tupI c)),e7]=some (.nx [e0,e1,e2,some (.ot (encM (putD M c v))),some (.pl (dI v)),e5,some (.pl (tupI c)),e7]):=by rw[<-hput];simp[Zde,hk,hml]
  obtain⟨p,hp,ih⟩:=Zp4 ap e0 e1 e2 e5 e7 v ms (putD M c v) (some (.pl (tupI c))) (by omega) rfl;refine⟨p,hp,?_⟩;show _=some (Out.nx [e0,e1,e2,some (.ot (encM (Zbs ms v (putD M c v)))),some (.pl (dI v)),e5,p,e7]);rw[ZyH,<-ih];show(match Zde ap [e0,e1,e2,some (.ot (encM M)),some (.pl (dI v)),e5,some (.pl (tupI c)),e7]with | some (.nx r')=>_ | some (.ct r')=>_ | some (.bk r')=>_ | some (.rt d)=>_ | none=>_)=_;rw[e]
theorem Zmg(T:Tb):((encM T).map λp=>Zzf (p.1.map ZaE))=(T.map (·.1)).map tupI:=by unfold encM;rw[ZyV,ZyV];refine Zz9 λp _=>?_;show Zzf ((p.1.map ZAu).map ZaE)=Zzf (p.1.map dI);rw[ZyV];rfl
def NdT(T:Tb):Prop:=(T.map (·.1)).Nodup
theorem Zqh{T:Tb}(h:NdT T){p:List Int × Int}(hp:p∈T):Zi T p.1=some p.2:=by
 induction T with
 | nil=>simp at hp
 | cons q T ih =>
  obtain⟨c,k⟩:=q;rw[ZbX];unfold NdT at h;rw[ZyH,Zzx]at h;rcases ZyY.mp hp with e | e
  ·subst e; rw[if_pos rfl]
  ·rw[if_neg λz=>h.1 (by rw[z]; exact ZyN.mpr ⟨p,e,rfl⟩)]
   exact ih h.2 e
theorem ZwB{wf:Wf}{cb:Cb}{M:Tb}:∀{L:List (List Int)},L.Nodup->NdT (ZaP wf cb L M):=by
 intro L h;unfold NdT;have:((ZaP wf cb L M).map (·.1)).Sublist L:=by
  unfold ZaP;rw[List.map_filterMap]
  clear h
  induction L with
  | nil=>exact .slnil
  | cons c L ih =>
   rw[ZzR];cases ZD M c with
   | true=>exact ih.cons c
   | false=>cases ZcE cb (wf c) M with
    | none=>exact ih.cons c
    | some k=>exact ih.cons₂ c
 exact h.sublist this
theorem Zql{wf:Wf}{cb:Cb}{L:List (List Int)}{M:Tb}:(ZaP wf cb L M).length<=L.length:=ZCX ..
section
variable{T:Tb}(hT:NdT T)(hl:T.length<100000)
include hT hl
theorem Zsm(r:HM.Env)(h7:r[7]?=some (some (.hd (Zk (encM T))))):ZL (Zbf 7) Zaa (Zbt (Zo 8) (Zb 0)) r=some (.ol ((T.map (·.2)).map dI)):=by
 have hw:Zbf 7 r=some ((T.map (·.1)).map tupI):=by unfold Zbf;rw[h7];show(Zfj (Zk (encM T))).map _=_;rw[dec_enc,<-Zmg T];rfl
 have hg:Zax Zaa (Zbt (Zo 8) (Zb 0)) r ((T.map (·.1)).map tupI)=some ((T.map (·.2)).map dI):=by rw[ZyV,ZyV];have:=Zbz (e:=Zbt (Zo 8) (Zb 0)) (r:=r) (λp:List Int × Int=>tupI p.1) (λp=>dI p.2) T (λp hp=>by have hk:ZaS (tupI p.1)=some (Zad p.1):=ZaK p.1;have hlk:=ZcN T p.1;rw[Zqh hT hp]at hlk;simp[h7,dec_enc,hk,hlk]);exact this
 unfold ZL;rw[hw];dsimp only;rw[if_pos (by rw[ZyA,ZyA]; show _<1000000; omega),hg];rfl
theorem ZsI{k:Option Int}(r:HM.Env)(h7:r[7]?=some (some (.hd (Zk (encM T)))))(h4:r[4]?=some (some (.pl (oI k)))):ZL (Zbf 7) (tV (op2 gEq (Zbt (Zo 8) (Zb 0)) (Zb 5))) (Zb 0) r=some (.ol (((T.filter λp=>some p.2==k).map (·.1)).map tupI)):=by
 have hw:Zbf 7 r=some ((T.map (·.1)).map tupI):=by unfold Zbf;rw[h7];show(Zfj (Zk (encM T))).map _=_;rw[dec_enc,<-Zmg T];rfl
 have hg:Zax (tV (op2 gEq (Zbt (Zo 8) (Zb 0)) (Zb 5))) (Zb 0) r ((T.map (·.1)).map tupI)=some (((T.filter λp=>some p.2==k).map (·.1)).map tupI):=by
  rw[ZyV,ZyV];have:=ZbO (c:=tV (op2 gEq (Zbt (Zo 8) (Zb 0)) (Zb 5))) (e:=Zb 0) (r:=r) (λp:List Int × Int=>tupI p.1) (λp=>some p.2==k) (λp=>tupI p.1) T (λp hp=>by
   have hk:ZaS (tupI p.1)=some (Zad p.1):=ZaK p.1;have hlk:=ZcN T p.1;rw[Zqh hT hp]at hlk;have h1:Zbt (Zo 8) (Zb 0) (some (.pl (tupI p.1))::r)=some (.int p.2):=by simp[h7,dec_enc,hk,hlk]
   have h2:Zb 5 (some (B.pl (tupI p.1))::r)=some (oI k):=by simp[h4]
   unfold tV op2;rw[h1,h2];cases k with
   | none=>show(match gEq (.int p.2) .none with | some (.bool b)=>some b | _=>none)=_;rw[Zht (ZcH 1 _) (Zqf 1) (by decide) (by decide) (by simp)];rfl
   | some k =>
    show(match gEq (.int p.2) (.int k)with | some (.bool b)=>some b | _=>none)=_
    by_cases e:p.2=k
    ·rw[e,ZeE (ZcH 1 _) (by decide)]
     simp
    ·rw[Zht (ZcH 1 _) (ZcH 1 _) (by decide) (by decide) (by simpa using e)]
     simp[e]) (λp _ _=>by simp)
  exact this
 unfold ZL;rw[hw];dsimp only;rw[if_pos (by rw[ZyA,ZyA]; show _<1000000; omega),hg];rfl
end
section
variable{w:Wk}(hv:Wk.V w){ap:AP}{wf:Wf}{L:List (List Int)}{t:Nat}{cs:List D}{cb:Cb}(hnd:L.Nodup)(hlen:L.length<=128)(hcr:∀c∈L,Cr w.many c)(hys:∀c∈L,(wf c).length<1000)(ha:∀c∈L,∀y∈wf c,∀M,ap t cs [wyD y,.dict (Zk (encM M))]=some (oI (cb y M)))
include hnd hlen hys ha
theorem Zrc{M:Tb}{k:Int}{found:List (List Int)}{o6 o7:Option B}(h6:Zbr o6=false)(h7:Zbr o7=false)(hf:found.length<=128)(hM:M.length<50000) :
  ∃p6 p7,Zbr p6=false/\Zbr p7=false/\Zdf ap [some (.pl w.d),some (.pl (.dict (Zk (Zw wf L)))),some (.pl (fnD t cs)),some (.ot (encM M)),some (.pl (dI k)),some (.ol (found.map tupI)),o6,o7] =
   some (.nx [some (.pl w.d),some (.pl (.dict (Zk (Zw wf L)))),some (.pl (fnD t cs)),some (.ot (encM (Zbs found k M))),some (.pl (oI (Zb9 (ZaP wf cb L (Zbs found k M))))),some (.ol ((Zfp (ZaP wf cb L (Zbs found k M))).map tupI)),p6,p7]):=by
 obtain⟨p6,hp6,e1⟩:=Zp4 ap (some (.pl w.d)) (some (.pl (.dict (Zk (Zw wf L))))) (some (.pl (fnD t cs))) (some (.pl (.list (found.map tupI)))) o7 k found M o6 (by omega) h6;generalize hM':Zbs found k M=M' at *;have hnx:=ZmS hnd hlen hys ha M';have hT:NdT (ZaP wf cb L M'):=ZwB hnd;have hTl:(ZaP wf cb L M').length<100000:=by have:=Zql (wf:=wf) (cb:=cb) (L:=L) (M:=M'); omega
 generalize hO:ZaP wf cb L M'=T at *;refine⟨p6,some (.pl (.dict (Zk (encM T)))),hp6,rfl,?_⟩;unfold Zdf;refine ZW (P:=λq=>q=_) (r':=[some (.pl w.d),some (.pl (.dict (Zk (Zw wf L)))),some (.pl (fnD t cs)),some (.ot (encM M')),some (.pl (dI k)),some (.pl (.list (found.map tupI))),p6,o7]) ?_ ?_
 ·unfold ZeJ Zk5 Za2
  have hfb:found.length<1000000:=by omega
  simp[hfb];exact e1
 ·refine ZW (P:=λq=>q=_) (r':=[some (.pl w.d),some (.pl (.dict (Zk (Zw wf L)))),some (.pl (fnD t cs)),some (.ot (encM M')),some (.pl (dI k)),some (.pl (.list (found.map tupI))),p6,some (.ot (encM T))]) ?_ ?_
  ·have hcl:Zi8 (Zbq ap) (Zd (Zb 1) (Zd (Zm3 (Zo 3)) (Zd (Zb 2) Zn))) [some (.pl w.d),some (.pl (.dict (Zk (Zw wf L)))),some (.pl (fnD t cs)),some (.ot (encM M')),some (.pl (dI k)),some (.pl (.list (found.map tupI))),p6,o7]=some (.ot (encM T)):=by
    unfold Zi8;show(match Zbq ap [.dict (Zk (Zw wf L)),.dict (Zk (encM M')),fnD t cs]with | some kvs=>if kvs.all (λp=>Zjq p.2)then some (B.ot kvs)else none | none=>none)=_;rw[hnx];have hfl:(encM T).all (λp=>Zjq p.2)=true:=by unfold encM;rw[List.all_map];exact ZyL.mpr λp _=>rfl
    dsimp only;rw[if_pos hfl]
   unfold ZT;rw[hcl];rfl
  ·have a1:∀x4 x5:D,([some (B.pl w.d),some (.pl (.dict (Zk (Zw wf L)))),some (.pl (fnD t cs)),some (.ot (encM M')),some (.pl x4),some (.pl x5),p6,some (.pl (.dict (Zk (encM T))))]:HM.Env).all (λq=>!Zbr q)=true:=λx4 x5=>by
    simp only[ZzU,ZDD,hp6];rfl
   have a2:∀x4:D,∀x5:B,Zbr (some x5)=false->([some (B.pl w.d),some (.pl (.dict (Zk (Zw wf L)))),some (.pl (fnD t cs)),some (.ot (encM M')),some (.pl x4),some x5,p6,none]:HM.Env).all (λq=>!Zbr q)=true:=λx4 x5 hx=>by simp only[ZzU,ZDD,hp6,hx];rfl
   have hv1:=Zsm hT hTl [some (.pl w.d),some (.pl (.dict (Zk (Zw wf L)))),some (.pl (fnD t cs)),some (.ot (encM M')),some (.pl (dI k)),some (.pl (.list (found.map tupI))),p6,some (.hd (Zk (encM T)))] rfl;have hm1:Z0 4 (ZfH (ZL (Zbf 7) Zaa (Zbt (Zo 8) (Zb 0)))) [some (.pl w.d),some (.pl (.dict (Zk (Zw wf L)))),some (.pl (fnD t cs)),some (.ot (encM M')),some (.pl (dI k)),some (.pl (.list (found.map tupI))),p6,some (.hd (Zk (encM T)))]=some (.nx [some (.pl w.d),some (.pl (.dict (Zk (Zw wf L)))),some (.pl (fnD t cs)),some (.ot (encM M')),some (.pl (oI (Zb9 T))),some (.pl (.list (found.map tupI))),p6,some (.hd (Zk (encM T)))]):=by
    have:ZfH (ZL (Zbf 7) Zaa (Zbt (Zo 8) (Zb 0))) [some (.pl w.d),some (.pl (.dict (Zk (Zw wf L)))),some (.pl (fnD t cs)),some (.ot (encM M')),some (.pl (dI k)),some (.pl (.list (found.map tupI))),p6,some (.hd (Zk (encM T)))]=some (oI (Zb9 T)):=by unfold ZfH;rw[hv1];show(match ZaG ((T.map (·.2)).map dI)with | some ns=>some (match ns.min? with | some i=>Zze i | none=>.none) | none=>none)=_;rw[ZbR];show some (match(T.map (·.2)).min? with | some i=>Zze i | none=>.none)=_;unfold Zb9;cases(T.map (·.2)).min?<;>rfl
    unfold Z0;rw[this];rfl
   refine ZW (P:=λq=>q=_) (r':=[some (.pl w.d),some (.pl (.dict (Zk (Zw wf L)))),some (.pl (fnD t cs)),some (.ot (encM M')),some (.pl (oI (Zb9 T))),some (.pl (.list (found.map tupI))),p6,some (.pl (.dict (Zk (encM T))))]) ?_ ?_
   ·show(if([some (B.pl w.d),some (.pl (.dict (Zk (Zw wf L)))),some (.pl (fnD t cs)),some (.ot (encM M')),some (.pl (dI k)),some (.pl (.list (found.map tupI))),p6,some (.pl (.dict (Zk (encM T))))]:HM.Env).all (λq=>!Zbr q)=true then _ else _)=_
    rw[if_pos (a1 _ _)];show(match Z0 4 _ [some (.pl w.d),some (.pl (.dict (Zk (Zw wf L)))),some (.pl (fnD t cs)),some (.ot (encM M')),some (.pl (dI k)),some (.pl (.list (found.map tupI))),p6,some (.hd (Zk (encM T)))]with | some (.nx r')=>_ | some (.rt d)=>_ | _=>none)=_;rw[hm1];show(if([some (B.pl w.d),some (.pl (.dict (Zk (Zw wf L)))),some (.pl (fnD t cs)),some (.ot (encM M')),some (.pl (oI (Zb9 T))),some (.pl (.list (found.map tupI))),p6,none]:HM.Env).all (λq=>!Zbr q)=true then _ else _)=_;rw[if_pos (a2 _ _ rfl)];rfl
   ·have hk1:=ZsI hT hTl (k:=Zb9 T) [some (.pl w.d),some (.pl (.dict (Zk (Zw wf L)))),some (.pl (fnD t cs)),some (.ot (encM M')),some (.pl (oI (Zb9 T))),some (.pl (.list (found.map tupI))),p6,some (.hd (Zk (encM T)))] rfl rfl
    have hm2:ZT 5 (ZL (Zbf 7) (tV (op2 gEq (Zbt (Zo 8) (Zb 0)) (Zb 5))) (Zb 0)) [some (.pl w.d),some (.pl (.dict (Zk (Zw wf L)))),some (.pl (fnD t cs)),some (.ot (encM M')),some (.pl (oI (Zb9 T))),some (.pl (.list (found.map tupI))),p6,some (.hd (Zk (encM T)))]=some (.nx [some (.pl w.d),some (.pl (.dict (Zk (Zw wf L)))),some (.pl (fnD t cs)),some (.ot (encM M')),some (.pl (oI (Zb9 T))),some (.ol ((Zfp T).map tupI)),p6,some (.hd (Zk (encM T)))]):=by unfold ZT;rw[hk1];rfl
    show(if([some (B.pl w.d),some (.pl (.dict (Zk (Zw wf L)))),some (.pl (fnD t cs)),some (.ot (encM M')),some (.pl (oI (Zb9 T))),some (.pl (.list (found.map tupI))),p6,some (.pl (.dict (Zk (encM T))))]:HM.Env).all (λq=>!Zbr q)=true then _ else _)=_;rw[if_pos (a1 _ _)];show(match ZT 5 _ [some (.pl w.d),some (.pl (.dict (Zk (Zw wf L)))),some (.pl (fnD t cs)),some (.ot (encM M')),some (.pl (oI (Zb9 T))),some (.pl (.list (found.map tupI))),p6,some (.hd (Zk (encM T)))]with | some (.nx r')=>_ | some (.rt d)=>_ | _=>none)=_;rw[hm2];show(if([some (B.pl w.d),some (.pl (.dict (Zk (Zw wf L)))),some (.pl (fnD t cs)),some (.ot (encM M')),some (.pl (oI (Zb9 T))),some (.ol ((Zfp T).map tupI)),p6,none]:HM.Env).all (λq=>!Zbr q)=true then _ else _)=_;rw[if_pos (a2 _ _ rfl)];rfl
omit hnd hlen hys ha in
theorem Zt8{M:Tb}{c:List Int}(h:c∈Zfp (ZaP wf cb L M)):c∈L/\ZD M c=false:=by obtain⟨⟨c',k⟩,h1,rfl⟩:=ZyN.mp h;have:=Zvo.mp (Zza.mp h1).1;exact⟨this.1,this.2.1⟩
omit hnd hlen hys ha in
theorem Zsf{T:Tb}(h:Zfp T≠[]):∃k,Zb9 T=some k:=by
 cases hq:Zb9 T with
 | some k=>exact⟨k,rfl⟩
 | none=>refine absurd ?_ h;unfold Zb9 at hq;rw[ZDn]at hq;have:=ZCi.mp hq;subst this;rfl
theorem Zjf:∀(fuel n:Nat) (M:Tb) (k:Option Int) (found:List (List Int)) (o6 o7:Option B),Zbr o6=false->Zbr o7=false->(∀c∈found,c∈L/\ZD M c=false)->found.length<=128->M.length<=128*n->n<=(L.filter λc=>ZD M c).length->130<=n+fuel->(found≠[]->∃i,k=some i) ->
  ∃R p4 p5 p6 p7,ZaW (tV (op2 gGt (ZaJ (Zo 5)) (eC (.int 0)))) (Zdf ap) fuel [some (.pl w.d),some (.pl (.dict (Zk (Zw wf L)))),some (.pl (fnD t cs)),some (.ot (encM M)),some (.pl (oI k)),some (.ol (found.map tupI)),o6,o7]=some (.nx [some (.pl w.d),some (.pl (.dict (Zk (Zw wf L)))),some (.pl (fnD t cs)),some (.ot (encM R)),p4,p5,p6,p7])/\Zkl wf cb L M k found R
 | 0,n,M,k,found,o6,o7,_,_,_,_,_,ht,hfu,_=>by have:=Zzu (λc=>ZD M c) L;omega
 | fuel+1,n,M,k,found,o6,o7,h6,h7,hfo,hfl,hM,ht,hfu,hks=>by
  have htl:=Zzu (λc=>ZD M c) L
  by_cases hf:found=[]
  ·subst hf
   refine⟨M,some (.pl (oI k)),some (.ol []),o6,o7,?_,.done⟩;unfold ZaW;have e:(tV (op2 gGt (ZaJ (Zo 5)) (eC (.int 0)))) [some (.pl w.d),some (.pl (.dict (Zk (Zw wf L)))),some (.pl (fnD t cs)),some (.ot (encM M)),some (.pl (oI k)),some (.ol (([]:List (List Int)).map tupI)),o6,o7]=some false:=by simp
   rw[e];rfl
  ·obtain⟨i,rfl⟩:=hks hf
   have e:(tV (op2 gGt (ZaJ (Zo 5)) (eC (.int 0)))) [some (.pl w.d),some (.pl (.dict (Zk (Zw wf L)))),some (.pl (fnD t cs)),some (.ot (encM M)),some (.pl (oI (some i))),some (.ol (found.map tupI)),o6,o7]=some true:=by have:0<found.length:=ZCh.mpr hf;simp;omega
   obtain⟨p6,p7,g6,g7,ht1⟩:=Zrc hnd hlen hys ha (w:=w) (M:=M) (k:=i) (found:=found) h6 h7 hfl (by omega);have hml:(Zbs found i M).length<=M.length+found.length:=ZgH i found M;have hlk:∀k,Zi (Zbs found i M) k=if k∈found then some i else Zi M k:=λk=>ZgJ i k found M
   have hcnt:(L.filter λc=>ZD M c).length<(L.filter λc=>ZD (Zbs found i M) c).length:=by
    refine ZdS (λx _ hx=>?_) ?_
    ·unfold ZD at hx ⊢
     rw[hlk];split
     ·rfl
     ·exact hx
    ·obtain⟨c,cs,rfl⟩:=ZCB hf
     refine⟨c,(hfo c (ZyE ..)).1,?_,(hfo c (ZyE ..)).2⟩;unfold ZD;rw[hlk,if_pos (ZyE ..)];rfl
   have hol:(Zfp (ZaP wf cb L (Zbs found i M))).length<=128:=by
    have h1:(Zfp (ZaP wf cb L (Zbs found i M))).length<=(ZaP wf cb L (Zbs found i M)).length:=by unfold Zfp;rw[ZyA];exact Zzu ..
    have h2:=Zql (wf:=wf) (cb:=cb) (L:=L) (M:=Zbs found i M);omega
   obtain⟨R,q4,q5,q6,q7,g,J⟩:=Zjf fuel (n+1) (Zbs found i M) (Zb9 (ZaP wf cb L (Zbs found i M))) (Zfp (ZaP wf cb L (Zbs found i M))) p6 p7 g6 g7 (λc hc=>Zt8 hc) hol (by omega) (by omega) (by omega) Zsf;refine⟨R,q4,q5,q6,q7,?_,.step hf J⟩;unfold ZaW;rw[e];dsimp only;show(match Zdf ap [some (.pl w.d),some (.pl (.dict (Zk (Zw wf L)))),some (.pl (fnD t cs)),some (.ot (encM M)),some (.pl (dI i)),some (.ol (found.map tupI)),o6,o7]with | some (.nx r')=>_ | some (.ct r')=>_ | some (.bk r')=>_ | some (.rt d)=>_ | none=>_)=_;rw[ht1];exact g
include hv hcr
theorem ZpP:∃R,ZcY ap [w.d,.dict (Zk (Zw wf L)),fnD t cs]=some (.dict (Zk (encM R)))/\Zkl wf cb L [] (some 0) (L.filter λc=>Z2 w c) R:=by
 have hlb:L.length<1000000:=by omega
 have hfl:(L.filter λc=>Z2 w c).length<=128:=Zzl (Zzu _ _) hlen;obtain⟨R,p4,p5,p6,p7,g,J⟩:=Zjf hnd hlen hys ha (w:=w) 100000 0 [] (some 0) (L.filter λc=>Z2 w c) none none rfl rfl (λc hc=>⟨(Zza.mp hc).1,rfl⟩) hfl (by simp) (Zz2 _) (by omega) λ_=>⟨0,rfl⟩;refine⟨R,?_,J⟩;have hw:Zbf 1 [some (.pl w.d),some (.hd (Zk (Zw wf L))),some (.pl (fnD t cs)),some (.ot (encM [])),some (.pl (dI 0)),none,none,none]=some (L.map tupI):=by show(Zfj (Zk (Zw wf L))).map _=_;rw[dec_enc,<-Zmk wf L];rfl
 have hgo:∀r:HM.Env,r[0]?=some (some (.pl w.d))->Zax (tV (Zl ZbA (Zd (Zb 1) (Zd (Zb 0) Zn)))) (Zb 0) r (L.map tupI)=some ((L.filter λc=>Z2 w c).map tupI):=λr r0=>by
  rw[ZbO tupI (λc=>Z2 w c) tupI]
  ·intro c hc
   have:=ZpN (w:=w) (c:=c) (by have:=(hcr c hc).len; have:=hv.m2; omega);simp[r0,this]
  ·intro c _ _
   simp
 have hc:ZL (Zbf 1) (tV (Zl ZbA (Zd (Zb 1) (Zd (Zb 0) Zn)))) (Zb 0) [some (.pl w.d),some (.hd (Zk (Zw wf L))),some (.pl (fnD t cs)),some (.ot (encM [])),some (.pl (dI 0)),none,none,none]=some (.ol ((L.filter λc=>Z2 w c).map tupI)):=by unfold ZL;rw[hw];dsimp only;rw[if_pos (by rw[ZyA]; exact hlb),hgo _ rfl];rfl
 have hh:ZeZ 1 (ZT 5 (ZL (Zbf 1) (tV (Zl ZbA (Zd (Zb 1) (Zd (Zb 0) Zn)))) (Zb 0))) [some (.pl w.d),some (.pl (.dict (Zk (Zw wf L)))),some (.pl (fnD t cs)),some (.ot (encM [])),some (.pl (dI 0)),none,none,none]=some (.nx [some (.pl w.d),some (.pl (.dict (Zk (Zw wf L)))),some (.pl (fnD t cs)),some (.ot (encM [])),some (.pl (dI 0)),some (.ol ((L.filter λc=>Z2 w c).map tupI)),none,none]):=by show(match ZT 5 _ [some (.pl w.d),some (.hd (Zk (Zw wf L))),some (.pl (fnD t cs)),some (.ot (encM [])),some (.pl (dI 0)),none,none,none]with | some (.nx r')=>_ | some (.rt d)=>_ | _=>none)=_;unfold ZT;rw[hc];rfl
 show Zar (ZeT ap [some (.pl w.d),some (.pl (.dict (Zk (Zw wf L)))),some (.pl (fnD t cs)),none,none,none,none,none])=_;have e:ZeT ap [some (.pl w.d),some (.pl (.dict (Zk (Zw wf L)))),some (.pl (fnD t cs)),none,none,none,none,none]=some (.rt (.dict (Zk (encM R)))):=by unfold ZeT;refine ZW (P:=λq=>q=_) (r':=[some (.pl w.d),some (.pl (.dict (Zk (Zw wf L)))),some (.pl (fnD t cs)),some (.ot (encM [])),none,none,none,none]) rfl ?_;refine ZW (P:=λq=>q=_) (r':=[some (.pl w.d),some (.pl (.dict (Zk (Zw wf L)))),some (.pl (fnD t cs)),some (.ot (encM [])),some (.pl (dI 0)),none,none,none]) rfl ?_;refine ZW (P:=λq=>q=_) hh ?_;refine ZW (P:=λq=>q=_) g ?_;simp
 rw[e];rfl
end
end HG5
namespace HG5
open PySem HM HG
def ap:AP:=λt cs ds=>match t with
 | 0=>if cs.isEmpty then ZcZ ds else none
 | 1=>ZkT 1 2 (Zl ZaZ (Zd (Zb 1) (Zd (Zb 2) (Zd (Zb 0) Zn)))) cs ds
 | _=>none
end HG5
namespace HG5
open PySem HM HG HG4
inductive Zn4(w:Wk)(ls b:List Int):List Int->Prop where
 | beg {p:List Int} (h:p∈Zq w ls b):Zn4 w ls b p
 | step {c p:List Int} {d:Nat} (r:Zn4 w ls b c) (hd:d<w.deeds.length) (hc:Zam w c d=true) (h:p∈Zq w ls (ZH w c d)):Zn4 w ls b p
def ZlO(w:Wk)(ls c:List Int)(d:Int):Wy:=(dI d,ZQ w ls (ZH w c d))
def wfV(w:Wk)(ls:List Int):Wf:=λc=>(doV w c).map (ZlO w ls c)
abbrev Zri(w:Wk)(ls:List Int)(L:List (List Int)):List (List Ky × D):=Zw (wfV w ls) L
theorem ZsO(w:Wk)(ls c:List Int):Zm4 w ls c=.list ((wfV w ls c).map wyD):=by unfold Zm4 wfV;rw[ZyV];rfl
theorem Zyp(w:Wk)(ls c:List Int)(d:Int):wyP (ZlO w ls c d)=Zq w ls (ZH w c d):=rfl
abbrev OkC(w:Wk)(c:List Int):Prop:=Cr w.many c/\c≠[]
structure ApD(ap:AP):Prop where
 d0:∀ds,ap 0 [] ds=ZcZ ds
 l1:∀cs ds,ap 1 cs ds=ZkT 1 2 (Zl ZaZ (Zd (Zb 1) (Zd (Zb 2) (Zd (Zb 0) Zn)))) cs ds
section
variable{w:Wk}(hv:Wk.V w)(h7:w.many<=7){ls:List Int}(hl:Cr w.looks.length ls)
include hv h7
theorem Zxc:Zrj (wfV w ls) (OkC w):=by
 refine⟨λc hc y hy p hp=>?_,λc hc=>?_,λc hc y hy=>?_,λC hn hC=>?_⟩
 ·obtain⟨d,hd,rfl⟩:=ZyN.mp hy
  obtain⟨d0,d1,_⟩:=ZeH hd;have:=ZfK (Zd7 hv hc.1 d0 d1) (show p∈Zq w ls (ZH w c d) from hp);exact⟨this.1,this.2.1⟩
 ·unfold wfV
  rw[ZyA];have:=ZlC w c;have:=hv.d2;omega
 ·obtain⟨d,hd,rfl⟩:=ZyN.mp hy
  obtain⟨d0,d1,_⟩:=ZeH hd;have:=split_len (w:=w) (ls:=ls) (c:=ZH w c d);have:=(Zd7 hv hc.1 d0 d1).len;show(ZQ w ls (ZH w c d)).length<=8;omega
 ·have h1:=ZkG hn λc hc=>(hC c hc).1
  have h2:2 ^ w.many<=2 ^ 7:=Nat.pow_le_pow_right (by decide) h7;have h3:2 ^ 7=128:=rfl;omega
omit hv h7 in
theorem Zwr{b c:List Int}(r:Zlz (wfV w ls) (Zq w ls b) c):Zn4 w ls b c:=by
 induction r with
 | beg h=>exact .beg h
 | @step c p y _ hy hp ih=>obtain⟨d,hd,rfl⟩:=ZyN.mp hy;obtain⟨d0,d1,d2⟩:=ZeH hd;have e:((d.toNat:Nat):Int)=d:=ZCg d0;exact .step (d:=d.toNat) ih (by omega) (by rw[e]; exact d2) (by rw[e]; exact hp)
include hl
theorem Zlq{ap:AP}(A:ApD ap){b:List Int}(hb:Cr w.many b):∃L,Zcy ap [w.d,tupI ls,tupI b]=some (.dict (Zk (Zri w ls L)))/\L.Nodup/\L.length<=128/\(∀c∈L,Cr w.many c/\c≠[])/\(∀c∈L,Zn4 w ls b c)/\ZcT w ls L/\∀p∈Zq w ls b,p∈L:=by
 have hp:=Zji hv hl hb;have hsl:=split_len (w:=w) (ls:=ls) (c:=b);have hbl:=hb.len;have hci:=Zgm (ZQ w ls b) (by omega);have hpl:(Zq w ls b).length<=100:=by unfold Zq; rw[ZyA]; omega
 have O:=Zxc hv h7 (ls:=ls);have ha:∀c,OkC w c->ap 1 [w.d,tupI ls] [tupI c]=some (.list ((wfV w ls c).map wyD)):=λc hc=>by rw[A.l1,<-ZsO];unfold ZkT;rw[if_pos ⟨rfl,rfl,by rw[ZzU,Zd3 19]; rfl⟩];exact Zob hv hl hc.1
 obtain⟨L,e,J⟩:=Zrg O ha (B:=Zq w ls b) (λc h=>⟨(ZfK hb h).1,(ZfK hb h).2.1⟩) hpl;refine⟨L,?_,J.nd,O.cs L J.nd J.cr,J.cr,λc hc=>Zwr (J.rc c hc),λc hc d hd can p hp=>?_,λp hp=>?_⟩
 ·show Zar (ZeA ap [some (.pl w.d),some (.pl (tupI ls)),some (.pl (tupI b))])=_
  have h1:Zl ZK (Zd (Zl Zbd (Zd (Zb 0) (Zd (Zb 1) (Zd (Zb 2) Zn)))) Zn) [some (.pl w.d),some (.pl (tupI ls)),some (.pl (tupI b))]=some (.list ((Zq w ls b).map tupI)):=by unfold Zl Zd;show(match(match Zbd [w.d,tupI ls,tupI b]with | some x=>(Zn _).map (x::·) | none=>none)with | some ds=>ZK ds | none=>none)=_;rw[hp];exact hci
  have hn1:[w.d,tupI ls].all (noF 20)=true:=by rw[ZzU,ZzU,Zxk,Zd3 19];rfl
  have hn2:noF 20 (.dict (Zk (Zri w ls L)))=true:=Zxe (n:=14) λc _ y hy=>by obtain⟨d,_,rfl⟩:=ZyN.mp hy;exact ZuZ _ _
  unfold ZeA ZC Zie;rw[h1];show Zar (ZzN Out.rt (if[w.d,tupI ls].all (noF 20)=true then(match ZbM ap [.list ((Zq w ls b).map tupI),fnD 1 [w.d,tupI ls]]with | some d=>if noF 20 d=true then some d else none | none=>none)else none))=_;rw[if_pos hn1,e];dsimp only;rw[if_pos hn2];rfl
 ·rcases J.cl c hc (ZlO w ls c d) (ZyN.mpr ⟨(d:Int),Zp0 hd can,rfl⟩) p hp with h | h
  ·exact h
  ·simp at h
 ·rcases J.bg p hp with h | h
  ·exact h
  ·simp at h
end
def ZcD(ps:List (List Int))(M:Tb):Option Int:=if ps.all (ZD M)then(ps.filterMap λp=>Zi M p).max? else none
def cbD:Cb:=λy M=>(ZcD (wyP y) M).map (·+1)
theorem Zip{α β:Type}{f:α->Option β}:∀{xs:List α},((xs.filterMap f).length=xs.length↔xs.all (λx=>(f x).isSome)=true)
 | []=>by simp
 | x::xs=>by
  have ih:=Zip (f:=f) (xs:=xs);have hl:(xs.filterMap f).length<=xs.length:=ZCX f xs;rw[ZzR,ZzU];cases h:f x with
  | none=>simp; omega
  | some y=>simpa using ih
theorem Zgl{g:Gs}(hg:g.length<1000)(h0:g≠[]){M:Tb}:Zaf [.list (g.map ZaF),.dict (Zk (encM M))]=some (oI (ZcD (g.map (·.2)) M)):=by
 have hci:=Zgm g (by omega);have hlen:((g.map (·.2)).map tupI).length<big:=by rw[ZyA,ZyA]; show _<1000000; omega
 have h1:Z4 (bOf (Zl ZK (Zd (Zb 0) Zn))) [some (.pl (.list (g.map ZaF))),some (.pl (.dict (Zk (encM M)))),none]=some ((g.map (·.2)).map tupI):=by unfold Z4 bOf;show(match ZzN B.pl (ZK [.list (g.map ZaF)])with | some x=>Za9 x | none=>none)=_;rw[hci];rfl
 have h2:Zax (tV (Zn0 (Zb 0) (Zo 2))) (Zbt (Zo 2) (Zb 0)) [some (.pl (.list (g.map ZaF))),some (.pl (.dict (Zk (encM M)))),none] ((g.map (·.2)).map tupI)=some (((g.map (·.2)).filterMap λp=>Zi M p).map dI):=by
  rw[ZbO tupI (ZD M) (λp=>dI ((Zi M p).getD 0))]
  ·congr 1
   generalize g.map (·.2)=ps
   induction ps with
   | nil=>rfl
   | cons p ps ih =>
    rw[ZzQ,ZzR];unfold ZD at ih ⊢;cases hq:Zi M p with
    | none=>rw[if_neg (by simp)]; exact ih
    | some k=>rw[if_pos (by rfl),ZyH,ZyH,ih,hq]; rfl
  ·intro p _
   have hk:ZaS (tupI p)=some (Zad p):=ZaK p;simp[dec_enc,hk,ZcN,ZD]
  ·intro p _ hp
   have hk:ZaS (tupI p)=some (Zad p):=ZaK p;unfold ZD at hp;obtain⟨k,hk'⟩:=Zzm.mp hp;have hlk:=ZcN M p;rw[hk']at hlk;simp[dec_enc,hk,hlk,hk']
 have hfl:=Zip (f:=λp=>Zi M p) (xs:=g.map (·.2));rw[ZyA]at hfl;have hall:(g.map (·.2)).all (λx=>(Zi M x).isSome)=(g.map (·.2)).all (ZD M):=rfl;rw[hall]at hfl;generalize hN:(g.map (·.2)).filterMap (λp=>Zi M p)=ns at *;show Zar (ZdT [some (.pl (.list (g.map ZaF))),some (.pl (.dict (Zk (encM M)))),none])=_;unfold ZdT;refine ZW (P:=λq=>Zar q=_) (r':=[some (.pl (.list (g.map ZaF))),some (.pl (.dict (Zk (encM M)))),some (.ol (ns.map dI))]) ?_ ?_
 ·unfold ZT ZL
  rw[h1];dsimp only;rw[if_pos hlen,h2];rfl
 ·have h3:op2 gEq (ZaJ (Zo 2)) (ZaJ (Zo 0)) [some (.pl (.list (g.map ZaF))),some (.pl (.dict (Zk (encM M)))),some (.ol (ns.map dI))]=some (.bool (decide (ns.length=g.length))):=by
   show gEq (.int ((ns.map dI).length:Int)) (.int ((g.map ZaF).length:Int))=_;rw[ZyA,ZyA]
   by_cases e:ns.length=g.length
   ·rw[e,ZeE (ZcH 1 _) (by decide)]
    simp
   ·rw[Zht (ZcH 1 _) (ZcH 1 _) (by decide) (by decide) (λz=>e (by injection z with z; omega))]
    simp[e]
  have h4:Zh0 (Zo 2) [some (.pl (.list (g.map ZaF))),some (.pl (.dict (Zk (encM M)))),some (.ol (ns.map dI))]=ns.max?.map λi=>Zze i:=by show(match ZaG (ns.map dI)with | some ns=>ns.max?.map λi=>Zze i | none=>none)=_;rw[ZbR]
  unfold ZC eIf tV;rw[h3];unfold ZcD;rw[hN]
  by_cases e:ns.length=g.length
  ·rw[if_pos (hfl.mp e),decide_eq_true e]
   show Zar (ZzN Out.rt (Zh0 (Zo 2) _))=_;rw[h4];have hne:ns≠[]:=λz=>by rw[z]at e;exact h0 (ZAd e.symm)
   cases hq:ns.max? with
   | none=>rw[ZB4]at hq; exact absurd hq hne
   | some m=>rfl
  ·rw[if_neg λz=>e (hfl.mpr z),decide_eq_false e]
   rfl
theorem ZpL{y:Wy}(hy:y.2.length<1000)(h0:y.2≠[])(M:Tb):ZcZ [wyD y,.dict (Zk (encM M))]=some (oI (cbD y M)):=by
 have h:=Zgl hy h0 (M:=M);have h':Zaf [.list (y.2.map ZaF),.dict (Zk (encM M))]=some (oI (ZcD (wyP y) M)):=h;show Zar (ZgO [some (.pl (wyD y)),some (.pl (.dict (Zk (encM M)))),none])=_;unfold ZgO cbD;refine ZW (P:=λq=>Zar q=_) (r':=[some (.pl (wyD y)),some (.pl (.dict (Zk (encM M)))),some (.pl (oI (ZcD (wyP y) M)))]) ?_ ?_
 ·unfold Z0 Zl
  show ZzN _ (Zaf [.list (y.2.map ZaF),.dict (Zk (encM M))])=_;rw[h'];rfl
 ·cases ZcD (wyP y) M<;>rfl
def Zi0(w:Wk)(ls:List Int)(L:List (List Int))(M:Tb):Prop:=∃t,Zfq w ls L t M/\ZaV w ls L M=[]
theorem ZkP{ps:List (List Int)}{M:Tb}{m:Int}(h:ZcD ps M=some m):(∀p∈ps,∃k,Zi M p=some k/\k<=m)/\∃p∈ps,Zi M p=some m:=by
 unfold ZcD at h;split at h
 ·rename_i ha
  obtain⟨m1,m2⟩:=ZB2.mp h;refine⟨λp hp=>?_,?_⟩
  ·have hh:=ZyL.mp ha p hp
   unfold ZD at hh;obtain⟨k,hk⟩:=Zzm.mp hh;exact⟨k,hk,m2 _ (ZzY.mpr ⟨p,hp,hk⟩)⟩
  ·obtain⟨p,hp,e⟩:=ZzY.mp m1
   exact⟨p,hp,e⟩
 ·cases h
theorem ZkR{ps:List (List Int)}{M:Tb}(h0:ps≠[])(h:ZcD ps M=none):ps.all (ZD M)=false:=by
 cases hq:ps.all (ZD M)with
 | false=>rfl
 | true=>unfold ZcD at h;rw[hq,if_pos rfl,ZB4]at h;obtain⟨p,r,rfl⟩:=ZCB h0;have hh:=ZyL.mp hq p (ZyE ..);unfold ZD at hh;obtain⟨k,hk⟩:=Zzm.mp hh;rw[ZzR,hk]at h;cases h
section
variable{w:Wk}{ls:List Int}{L:List (List Int)}(hL:ZcT w ls L)(hne:∀c∈L,c≠[])
include hL hne
theorem ZqX{t:Nat}{M:Tb}(T:Zfq w ls L t M){c:List Int}(hc:c∈L)(hn:ZD M c=false):ZcE cbD (wfV w ls c) M=if Zdn w ls c M then some ((t+1:Nat):Int)else none:=by
 have known:∀{p:List Int} {k:Int},Zi M p=some k->∃n:Nat,k=(n:Int)/\n<=t/\Win w ls n p=true:=λ{p k} h=>by
  rw[T.look]at h;split at h
  ·obtain⟨n,h1,h2,h3,_⟩:=Zes h
   exact⟨n,h1,h2,h3⟩
  ·cases h
 have val:∀y∈wfV w ls c,∀k,cbD y M=some k->k=((t+1:Nat):Int)/\Zdn w ls c M=true:=λy hy k hk=>by
  obtain⟨d,hd,rfl⟩:=ZyN.mp hy;obtain⟨d0,d1,d2⟩:=ZeH hd;have e:((d.toNat:Nat):Int)=d:=ZCg d0;obtain⟨m,h1,h2⟩:=ZyB.mp hk;have h1:ZcD (Zq w ls (ZH w c d)) M=some m:=h1;obtain⟨w1,p,hp,w2⟩:=ZkP h1;obtain⟨n,rfl,hnt,_⟩:=known w2;refine⟨?_,ZzH.mpr ⟨d.toNat,ZyZ.mpr (by omega),?_⟩⟩
  ·subst h2
   by_cases hlt:n<t
   ·-- then the crowd would be known already
    have hw:Win w ls (n+1) c=true:=by show(Z2 w c||_)=true;rw[ZAn];refine .inr (ZzH.mpr ⟨d.toNat,ZyZ.mpr (by omega),?_⟩);rw[e,d2,ZDt];refine ZyL.mpr λq hq=>?_;obtain⟨k,k1,k2⟩:=w1 q hq;obtain⟨n',rfl,_,hw'⟩:=known k1;exact Zfb (by omega) hw'
    have:ZD M c=true:=by unfold ZD;rw[T.look,if_pos hc,Zcl];exact Zfb (by omega) hw
    rw[hn]at this;cases this
   ·show(n:Int)+1=_
    omega
  ·rw[e,d2,ZDt]
   refine ZyL.mpr λq hq=>?_;obtain⟨k,k1,_⟩:=w1 q hq;unfold ZD;rw[k1];rfl
 have all_eq:∀k∈(wfV w ls c).filterMap (λy=>cbD y M),k=((t+1:Nat):Int)/\Zdn w ls c M=true:=λk hk=>by obtain⟨y,hy,e⟩:=ZzY.mp hk;exact val y hy k e
 unfold ZcE;cases hcan:Zdn w ls c M with
 | false =>
  have:(wfV w ls c).filterMap (λy=>cbD y M)=[]:=List.eq_nil_iff_forall_not_mem.mpr λk hk=>by have:=(all_eq k hk).2;rw[hcan]at this;cases this
  rw[this];rfl
 | true =>
  obtain⟨d,hd,hq⟩:=ZzH.mp hcan;rw[ZyT]at hq;have hd':=ZyZ.mp hd;have hy:ZlO w ls c (d:Int)∈wfV w ls c:=ZyN.mpr ⟨(d:Int),Zp0 hd' hq.1,rfl⟩;have hpn:Zq w ls (ZH w c d)≠[]:=Zgw (Zn1 (hne c hc) hq.1);have hk:∃k,cbD (ZlO w ls c d) M=some k:=by
   unfold cbD;cases hw:ZcD (wyP (ZlO w ls c d)) M with
   | none=>have:=ZkR hpn hw;rw[show(Zq w ls (ZH w c d)).all (ZD M)=true from hq.2]at this;cases this
   | some m=>exact⟨m+1,rfl⟩
  obtain⟨k,hk⟩:=hk;have hm:k∈(wfV w ls c).filterMap (λy=>cbD y M):=ZzY.mpr ⟨_,hy,hk⟩;cases hmin:((wfV w ls c).filterMap λy=>cbD y M).min? with
  | none=>rw[ZDn]at hmin; rw[hmin]at hm; simp at hm
  | some m=>have:=(ZB3.mp hmin).1;rw[(all_eq m this).1];rfl
theorem Zuj{t:Nat}{M:Tb}(T:Zfq w ls L t M):ZaP (wfV w ls) cbD L M=(ZaV w ls L M).map λc=>(c,((t+1:Nat):Int)):=by
 unfold ZaP ZaV;have key:∀K:List (List Int),(∀c∈K,c∈L)->(K.filterMap λc=>if ZD M c then none else(ZcE cbD (wfV w ls c) M).map λk=>(c,k))=(K.filter λc=>!ZD M c&&Zdn w ls c M).map λc=>(c,((t+1:Nat):Int)):=by
  intro K
  induction K with
  | nil=>intro _; rfl
  | cons c K ih =>
   intro hK;have ih:=ih λx hx=>hK x (ZyD _ hx);rw[ZzR,ZzQ];cases hh:ZD M c with
   | true=>simpa using ih
   | false =>
    have hle:=ZqX hL hne T (hK c (ZyE ..)) hh;rw[hle];cases hcan:Zdn w ls c M with
    | false=>simpa [hcan]using ih
    | true=>simpa [hcan]using ih
 exact key L λ_ h=>h
theorem Zvv{M R:Tb}{k:Option Int}{found:List (List Int)}(r:Zkl (wfV w ls) cbD L M k found R):∀t:Nat,(found=[]->Zfq w ls L t M/\ZaV w ls L M=[])->(found≠[]->k=some (t:Int)/\Zfq w ls L t (Zbs found t M))->Zi0 w ls L R:=by
 induction r with
 | done=>intro t h _; exact⟨t,h rfl⟩
 | @step M R k found hf _ ih =>
  intro t _ h;obtain⟨hk,T⟩:=h hf;cases hk;have ho:=Zuj hL hne T;have hmin:∀ms:List (List Int),Zfp (ms.map λc=>(c,((t+1:Nat):Int)))=ms/\(ms≠[]->Zb9 (ms.map λc=>(c,((t+1:Nat):Int)))=some ((t+1:Nat):Int)):=λms=>by
   cases ms with
   | nil=>exact⟨rfl,λz=>absurd rfl z⟩
   | cons c ms =>
    have hO:Zb9 ((c::ms).map λc=>(c,((t+1:Nat):Int)))=some ((t+1:Nat):Int):=by unfold Zb9;rw[ZyV];refine ZB3.mpr ⟨ZyN.mpr ⟨c,ZyE ..,rfl⟩,λb hb=>?_⟩;obtain⟨c',_,rfl⟩:=ZyN.mp hb;exact Int.le_refl _
    refine⟨?_,λ_=>hO⟩;unfold Zfp;rw[hO];have:∀xs:List (List Int),((xs.map λc=>(c,((t+1:Nat):Int))).filter λp=>some p.2==some ((t+1:Nat):Int)).map (·.1)=xs:=by
     intro xs
     induction xs with
     | nil=>rfl
     | cons x xs ih=>simp at ih ⊢; exact ih
    exact this _
  obtain⟨m1,m2⟩:=hmin (ZaV w ls L (Zbs found t M));rw[ho,m1]at ih;refine ih (if ZaV w ls L (Zbs found t M)=[]then t else t+1) (λe=>?_) λe=>?_
  ·rw[if_pos e]
   exact⟨T,e⟩
  ·rw[if_neg e]
   exact⟨m2 e,Zkc hL T⟩
theorem ZtP(hv:Wk.V w){R:Tb}(r:Zkl (wfV w ls) cbD L [] (some 0) (L.filter λc=>Z2 w c) R):Zi0 w ls L R:=by
 refine Zvv hL hne r 0 (λe=>?_) λ_=>⟨rfl,Zks⟩;have T:Zfq w ls L 0 (M0 w L):=Zks;have e0:M0 w L=[]:=by unfold M0; rw[e]; rfl
 rw[e0]at T;refine⟨T,ZDg.mpr λc hc h=>?_⟩;rw[ZyT]at h;obtain⟨d,hd,hq⟩:=ZzH.mp h.2;rw[ZyT]at hq;obtain⟨p,hp⟩:=List.exists_mem_of_ne_nil _ (Zgw (w:=w) (ls:=ls) (Zn1 (hne c hc) hq.1));have:=ZyL.mp hq.2 p hp;cases this
end
theorem ZnQ{w:Wk}(hv:Wk.V w){ap:AP}(A:ApD ap){ls:List Int}{L:List (List Int)}(hnd:L.Nodup)(hcr:∀c∈L,Cr w.many c/\c≠[])(hlen:L.length<=128)(hL:ZcT w ls L):∃M,Zdg ap [w.d,.dict (Zk (Zri w ls L))]=some (.dict (Zk (encM M)))/\Zi0 w ls L M:=by
 have hys:∀c∈L,(wfV w ls c).length<1000:=λc hc=>by unfold wfV;rw[ZyA];have:=ZlC w c;have:=hv.d2;omega
 obtain⟨R,e,r⟩:=ZpP hv (ap:=ap) (wf:=wfV w ls) (t:=0) (cs:=[]) (cb:=cbD) hnd hlen (λc hc=>(hcr c hc).1) hys λc hc y hy M=>by
  rw[A.d0];obtain⟨d,hd,rfl⟩:=ZyN.mp hy;obtain⟨d0,d1,d2⟩:=ZeH hd;refine ZpL ?_ ?_ M
  ·have:=split_len (w:=w) (ls:=ls) (c:=ZH w c d)
   have:=(Zd7 hv (hcr c hc).1 d0 d1).len;have:=hv.m2;show(ZQ w ls (ZH w c d)).length<1000;omega
  ·exact λz=>Zgw (w:=w) (ls:=ls) (Zn1 (hcr c hc).2 d2) (by unfold Zq; rw[show ZQ w ls (ZH w c d)=[] from z]; rfl)
 refine⟨R,?_,ZtP hL (λc hc=>(hcr c hc).2) hv r⟩;show Zar (ZfR ap [some (.pl w.d),some (.pl (.dict (Zk (Zri w ls L))))])=_;unfold ZfR ZC Zl;show Zar (ZzN Out.rt (ZcY ap [w.d,.dict (Zk (Zw (wfV w ls) L)),fnD 0 []]))=_;rw[e];rfl
end HG5
namespace HG5
open PySem HM HG HG4
theorem Zi0.cost{w:Wk}{ls:List Int}{L:List (List Int)}{M:Tb}(F:Zi0 w ls L M){c:List Int}{k:Int}(h:Zi M c=some k):c∈L/\∃n:Nat,k=(n:Int)/\Win w ls n c=true/\∀m,m<n->Win w ls m c=false:=by
 obtain⟨t,T,_⟩:=F;rw[T.look]at h;split at h
 ·rename_i hc
  obtain⟨n,h1,_,h2,h3⟩:=Zes h;exact⟨hc,n,h1,h2,h3⟩
 ·cases h
theorem Zi0.all{w:Wk}{ls:List Int}{L:List (List Int)}(hL:ZcT w ls L){M:Tb}(F:Zi0 w ls L M){c:List Int}(hc:c∈L){n:Nat}(h:Win w ls n c=true):ZD M c=true:=by
 obtain⟨t,T,hm⟩:=F;have T':=Zkc hL T;rw[hm]at T';have st:∀c∈L,Win w ls (t+1) c=true->Win w ls t c=true:=λc hc q=>by have e1:=T.look c;have e2:=T'.look c;rw[if_pos hc]at e1 e2;have e3:Zcr w ls t c=Zcr w ls (t+1) c:=e1.symm.trans e2;rw[<-Zcl,e3,Zcl];exact q
 have:=Zh9 hL st n c hc h;unfold ZD;rw[T.look,if_pos hc,Zcl];exact this
def Zx9(w:Wk)(ls:List Int)(P:List (List Int))(d:D):Prop:=(∃n:Nat,d=.int n/\(∀p∈P,Win w ls n p=true)/\∀m,m<n->¬∀p∈P,Win w ls m p=true)\/(d=.none/\∀n,¬∀p∈P,Win w ls n p=true)
theorem Zup{w:Wk}{ls:List Int}{L:List (List Int)}(hL:ZcT w ls L){M:Tb}(F:Zi0 w ls L M){g:Gs}(hg:g.length<1000)(h0:g≠[])(hp:∀p∈g.map (·.2),p∈L):∃d,Zaf [.list (g.map ZaF),.dict (Zk (encM M))]=some d/\Zx9 w ls (g.map (·.2)) d:=by
 rw[Zgl hg h0];refine⟨_,rfl,?_⟩;have hne:g.map (·.2)≠[]:=λe=>h0 (ZCi.mp e);cases hq:ZcD (g.map (·.2)) M with
 | none=>refine .inr ⟨rfl,λn hn=>?_⟩;have h1:=ZkR hne hq;have:(g.map (·.2)).all (ZD M)=true:=ZyL.mpr λp h=>F.all hL (hp p h) (hn p h);rw[h1]at this;cases this
 | some m =>
  obtain⟨w1,p,hpm,w2⟩:=ZkP hq;obtain⟨_,n,rfl,k3,k4⟩:=F.cost w2;refine .inl ⟨n,rfl,λq hq'=>?_,λj hj hw=>?_⟩
  ·obtain⟨k,a1,a2⟩:=w1 q hq'
   obtain⟨_,n',rfl,a3,_⟩:=F.cost a1;exact Zfb (by omega) a3
  ·have:=hw p hpm
   rw[k4 j hj]at this;cases this
section
variable{w:Wk}(hv:Wk.V w)(h7:w.many<=7){ls:List Int}(hl:Cr w.looks.length ls)
include hv h7 hl
theorem ZsW{ap:AP}(A:ApD ap):∃d,ZaB ap [w.d,tupI ls]=some d/\Few w ls d:=by obtain⟨L,hco,hnd,hlen,hcr,_,hL,hbg⟩:=Zlq hv h7 hl A hv.bc;obtain⟨M,hde,F⟩:=ZnQ hv A hnd hcr hlen hL;have hpa:=Zji hv hl hv.bc;have hsl:=split_len (w:=w) (ls:=ls) (c:=w.beg);have hbl:=hv.bc.len;have hsn:ZQ w ls w.beg≠[]:=λe=>Zgw (w:=w) (ls:=ls) hv.b1 (by unfold Zq; rw[e]; rfl);obtain⟨d,hm,fw⟩:=Zup hL F (g:=ZQ w ls w.beg) (by omega) hsn hbg;refine⟨d,?_,fw⟩;have hc1:=ZfF hv;have hc2:=Zkq hv hl;have hb:=ZpV w;show Zar (ZiF ap [some (.pl w.d),some (.pl (tupI ls)),none,none])=_;simp[ZiF,hc1,hc2,hb,hco,hde,hpa,hm,Zar]
end
theorem ZxZ:ApD ap:=⟨λ_=>rfl,λ_ _=>rfl⟩
end HG5
namespace HG15
open PySem HM HG4
open HG
open HG5
def ZhF:SF :=
 (ZC (Zaq (ZL (Z4 (bOf (Zl Z8 (Zd (Zb 0) Zn)))) (tV (op2 gNe (Zb 0) (Zb 2))) (Zb 0))))
def ZbB:List D->Option D:=fnOf 2 2 ZhF
def ZgP(ap:AP):SF :=
 (Zr (ZkJ (Zl Za4 (Zd (Zb 0) Zn)))
  (Zr (Z0 1 (Zl (ZaB ap) (Zd (Zb 0) (Zd (Zl Z8 (Zd (Zb 0) Zn)) Zn))))
  (ZC (eOf (ZL (Z4 (bOf (Zl Z8 (Zd (Zb 0) Zn)))) (tV (op2 gEq (Zl (ZaB ap) (Zd (Zb 1) (Zd (Zl ZbB (Zd (Zb 1) (Zd (Zb 0) Zn))) Zn))) (Zb 2))) (Zb 0))))))
def Zc0(ap:AP):List D->Option D:=fnOf 1 2 (ZgP ap)
def ZgQ(ap:AP):SF :=
 (Zr (ZkJ (Zl Za4 (Zd (Zb 0) Zn)))
  (Zr (sIf (ZdD (tV (Zl Zas (Zd (Zb 1) (Zd (eC (.int 0)) (Zd (op2 Zfr (ZaJ (bOf (Zl ZaA (Zd (Zb 0) Zn)))) (eC (.int 1))) Zn)))))) ZkO Zae)
  (Zr (Z0 2 (Zl (ZaB ap) (Zd (Zb 0) (Zd (Zl Z8 (Zd (Zb 0) Zn)) Zn))))
  (Zr (sIf (tV (op2 Zi9 (Zb 2) (eC .none))) (ZC (eC (.int 0))) Zae)
  (Zr (Z0 3 (Zl (ZaB ap) (Zd (Zb 0) (Zd (Zl ZbB (Zd (Zb 0) (Zd (Zb 1) Zn))) Zn))))
  (ZC (eIf (tV (op2 Zi9 (Zb 3) (eC .none))) (eC .none) (op2 Zfr (Zb 3) (Zb 2)))))))))
def Zc1(ap:AP):List D->Option D:=fnOf 2 4 (ZgQ ap)
def Zho(ap:AP):SF :=
 (Zr (Z0 6 (Zl Zau (Zd (Zb 1) (Zd (Zi7 (ZgE (Zb 2) none (some (Zb 5))) (ZgE (Zb 2) (some (op2 Zbb (Zb 5) (eC (.int 1)))) none)) Zn))))
  (Zr (sIf (tV (op2 gEq (Zb 6) (Zb 3))) (Zdy 4 (Zb 5)) Zae)
  (Zr (Z0 7 (Zl (Zc1 ap) (Zd (Zb 1) (Zd (Zb 5) Zn))))
  (sIf (tV (op2 Zi9 (Zb 3) (eC .none))) (sIf (tOr (tV (op2 gNe (Zb 7) (eC (.int 0)))) (tV (ZdF (Zb 7) .bool))) (ZC (eC (.bool false))) Zae) (sIf (tV (op2 Zi9 (Zb 6) (eC .none))) (sIf (tV (op2 ZeY (Zb 7) (eC .none))) (ZC (eC (.bool false))) Zae) (sIf (tOr (ZdD (tV (Zl Zcw (Zd (Zb 7) Zn)))) (tV (op2 gNe (Zb 7) (op2 Zfr (Zb 6) (Zb 3))))) (ZC (eC (.bool false))) Zae))))))
def Znf(ap:AP):SF :=
 (Zr (Z0 1 (Zl ZaX (Zd (Zb 0) (Zd (eC (.int 0)) Zn))))
  (Zr (Z0 2 (ZeR (ZbW (ZaJ (bOf (eIx (Zo 1) (eC (.int 2))))))))
  (Zr (Z0 3 (Zl Zau (Zd (Zb 1) (Zd (Zb 2) Zn))))
  (Zr (ZT 4 (Zew Zn))
  (Zr (Za2 5 (Z4 (bOf (Zb 2))) (Zho ap))
  (Zr (Z0 8 (Zl (Zc0 ap) (Zd (Zb 1) Zn)))
  (ZeJ 4 (ZC (Zgr (ZdF (Zb 8) .list) (op2 gEq (Zb 8) (Zb 4)))))))))))
def ZfS(ap:AP):List D->Option D:=fnOf 1 9 (Znf ap)
end HG15
namespace HG15
open PySem HM HG4
open HG
open HG5
def Zfn(w:Wk)(l:Nat):List Int:=(alV w).filter λx=>x != (l:Int)
theorem ZwS(w:Wk)(l:Nat):Cr w.looks.length (Zfn w l):=ZsY _ (Zoz w)
theorem Zsg(n l:Nat)(h:l<n):((ZyF n).map λ(k:Nat)=>(k:Int)).filter (λx=>x != (l:Int))=((ZyF n).map λ(k:Nat)=>(k:Int)).take l++((ZyF n).map λ(k:Nat)=>(k:Int)).drop (l+1):=by
 have e:(ZyF n).map (λ(k:Nat)=>(k:Int))=((ZyF n).map λ(k:Nat)=>(k:Int)).take l++(l:Int)::((ZyF n).map λ(k:Nat)=>(k:Int)).drop (l+1):=by
  have hl:l<((ZyF n).map λ(k:Nat)=>(k:Int)).length:=by simpa using h
  have h2:=List.take_append_drop l ((ZyF n).map λ(k:Nat)=>(k:Int));rw[ZBr hl]at h2;simpa using h2.symm
 have h1:∀x∈((ZyF n).map λ(k:Nat)=>(k:Int)).take l,(x != (l:Int))=true:=λx hx=>by obtain⟨i,hi,e⟩:=List.mem_iff_getElem.mp hx;simp at hi e;simp;omega
 have h3:∀x∈((ZyF n).map λ(k:Nat)=>(k:Int)).drop (l+1),(x != (l:Int))=true:=λx hx=>by obtain⟨i,hi,e⟩:=List.mem_iff_getElem.mp hx;simp at hi e;simp;omega
 conv=>lhs; rw[e]
 rw[List.filter_append,ZzQ,ZAa.mpr h1,ZAa.mpr h3];simp
def Zs0:D->D->D
 | .int n,.int m=>.int (m-n)
 | .int _,_=>.none
 | _,_=>.int 0
def ZiS(d:D):Prop:=(∃n:Nat,d=.int n)\/d=.none
theorem Zqc{d:D}(h:ZiS d):nbD 1 d=true:=by
 rcases h with⟨n,rfl⟩ | rfl
 ·exact ZcH 1 _
 ·exact Zqf 1
theorem ZrY{d e:D}(hd:ZiS d)(he:ZiS e):gEq d e=some (.bool (Zzv d e)):=by unfold gEq;rw[ZcP (Zqc hd) (by decide),ZcP (Zqc he) (by decide)];rfl
section
variable{w:Wk}(hv:Wk.V w)(h7:w.many<=7)
include hv h7
theorem Zo0{ls:List Int}(hl:Cr w.looks.length ls):∃d,ZaB ap [w.d,tupI ls]=some d/\Zau [w.d,tupI ls]=some d/\ZiS d:=by
 obtain⟨d,e1,f1⟩:=ZsW hv h7 hl ZxZ;obtain⟨d',e2,f2⟩:=ZmP hv h7 hl;have:=f1.unique f2;subst this;refine⟨d,e1,e2,?_⟩;rcases f1 with⟨n,rfl,_⟩ | ⟨rfl,_⟩
 ·exact .inl ⟨n,rfl⟩
 ·exact .inr rfl
omit h7 in
theorem Zk1{l:Nat}(hl:l<w.looks.length):ZbB [w.d,.int l]=some (tupI (Zfn w l)):=by
 have ha:=Zgn hv;have hn:(alV w).length<1000000:=by have:=(Zoz w).len; have:=hv.l2; omega
 have e:∀r:HM.Env,r[1]?=some (some (.pl (.int l)))->Zax (tV (op2 gNe (Zb 0) (Zb 2))) (Zb 0) r ((alV w).map dI)=some ((Zfn w l).map dI):=λr r1=>by
  rw[ZbO dI (λx=>x != (l:Int)) dI]
  ·rfl
  ·intro x _
   by_cases hx:x=(l:Int)
   ·have:gNe (.int x) (.int (l:Int))=some (.bool false):=by rw[hx]; exact Zke (ZcH 1 _) (by decide)
    have h2:Zb 2 (some (B.pl (dI x))::r)=some (.int l):=by simp[r1]
    unfold tV op2;rw[show Zb 0 (some (B.pl (dI x))::r)=some (.int x) from rfl,h2];dsimp only;rw[this];simp[hx]
   ·have:gNe (.int x) (.int (l:Int))=some (.bool true):=Zw2 (ZcH 1 _) (ZcH 1 _) (by decide) (by decide) (by simpa using hx)
    have h2:Zb 2 (some (B.pl (dI x))::r)=some (.int l):=by simp[r1]
    unfold tV op2;rw[show Zb 0 (some (B.pl (dI x))::r)=some (.int x) from rfl,h2];dsimp only;rw[this];simp[hx]
  ·intro x _ _
   rfl
 show Zar (ZhF [some (.pl w.d),some (.pl (.int l))])=_;have h1:Z4 (bOf (Zl Z8 (Zd (Zb 0) Zn))) [some (.pl w.d),some (.pl (.int l))]=some ((alV w).map dI):=by unfold Z4 bOf Zl;show(match ZzN B.pl (Z8 [w.d])with | some x=>Za9 x | none=>none)=_;rw[ha];rfl
 unfold ZhF ZC Zaq ZL;rw[h1];dsimp only;rw[if_pos (by rw[ZyA]; exact hn),e _ rfl];rfl
theorem Zug{l:Nat}(hl:l<w.looks.length){a b:D}(ha:ZaB ap [w.d,tupI (alV w)]=some a)(hb:ZaB ap [w.d,tupI (Zfn w l)]=some b)(fa:ZiS a)(fb:ZiS b) :
  Zc1 ap [w.d,.int l]=some (Zs0 a b):=by
 have hc:=ZfF hv;have hal:=Zgn hv;have hbu:=Zk1 hv hl;have hnum:=Zev (.int (l:Int)) 0 ((w.looks.length:Int)-1);have hnt:Zfk (.int (l:Int)) 0 ((w.looks.length:Int)-1)=true:=by simp[Zfk]; omega
 rw[hnt]at hnum;have hlo:ZaA [w.d]=some (.tuple (w.looks.map tupI)):=rfl;show Zar (ZgQ ap [some (.pl w.d),some (.pl (.int l)),none,none])=_;unfold ZgQ;refine ZW (P:=λq=>Zar q=_) (r':=[some (.pl w.d),some (.pl (.int l)),none,none]) (by simp[hc]) ?_;refine ZW (P:=λq=>Zar q=_) (r':=[some (.pl w.d),some (.pl (.int l)),none,none]) (by simp[hlo,hnum]) ?_;refine ZW (P:=λq=>Zar q=_) (r':=[some (.pl w.d),some (.pl (.int l)),some (.pl a),none]) (by simp[hal,ha]) ?_;rcases fa with⟨n,rfl⟩ | rfl
 ·refine ZW (P:=λq=>Zar q=_) (r':=[some (.pl w.d),some (.pl (.int l)),some (.pl (.int n)),none]) rfl ?_
  refine ZW (P:=λq=>Zar q=_) (r':=[some (.pl w.d),some (.pl (.int l)),some (.pl (.int n)),some (.pl b)]) (by simp[hbu,hb]) ?_;rcases fb with⟨m,rfl⟩ | rfl<;>rfl
 ·have:sIf (tV (op2 Zi9 (Zb 2) (eC .none))) (ZC (eC (.int 0))) Zae [some (.pl w.d),some (.pl (.int l)),some (.pl .none),none]=some (.rt (.int 0)):=rfl
  unfold Zr;rw[this];rfl
end
def ZbV(a:D)(fd:Nat->D)(l:Nat):Bool:=Zzv (fd l) a
theorem Zki(ns:List Int)(h:ns.length<=63):ZfS ap [.list (ns.map dI)]=some (.bool true):=by
 have hv:=Wk.Ok.v (Zv8 ns 0);have h7:(wkV ns 0).many<=7:=by have:(wkV ns 0).many=ZM ns 0:=rfl;have:=(ZjD ns 0).2;omega
 have hw:=Zth ns 0 h;generalize wkV ns 0=w at *;have hw':ZaX [.list (ns.map dI),.int 0]=some w.d:=hw;obtain⟨a,ea,la,fa⟩:=Zo0 hv h7 (Zoz w);have hch:∀l,∃d,ZaB ap [w.d,tupI (Zfn w l)]=some d/\Zau [w.d,tupI (Zfn w l)]=some d/\ZiS d:=λl=>Zo0 hv h7 (ZwS w l);obtain⟨fd,hfd⟩:∃fd:Nat->D,∀l,ZaB ap [w.d,tupI (Zfn w l)]=some (fd l)/\Zau [w.d,tupI (Zfn w l)]=some (fd l)/\ZiS (fd l):=⟨λl=>(hch l).choose,λl=>(hch l).choose_spec⟩;have hnl:w.looks.length<=4:=hv.l2;have hat:tupI (alV w)=.tuple (ZbK 0 w.looks.length):=by rw[ZZ];show Zzf (((ZyF w.looks.length).map λ(k:Nat)=>(k:Int)).map dI)=_;rw[ZyV];rfl
 have loop:∀(xs:List Nat) (due:List Nat) (o5 o6 o7:Option B),(∀l∈xs,l<w.looks.length)->due.length+xs.length<1000->∃p5 p6 p7,
   Z1 5 (Zho ap) (xs.map dN) [some (.pl (.list (ns.map dI))),some (.pl w.d),some (.pl (tupI (alV w))),some (.pl a),some (.ol (due.map dN)),o5,o6,o7,none]=some (.nx [some (.pl (.list (ns.map dI))),some (.pl w.d),some (.pl (tupI (alV w))),some (.pl a),some (.ol ((due++xs.filter (ZbV a fd)).map dN)),p5,p6,p7,none]):=by
  intro xs
  induction xs with
  | nil=>exact λdue o5 o6 o7 _ _=>⟨o5,o6,o7,by rw[List.filter_nil,Zzb]; rfl⟩
  | cons l xs ih =>
   intro due o5 o6 o7 hx hlen;rw[ZyP]at hlen;have hl:=hx l (ZyE ..);obtain⟨e1,e2,e3⟩:=hfd l;have hwo:=Zug hv h7 hl ea e1 fa e3;generalize hdu:(if ZbV a fd l then due++[l]else due)=due';generalize hto:Zs0 a (fd l)=tv at hwo;obtain⟨p5,p6,p7,ih⟩:=ih due' (some (.pl (dN l))) (some (.pl (fd l))) (some (.pl tv)) (λx hx'=>hx x (ZyD _ hx')) (by rw[<-hdu]; split<;>(try rw[ZyS,ZzW])<;>omega)
   refine⟨p5,p6,p7,?_⟩;have hdue:(due++(l::xs).filter (ZbV a fd))=due'++xs.filter (ZbV a fd):=by rw[<-hdu,ZzQ];cases ZbV a fd l<;>simp
   rw[hdue,<-ih,ZyH];have hcut:Zi7 (ZgE (Zb 2) none (some (Zb 5))) (ZgE (Zb 2) (some (op2 Zbb (Zb 5) (eC (.int 1)))) none) [some (.pl (.list (ns.map dI))),some (.pl w.d),some (.pl (tupI (alV w))),some (.pl a),some (.ol (due.map dN)),some (.pl (dN l)),o6,o7,none]=some (tupI (Zfn w l)):=by
    have hal:(alV w).length=w.looks.length:=by unfold alV; simp
    have c1:ZgE (Zb 2) none (some (Zb 5)) [some (.pl (.list (ns.map dI))),some (.pl w.d),some (.pl (tupI (alV w))),some (.pl a),some (.ol (due.map dN)),some (.pl (dN l)),o6,o7,none]=some (.tuple (((alV w).take l).map dI)):=by
     show(if HM.sIx ((alV w).map dI).length 0 none=0/\HM.sIx ((alV w).map dI).length ((alV w).map dI).length (some (l:Int))=((alV w).map dI).length then none else some (Zzf (cutD ((alV w).map dI) none (some (l:Int)))))=_;have s1:HM.sIx ((alV w).map dI).length ((alV w).map dI).length (some (l:Int))=l:=by show(if(l:Int)<0 then((l:Int)+(((alV w).map dI).length:Int)).toNat else min (l:Int).toNat ((alV w).map dI).length)=l;rw[if_neg (by omega),ZyA,hal,ZAD];omega
     rw[if_neg (by rw[s1,ZyA,hal]; omega)];unfold cutD;rw[s1];show some (Zzf ((((alV w).map dI).drop 0).take (l-0)))=_;rw[List.drop_zero,Nat.sub_zero,ZDq]
    have c2:ZgE (Zb 2) (some (op2 Zbb (Zb 5) (eC (.int 1)))) none [some (.pl (.list (ns.map dI))),some (.pl w.d),some (.pl (tupI (alV w))),some (.pl a),some (.ol (due.map dN)),some (.pl (dN l)),o6,o7,none]=some (.tuple (((alV w).drop (l+1)).map dI)):=by
     show(if HM.sIx ((alV w).map dI).length 0 (some ((l:Int)+1))=0/\HM.sIx ((alV w).map dI).length ((alV w).map dI).length none=((alV w).map dI).length then none else some (Zzf (cutD ((alV w).map dI) (some ((l:Int)+1)) none)))=_;have s1:HM.sIx ((alV w).map dI).length 0 (some ((l:Int)+1))=l+1:=by show(if(l:Int)+1<0 then((l:Int)+1+(((alV w).map dI).length:Int)).toNat else min ((l:Int)+1).toNat ((alV w).map dI).length)=l+1;rw[if_neg (by omega),ZyA,hal,show((l:Int)+1).toNat=l+1 by omega];omega
     rw[if_neg (by rw[s1]; omega)];unfold cutD;rw[s1];show some (Zzf ((((alV w).map dI).drop (l+1)).take (((alV w).map dI).length-(l+1))))=_;rw[ZDr];congr 2;exact List.take_of_length_le (by rw[ZAr]; omega)
    unfold Zi7;rw[c1,c2];dsimp only;rw[if_pos (by rw[ZyA,ZyA,ZzO,ZAr]; show _<1000000; omega),<-Zzd];have:Zfn w l=(alV w).take l++(alV w).drop (l+1):=Zsg w.looks.length l hl;rw[this]
   have body:Zho ap [some (.pl (.list (ns.map dI))),some (.pl w.d),some (.pl (tupI (alV w))),some (.pl a),some (.ol (due.map dN)),some (.pl (dN l)),o6,o7,none]=some (.nx [some (.pl (.list (ns.map dI))),some (.pl w.d),some (.pl (tupI (alV w))),some (.pl a),some (.ol (due'.map dN)),some (.pl (dN l)),some (.pl (fd l)),some (.pl tv),none]):=by
    unfold Zho;refine ZW (P:=λq=>q=_) (r':=[some (.pl (.list (ns.map dI))),some (.pl w.d),some (.pl (tupI (alV w))),some (.pl a),some (.ol (due.map dN)),some (.pl (dN l)),some (.pl (fd l)),o7,none]) ?_ ?_
    ·unfold Z0 Zl Zd
     rw[hcut];show ZzN _ (Zau [w.d,tupI (Zfn w l)])=_;rw[e2];rfl
    refine ZW (P:=λq=>q=_) (r':=[some (.pl (.list (ns.map dI))),some (.pl w.d),some (.pl (tupI (alV w))),some (.pl a),some (.ol (due'.map dN)),some (.pl (dN l)),some (.pl (fd l)),o7,none]) ?_ ?_
    ·have ht:tV (op2 gEq (Zb 6) (Zb 3)) [some (.pl (.list (ns.map dI))),some (.pl w.d),some (.pl (tupI (alV w))),some (.pl a),some (.ol (due.map dN)),some (.pl (dN l)),some (.pl (fd l)),o7,none]=some (ZbV a fd l):=by
      show(match gEq (fd l) a with | some (.bool b)=>some b | _=>none)=_;rw[ZrY e3 fa];rfl
     unfold sIf;rw[ht,<-hdu];cases ZbV a fd l with
     | false=>rfl
     | true=>show(if(due.map dN).length<big then _ else none)=_;rw[if_pos (by rw[ZyA]; show _<1000000; omega)];simp
    refine ZW (P:=λq=>q=_) (r':=[some (.pl (.list (ns.map dI))),some (.pl w.d),some (.pl (tupI (alV w))),some (.pl a),some (.ol (due'.map dN)),some (.pl (dN l)),some (.pl (fd l)),some (.pl tv),none]) ?_ ?_
    ·unfold Z0 Zl
     show ZzN _ (Zc1 ap [w.d,.int l])=_;rw[hwo];rfl
    ·rcases fa with⟨n,rfl⟩ | rfl
     ·rcases e3 with⟨m,hm⟩ | hm
      ·rw[hm]at hto ⊢
       subst hto;have g1:gNe (.int ((m:Int)-(n:Int))) (.int ((m:Int)-(n:Int)))=some (.bool false):=Zke (ZcH 1 _) (by decide);have t2:tV (op2 gNe (Zb 7) (op2 Zfr (Zb 6) (Zb 3))) [some (.pl (.list (ns.map dI))),some (.pl w.d),some (.pl (tupI (alV w))),some (.pl (.int n)),some (.ol (due'.map dN)),some (.pl (dN l)),some (.pl (.int m)),some (.pl (.int ((m:Int)-(n:Int)))),none]=some false:=by show(match gNe (.int ((m:Int)-(n:Int))) (.int ((m:Int)-(n:Int)))with | some (.bool b)=>some b | _=>none)=_;rw[g1]
       have t3:tOr (ZdD (tV (Zl Zcw (Zd (Zb 7) Zn)))) (tV (op2 gNe (Zb 7) (op2 Zfr (Zb 6) (Zb 3)))) [some (.pl (.list (ns.map dI))),some (.pl w.d),some (.pl (tupI (alV w))),some (.pl (.int n)),some (.ol (due'.map dN)),some (.pl (dN l)),some (.pl (.int m)),some (.pl (.int ((m:Int)-(n:Int)))),none]=some false:=t2;show sIf (tOr (ZdD (tV (Zl Zcw (Zd (Zb 7) Zn)))) (tV (op2 gNe (Zb 7) (op2 Zfr (Zb 6) (Zb 3))))) (ZC (eC (.bool false))) Zae [some (.pl (.list (ns.map dI))),some (.pl w.d),some (.pl (tupI (alV w))),some (.pl (.int n)),some (.ol (due'.map dN)),some (.pl (dN l)),some (.pl (.int m)),some (.pl (.int ((m:Int)-(n:Int)))),none]=_;unfold sIf;rw[t3];rfl
      ·rw[hm]at hto ⊢
       subst hto;rfl
     ·subst hto
      have g1:gNe (.int 0) (.int 0)=some (.bool false):=Zke (ZcH 1 _) (by decide);have t2:tOr (tV (op2 gNe (Zb 7) (eC (.int 0)))) (tV (ZdF (Zb 7) .bool)) [some (.pl (.list (ns.map dI))),some (.pl w.d),some (.pl (tupI (alV w))),some (.pl .none),some (.ol (due'.map dN)),some (.pl (dN l)),some (.pl (fd l)),some (.pl (.int 0)),none]=some false:=by
       have t1:tV (op2 gNe (Zb 7) (eC (.int 0))) [some (.pl (.list (ns.map dI))),some (.pl w.d),some (.pl (tupI (alV w))),some (.pl .none),some (.ol (due'.map dN)),some (.pl (dN l)),some (.pl (fd l)),some (.pl (.int 0)),none]=some false:=by show(match gNe (.int 0) (.int 0)with | some (.bool b)=>some b | _=>none)=_;rw[g1]
       unfold tOr;rw[t1];rfl
      show sIf (tOr (tV (op2 gNe (Zb 7) (eC (.int 0)))) (tV (ZdF (Zb 7) .bool))) (ZC (eC (.bool false))) Zae [some (.pl (.list (ns.map dI))),some (.pl w.d),some (.pl (tupI (alV w))),some (.pl .none),some (.ol (due'.map dN)),some (.pl (dN l)),some (.pl (fd l)),some (.pl (.int 0)),none]=_;unfold sIf;rw[t2];rfl
   show(match Zho ap [some (.pl (.list (ns.map dI))),some (.pl w.d),some (.pl (tupI (alV w))),some (.pl a),some (.ol (due.map dN)),some (.pl (dN l)),o6,o7,none]with | some (.nx r')=>_ | some (.ct r')=>_ | some (.bk r')=>_ | some (.rt d)=>_ | none=>_)=_;rw[body]
 obtain⟨p5,p6,p7,hloop⟩:=loop (ZyF w.looks.length) [] none none none (λl hl=>ZyZ.mp hl) (by simp; omega);rw[ZAz]at hloop;have hneed:Zc0 ap [w.d]=some (.list (((ZyF w.looks.length).filter (ZbV a fd)).map dN)):=by
  have hc:=ZfF hv;have hal:=Zgn hv;show Zar (ZgP ap [some (.pl w.d),none])=_;unfold ZgP;refine ZW (P:=λq=>Zar q=_) (r':=[some (.pl w.d),none]) (by simp[hc]) ?_;refine ZW (P:=λq=>Zar q=_) (r':=[some (.pl w.d),some (.pl a)]) (by simp[hal,ea]) ?_;have h1:Z4 (bOf (Zl Z8 (Zd (Zb 0) Zn))) [some (.pl w.d),some (.pl a)]=some ((ZyF w.looks.length).map dN):=by unfold Z4 bOf Zl;show(match ZzN B.pl (Z8 [w.d])with | some x=>Za9 x | none=>none)=_;rw[hal];show some (((ZyF w.looks.length).map λ(k:Nat)=>(k:Int)).map dI)=_;rw[ZyV];rfl
  have h2:Zax (tV (op2 gEq (Zl (ZaB ap) (Zd (Zb 1) (Zd (Zl ZbB (Zd (Zb 1) (Zd (Zb 0) Zn))) Zn))) (Zb 2))) (Zb 0) [some (.pl w.d),some (.pl a)] ((ZyF w.looks.length).map dN)=some (((ZyF w.looks.length).filter (ZbV a fd)).map dN):=by
   rw[ZbO dN (ZbV a fd) dN]
   ·intro l hl
    obtain⟨e1,_,e3⟩:=hfd l;have hbu:=Zk1 hv (ZyZ.mp hl);have hc1:Zl (ZaB ap) (Zd (Zb 1) (Zd (Zl ZbB (Zd (Zb 1) (Zd (Zb 0) Zn))) Zn)) [some (.pl (dN l)),some (.pl w.d),some (.pl a)]=some (fd l):=by have:Zl ZbB (Zd (Zb 1) (Zd (Zb 0) Zn)) [some (.pl (dN l)),some (.pl w.d),some (.pl a)]=some (tupI (Zfn w l)):=hbu;unfold Zl Zd at this ⊢;simp at this ⊢;rw[this];exact e1
    unfold tV op2;rw[hc1];show(match gEq (fd l) a with | some (.bool b)=>some b | _=>none)=_;rw[ZrY e3 fa];rfl
   ·intro l _ _
    rfl
  unfold ZC eOf ZL;rw[h1];dsimp only;rw[if_pos (by rw[ZyA,Zz6]; show _<1000000; omega),h2];rfl
 show Zar (Znf ap [some (.pl (.list (ns.map dI))),none,none,none,none,none,none,none,none])=_;unfold Znf;refine ZW (P:=λq=>Zar q=_) (r':=[some (.pl (.list (ns.map dI))),some (.pl w.d),none,none,none,none,none,none,none]) (by simp[hw']) ?_;refine ZW (P:=λq=>Zar q=_) (r':=[some (.pl (.list (ns.map dI))),some (.pl w.d),some (.pl (tupI (alV w))),none,none,none,none,none,none]) ?_ ?_
 ·have hi:ZaJ (bOf (eIx (Zo 1) (eC (.int 2)))) [some (.pl (.list (ns.map dI))),some (.pl w.d),none,none,none,none,none,none,none]=some (.int (w.looks.length:Int)):=by
   show some (Zze (((w.looks.map tupI).length:Nat):Int))=_;rw[ZyA]
  have ho:okR (w.looks.length:Int)=true:=ZcI (by omega);unfold Z0 ZeR ZbW;rw[hi];dsimp only;rw[if_pos ho];dsimp only;rw[if_pos (by rw[ZZ,ZyA,Zz6,ZAD]; show _<1000000; omega),ZAD,<-hat];rfl
 refine ZW (P:=λq=>Zar q=_) (r':=[some (.pl (.list (ns.map dI))),some (.pl w.d),some (.pl (tupI (alV w))),some (.pl a),none,none,none,none,none]) (by simp[la]) ?_;refine ZW (P:=λq=>Zar q=_) (r':=[some (.pl (.list (ns.map dI))),some (.pl w.d),some (.pl (tupI (alV w))),some (.pl a),some (.ol []),none,none,none,none]) rfl ?_;refine ZW (P:=λq=>Zar q=_) (r':=[some (.pl (.list (ns.map dI))),some (.pl w.d),some (.pl (tupI (alV w))),some (.pl a),some (.ol (((ZyF w.looks.length).filter (ZbV a fd)).map dN)),p5,p6,p7,none]) ?_ ?_
 ·have hi:Z4 (bOf (Zb 2)) [some (.pl (.list (ns.map dI))),some (.pl w.d),some (.pl (tupI (alV w))),some (.pl a),some (.ol []),none,none,none,none]=some ((ZyF w.looks.length).map dN):=by
   show some (((ZyF w.looks.length).map λ(k:Nat)=>(k:Int)).map dI)=_;rw[ZyV];rfl
  unfold Za2;rw[hi];dsimp only;rw[if_pos (by rw[ZyA,Zz6]; show _<1000000; omega)];exact hloop
 refine ZW (P:=λq=>Zar q=_) (r':=[some (.pl (.list (ns.map dI))),some (.pl w.d),some (.pl (tupI (alV w))),some (.pl a),some (.ol (((ZyF w.looks.length).filter (ZbV a fd)).map dN)),p5,p6,p7,some (.pl (.list (((ZyF w.looks.length).filter (ZbV a fd)).map dN)))]) ?_ ?_
 ·unfold Z0 Zl
  show ZzN _ (Zc0 ap [w.d])=_;rw[hneed];rfl
 ·have hg:gEq (.list (((ZyF w.looks.length).filter (ZbV a fd)).map dN)) (.list (((ZyF w.looks.length).filter (ZbV a fd)).map dN))=some (.bool true):=by
   have:((ZyF w.looks.length).filter (ZbV a fd)).map dN=(((ZyF w.looks.length).filter (ZbV a fd)).map λ(k:Nat)=>(k:Int)).map dI:=by rw[ZyV]; rfl
   rw[this];exact ZeE (ZhU 0 _) (by decide)
  show Zar (ZzN Out.rt (match gEq (.list (((ZyF w.looks.length).filter (ZbV a fd)).map dN)) (.list (((ZyF w.looks.length).filter (ZbV a fd)).map dN))with | x=>x))=_;rw[hg];rfl
end HG15
namespace HT
open PySem PySem.Spec PyProof.Rows L2 HP HM
open HG
open HG4
open HG5
open HG15
def top(i:Nat):Stmt:=PySem.Challenge.pw_halfseen_k15_needless_looks.main.body.getD i (.Pass ⟨0,0,0,0⟩)
abbrev ZfT:Stmt:=top 9
abbrev ZiG:Stmt:=top 10
abbrev ZfU:Stmt:=top 11
abbrev Zfw:Stmt:=top 12
abbrev Zfx:Stmt:=top 13
abbrev Zeh:Stmt:=top 14
abbrev Zei:Stmt:=top 15
abbrev ZgR:Stmt:=top 16
abbrev ZfV:Stmt:=top 17
abbrev ZgS:Stmt:=top 18
abbrev ZgT:Stmt:=top 19
abbrev ZgU:Stmt:=top 20
abbrev ZhG:Stmt:=top 21
abbrev ZhH:Stmt:=top 22
abbrev ZdU:Stmt:=top 23
abbrev ZfW:Stmt:=top 24
abbrev Zfy:Stmt:=top 25
abbrev Zds:Stmt:=top 27
abbrev ZdM:Stmt:=top 28
abbrev ZiH:Stmt:=top 29
abbrev Zgz:Stmt:=top 30
abbrev ZeU:Stmt:=top 31
abbrev Zcz:Stmt:=top 33
abbrev Zej:Stmt:=top 34
abbrev ZcS:Stmt:=top 35
abbrev Zff:Stmt:=top 36
abbrev Zc2:Stmt:=top 37
abbrev ZcO:Stmt:=top 38
abbrev Zek:Stmt:=top 39
abbrev ZV:Stmt:=top 40
abbrev ZeV:Stmt:=top 41
abbrev ZfX:Stmt:=top 42
abbrev ZiI:Stmt:=top 43
abbrev Zfz:Stmt:=top 45
abbrev ZeW:Stmt:=top 46
abbrev ZgV:Stmt:=top 47
abbrev ZgW:Stmt:=top 49
abbrev ZhI:Stmt:=top 50
abbrev ZfY:Stmt:=top 51
abbrev Zel:Stmt:=top 52
abbrev ZgX:Stmt:=top 53
abbrev ZgY:Stmt:=top 54
abbrev Zem:Stmt:=top 55
abbrev ZhJ:Stmt:=top 56
abbrev Zdh:Stmt:=top 57
abbrev Zdt:Stmt:=top 58
abbrev Zen:Stmt:=top 59
abbrev ZfZ:Stmt:=top 60
abbrev Zcn:Stmt:=top 61
abbrev ZdN:Stmt:=top 62
abbrev Zf0:Stmt:=top 63
structure Txt(K:Zyz)(mg:Str->Option Value):Prop where
 n_len:mg "len" = none
 n_tuple:mg "tuple" = none
 n_list:mg "list" = none
 n_set:mg "set" = none
 n_sorted:mg "sorted" = none
 n_range:mg "range" = none
 n_all:mg "all" = none
 n_isinstance:mg "isinstance" = none
 n_int:mg "int" = none
 n_bool:mg "bool" = none
 n_max:mg "max" = none
 n_min:mg "min" = none
 c_MOST_STATES:∃t,mg "MOST_STATES" = some (.int 8 t)
 c_MOST_DEEDS:∃t,mg "MOST_DEEDS" = some (.int 5 t)
 c_MOST_LOOKS:∃t,mg "MOST_LOOKS" = some (.int 4 t)
 c_MOST_SEEN:∃t,mg "MOST_SEEN" = some (.int 9 t)
section
variable[FX]{P:Program}{w:World}{K:Zyz}{mg:Str->Option Value}{base:Heap}{k:Nat}
theorem Zng:Zv ["_law_script","_law_k"] ["_law_script","_law_k"] (Ze ZgW):=⟨rfl,rfl,rfl,by decide +kernel,rfl,by decide +kernel,by decide +kernel⟩
theorem Znh(T:Txt K mg){f:Addr}{fd:FuncData}(Fn:Fun K "_law_cell" "_law_cell" ZgW f fd)(hm:mg "_law_cell" = some (.ref f))(hb:Binds K fd ["_law_script","_law_k"] []):Callee P w K mg base (k+1) "_law_cell" ZaM :=
 Zs Fn Zng hm hb λcdv A outer s H E hr=>by
  have hu:=ZG hr;exact(Zf (Zah (Z6 cLt (Za 1) (Zbi T.n_len (Zt 0))) (Zh (Zy (Z9 (Zt 0) (Za 1)))) ZU)
  (Zh (Zy Zm)))
theorem Zpg:Zv ["_law_cell_here","_law_prime","_law_many"] ["_law_cell_here","_law_prime","_law_many"] (Ze ZhI):=⟨rfl,rfl,rfl,by decide +kernel,rfl,by decide +kernel,by decide +kernel⟩
theorem Zph(T:Txt K mg){f:Addr}{fd:FuncData}(Fn:Fun K "_law_mix" "_law_mix" ZhI f fd)(hm:mg "_law_mix" = some (.ref f))(hb:Binds K fd ["_law_cell_here","_law_prime","_law_many"] []):Callee P w K mg base (k+1) "_law_mix" ZJ :=
 Zs Fn Zpg hm hb λcdv A outer s H E hr=>by have hu:=ZG hr;exact(Zh (Zy (ZF oMod (ZF oMod (ZF Zfs (Za 0) Zm) (Za 1)) (Za 2))))
theorem Zfg:Zv ["_law_cell_here","_law_many","_law_least","_law_found"] ["_law_cell_here","_law_many","_law_least"] (Ze Zel):=⟨rfl,rfl,rfl,by decide +kernel,rfl,by decide +kernel,by decide +kernel⟩
theorem Zmn(T:Txt K mg)(ZR:Callee P w K mg base k "_law_mix" ZJ){f:Addr}{fd:FuncData}(Fn:Fun K "_law_crowd" "_law_crowd" Zel f fd)(hm:mg "_law_crowd" = some (.ref f))(hb:Binds K fd ["_law_cell_here","_law_many","_law_least"] []):Callee P w K mg base (k+1) "_law_crowd" ZbE :=
 Zs Fn Zfg hm hb λcdv A outer s H E hr=>by
  have hu:=ZG hr;exact(Zf (Zea 3 Zfg.nd rfl rfl (N:=["_law_state","_law_cell_here","_law_many","_law_least","_law_found"]) (ZE (sc:=Ze Zel) (XN:=["_law_cell_here","_law_many","_law_least","_law_found"])) (Zcf T.n_range (Za 1)) (λ_ _ _ _ _=>(Zcs (Z6 cLt (Zj ZR hr (Zc (ZF ZbP (ZF ZbP (Za 1) (ZF Zfs (ZF Zfs Zm (Za 0)) (Za 0))) (ZF Zfs Zm (Za 0))) (Zc Zm (Zc Zm Zg)))) Zm))) (λ_ _ _ _ _=>(Za 0)))
  (Zf (Zah (Z6 cLt (Zbi T.n_len (Zt 3)) (Za 2)) (Zh (Zaj 3 Zfg.nd (Zb2 (Zc (Zj ZR hr (Zc (Za 0) (Zc Zm (Zc (Za 1) Zg)))) Zg)))) ZU)
  (Zh (Zy (Zai T.n_tuple (Zt 3))))))
theorem ZcA:Zv ["_law_cell_here","_law_many","_law_found","_law_state","_law_seed","_law_way","_law_row"] ["_law_cell_here","_law_many"] (Ze ZgX):=⟨rfl,rfl,rfl,by decide +kernel,rfl,by decide +kernel,by decide +kernel⟩
theorem Zni(T:Txt K mg)(ZR:Callee P w K mg base k "_law_mix" ZJ){f:Addr}{fd:FuncData}(Fn:Fun K "_law_deed" "_law_deed" ZgX f fd)(hm:mg "_law_deed" = some (.ref f))(hb:Binds K fd ["_law_cell_here","_law_many"] []):Callee P w K mg base (k+1) "_law_deed" ZcV :=
 Zs Fn ZcA hm hb λcdv A outer s H E hr=>by
  have hu:=ZG hr;exact(Zf (Zaj 2 ZcA.nd (Zb2 Zg))
  (Zf (Zbc 3 ZcA.nd rfl rfl (Zcf T.n_range (Za 1)) (Zf (ZI 4 ZcA.nd (ZF ZbP (ZF ZbP (Za 0) (ZF Zfs (ZF Zfs Zm (Za 3)) (Za 3))) (ZF Zfs Zm (Za 3))))
  (Zf (ZI 5 ZcA.nd (Zj ZR hr (Zc (Za 4) (Zc Zm (Zc Zm Zg)))))
  (Zf (Zaj 6 ZcA.nd (Zs2 (Zj ZR hr (Zc (Za 4) (Zc Zm (Zc (Za 1) Zg)))) ZbL))
  (Zf (Zah (Z6 cLt (Za 5) Zm) (Zh (ZfN hu 6 (Zj ZR hr (Zc (Za 4) (Zc Zm (Zc (Za 1) Zg)))) ZbL)) ZU)
  (Zf (Zc9 2 (Zai T.n_tuple (Za3 (Zgx T.n_sorted rfl (Zt 6)))))
  (Zh (Zah (Z6 (cEq hr) (Za 5) Zm) (Zh (ZuC 2 Zvx (Ze2 Zg))) ZU))))))))
  (Zh (Zy (Zai T.n_tuple (Zt 2))))))
theorem Zb5:Zv ["_law_cell_here","_law_many","_law_left","_law_right","_law_state","_law_ahead","_law_behind","_law_slips"] ["_law_cell_here","_law_many"] (Ze ZgY):=⟨rfl,rfl,rfl,by decide +kernel,rfl,by decide +kernel,by decide +kernel⟩
theorem Znj(T:Txt K mg)(ZR:Callee P w K mg base k "_law_mix" ZJ){f:Addr}{fd:FuncData}(Fn:Fun K "_law_walk" "_law_walk" ZgY f fd)(hm:mg "_law_walk" = some (.ref f))(hb:Binds K fd ["_law_cell_here","_law_many"] []):Callee P w K mg base (k+1) "_law_walk" ZcW :=
 Zs Fn Zb5 hm hb λcdv A outer s H E hr=>by
  have hu:=ZG hr;exact(Zf (Zaj 2 Zb5.nd (Zb2 Zg))
  (Zf (Zaj 3 Zb5.nd (Zb2 Zg))
  (Zf (Zbc 4 Zb5.nd rfl rfl (Zcf T.n_range (Za 1)) (Zf (ZI 5 Zb5.nd (ZvA T.n_max rfl (ZF Zls (Za 4) Zm) Zm))
  (Zf (ZI 6 Zb5.nd (ZvB T.n_min rfl (ZF ZbP (Za 4) Zm) (ZF Zls (Za 1) Zm)))
  (Zf (ZI 7 Zb5.nd (Zir (cEq hr) (Zj ZR hr (Zc (ZF ZbP (Za 0) (ZF Zfs Zm (Za 4))) (Zc Zm (Zc Zm Zg)))) Zm))
  (Zf (Zc9 2 (Zai T.n_tuple (Za3 (Ziv T.n_sorted T.n_set rfl (Za3 (Zky (Za3 (Zb2 (Zc (Za 5) Zg))) (Za3 (ZvC (Za3 (Zb2 (Zc (Za 4) Zg))) (Zs1 T.n_int (Za 7))))))))))
  (Zh (Zc9 3 (Ze2 (Zc (Za 6) Zg)))))))))
  (Zh (Zy (Ze2 (Zc (Zai T.n_tuple (Zt 2)) (Zc (Zai T.n_tuple (Zt 3)) Zg))))))))
theorem Z5:Zv ["_law_script","_law_at","_law_cell_here","_law_many","_law_deeds","_law_k","_law_looks","_law_seed","_law_most","_law_begin","_law_goal"] ["_law_script","_law_at"] (Ze Zem):=⟨rfl,rfl,rfl,by decide +kernel,rfl,by decide +kernel,by decide +kernel⟩
theorem Zmo(T:Txt K mg)(ZbY:Callee P w K mg base k "_law_cell" ZaM)(Zeo:Callee P w K mg base k "_law_crowd" ZbE)(ZR:Callee P w K mg base k "_law_mix" ZJ)(ZgZ:Callee P w K mg base k "_law_deed" ZcV)(Zg0:Callee P w K mg base k "_law_walk" ZcW){f:Addr}{fd:FuncData}(Fn:Fun K "_law_works" "_law_works" Zem f fd)(hm:mg "_law_works" = some (.ref f))(hb:Binds K fd ["_law_script","_law_at"] []):Callee P w K mg base (k+1) "_law_works" ZaX :=
 Zs Fn Z5 hm hb λcdv A outer s H E hr=>by
  have hu:=ZG hr;exact(Zf (ZI 2 Z5.nd (Zj ZbY hr (Zc (Za 0) (Zc (Za 1) Zg))))
  (Zf (ZI 3 Z5.nd (ZF ZbP Zm (Zj ZR hr (Zc (Za 2) (Zc Zm (Zc Zm Zg))))))
  (Zf (Zah (Z6 cGt (Zbi T.n_len (Zt 0)) Zm) (Zh (ZI 3 Z5.nd (ZF ZbP Zm (Zj ZR hr (Zc (Za 2) (Zc Zm (Zc Zm Zg))))))) ZU)
  (Zf (Zaj 4 Z5.nd (Zb2 Zg))
  (Zf (Zbc 5 Z5.nd rfl rfl (Zcf T.n_range (ZF ZbP Zm (Zj ZR hr (Zc (Za 2) (Zc Zm (Zc Zm Zg)))))) (Zh (Zc9 4 (Zj ZgZ hr (Zc (ZF ZbP (Zj ZbY hr (Zc (Za 0) (Zc (ZF ZbP (ZF ZbP (Za 1) Zm) (Za 5)) Zg))) (ZF Zfs Zm (Za 5))) (Zc (Za 3) Zg))))))
  (Zf (Zah (Z6 (cEq hr) (Zj ZR hr (Zc (Za 2) (Zc Zm (Zc Zm Zg)))) Zm) (Zh (Zaj 4 Z5.nd (Zky (Za3 (Zit T.n_list (ZaR (Zj Zg0 hr (Zc (Zj ZbY hr (Zc (Za 0) (Zc (ZF ZbP (Za 1) Zm) Zg))) (Zc (Za 3) Zg)))))) (Za3 (ZvD (Zt 4) ZlS (ZlN Zm)))))) ZU)
  (Zf (Zaj 6 Z5.nd (Zb2 Zg))
  (Zf (Zbc 5 Z5.nd rfl rfl (Zcf T.n_range (Zj ZR hr (Zc (Za 2) (Zc Zm (Zc Zm Zg))))) (Zf (ZI 7 Z5.nd (ZF ZbP (Zj ZbY hr (Zc (Za 0) (Zc (ZF ZbP (ZF ZbP (Za 1) Zm) (Za 5)) Zg))) (ZF Zfs Zm (Za 5))))
  (Zf (ZI 8 Z5.nd (ZF ZbP Zm (Zj ZR hr (Zc (Za 7) (Zc Zm (Zc Zm Zg))))))
  (Zh (Zc9 6 (Zai T.n_tuple (Za3 (Zaz rfl rfl (N:=["_law_state","_law_script","_law_at","_law_cell_here","_law_many","_law_deeds","_law_k","_law_looks","_law_seed","_law_most","_law_begin","_law_goal"]) (ZE (sc:=Ze Zem) (XN:=["_law_script","_law_at","_law_cell_here","_law_many","_law_deeds","_law_k","_law_looks","_law_seed","_law_most","_law_begin","_law_goal"])) (Zcf T.n_range (Za 3)) (λ_ _ _ _ _=>Zbj) (λ_ _ _ _ _=>(Zj ZR hr (Zc (ZF ZbP (Za 8) (ZF Zfs (ZF Zfs Zm (Za 0)) (Za 0))) (Zc Zm (Zc (Za 9) Zg)))))))))))))
  (Zf (ZI 9 Z5.nd (Zj Zeo hr (Zc (Zj ZbY hr (Zc (Za 0) (Zc (ZF ZbP (Za 1) Zm) Zg))) (Zc (Za 3) (Zc Zm Zg)))))
  (Zf (Zah (Z6 (cEq hr) (Zj ZR hr (Zc (Za 2) (Zc Zm (Zc Zm Zg)))) Zm) (Zh (ZI 9 Z5.nd (ZgN T.n_tuple T.n_range rfl (Za 3)))) ZU)
  (Zf (ZI 10 Z5.nd (Zj Zeo hr (Zc (Zj ZbY hr (Zc (Za 0) (Zc (ZF ZbP (Za 1) Zm) Zg))) (Zc (Za 3) (Zc Zm Zg)))))
  (Zh (Zy (Ze2 (Zc (Za 3) (Zc (Zai T.n_tuple (Zt 4)) (Zc (Zai T.n_tuple (Zt 6)) (Zc (Za 9) (Zc (Za 10) Zg)))))))))))))))))))
theorem ZdO:Zv ["_law_works_here","_law_looks","_law_crowd_here","_law_found","_law_state","_law_seen"] ["_law_works_here","_law_looks","_law_crowd_here"] (Ze Zdh):=⟨rfl,rfl,rfl,by decide +kernel,rfl,by decide +kernel,by decide +kernel⟩
theorem Zmp(T:Txt K mg){f:Addr}{fd:FuncData}(Fn:Fun K "_law_split" "_law_split" Zdh f fd)(hm:mg "_law_split" = some (.ref f))(hb:Binds K fd ["_law_works_here","_law_looks","_law_crowd_here"] []):Callee P w K mg base (k+1) "_law_split" ZaH :=
 Zs Fn ZdO hm hb λcdv A outer s H E hr=>by
  have hu:=ZG hr;exact(Zf (Zaj 3 ZdO.nd Zry)
  (Zf (Zbc 4 ZdO.nd rfl rfl (ZO (Za 2)) (Zf (ZI 5 ZdO.nd (Zai T.n_tuple (Za3 (Zaz rfl rfl (N:=["_law_look","_law_works_here","_law_looks","_law_crowd_here","_law_found","_law_state","_law_seen"]) (ZE (sc:=Ze Zdh) (XN:=["_law_works_here","_law_looks","_law_crowd_here","_law_found","_law_state","_law_seen"])) (ZO (Za 1)) (λ_ _ _ _ _=>Zbj) (λ_ _ _ _ _=>(Z9 (ZaR (Z9 (ZaR (Z9 (Zt 1) Zm)) (Za 0))) (Za 5)))))))
  (Zf (Zah (Zs3 hu (Za 5) (Zt 3)) (Zh (ZrA hu 3 (Za 5))) ZU)
  (Zh (Zs4 hu 3 (Za 5) (Za 4))))))
  (Zh (Zy (ZdK (Zaz rfl rfl (N:=["_law_seen","_law_works_here","_law_looks","_law_crowd_here","_law_found","_law_state"," "]) (ZE (sc:=Ze Zdh) (XN:=["_law_works_here","_law_looks","_law_crowd_here","_law_found","_law_state","_law_seen"])) (ZO (ZdK (Zgx T.n_sorted rfl (Zt 3)))) (λ_ _ _ _ _=>Zbj) (λ_ _ _ _ _=>(Ze2 (Zc (Za 0) (Zc (Zai T.n_tuple (Zrz hu 4 (Za 0))) Zg))))))))))
theorem ZeX:Zv ["_law_works_here","_law_crowd_here","_law_deed_here","_law_found","_law_state"] ["_law_works_here","_law_crowd_here","_law_deed_here"] (Ze ZhJ):=⟨rfl,rfl,rfl,by decide +kernel,rfl,by decide +kernel,by decide +kernel⟩
theorem Zpi(T:Txt K mg){f:Addr}{fd:FuncData}(Fn:Fun K "_law_led" "_law_led" ZhJ f fd)(hm:mg "_law_led" = some (.ref f))(hb:Binds K fd ["_law_works_here","_law_crowd_here","_law_deed_here"] []):Callee P w K mg base (k+1) "_law_led" ZbU :=
 Zs Fn ZeX hm hb λcdv A outer s H E hr=>by
  have hu:=ZG hr;exact(Zf (Zaj 3 ZeX.nd (Zb2 Zg))
  (Zf (Zbc 4 ZeX.nd rfl rfl (ZO (Za 1)) (Zf (Zah (Z6 (cEq hr) (Z9 (ZaR (Z9 (ZaR (Z9 (Zt 0) Zm)) (Za 2))) (Za 4)) (Ze2 Zg)) (Zh (Zy Zbu)) ZU)
  (Zh (Zaj 3 ZeX.nd (Zky (Zt 3) (Za3 (Zit T.n_list (ZaR (Z9 (ZaR (Z9 (ZaR (Z9 (Zt 0) Zm)) (Za 2))) (Za 4))))))))))
  (Zh (Zy (Zai T.n_tuple (Za3 (Ziv T.n_sorted T.n_set rfl (Zt 3))))))))
theorem ZbZ:Zv ["_law_works_here","_law_looks","_law_found","_law_at","_law_deed_here","_law_other","_law_some"] ["_law_works_here","_law_looks"] (Ze Zdt):=⟨rfl,rfl,rfl,by decide +kernel,rfl,by decide +kernel,by decide +kernel⟩
theorem Zpj(T:Txt K mg)(Za0:Callee P w K mg base k "_law_split" ZaH)(Zdu:Callee P w K mg base k "_law_led" ZbU){f:Addr}{fd:FuncData}(Fn:Fun K "_law_all" "_law_all" Zdt f fd)(hm:mg "_law_all" = some (.ref f))(hb:Binds K fd ["_law_works_here","_law_looks"] []):Callee P w K mg base (k+1) "_law_all" Zef :=
 Zs Fn ZbZ hm hb λcdv A outer s H E hr=>by
  have hu:=ZG hr;exact(Zf (Zaj 2 ZbZ.nd (Znb rfl rfl (N:=["_law_seen","_law_part","_law_works_here","_law_looks","_law_found","_law_at","_law_deed_here","_law_other","_law_some"]) (ZE (sc:=Ze Zdt) (XN:=["_law_works_here","_law_looks","_law_found","_law_at","_law_deed_here","_law_other","_law_some"])) (ZO (Zj Za0 hr (Zc (Za 0) (Zc (Za 1) (Zc (Z9 (Zt 0) Zm) Zg))))) (λ_ _ _ _ _=>Zbj) (λ_ _ _ _ _=>(Za 1))))
  (Zf (ZI 3 ZbZ.nd Zm)
  (Zf (Zj7 100000 rfl (Z6 cLt (Za 3) (Zbi T.n_len (Zt 2))) (Zf (Zbc 4 ZbZ.nd rfl rfl (Zcf T.n_range (Zbi T.n_len (ZaR (Z9 (Zt 0) Zm)))) (Zf (ZI 5 ZbZ.nd (Zj Zdu hr (Zc (Za 0) (Zc (Z9 (Zt 2) (Za 3)) (Zc (Za 4) Zg)))))
  (Zh (Zah (Z6 ZkN (Za 5) Zbu) (Zf (ZjP 6 ZbZ.nd rfl rfl (N:=["_law_seen","_law_part","_law_works_here","_law_looks","_law_found","_law_at","_law_deed_here","_law_other","_law_some"]) (ZE (sc:=Ze Zdt) (XN:=["_law_works_here","_law_looks","_law_found","_law_at","_law_deed_here","_law_other","_law_some"])) (ZO (Zj Za0 hr (Zc (Za 0) (Zc (Za 1) (Zc (Za 5) Zg))))) (λ_ _ _ _ _=>Zbj) (λ_ _ _ _ _=>(Za 1)))
  (Zh (Zc8 6 (Zaj 2 ZbZ.nd (Zky (Zt 2) (Za3 (Zaz rfl rfl (N:=["_law_part","_law_works_here","_law_looks","_law_found","_law_at","_law_deed_here","_law_other","_law_some"]) (ZE (sc:=Ze Zdt) (XN:=["_law_works_here","_law_looks","_law_found","_law_at","_law_deed_here","_law_other","_law_some"])) (ZO (Za 6)) (λ_ _ _ _ _=>(Zcs (ZrC hr (Za 0) (Zt 3)))) (λ_ _ _ _ _=>(Za 0))))))))) ZU))))
  (Zh (ZI 3 ZbZ.nd (ZF ZbP (Za 3) Zm)))))
  (Zh (Zc8 2 (Zy (Za 2)))))))
theorem Zmq:Zv ["_law_works_here","_law_crowd_here"] ["_law_works_here","_law_crowd_here"] (Ze Zen):=⟨rfl,rfl,rfl,by decide +kernel,rfl,by decide +kernel,by decide +kernel⟩
theorem Zmr(T:Txt K mg){f:Addr}{fd:FuncData}(Fn:Fun K "_law_there" "_law_there" Zen f fd)(hm:mg "_law_there" = some (.ref f))(hb:Binds K fd ["_law_works_here","_law_crowd_here"] []):Callee P w K mg base (k+1) "_law_there" Zcx :=
 Zs Fn Zmq hm hb λcdv A outer s H E hr=>by have hu:=ZG hr;exact(Zh (Zy (Zir (cEq hr) (ZdK (Zaz rfl rfl (N:=["_law_state","_law_works_here","_law_crowd_here"]) (ZE (sc:=Ze Zen) (XN:=["_law_works_here","_law_crowd_here"])) (ZO (Za 1)) (λ_ _ _ _ _=>(Zcs (ZrB (Za 0) (ZaR (Z9 (Zt 1) Zm))))) (λ_ _ _ _ _=>(Za 0)))) (ZdK (Zb2 Zg)))))
theorem Zdi:Zv ["_law_works_here","_law_looks","_law_crowd_here","_law_costs_here","_law_deed_here","_law_other"] ["_law_works_here","_law_looks","_law_crowd_here","_law_costs_here"] (Ze Zcn):=⟨rfl,rfl,rfl,by decide +kernel,rfl,by decide +kernel,by decide +kernel⟩
theorem ZiJ(T:Txt K mg)(Zdu:Callee P w K mg base k "_law_led" ZbU)(Za0:Callee P w K mg base k "_law_split" ZaH){f:Addr}{fd:FuncData}(Fn:Fun K "_law_can_within" "_law_can_within" Zcn f fd)(hm:mg "_law_can_within" = some (.ref f))(hb:Binds K fd ["_law_works_here","_law_looks","_law_crowd_here","_law_costs_here"] []):Callee P w K mg base (k+1) "_law_can_within" ZbS :=
 Zs Fn Zdi hm hb λcdv A outer s H E hr=>by
  have hu:=ZG hr;exact(Zf (Zbc 4 Zdi.nd rfl rfl (Zcf T.n_range (Zbi T.n_len (ZaR (Z9 (Zt 0) Zm)))) (Zf (ZI 5 Zdi.nd (Zj Zdu hr (Zc (Za 0) (Zc (Za 2) (Zc (Za 4) Zg)))))
  (Zh (Zah (Z6 ZkN (Za 5) Zbu) (Zh (Zah (Z6 (cEq hr) (ZdK (Znb rfl rfl (N:=["_law_seen","_law_part","_law_works_here","_law_looks","_law_crowd_here","_law_costs_here","_law_deed_here","_law_other"]) (ZE (sc:=Ze Zcn) (XN:=["_law_works_here","_law_looks","_law_crowd_here","_law_costs_here","_law_deed_here","_law_other"])) (ZO (Zj Za0 hr (Zc (Za 0) (Zc (Za 1) (Zc (Za 5) Zg))))) (λ_ _ _ _ _=>(Zcs (Zgy hu (Za 1) (Zt 5)))) (λ_ _ _ _ _=>(Za 1)))) (ZdK (Zb2 Zg))) (Zh (Zy ZbL)) ZU)) ZU))))
  (Zh (Zy ZbL)))
theorem Zbp:Zv ["_law_works_here","_law_looks","_law_crowds","_law_costs_here","_law_crowd_here","_law_turn","_law_more"] ["_law_works_here","_law_looks"] (Ze ZfZ):=⟨rfl,rfl,rfl,by decide +kernel,rfl,by decide +kernel,by decide +kernel⟩
theorem Zms(T:Txt K mg)(ZhK:Callee P w K mg base k "_law_all" Zef)(Zf1:Callee P w K mg base k "_law_there" Zcx)(ZdC:Callee P w K mg base k "_law_can_within" ZbS){f:Addr}{fd:FuncData}(Fn:Fun K "_law_costs" "_law_costs" ZfZ f fd)(hm:mg "_law_costs" = some (.ref f))(hb:Binds K fd ["_law_works_here","_law_looks"] []):Callee P w K mg base (k+1) "_law_costs" Zdd :=
 Zs Fn Zbp hm hb λcdv A outer s H E hr=>by
  have hu:=ZG hr;exact(Zf (ZI 2 Zbp.nd (Zj ZhK hr (Zc (Za 0) (Zc (Za 1) Zg))))
  (Zf (Zaj 3 Zbp.nd ZmY)
  (Zf (Zbc 4 Zbp.nd rfl rfl (ZO (Za 2)) (Zh (Zah (ZbD (Zj Zf1 hr (Zc (Za 0) (Zc (Za 4) Zg)))) (Zh (ZfN hu 3 (Za 4) Zm)) ZU)))
  (Zf (Zbc 5 Zbp.nd rfl rfl (Zrx T.n_range Zm (ZF ZbP (Zbi T.n_len (Zt 2)) Zm)) (Zf (Zaj 6 Zbp.nd (Zb2 Zg))
  (Zf (Zbc 4 Zbp.nd rfl rfl (ZO (Za 2)) (Zh (Zah (Zlc (Zvy (Zgy hu (Za 4) (Zt 3)) (ZuB (ZbD (Zs7 ZdC hr (ZfO (Za 0) (ZfO (Za 1) (ZfO (Za 4) (Znc (Zt 3) (ZrD Zg)))))))))) (Zh (Zc9 6 (Za 4))) ZU)))
  (Zh (Zc8 6 (Zbc 4 Zbp.nd rfl rfl (ZO (Za 6)) (Zh (ZfN hu 3 (Za 4) (Za 5)))))))))
  (Zh (Zc8 3 (Zy (Za 3))))))))
theorem ZeB:Zv ["_law_works_here","_law_looks","_law_costs_here","_law_some"] ["_law_works_here","_law_looks"] (Ze ZdN):=⟨rfl,rfl,rfl,by decide +kernel,rfl,by decide +kernel,by decide +kernel⟩
theorem Zle(T:Txt K mg)(Zf2:Callee P w K mg base k "_law_costs" Zdd)(Za0:Callee P w K mg base k "_law_split" ZaH){f:Addr}{fd:FuncData}(Fn:Fun K "_law_fewest" "_law_fewest" ZdN f fd)(hm:mg "_law_fewest" = some (.ref f))(hb:Binds K fd ["_law_works_here","_law_looks"] []):Callee P w K mg base (k+1) "_law_fewest" Zau :=
 Zs Fn ZeB hm hb λcdv A outer s H E hr=>by
  have hu:=ZG hr;exact(Zf (ZI 2 ZeB.nd (Zj Zf2 hr (Zc (Za 0) (Zc (Za 1) Zg))))
  (Zf (ZjP 3 ZeB.nd rfl rfl (N:=["_law_seen","_law_part","_law_works_here","_law_looks","_law_costs_here","_law_some"]) (ZE (sc:=Ze ZdN) (XN:=["_law_works_here","_law_looks","_law_costs_here","_law_some"])) (ZO (Zj Za0 hr (Zc (Za 0) (Zc (Za 1) (Zc (Z9 (Zt 0) Zm) Zg))))) (λ_ _ _ _ _=>Zbj) (λ_ _ _ _ _=>(Zs6 hu (Zt 4) (Za 1) Zm ⟨rfl,rfl,rfl,rfl⟩)))
  (Zf (Zah (Z6 (cEq hr) (Zld T.n_max rfl (Zt 3)) Zm) (Zh (Zy Zbu)) ZU)
  (Zh (Zy (Zld T.n_max rfl (Zt 3)))))))
theorem Zmt:Zv ["thing","least","most"] ["thing","least","most"] (Ze ZfT):=⟨rfl,rfl,rfl,by decide +kernel,rfl,by decide +kernel,by decide +kernel⟩
theorem Zmu(T:Txt K mg){f:Addr}{fd:FuncData}(Fn:Fun K "is_number" "is_number" ZfT f fd)(hm:mg "is_number" = some (.ref f))(hb:Binds K fd ["thing","least","most"] []):Callee P w K mg base (k+1) "is_number" Zas :=
 Zs Fn Zmt hm hb λcdv A outer s H E hr=>by
  have hu:=ZG hr;exact(Zf (Zah (Zlc (Zkv (ZbD (ZgM T.n_isinstance T.n_bool (Za 0))) (Zis (Zc7 (ZbD (Zkx T.n_isinstance T.n_int (Za 0))))))) (Zh (Zy ZbL)) ZU)
  (Zh (Zy (Zm9 cLe cLe (Za 1) (Za 0) (Za 2)))))
theorem ZdP:Zv ["thing","many","least","number"] ["thing","many"] (Ze ZfU):=⟨rfl,rfl,rfl,by decide +kernel,rfl,by decide +kernel,by decide +kernel⟩
theorem Zmv(T:Txt K mg)(Zav:Callee P w K mg base k "is_number" Zas){f:Addr}{fd:FuncData}(Fn:Fun K "is_rising" "is_rising" ZfU f fd)(hm:mg "is_rising" = some (.ref f))(hb:Binds K fd ["thing","many"] []):Callee P w K mg base (k+1) "is_rising" Z7 :=
 Zs Fn ZdP hm hb λcdv A outer s H E hr=>by
  have hu:=ZG hr;exact(Zf (Zah (Zc7 (ZbD (Ziu T.n_isinstance T.n_tuple (Za 0)))) (Zh (Zy ZbL)) ZU)
  (Zf (ZI 2 ZdP.nd Zm)
  (Zf (Zbc 3 ZdP.nd rfl rfl (ZO (Za 0)) (Zf (Zah (Zc7 (ZbD (Zj Zav hr (Zc (Za 3) (Zc (Za 2) (Zc (ZF Zls (Za 1) Zm) Zg)))))) (Zh (Zy ZbL)) ZU)
  (Zh (ZI 2 ZdP.nd (ZF ZbP (Za 3) Zm)))))
  (Zh (Zy ZbL)))))
theorem Znk:Zv ["thing","many"] ["thing","many"] (Ze ZgR):=⟨rfl,rfl,rfl,by decide +kernel,rfl,by decide +kernel,by decide +kernel⟩
theorem Znl(T:Txt K mg)(Zaw:Callee P w K mg base k "is_rising" Z7){f:Addr}{fd:FuncData}(Fn:Fun K "is_crowd" "is_crowd" ZgR f fd)(hm:mg "is_crowd" = some (.ref f))(hb:Binds K fd ["thing","many"] []):Callee P w K mg base (k+1) "is_crowd" ZcU :=
 Zs Fn Znk hm hb λcdv A outer s H E hr=>by have hu:=ZG hr;exact(Zh (Zy (Zd9 (Zj Zaw hr (Zc (Za 0) (Zc (Za 1) Zg))) (Zd8 (Zir cGt (Zbi T.n_len (Zt 0)) Zm)))))
theorem ZqB:Zv ["thing","least","most"] ["thing","least","most"] (Ze ZiG):=⟨rfl,rfl,rfl,by decide +kernel,rfl,by decide +kernel,by decide +kernel⟩
theorem ZqC(T:Txt K mg){f:Addr}{fd:FuncData}(Fn:Fun K "is_row" "is_row" ZiG f fd)(hm:mg "is_row" = some (.ref f))(hb:Binds K fd ["thing","least","most"] []):Callee P w K mg base (k+1) "is_row" ZaT :=
 Zs Fn ZqB hm hb λcdv A outer s H E hr=>by have hu:=ZG hr;exact(Zh (Zy (Zd9 (Ziu T.n_isinstance T.n_tuple (Za 0)) (Zd8 (Zm9 cLe cLe (Za 1) (Zbi T.n_len (Zt 0)) (Za 2))))))
theorem Zpk:Zv ["thing","many"] ["thing","many"] (Ze Zfw):=⟨rfl,rfl,rfl,by decide +kernel,rfl,by decide +kernel,by decide +kernel⟩
theorem Zpl(T:Txt K mg)(ZaI:Callee P w K mg base k "is_row" ZaT)(Zaw:Callee P w K mg base k "is_rising" Z7){f:Addr}{fd:FuncData}(Fn:Fun K "is_deed" "is_deed" Zfw f fd)(hm:mg "is_deed" = some (.ref f))(hb:Binds K fd ["thing","many"] []):Callee P w K mg base (k+1) "is_deed" Zcg :=
 Zs Fn Zpk hm hb λcdv A outer s H E hr=>by have hu:=ZG hr;exact(Zh (Zy (Zd9 (Zj ZaI hr (Zc (Za 0) (Zc (Za 1) (Zc (Za 1) Zg)))) (Zd8 (Zhl T.n_all rfl (Za3 (Zaz rfl rfl (N:=["crowd","thing","many"]) (ZE (sc:=Ze Zfw) (XN:=["thing","many"])) (ZO (Za 0)) (λ_ _ _ _ _=>Zbj) (λ_ _ _ _ _=>(Zj Zaw hr (Zc (Za 0) (Zc (Za 2) Zg)))))))))))
theorem Zmw:Zv ["thing","many"] ["thing","many"] (Ze Zeh):=⟨rfl,rfl,rfl,by decide +kernel,rfl,by decide +kernel,by decide +kernel⟩
theorem Zmx(T:Txt K mg)(ZaI:Callee P w K mg base k "is_row" ZaT)(ZhL:Callee P w K mg base k "is_deed" Zcg){f:Addr}{fd:FuncData}(Fn:Fun K "are_deeds" "are_deeds" Zeh f fd)(hm:mg "are_deeds" = some (.ref f))(hb:Binds K fd ["thing","many"] []):Callee P w K mg base (k+1) "are_deeds" Zct :=
 Zs Fn Zmw hm hb λcdv A outer s H E hr=>by have hu:=ZG hr;exact(Zh (Zy (Zd9 (Zj ZaI hr (Zc (Za 0) (Zc Zm (Zc (Zjm T.c_MOST_DEEDS) Zg)))) (Zd8 (Zhl T.n_all rfl (Za3 (Zaz rfl rfl (N:=["deed","thing","many"]) (ZE (sc:=Ze Zeh) (XN:=["thing","many"])) (ZO (Za 0)) (λ_ _ _ _ _=>Zbj) (λ_ _ _ _ _=>(Zj ZhL hr (Zc (Za 0) (Zc (Za 2) Zg)))))))))))
theorem Zpm:Zv ["thing","many"] ["thing","many"] (Ze Zfx):=⟨rfl,rfl,rfl,by decide +kernel,rfl,by decide +kernel,by decide +kernel⟩
theorem Zpn(T:Txt K mg)(ZaI:Callee P w K mg base k "is_row" ZaT)(Zav:Callee P w K mg base k "is_number" Zas){f:Addr}{fd:FuncData}(Fn:Fun K "is_look" "is_look" Zfx f fd)(hm:mg "is_look" = some (.ref f))(hb:Binds K fd ["thing","many"] []):Callee P w K mg base (k+1) "is_look" Zch :=
 Zs Fn Zpm hm hb λcdv A outer s H E hr=>by have hu:=ZG hr;exact(Zh (Zy (Zd9 (Zj ZaI hr (Zc (Za 0) (Zc (Za 1) (Zc (Za 1) Zg)))) (Zd8 (Zhl T.n_all rfl (Za3 (Zaz rfl rfl (N:=["told","thing","many"]) (ZE (sc:=Ze Zfx) (XN:=["thing","many"])) (ZO (Za 0)) (λ_ _ _ _ _=>Zbj) (λ_ _ _ _ _=>(Zj Zav hr (Zc (Za 0) (Zc Zm (Zc (Zjm T.c_MOST_SEEN) Zg))))))))))))
theorem Zmy:Zv ["thing","many"] ["thing","many"] (Ze Zei):=⟨rfl,rfl,rfl,by decide +kernel,rfl,by decide +kernel,by decide +kernel⟩
theorem Zmz(T:Txt K mg)(ZaI:Callee P w K mg base k "is_row" ZaT)(ZhM:Callee P w K mg base k "is_look" Zch){f:Addr}{fd:FuncData}(Fn:Fun K "are_looks" "are_looks" Zei f fd)(hm:mg "are_looks" = some (.ref f))(hb:Binds K fd ["thing","many"] []):Callee P w K mg base (k+1) "are_looks" Zcu :=
 Zs Fn Zmy hm hb λcdv A outer s H E hr=>by have hu:=ZG hr;exact(Zh (Zy (Zd9 (Zj ZaI hr (Zc (Za 0) (Zc Zm (Zc (Zjm T.c_MOST_LOOKS) Zg)))) (Zd8 (Zhl T.n_all rfl (Za3 (Zaz rfl rfl (N:=["look","thing","many"]) (ZE (sc:=Ze Zei) (XN:=["thing","many"])) (ZO (Za 0)) (λ_ _ _ _ _=>Zbj) (λ_ _ _ _ _=>(Zj ZhM hr (Zc (Za 0) (Zc (Za 2) Zg)))))))))))
theorem Zim:Zv ["thing","many"] ["thing"] (Ze ZfV):=⟨rfl,rfl,rfl,by decide +kernel,rfl,by decide +kernel,by decide +kernel⟩
theorem ZmA(T:Txt K mg)(Zg1:Callee P w K mg base k "is_crowd" ZcU)(Zaw:Callee P w K mg base k "is_rising" Z7)(ZaI:Callee P w K mg base k "is_row" ZaT)(Zav:Callee P w K mg base k "is_number" Zas)(Zf3:Callee P w K mg base k "are_deeds" Zct)(Zf4:Callee P w K mg base k "are_looks" Zcu){f:Addr}{fd:FuncData}(Fn:Fun K "are_works" "are_works" ZfV f fd)(hm:mg "are_works" = some (.ref f))(hb:Binds K fd ["thing"] []):Callee P w K mg base (k+1) "are_works" Zcv :=
 Zs Fn Zim hm hb λcdv A outer s H E hr=>by
  have hu:=ZG hr;exact(Zf (Zah (Zlc (Zkv (Zc7 (ZbD (Zj ZaI hr (Zc (Za 0) (Zc Zm (Zc Zm Zg)))))) (Zis (Zc7 (ZbD (Zj Zav hr (Zc (Z9 (Zt 0) Zm) (Zc Zm (Zc (Zjm T.c_MOST_STATES) Zg))))))))) (Zh (Zy ZbL)) ZU)
  (Zf (ZI 1 Zim.nd (Z9 (Zt 0) Zm))
  (Zf (Zah (Zlc (Zkv (Zc7 (ZbD (Zj Zf3 hr (Zc (Z9 (Zt 0) Zm) (Zc (Za 1) Zg))))) (Zis (Zc7 (ZbD (Zj Zf4 hr (Zc (Z9 (Zt 0) Zm) (Zc (Za 1) Zg)))))))) (Zh (Zy ZbL)) ZU)
  (Zh (Zy (Zd9 (Zj Zg1 hr (Zc (Z9 (Zt 0) Zm) (Zc (Za 1) Zg))) (Zd8 (Zj Zaw hr (Zc (Z9 (Zt 0) Zm) (Zc (Za 1) Zg))))))))))
theorem Zpo:Zv ["works"] ["works"] (Ze ZhH):=⟨rfl,rfl,rfl,by decide +kernel,rfl,by decide +kernel,by decide +kernel⟩
theorem Zpp(T:Txt K mg)(Zf5:Callee P w K mg base k "are_works" Zcv){f:Addr}{fd:FuncData}(Fn:Fun K "checked" "checked" ZhH f fd)(hm:mg "checked" = some (.ref f))(hb:Binds K fd ["works"] []):Callee P w K mg base (k+1) "checked" Za4 :=
 Zs Fn Zpo hm hb λcdv A outer s H E hr=>by
  have hu:=ZG hr;exact(Zf (Zah (Zc7 (ZbD (Zj Zf5 hr (Zc (Za 0) Zg)))) (Zh Zj6) ZU)
  (Zh (Zy (Za 0))))
theorem Znm:Zv ["works"] ["works"] (Ze ZgT):=⟨rfl,rfl,rfl,by decide +kernel,rfl,by decide +kernel,by decide +kernel⟩
theorem Znn(T:Txt K mg){f:Addr}{fd:FuncData}(Fn:Fun K "looks_of" "looks_of" ZgT f fd)(hm:mg "looks_of" = some (.ref f))(hb:Binds K fd ["works"] []):Callee P w K mg base (k+1) "looks_of" ZaA :=
 Zs Fn Znm hm hb λcdv A outer s H E hr=>by have hu:=ZG hr;exact(Zh (Zy (Z9 (Zt 0) Zm)))
theorem ZjH:Zv ["works","looks"] ["works","looks"] (Ze ZdU):=⟨rfl,rfl,rfl,by decide +kernel,rfl,by decide +kernel,by decide +kernel⟩
theorem ZjI(T:Txt K mg)(Zaw:Callee P w K mg base k "is_rising" Z7)(ZaN:Callee P w K mg base k "looks_of" ZaA){f:Addr}{fd:FuncData}(Fn:Fun K "checked_looks" "checked_looks" ZdU f fd)(hm:mg "checked_looks" = some (.ref f))(hb:Binds K fd ["works","looks"] []):Callee P w K mg base (k+1) "checked_looks" Zbv :=
 Zs Fn ZjH hm hb λcdv A outer s H E hr=>by
  have hu:=ZG hr;exact(Zf (Zah (Zc7 (ZbD (Zj Zaw hr (Zc (Za 1) (Zc (Zbi T.n_len (ZaR (Zj ZaN hr (Zc (Za 0) Zg)))) Zg))))) (Zh Zj6) ZU)
  (Zh (Zy (Za 1))))
theorem Zno:Zv ["works"] ["works"] (Ze ZgU):=⟨rfl,rfl,rfl,by decide +kernel,rfl,by decide +kernel,by decide +kernel⟩
theorem Znp(T:Txt K mg){f:Addr}{fd:FuncData}(Fn:Fun K "begin_of" "begin_of" ZgU f fd)(hm:mg "begin_of" = some (.ref f))(hb:Binds K fd ["works"] []):Callee P w K mg base (k+1) "begin_of" ZdJ :=
 Zs Fn Zno hm hb λcdv A outer s H E hr=>by have hu:=ZG hr;exact(Zh (Zy (Z9 (Zt 0) Zm)))
theorem Zin:Zv ["rows"] ["rows"] (Ze Zcz):=⟨rfl,rfl,rfl,by decide +kernel,rfl,by decide +kernel,by decide +kernel⟩
theorem Zlf(T:Txt K mg){f:Addr}{fd:FuncData}(Fn:Fun K "crowds_in" "crowds_in" Zcz f fd)(hm:mg "crowds_in" = some (.ref f))(hb:Binds K fd ["rows"] []):Zd2 P w K mg base (k+1) "crowds_in" ZK :=
 Zrl Fn Zin hm hb rfl (λr b h=>ZtH _ _ _ r b h) λcdv A outer s H E hr=>by have hu:=ZG hr;exact(Zaz rfl rfl (N:=["row","rows"]) (ZE (sc:=Ze Zcz) (XN:=["rows"])) (ZO (Za 0)) (λ_ _ _ _ _=>Zbj) (λ_ _ _ _ _=>(Z9 (Zt 0) Zm)))
theorem ZmB(T:Txt K mg){f:Addr}{fd:FuncData}(Fn:Fun K "crowds_in" "crowds_in" Zcz f fd)(hm:mg "crowds_in" = some (.ref f))(hb:Binds K fd ["rows"] []):Callee P w K mg base (k+1) "crowds_in" ZK :=
 Zs Fn Zin hm hb λcdv A outer s H E hr=>by have hu:=ZG hr;exact(Zh (Zy (ZdK (Zaz rfl rfl (N:=["row","rows"]) (ZE (sc:=Ze Zcz) (XN:=["rows"])) (ZO (Za 0)) (λ_ _ _ _ _=>Zbj) (λ_ _ _ _ _=>(Z9 (Zt 0) Zm))))))
theorem Zfu:Zv ["rows","costs","known"] ["rows","costs"] (Ze ZcO):=⟨rfl,rfl,rfl,by decide +kernel,rfl,by decide +kernel,by decide +kernel⟩
theorem ZjJ(T:Txt K mg)(ZbF:Callee P w K mg base k "crowds_in" ZK){f:Addr}{fd:FuncData}(Fn:Fun K "cost_at_worst" "cost_at_worst" ZcO f fd)(hm:mg "cost_at_worst" = some (.ref f))(hb:Binds K fd ["rows","costs"] []):Callee P w K mg base (k+1) "cost_at_worst" Zaf :=
 Zs Fn Zfu hm hb λcdv A outer s H E hr=>by
  have hu:=ZG hr;exact(Zf (Zea 2 Zfu.nd rfl rfl (N:=["part","rows","costs","known"]) (ZE (sc:=Ze ZcO) (XN:=["rows","costs","known"])) (ZO (Zj ZbF hr (Zc (Za 0) Zg))) (λ_ _ _ _ _=>(Zcs (ZvF hu (Za 0) (Zt 2)))) (λ_ _ _ _ _=>(Zhm hu (Zt 2) (Za 0))))
  (Zh (Zy (Zqy (Z6 (cEq hr) (Zbi T.n_len (Zt 2)) (Zbi T.n_len (Zt 0))) (Zld T.n_max rfl (Zt 2)) Zbu))))
theorem ZiK:Zv ["way","depths","most"] ["way","depths"] (Ze ZeV):=⟨rfl,rfl,rfl,by decide +kernel,rfl,by decide +kernel,by decide +kernel⟩
theorem Znq(T:Txt K mg)(Zbx:Callee P w K mg base k "cost_at_worst" Zaf){f:Addr}{fd:FuncData}(Fn:Fun K "deeds_by" "deeds_by" ZeV f fd)(hm:mg "deeds_by" = some (.ref f))(hb:Binds K fd ["way","depths"] []):Callee P w K mg base (k+1) "deeds_by" ZcZ :=
 Zs Fn ZiK hm hb λcdv A outer s H E hr=>by
  have hu:=ZG hr;exact(Zf (ZI 2 ZiK.nd (Zj Zbx hr (Zc (Z9 (Zt 0) Zm) (Zc (Za 1) Zg))))
  (Zh (Zy (Zqy (Z6 ZnV (Za 2) Zbu) Zbu (ZF ZbP (Za 2) Zm)))))
theorem Zpq:Zv ["works","looks","state"] ["works","looks","state"] (Ze Zfy):=⟨rfl,rfl,rfl,by decide +kernel,rfl,by decide +kernel,by decide +kernel⟩
theorem Zpr(T:Txt K mg)(ZaN:Callee P w K mg base k "looks_of" ZaA){f:Addr}{fd:FuncData}(Fn:Fun K "seen_in" "seen_in" Zfy f fd)(hm:mg "seen_in" = some (.ref f))(hb:Binds K fd ["works","looks","state"] []):Callee P w K mg base (k+1) "seen_in" Zdq :=
 Zs Fn Zpq hm hb λcdv A outer s H E hr=>by have hu:=ZG hr;exact(Zh (Zy (Zai T.n_tuple (Za3 (Zaz rfl rfl (N:=["look","works","looks","state"]) (ZE (sc:=Ze Zfy) (XN:=["works","looks","state"])) (ZO (Za 1)) (λ_ _ _ _ _=>Zbj) (λ_ _ _ _ _=>(Z9 (ZaR (Z9 (ZaR (Zj ZaN hr (Zc (Za 1) Zg))) (Za 0))) (Za 3))))))))
theorem ZhN:Zv ["works","looks","crowd","found","state"] ["works","looks","crowd"] (Ze Zgz):=⟨rfl,rfl,rfl,by decide +kernel,rfl,by decide +kernel,by decide +kernel⟩
theorem ZqD(T:Txt K mg)(ZhO:Callee P w K mg base k "seen_in" Zdq){f:Addr}{fd:FuncData}(Fn:Fun K "parted" "parted" Zgz f fd)(hm:mg "parted" = some (.ref f))(hb:Binds K fd ["works","looks","crowd"] []):Callee P w K mg base (k+1) "parted" Zbd :=
 Zs Fn ZhN hm hb λcdv A outer s H E hr=>by
  have hu:=ZG hr;exact(Zf (Zaj 3 ZhN.nd Zry)
  (Zf (Zbc 4 ZhN.nd rfl rfl (ZO (Za 2)) (Zh (Zs5 hu 3 (Zj ZhO hr (Zc (Za 0) (Zc (Za 1) (Zc (Za 4) Zg)))) (Za 4) ⟨rfl,rfl,rfl,rfl⟩)))
  (Zh (Zy (ZdK (Zaz rfl rfl (N:=["seen","works","looks","crowd","found","state"]) (ZE (sc:=Ze Zgz) (XN:=["works","looks","crowd","found","state"])) (ZO (ZdK (Zgx T.n_sorted rfl (Zt 3)))) (λ_ _ _ _ _=>Zbj) (λ_ _ _ _ _=>(Ze2 (Zc (Za 0) (Zc (Zai T.n_tuple (Zrz hu 4 (Za 0))) Zg))))))))))
theorem Znr:Zv ["works"] ["works"] (Ze ZgS):=⟨rfl,rfl,rfl,by decide +kernel,rfl,by decide +kernel,by decide +kernel⟩
theorem Zns(T:Txt K mg){f:Addr}{fd:FuncData}(Fn:Fun K "deeds_of" "deeds_of" ZgS f fd)(hm:mg "deeds_of" = some (.ref f))(hb:Binds K fd ["works"] []):Callee P w K mg base (k+1) "deeds_of" Zbg :=
 Zs Fn Znr hm hb λcdv A outer s H E hr=>by have hu:=ZG hr;exact(Zh (Zy (Z9 (Zt 0) Zm)))
theorem ZgA:Zv ["works","crowd","deed","leads"] ["works","crowd","deed"] (Ze Zds):=⟨rfl,rfl,rfl,by decide +kernel,rfl,by decide +kernel,by decide +kernel⟩
theorem ZkC(T:Txt K mg)(ZbC:Callee P w K mg base k "deeds_of" Zbg){f:Addr}{fd:FuncData}(Fn:Fun K "can_be_done" "can_be_done" Zds f fd)(hm:mg "can_be_done" = some (.ref f))(hb:Binds K fd ["works","crowd","deed"] []):Callee P w K mg base (k+1) "can_be_done" Zb1 :=
 Zs Fn ZgA hm hb λcdv A outer s H E hr=>by
  have hu:=ZG hr;exact(Zf (ZI 3 ZgA.nd (Z9 (ZaR (Zj ZbC hr (Zc (Za 0) Zg))) (Za 2)))
  (Zh (Zy (Zhl T.n_all rfl (Za3 (Zaz rfl rfl (N:=["state","works","crowd","deed","leads"]) (ZE (sc:=Ze Zds) (XN:=["works","crowd","deed","leads"])) (ZO (Za 1)) (λ_ _ _ _ _=>Zbj) (λ_ _ _ _ _=>(Zir cGt (Zbi T.n_len (ZaR (Z9 (Zt 4) (Za 0)))) Zm))))))))
theorem Zlg:Zv ["works","crowd"] ["works","crowd"] (Ze ZdM):=⟨rfl,rfl,rfl,by decide +kernel,rfl,by decide +kernel,by decide +kernel⟩
theorem Zlh(T:Txt K mg)(ZeC:Callee P w K mg base k "can_be_done" Zb1)(ZbC:Callee P w K mg base k "deeds_of" Zbg){f:Addr}{fd:FuncData}(Fn:Fun K "deeds_with" "deeds_with" ZdM f fd)(hm:mg "deeds_with" = some (.ref f))(hb:Binds K fd ["works","crowd"] []):Callee P w K mg base (k+1) "deeds_with" Zca :=
 Zs Fn Zlg hm hb λcdv A outer s H E hr=>by have hu:=ZG hr;exact(Zh (Zy (ZdK (Zaz rfl rfl (N:=["deed","works","crowd"]) (ZE (sc:=Ze ZdM) (XN:=["works","crowd"])) (Zcf T.n_range (Zbi T.n_len (ZaR (Zj ZbC hr (Zc (Za 0) Zg))))) (λ_ _ _ _ _=>(Zcs (ZbD (Zj ZeC hr (Zc (Za 1) (Zc (Za 2) (Zc (Za 0) Zg))))))) (λ_ _ _ _ _=>(Za 0))))))
theorem Zep:Zv ["works","crowd","deed","leads","found","state","target"] ["works","crowd","deed"] (Ze ZiH):=⟨rfl,rfl,rfl,by decide +kernel,rfl,by decide +kernel,by decide +kernel⟩
theorem ZqE(T:Txt K mg)(ZbC:Callee P w K mg base k "deeds_of" Zbg){f:Addr}{fd:FuncData}(Fn:Fun K "led_to" "led_to" ZiH f fd)(hm:mg "led_to" = some (.ref f))(hb:Binds K fd ["works","crowd","deed"] []):Callee P w K mg base (k+1) "led_to" Zda :=
 Zs Fn Zep hm hb λcdv A outer s H E hr=>by
  have hu:=ZG hr;exact(Zf (ZI 3 Zep.nd (Z9 (ZaR (Zj ZbC hr (Zc (Za 0) Zg))) (Za 2)))
  (Zf (Zaj 4 Zep.nd Zw5)
  (Zf (Zbc 5 Zep.nd rfl rfl (ZO (Za 1)) (Zh (Zbc 6 Zep.nd rfl rfl (ZO (Z9 (Zt 3) (Za 5))) (Zh (ZfN hu 4 (Za 6) ZbL)))))
  (Zh (Zy (Zai T.n_tuple (Za3 (Zgx T.n_sorted rfl (Zt 4)))))))))
theorem ZmC:Zv ["works","looks","crowd"] ["works","looks","crowd"] (Ze Zek):=⟨rfl,rfl,rfl,by decide +kernel,rfl,by decide +kernel,by decide +kernel⟩
theorem ZmD(T:Txt K mg)(Zci:Callee P w K mg base k "parted" Zbd)(Zfh:Callee P w K mg base k "deeds_with" Zca)(ZiL:Callee P w K mg base k "led_to" Zda){f:Addr}{fd:FuncData}(Fn:Fun K "ways_with" "ways_with" Zek f fd)(hm:mg "ways_with" = some (.ref f))(hb:Binds K fd ["works","looks","crowd"] []):Callee P w K mg base (k+1) "ways_with" ZaZ :=
 Zs Fn ZmC hm hb λcdv A outer s H E hr=>by have hu:=ZG hr;exact(Zh (Zy (ZdK (Zaz rfl rfl (N:=["deed","works","looks","crowd"]) (ZE (sc:=Ze Zek) (XN:=["works","looks","crowd"])) (ZO (Zj Zfh hr (Zc (Za 0) (Zc (Za 2) Zg)))) (λ_ _ _ _ _=>Zbj) (λ_ _ _ _ _=>(Ze2 (Zc (Za 0) (Zc (Zj Zci hr (Zc (Za 1) (Zc (Za 2) (Zc (Zj ZiL hr (Zc (Za 1) (Zc (Za 3) (Zc (Za 0) Zg)))) Zg)))) Zg))))))))
theorem Zhp:Zv ["ways","costs","cost_by","told"] ["ways","costs","cost_by"] (Ze ZcS):=⟨rfl,rfl,rfl,by decide +kernel,rfl,by decide +kernel,by decide +kernel⟩
theorem Zli(T:Txt K mg)(CV:Zd0 P w K mg base k ap){f:Addr}{fd:FuncData}(Fn:Fun K "least_cost" "least_cost" ZcS f fd)(hm:mg "least_cost" = some (.ref f))(hb:Binds K fd ["ways","costs","cost_by"] []):Callee P w K mg base (k+1) "least_cost" (ZbN ap) :=
 Zs Fn Zhp hm hb λcdv A outer s H E hr=>by
  have hu:=ZG hr;exact(Zf (Zea 3 Zhp.nd rfl rfl (N:=["way","ways","costs","cost_by","told"]) (ZE (sc:=Ze ZcS) (XN:=["ways","costs","cost_by","told"])) (ZO (Za 0)) (λ_ _ _ _ _=>Zbj) (λ_ _ _ _ _=>(Znd CV hr 3 (Zc (Za 0) (Zc (Za 2) Zg)))))
  (Zh (Zc8 3 (Zy (ZpZ T.n_min rfl (Za3 (Zaz rfl rfl (N:=["cost","ways","costs","cost_by","told"]) (ZE (sc:=Ze ZcS) (XN:=["ways","costs","cost_by","told"])) (ZO (Za 3)) (λ_ _ _ _ _=>(Zcs (Z6 ZkN (Za 0) Zbu))) (λ_ _ _ _ _=>(Za 0)))))))))
theorem Zdv:Zv ["reach","costs","cost_by","found","crowd","cost"] ["reach","costs","cost_by"] (Ze Zff):=⟨rfl,rfl,rfl,by decide +kernel,rfl,by decide +kernel,by decide +kernel⟩
theorem ZkI(T:Txt K mg)(Zfi:Callee P w K mg base k "least_cost" (ZbN ap)){f:Addr}{fd:FuncData}(Fn:Fun K "next_costs" "next_costs" Zff f fd)(hm:mg "next_costs" = some (.ref f))(hb:Binds K fd ["reach","costs","cost_by"] []):Zd6 P w K mg base (k+1) "next_costs" (Zbq ap) :=
 ZqW Fn Zdv hm hb λcdv A outer s H E hr=>by
  have hu:=ZG hr;exact(Zn3 (Zaj 3 Zdv.nd ZmY)
  (Zn3 (Zjo 0 (Zbc 4 Zdv.nd rfl rfl (Zjp 0) (Zh (Zah (Zgy hu (Za 4) (Zt 1)) (Zf (ZI 5 Zdv.nd (Zj Zfi hr (Zc (Zhm hu (Zt 0) (Za 4)) (Zc (Za 1) (Zc (Za 2) Zg)))))
  (Zh (Zah (Z6 ZkN (Za 5) Zbu) (Zh (ZfN hu 3 (Za 4) (Za 5))) ZU))) ZU))))
  (Zvs 3)))
theorem Zps:Zv ["works"] ["works"] (Ze ZhG):=⟨rfl,rfl,rfl,by decide +kernel,rfl,by decide +kernel,by decide +kernel⟩
theorem Zpt(T:Txt K mg){f:Addr}{fd:FuncData}(Fn:Fun K "goal_of" "goal_of" ZhG f fd)(hm:mg "goal_of" = some (.ref f))(hb:Binds K fd ["works"] []):Callee P w K mg base (k+1) "goal_of" Zdr :=
 Zs Fn Zps hm hb λcdv A outer s H E hr=>by have hu:=ZG hr;exact(Zh (Zy (Z9 (Zt 0) Zm)))
theorem Znt:Zv ["works","crowd"] ["works","crowd"] (Ze ZeU):=⟨rfl,rfl,rfl,by decide +kernel,rfl,by decide +kernel,by decide +kernel⟩
theorem Znu(T:Txt K mg)(ZhP:Callee P w K mg base k "goal_of" Zdr){f:Addr}{fd:FuncData}(Fn:Fun K "is_there" "is_there" ZeU f fd)(hm:mg "is_there" = some (.ref f))(hb:Binds K fd ["works","crowd"] []):Callee P w K mg base (k+1) "is_there" ZbA :=
 Zs Fn Znt hm hb λcdv A outer s H E hr=>by have hu:=ZG hr;exact(Zh (Zy (Zhl T.n_all rfl (Za3 (Zaz rfl rfl (N:=["state","works","crowd"]) (ZE (sc:=Ze ZeU) (XN:=["works","crowd"])) (ZO (Za 1)) (λ_ _ _ _ _=>Zbj) (λ_ _ _ _ _=>(ZvE (Za 0) (ZaR (Zj ZhP hr (Zc (Za 1) Zg))))))))))
theorem ZbG:Zv ["works","reach","cost_by","costs","cost","found","crowd","offered"] ["works","reach","cost_by"] (Ze Zc2):=⟨rfl,rfl,rfl,by decide +kernel,rfl,by decide +kernel,by decide +kernel⟩
theorem Znv(T:Txt K mg)(Zg2:Callee P w K mg base k "is_there" ZbA)(Gf_next_costs:Zd6 P w K mg base k "next_costs" (Zbq ap)){f:Addr}{fd:FuncData}(Fn:Fun K "costs_of" "costs_of" Zc2 f fd)(hm:mg "costs_of" = some (.ref f))(hb:Binds K fd ["works","reach","cost_by"] []):Callee P w K mg base (k+1) "costs_of" (ZcY ap) :=
 Zs Fn ZbG hm hb λcdv A outer s H E hr=>by
  have hu:=ZG hr;exact(Zf (Zaj 3 ZbG.nd ZmY)
  (Zf (ZI 4 ZbG.nd Zm)
  (Zf (Zjo 1 (Zea 5 ZbG.nd rfl rfl (N:=["crowd","works","reach","cost_by","costs","cost","found"," ","offered"]) (ZE (sc:=Ze Zc2) (XN:=["works","reach","cost_by","costs","cost","found","crowd","offered"])) (Zjp 1) (λ_ _ _ _ _=>(Zcs (ZbD (Zj Zg2 hr (Zc (Za 1) (Zc (Za 0) Zg)))))) (λ_ _ _ _ _=>(Za 0))))
  (Zf (Zj7 100000 rfl (Z6 cGt (Zbi T.n_len (Zt 5)) Zm) (Zf (Zc8 5 (Zbc 6 ZbG.nd rfl rfl (ZO (Za 5)) (Zh (ZfN hu 3 (Za 6) (Za 4)))))
  (Zf (Zaj 7 ZbG.nd (Zs9 Gf_next_costs hr (ZfO (Za 1) (Znc (Zt 3) (ZfO (Za 2) (ZrD Zg))))))
  (Zf (Zc8 7 (Zjo 7 (ZI 4 ZbG.nd (ZpZ T.n_min rfl (Za3 (Zaz rfl rfl (N:=["crowd","works","reach","cost_by","costs","cost","found"," ","offered"]) (ZE (sc:=Ze Zc2) (XN:=["works","reach","cost_by","costs","cost","found","crowd","offered"])) (Zjp 7) (λ_ _ _ _ _=>Zbj) (λ_ _ _ _ _=>(Zhm hu (Zt 8) (Za 0)))))))))
  (Zh (Zc8 7 (Zjo 7 (Zea 5 ZbG.nd rfl rfl (N:=["crowd","works","reach","cost_by","costs","cost","found"," ","offered"]) (ZE (sc:=Ze Zc2) (XN:=["works","reach","cost_by","costs","cost","found","crowd","offered"])) (Zjp 7) (λ_ _ _ _ _=>(Zcs (Z6 (cEq hr) (Zhm hu (Zt 8) (Za 0)) (Za 5)))) (λ_ _ _ _ _=>(Za 0))))))))))
  (Zh (Zc8 3 (Zy (Za 3))))))))
theorem ZmE:Zv ["works","coming"] ["works","coming"] (Ze ZfX):=⟨rfl,rfl,rfl,by decide +kernel,rfl,by decide +kernel,by decide +kernel⟩
theorem ZmF(T:Txt K mg)(Zg3:Callee P w K mg base k "costs_of" (ZcY ap))(Vff_deeds_by:GFn mg "deeds_by" 0){f:Addr}{fd:FuncData}(Fn:Fun K "depths_of" "depths_of" ZfX f fd)(hm:mg "depths_of" = some (.ref f))(hb:Binds K fd ["works","coming"] []):Callee P w K mg base (k+1) "depths_of" (Zdg ap) :=
 Zs Fn ZmE hm hb λcdv A outer s H E hr=>by have hu:=ZG hr;exact(Zh (Zy (Zj Zg3 hr (Zc (Za 0) (Zc (Za 1) (Zc (ZvH Vff_deeds_by) Zg))))))
theorem Zb6:Zv ["crowds","ways_for","reach","waiting","crowd","way"] ["crowds","ways_for"] (Ze Zej):=⟨rfl,rfl,rfl,by decide +kernel,rfl,by decide +kernel,by decide +kernel⟩
theorem Zj8(T:Txt K mg)(ZbF:Callee P w K mg base k "crowds_in" ZK)(Zf6:Zd2 P w K mg base k "crowds_in" ZK)(CV:Zd0 P w K mg base k ap){f:Addr}{fd:FuncData}(Fn:Fun K "reached_from" "reached_from" Zej f fd)(hm:mg "reached_from" = some (.ref f))(hb:Binds K fd ["crowds","ways_for"] []):Callee P w K mg base (k+1) "reached_from" (ZbM ap) :=
 Zs Fn Zb6 hm hb λcdv A outer s H E hr=>by
  have hu:=ZG hr;exact(Zf (Zaj 2 Zb6.nd ZmY)
  (Zf (Zaj 3 Zb6.nd (Zit T.n_list (Zt 0)))
  (Zf (Zj7 100000 rfl (Z6 cGt (Zbi T.n_len (Zt 3)) Zm) (Zf (ZvG 4 3 Zb6.nd)
  (Zh (Zah (Zgy hu (Za 4) (Zt 2)) (Zf (ZfN hu 2 (Za 4) (Znd CV hr 1 (Zc (Za 4) Zg)))
  (Zh (Zbc 5 Zb6.nd rfl rfl (ZO (Zhm hu (Zt 2) (Za 4))) (Zh (ZrE 3 (Za3 (Zs8 Zf6 hr (Zc (Z9 (Zt 5) Zm) Zg)))))))) ZU))))
  (Zh (Zc8 2 (Zy (Za 2)))))))
theorem ZkD:Zv ["works","looks","crowd"] ["works","looks","crowd"] (Ze ZV):=⟨rfl,rfl,rfl,by decide +kernel,rfl,by decide +kernel,by decide +kernel⟩
theorem ZwG:Zru ["works","looks","crowd"] (Ze ZV) (ZlD ZV) ["works","looks"] [0,1]=true:=by decide +kernel
theorem ZkE(T:Txt K mg)(Zeq:Callee P w K mg base k "reached_from" (ZbM ap))(ZbF:Callee P w K mg base k "crowds_in" ZK)(Zci:Callee P w K mg base k "parted" Zbd)(Zdj:Callee P w K mg base k "ways_with" ZaZ){c T:Addr}(hc:ZAh K c T=true)(ht:(T,("coming_from.<locals>.<lambda>":Str))∈FX.tl)(hq:∀q,(T,q)∈FX.tl->q=("coming_from.<locals>.<lambda>":Str))(bm:BMod base mg)(good:∀F p cs,Clo K F p (Zv6 ZV) (ZtC ZV) (ZlD ZV) ["works","looks"] cs->FX.fv 1 cs F p){f:Addr}{fd:FuncData}(Fn:ZqY K "coming_from" "coming_from" ZV f fd c)(hm:mg "coming_from" = some (.ref f))(hb:Binds K fd ["works","looks","crowd"] []):Callee P w K mg base (k+1) "coming_from" (Zcy ap) :=
 Zq6 Fn ZkD hm hb λA outer s H E hr=>by have hu:=ZG hr;exact(Zh (Zy (Zqz Zeq hr (ZtV ZwG hc ht hq bm good) (Zj ZbF hr (Zc (Zj Zci hr (Zc (Za 0) (Zc (Za 1) (Zc (Za 2) Zg)))) Zg)))))
theorem ZhQ:Zv ["works","looks","begin","depths"] ["works","looks"] (Ze ZiI):=⟨rfl,rfl,rfl,by decide +kernel,rfl,by decide +kernel,by decide +kernel⟩
theorem ZqF(T:Txt K mg)(Za6:Callee P w K mg base k "checked" Za4)(ZdV:Callee P w K mg base k "checked_looks" Zbv)(Zg4:Callee P w K mg base k "begin_of" ZdJ)(Zf7:Callee P w K mg base k "depths_of" (Zdg ap))(Zbx:Callee P w K mg base k "cost_at_worst" Zaf)(ZeD:Callee P w K mg base k "coming_from" (Zcy ap))(Zci:Callee P w K mg base k "parted" Zbd){f:Addr}{fd:FuncData}(Fn:Fun K "fewest" "fewest" ZiI f fd)(hm:mg "fewest" = some (.ref f))(hb:Binds K fd ["works","looks"] []):Callee P w K mg base (k+1) "fewest" (ZaB ap) :=
 Zs Fn ZhQ hm hb λcdv A outer s H E hr=>by
  have hu:=ZG hr;exact(Zf (Zjn (Zj Za6 hr (Zc (Za 0) Zg)))
  (Zf (Zjn (Zj ZdV hr (Zc (Za 0) (Zc (Za 1) Zg))))
  (Zf (ZI 2 ZhQ.nd (Zj Zg4 hr (Zc (Za 0) Zg)))
  (Zf (ZI 3 ZhQ.nd (Zj Zf7 hr (Zc (Za 0) (Zc (Zj ZeD hr (Zc (Za 0) (Zc (Za 1) (Zc (Za 2) Zg)))) Zg))))
  (Zh (Zy (Zj Zbx hr (Zc (Zj Zci hr (Zc (Za 0) (Zc (Za 1) (Zc (Za 2) Zg)))) (Zc (Za 3) Zg)))))))))
theorem ZmG:Zv ["works"] ["works"] (Ze ZfW):=⟨rfl,rfl,rfl,by decide +kernel,rfl,by decide +kernel,by decide +kernel⟩
theorem ZmH(T:Txt K mg)(ZaN:Callee P w K mg base k "looks_of" ZaA)(Za6:Callee P w K mg base k "checked" Za4){f:Addr}{fd:FuncData}(Fn:Fun K "all_looks" "all_looks" ZfW f fd)(hm:mg "all_looks" = some (.ref f))(hb:Binds K fd ["works"] []):Callee P w K mg base (k+1) "all_looks" Z8 :=
 Zs Fn ZmG hm hb λcdv A outer s H E hr=>by have hu:=ZG hr;exact(Zh (Zy (ZgN T.n_tuple T.n_range rfl (Zbi T.n_len (ZaR (Zj ZaN hr (Zc (Zj Za6 hr (Zc (Za 0) Zg)) Zg)))))))
theorem Zpu:Zv ["works","look"] ["works","look"] (Ze Zfz):=⟨rfl,rfl,rfl,by decide +kernel,rfl,by decide +kernel,by decide +kernel⟩
theorem Zpv(T:Txt K mg)(Za1:Callee P w K mg base k "all_looks" Z8){f:Addr}{fd:FuncData}(Fn:Fun K "all_but" "all_but" Zfz f fd)(hm:mg "all_but" = some (.ref f))(hb:Binds K fd ["works","look"] []):Callee P w K mg base (k+1) "all_but" ZbB :=
 Zs Fn Zpu hm hb λcdv A outer s H E hr=>by have hu:=ZG hr;exact(Zh (Zy (Zai T.n_tuple (Za3 (Zaz rfl rfl (N:=["other","works","look"]) (ZE (sc:=Ze Zfz) (XN:=["works","look"])) (ZO (Zj Za1 hr (Zc (Za 0) Zg))) (λ_ _ _ _ _=>(Zcs (Z6 (cNe hr) (Za 0) (Za 2)))) (λ_ _ _ _ _=>(Za 0)))))))
theorem ZiM:Zv ["works","with_all"] ["works"] (Ze ZeW):=⟨rfl,rfl,rfl,by decide +kernel,rfl,by decide +kernel,by decide +kernel⟩
theorem Znw(T:Txt K mg)(Za6:Callee P w K mg base k "checked" Za4)(ZcL:Callee P w K mg base k "fewest" (ZaB ap))(Za1:Callee P w K mg base k "all_looks" Z8)(Zdw:Callee P w K mg base k "all_but" ZbB){f:Addr}{fd:FuncData}(Fn:Fun K "needless" "needless" ZeW f fd)(hm:mg "needless" = some (.ref f))(hb:Binds K fd ["works"] []):Callee P w K mg base (k+1) "needless" (Zc0 ap) :=
 Zs Fn ZiM hm hb λcdv A outer s H E hr=>by
  have hu:=ZG hr;exact(Zf (Zjn (Zj Za6 hr (Zc (Za 0) Zg)))
  (Zf (ZI 1 ZiM.nd (Zj ZcL hr (Zc (Za 0) (Zc (Zj Za1 hr (Zc (Za 0) Zg)) Zg))))
  (Zh (Zy (ZdK (Zaz rfl rfl (N:=["look","works","with_all"]) (ZE (sc:=Ze ZeW) (XN:=["works","with_all"])) (ZO (Zj Za1 hr (Zc (Za 0) Zg))) (λ_ _ _ _ _=>(Zcs (Z6 (cEq hr) (Zj ZcL hr (Zc (Za 1) (Zc (Zj Zdw hr (Zc (Za 1) (Zc (Za 0) Zg))) Zg))) (Za 2)))) (λ_ _ _ _ _=>(Za 0))))))))
theorem Zf8:Zv ["works","look","with_all","without"] ["works","look"] (Ze ZgV):=⟨rfl,rfl,rfl,by decide +kernel,rfl,by decide +kernel,by decide +kernel⟩
theorem Znx(T:Txt K mg)(Za6:Callee P w K mg base k "checked" Za4)(ZcL:Callee P w K mg base k "fewest" (ZaB ap))(Zav:Callee P w K mg base k "is_number" Zas)(Za1:Callee P w K mg base k "all_looks" Z8)(Zdw:Callee P w K mg base k "all_but" ZbB)(ZaN:Callee P w K mg base k "looks_of" ZaA){f:Addr}{fd:FuncData}(Fn:Fun K "worth_of" "worth_of" ZgV f fd)(hm:mg "worth_of" = some (.ref f))(hb:Binds K fd ["works","look"] []):Callee P w K mg base (k+1) "worth_of" (Zc1 ap) :=
 Zs Fn Zf8 hm hb λcdv A outer s H E hr=>by
  have hu:=ZG hr;exact(Zf (Zjn (Zj Za6 hr (Zc (Za 0) Zg)))
  (Zf (Zah (Zc7 (ZbD (Zj Zav hr (Zc (Za 1) (Zc Zm (Zc (ZF Zls (Zbi T.n_len (ZaR (Zj ZaN hr (Zc (Za 0) Zg)))) Zm) Zg)))))) (Zh Zj6) ZU)
  (Zf (ZI 2 Zf8.nd (Zj ZcL hr (Zc (Za 0) (Zc (Zj Za1 hr (Zc (Za 0) Zg)) Zg))))
  (Zf (Zah (Z6 ZnV (Za 2) Zbu) (Zh (Zy Zm)) ZU)
  (Zf (ZI 3 Zf8.nd (Zj ZcL hr (Zc (Za 0) (Zc (Zj Zdw hr (Zc (Za 0) (Zc (Za 1) Zg))) Zg))))
  (Zh (Zy (Zqy (Z6 ZnV (Za 3) Zbu) Zbu (ZF Zls (Za 3) (Za 2))))))))))
theorem ZmI:Zv ["_law_found"] ["_law_found"] (Ze ZfY):=⟨rfl,rfl,rfl,by decide +kernel,rfl,by decide +kernel,by decide +kernel⟩
theorem ZmJ(T:Txt K mg){f:Addr}{fd:FuncData}(Fn:Fun K "_law_whole" "_law_whole" ZfY f fd)(hm:mg "_law_whole" = some (.ref f))(hb:Binds K fd ["_law_found"] []):Callee P w K mg base (k+1) "_law_whole" Zcw :=
 Zs Fn ZmI hm hb λcdv A outer s H E hr=>by have hu:=ZG hr;exact(Zh (Zy (Zd9 (Zkx T.n_isinstance T.n_int (Za 0)) (Zd8 (Zvz (ZgM T.n_isinstance T.n_bool (Za 0)))))))
theorem Zdx:Zv ["_law_script","_law_works_here","_law_looks","_law_least","_law_due","_law_look","_law_less","_law_told","_law_found"] ["_law_script"] (Ze Zf0):=⟨rfl,rfl,rfl,by decide +kernel,rfl,by decide +kernel,by decide +kernel⟩
theorem ZuD(T:Txt K mg)(Zf9:Callee P w K mg base k "_law_works" ZaX)(ZdQ:Callee P w K mg base k "_law_fewest" Zau)(Zg5:Callee P w K mg base k "needless" (Zc0 ap))(Zg6:Callee P w K mg base k "worth_of" (Zc1 ap))(Zga:Callee P w K mg base k "_law_whole" Zcw){f:Addr}{fd:FuncData}(Fn:Fun K "law" "law" Zf0 f fd):Zdm P w K mg base CX0 (k+1) f fd ["_law_script"] (spD K 1 (ZfS ap)) :=
 Zqs Fn Zdx λcdv A outer s H E hr=>by
  have hu:=ZG hr;exact(Zf (ZI 1 Zdx.nd (Zj Zf9 hr (Zc (Za 0) (Zc Zm Zg))))
  (Zf (ZI 2 Zdx.nd (ZgN T.n_tuple T.n_range rfl (Zbi T.n_len (ZaR (Z9 (Zt 1) Zm)))))
  (Zf (ZI 3 Zdx.nd (Zj ZdQ hr (Zc (Za 1) (Zc (Za 2) Zg))))
  (Zf (Zaj 4 Zdx.nd (Zb2 Zg))
  (Zf (Zbc 5 Zdx.nd rfl rfl (ZO (Za 2)) (Zf (ZI 6 Zdx.nd (Zj ZdQ hr (Zc (Za 1) (Zc (Zta (ZpY (Za 2) ZlS (ZlN (Za 5))) (ZpY (Za 2) (ZlN (ZF ZbP (Za 5) Zm)) ZlS)) Zg))))
  (Zf (Zah (Z6 (cEq hr) (Za 6) (Za 3)) (Zh (Zc9 4 (Za 5))) ZU)
  (Zf (ZI 7 Zdx.nd (Zj Zg6 hr (Zc (Za 1) (Zc (Za 5) Zg))))
  (Zh (Zah (Z6 ZnV (Za 3) Zbu) (Zh (Zah (Zlc (Zkv (Z6 (cNe hr) (Za 7) Zm) (Zis (ZbD (ZgM T.n_isinstance T.n_bool (Za 7)))))) (Zh (Zy ZbL)) ZU)) (Zh (Zah (Z6 ZnV (Za 6) Zbu) (Zh (Zah (Z6 ZkN (Za 7) Zbu) (Zh (Zy ZbL)) ZU)) (Zh (Zah (Zlc (Zkv (Zc7 (ZbD (Zj Zga hr (Zc (Za 7) Zg)))) (Zis (Z6 (cNe hr) (Za 7) (ZF Zls (Za 6) (Za 3)))))) (Zh (Zy ZbL)) ZU))))))))))
  (Zf (ZI 8 Zdx.nd (Zj Zg5 hr (Zc (Za 1) Zg)))
  (Zh (Zc8 4 (Zy (Zd9 (Zpe T.n_isinstance T.n_list (Za 8)) (Zd8 (Zir (cEq hr) (Za 8) (Za 4)))))))))))))
def FvI(K:Zyz)(t:Nat)(cs:List PyData)(F:Hp)(a:Addr):Prop :=
 (t=0/\cs=[]/\ZA2 K Zzk "deeds_by" = some (some (.ref a)))\/(t=1/\Clo K F a (Zv6 ZV) (ZtC ZV) (ZlD ZV) ["works","looks"] cs)
theorem Zv9:Zkj (ZlD ZV) "part" ["works","looks"]:=⟨rfl,rfl,rfl,by decide +kernel,rfl,by decide +kernel,by decide +kernel⟩
theorem ZwZ(T:Txt K mg)(Zdj:Callee P w K mg base k "ways_with" ZaZ)(qual:Str)(f:Addr)(cd:Value)(clos:List (Str × Addr))(A:Around)(outer:List PySem.Env)(s:Shared)(H:Hp)(hr:Zal k (A.deeper (ZBz qual (ZlD ZV) s.heap.objs.size f cd clos))) :
  XE (Zm1 P w K mg base ["part","works","looks"] qual (ZlD ZV) f cd clos A outer s H) (ZtC ZV) (Zl ZaZ (Zd (Zb 1) (Zd (Zb 2) (Zd (Zb 0) Zn)))):=by
 have hu:=ZG hr;exact(Zj Zdj hr (Zc (Za 1) (Zc (Za 2) (Zc (Za 0) Zg))))
theorem Zxa(T:Txt K mg)(V:∀t cs F a,FX.fv t cs F a->FvI K t cs F a){f0:Addr}{fd0:FuncData}(Fn0:Fun K "deeds_by" "deeds_by" ZeV f0 fd0)(hm0:mg "deeds_by" = some (.ref f0))(hn0:∀a,ZA2 K Zzk "deeds_by" = some (some (.ref a))->mg "deeds_by" = some (.ref a))(Zg7:Callee P w K mg base (k+1) "deeds_by" ZcZ)(Lf_ways_with:Callee P w K mg base k "ways_with" ZaZ):Zd0 P w K mg base (k+1) ap:=by
 constructor
 ·intro t cs F a h A outer s H e0 sub
  rcases V t cs F a h with⟨rfl,rfl,hn⟩ | ⟨rfl,hC⟩
  ·exact Zu0 Fn0 hm0 (hn0 a hn) e0
  ·exact ZwX hC e0 sub
 ·intro t cs F a h A outer s H e0 sub us vs ds d Q hr tb nt rv rs hap kk
  rcases V t cs F a h with⟨rfl,rfl,hn⟩ | ⟨rfl,hC⟩
  ·exact ZtL Zg7 (hn0 a hn) e0 sub hr tb nt rv rs hap kk
  ·exact Zvg Zv9 (λ_ _ _ _ _ _=>rfl) (ZwZ T Lf_ways_with) hC e0 sub hr tb nt rv rs hap kk
def tlI:List (Addr × Str):=[(228,"coming_from.<locals>.<lambda>")]
@[reducible] def fxI(K:Zyz):FX where
 tl:=tlI
 fv:=FvI K
 sw:=λhF hob h=>by
  rcases h with h | h
  ·exact ZzA (h)
  ·exact Zzc ((⟨h.1,h.2.sw hF hob⟩))
 drop:=λh=>by
  rcases h with h | h
  ·exact ZzA (h)
  ·exact Zzc ((⟨h.1,h.2.drop⟩))
 mono:=λh s=>by
  rcases h with h | h
  ·exact ZzA (h)
  ·exact Zzc ((⟨h.1,h.2.mono s⟩))
structure Def(K:Zyz)(mg:Str->Option Value)(x:Str)(st:Stmt)(ps:List Str):Prop where
 ex:∃f fd,Fun K x x st f fd/\mg x=some (.ref f)/\Binds K fd ps []
theorem Zwx{h:Heap}{x:Str}{st:Stmt}{ps:List Str}{f:Addr}{oc:Value}{od an:Option Addr}{osl:Array (Option Value)}{kV doc pm cdv ct:Value}(X:K.In h)(G:h.Ns Zzk mg)(a:ZA2 K Zzk x=some (some (.ref f)))
  (l:K.lookup f=some ⟨oc,od,.func (ZzV x x (Zcd st) (ZaQ st) (Ze st) .none kV doc pm an cdv ct),osl⟩) (c:ZAG K cdv x=true) (kp:Zz0 K (.ref f)=true)
  (b:∀(kV doc pm:Value) (an:Option Addr) (cdv ct:Value) (us:List Value),us.length=ps.length->bindArgs (ZzV x x (Zcd st) (ZaQ st) (Ze st) .none kV doc pm an cdv ct) ⟨us,[]⟩=pure (ps.zip us)):Def K mg x st ps :=
 ⟨f,_,ZoO l c kp,ZBX X G a,(ZoO l c kp).binds b⟩
structure Zwt(K:Zyz)(mg:Str->Option Value)(x:Str)(st:Stmt)(ps:List Str)(c T:Addr):Prop where
 ex:∃f fd,ZqY K x x st f fd c/\mg x=some (.ref f)/\Binds K fd ps []/\ZAh K c T=true
theorem ZuJ{h:Heap}{x:Str}{st:Stmt}{ps:List Str}{f c T:Addr}{oc:Value}{od an:Option Addr}{osl:Array (Option Value)}{kV doc pm cdv ct:Value}(X:K.In h)(G:h.Ns Zzk mg)(a:ZA2 K Zzk x=some (some (.ref f)))
  (l:K.lookup f=some ⟨oc,od,.func (ZzV x x (Zcd st) (ZaQ st) (Ze st) .none kV doc pm an cdv ct),osl⟩) (cc:ZAG K cdv x=true) (kp:Zz0 K (.ref f)=true)
  (b:∀(kV doc pm:Value) (an:Option Addr) (cdv ct:Value) (us:List Value),us.length=ps.length->bindArgs (ZzV x x (Zcd st) (ZaQ st) (Ze st) .none kV doc pm an cdv ct) ⟨us,[]⟩=pure (ps.zip us)) (e:cdv=.ref c) (hc:ZAh K c T=true):Zwt K mg x st ps c T:=by
 subst e;exact⟨f,_,Zu1 l cc kp,ZBX X G a,.all (b kV doc pm an _ ct),hc⟩
def NsV(K:Zyz)(mg:Str->Option Value)(x:Str):Prop:=(∀a,ZA2 K Zzk x=some (some (.ref a))->mg x=some (.ref a))/\∃f,ZA2 K Zzk x=some (some (.ref f))
theorem ZvX{h:Heap}{x:Str}{f:Addr}(X:K.In h)(G:h.Ns Zzk mg)(a:ZA2 K Zzk x=some (some (.ref f))):NsV K mg x:=⟨λ_ e=>ZBX X G e,f,a⟩
end
structure Ds(K:Zyz)(mg:Str->Option Value):Prop where
 Zpw:Def K mg "_law_cell" ZgW ["_law_script","_law_k"]
 ZqG:Def K mg "_law_mix" ZhI ["_law_cell_here","_law_prime","_law_many"]
 Zny:Def K mg "_law_crowd" Zel ["_law_cell_here","_law_many","_law_least"]
 Zpx:Def K mg "_law_deed" ZgX ["_law_cell_here","_law_many"]
 Zpy:Def K mg "_law_walk" ZgY ["_law_cell_here","_law_many"]
 Znz:Def K mg "_law_works" Zem ["_law_script","_law_at"]
 ZnA:Def K mg "_law_split" Zdh ["_law_works_here","_law_looks","_law_crowd_here"]
 ZqH:Def K mg "_law_led" ZhJ ["_law_works_here","_law_crowd_here","_law_deed_here"]
 ZqI:Def K mg "_law_all" Zdt ["_law_works_here","_law_looks"]
 ZnB:Def K mg "_law_there" Zen ["_law_works_here","_law_crowd_here"]
 ZjK:Def K mg "_law_can_within" Zcn ["_law_works_here","_law_looks","_law_crowd_here","_law_costs_here"]
 ZnC:Def K mg "_law_costs" ZfZ ["_law_works_here","_law_looks"]
 ZmK:Def K mg "_law_fewest" ZdN ["_law_works_here","_law_looks"]
 ZnD:Def K mg "is_number" ZfT ["thing","least","most"]
 ZnE:Def K mg "is_rising" ZfU ["thing","many"]
 Zpz:Def K mg "is_crowd" ZgR ["thing","many"]
 ZrF:Def K mg "is_row" ZiG ["thing","least","most"]
 ZqJ:Def K mg "is_deed" Zfw ["thing","many"]
 ZnF:Def K mg "are_deeds" Zeh ["thing","many"]
 ZqK:Def K mg "is_look" Zfx ["thing","many"]
 ZnG:Def K mg "are_looks" Zei ["thing","many"]
 ZnH:Def K mg "are_works" ZfV ["thing"]
 ZqL:Def K mg "checked" ZhH ["works"]
 ZpA:Def K mg "looks_of" ZgT ["works"]
 Zj9:Def K mg "checked_looks" ZdU ["works","looks"]
 ZpB:Def K mg "begin_of" ZgU ["works"]
 ZiN:Def K mg "crowds_in" Zcz ["rows"]
 Zka:Def K mg "cost_at_worst" ZcO ["rows","costs"]
 ZjX:Def K mg "deeds_by" ZeV ["way","depths"]
 ZqM:Def K mg "seen_in" Zfy ["works","looks","state"]
 ZrG:Def K mg "parted" Zgz ["works","looks","crowd"]
 ZpC:Def K mg "deeds_of" ZgS ["works"]
 Zlj:Def K mg "can_be_done" Zds ["works","crowd","deed"]
 ZmL:Def K mg "deeds_with" ZdM ["works","crowd"]
 ZrH:Def K mg "led_to" ZiH ["works","crowd","deed"]
 ZnI:Def K mg "ways_with" Zek ["works","looks","crowd"]
 ZmM:Def K mg "least_cost" ZcS ["ways","costs","cost_by"]
 ZmN:Def K mg "next_costs" Zff ["reach","costs","cost_by"]
 ZqN:Def K mg "goal_of" ZhG ["works"]
 ZpD:Def K mg "is_there" ZeU ["works","crowd"]
 ZpE:Def K mg "costs_of" Zc2 ["works","reach","cost_by"]
 ZnJ:Def K mg "depths_of" ZfX ["works","coming"]
 ZkF:Def K mg "reached_from" Zej ["crowds","ways_for"]
 Zlk:Zwt K mg "coming_from" ZV ["works","looks","crowd"] 232 228
 ZrI:Def K mg "fewest" ZiI ["works","looks"]
 ZnK:Def K mg "all_looks" ZfW ["works"]
 ZqO:Def K mg "all_but" Zfz ["works","look"]
 ZpF:Def K mg "needless" ZeW ["works"]
 ZpG:Def K mg "worth_of" ZgV ["works","look"]
 ZnL:Def K mg "_law_whole" ZfY ["_law_found"]
 Nf_deeds_by:NsV K mg "deeds_by"
section
variable[FX]{P:Program}{w:World}{K:Zyz}{mg:Str->Option Value}{base:Heap}{k:Nat}
theorem ZvT(T:Txt K mg)(hV:∀t cs F a,FX.fv t cs F a↔FvI K t cs F a)(hTL:FX.tl=tlI)(Dd:Ds K mg)(bm:BMod base mg){f:Addr}{fd:FuncData}(Fn:Fun K "law" "law" Zf0 f fd):Zdm P w K mg base CX0 12 f fd ["_law_script"] (spD K 1 (ZfS ap)):=by
 have Vff_deeds_by:GFn mg "deeds_by" 0:=by obtain⟨h1,g,h2⟩:=Dd.Nf_deeds_by;exact⟨g,h1 g h2,λF=>(hV _ _ _ _).mpr (ZzA (⟨rfl,rfl,h2⟩))⟩
 have ZbY:Callee P w K mg base 1 "_law_cell" ZaM:=by obtain⟨f,fd,F,m,b⟩:=Dd.Zpw.ex;exact Znh T  F m b
 have ZR:Callee P w K mg base 1 "_law_mix" ZJ:=by obtain⟨f,fd,F,m,b⟩:=Dd.ZqG.ex;exact Zph T  F m b
 have Zeo:Callee P w K mg base 2 "_law_crowd" ZbE:=by obtain⟨f,fd,F,m,b⟩:=Dd.Zny.ex;exact Zmn T (ZR.mono (by decide)) F m b
 have ZgZ:Callee P w K mg base 2 "_law_deed" ZcV:=by obtain⟨f,fd,F,m,b⟩:=Dd.Zpx.ex;exact Zni T (ZR.mono (by decide)) F m b
 have Zg0:Callee P w K mg base 2 "_law_walk" ZcW:=by obtain⟨f,fd,F,m,b⟩:=Dd.Zpy.ex;exact Znj T (ZR.mono (by decide)) F m b
 have Zf9:Callee P w K mg base 3 "_law_works" ZaX:=by obtain⟨f,fd,F,m,b⟩:=Dd.Znz.ex;exact Zmo T (ZbY.mono (by decide)) (Zeo.mono (by decide)) (ZR.mono (by decide)) (ZgZ.mono (by decide)) (Zg0.mono (by decide)) F m b
 have Za0:Callee P w K mg base 1 "_law_split" ZaH:=by obtain⟨f,fd,F,m,b⟩:=Dd.ZnA.ex;exact Zmp T  F m b
 have Zdu:Callee P w K mg base 1 "_law_led" ZbU:=by obtain⟨f,fd,F,m,b⟩:=Dd.ZqH.ex;exact Zpi T  F m b
 have ZhK:Callee P w K mg base 2 "_law_all" Zef:=by obtain⟨f,fd,F,m,b⟩:=Dd.ZqI.ex;exact Zpj T (Za0.mono (by decide)) (Zdu.mono (by decide)) F m b
 have Zf1:Callee P w K mg base 1 "_law_there" Zcx:=by obtain⟨f,fd,F,m,b⟩:=Dd.ZnB.ex;exact Zmr T  F m b
 have ZdC:Callee P w K mg base 2 "_law_can_within" ZbS:=by obtain⟨f,fd,F,m,b⟩:=Dd.ZjK.ex;exact ZiJ T (Zdu.mono (by decide)) (Za0.mono (by decide)) F m b
 have Zf2:Callee P w K mg base 3 "_law_costs" Zdd:=by obtain⟨f,fd,F,m,b⟩:=Dd.ZnC.ex;exact Zms T (ZhK.mono (by decide)) (Zf1.mono (by decide)) (ZdC.mono (by decide)) F m b
 have ZdQ:Callee P w K mg base 4 "_law_fewest" Zau:=by obtain⟨f,fd,F,m,b⟩:=Dd.ZmK.ex;exact Zle T (Zf2.mono (by decide)) (Za0.mono (by decide)) F m b
 have Zav:Callee P w K mg base 1 "is_number" Zas:=by obtain⟨f,fd,F,m,b⟩:=Dd.ZnD.ex;exact Zmu T  F m b
 have Zaw:Callee P w K mg base 2 "is_rising" Z7:=by obtain⟨f,fd,F,m,b⟩:=Dd.ZnE.ex;exact Zmv T (Zav.mono (by decide)) F m b
 have Zg1:Callee P w K mg base 3 "is_crowd" ZcU:=by obtain⟨f,fd,F,m,b⟩:=Dd.Zpz.ex;exact Znl T (Zaw.mono (by decide)) F m b
 have ZaI:Callee P w K mg base 1 "is_row" ZaT:=by obtain⟨f,fd,F,m,b⟩:=Dd.ZrF.ex;exact ZqC T  F m b
 have ZhL:Callee P w K mg base 3 "is_deed" Zcg:=by obtain⟨f,fd,F,m,b⟩:=Dd.ZqJ.ex;exact Zpl T (ZaI.mono (by decide)) (Zaw.mono (by decide)) F m b
 have Zf3:Callee P w K mg base 4 "are_deeds" Zct:=by obtain⟨f,fd,F,m,b⟩:=Dd.ZnF.ex;exact Zmx T (ZaI.mono (by decide)) (ZhL.mono (by decide)) F m b
 have ZhM:Callee P w K mg base 2 "is_look" Zch:=by obtain⟨f,fd,F,m,b⟩:=Dd.ZqK.ex;exact Zpn T (ZaI.mono (by decide)) (Zav.mono (by decide)) F m b
 have Zf4:Callee P w K mg base 3 "are_looks" Zcu:=by obtain⟨f,fd,F,m,b⟩:=Dd.ZnG.ex;exact Zmz T (ZaI.mono (by decide)) (ZhM.mono (by decide)) F m b
 have Zf5:Callee P w K mg base 5 "are_works" Zcv:=by obtain⟨f,fd,F,m,b⟩:=Dd.ZnH.ex;exact ZmA T (Zg1.mono (by decide)) (Zaw.mono (by decide)) (ZaI.mono (by decide)) (Zav.mono (by decide)) (Zf3.mono (by decide)) (Zf4.mono (by decide)) F m b
 have Za6:Callee P w K mg base 6 "checked" Za4:=by obtain⟨f,fd,F,m,b⟩:=Dd.ZqL.ex;exact Zpp T (Zf5.mono (by decide)) F m b
 have ZaN:Callee P w K mg base 1 "looks_of" ZaA:=by obtain⟨f,fd,F,m,b⟩:=Dd.ZpA.ex;exact Znn T  F m b
 have ZdV:Callee P w K mg base 3 "checked_looks" Zbv:=by obtain⟨f,fd,F,m,b⟩:=Dd.Zj9.ex;exact ZjI T (Zaw.mono (by decide)) (ZaN.mono (by decide)) F m b
 have Zg4:Callee P w K mg base 1 "begin_of" ZdJ:=by obtain⟨f,fd,F,m,b⟩:=Dd.ZpB.ex;exact Znp T  F m b
 have ZbF:Callee P w K mg base 1 "crowds_in" ZK:=by obtain⟨f,fd,F,m,b⟩:=Dd.ZiN.ex;exact ZmB T  F m b
 have Zf6:Zd2 P w K mg base 1 "crowds_in" ZK:=by obtain⟨f,fd,F,m,b⟩:=Dd.ZiN.ex;exact Zlf T  F m b
 have Zbx:Callee P w K mg base 2 "cost_at_worst" Zaf:=by obtain⟨f,fd,F,m,b⟩:=Dd.Zka.ex;exact ZjJ T (ZbF.mono (by decide)) F m b
 have Zg7:Callee P w K mg base 3 "deeds_by" ZcZ:=by obtain⟨f,fd,F,m,b⟩:=Dd.ZjX.ex;exact Znq T (Zbx.mono (by decide)) F m b
 have ZhO:Callee P w K mg base 2 "seen_in" Zdq:=by obtain⟨f,fd,F,m,b⟩:=Dd.ZqM.ex;exact Zpr T (ZaN.mono (by decide)) F m b
 have Zci:Callee P w K mg base 3 "parted" Zbd:=by obtain⟨f,fd,F,m,b⟩:=Dd.ZrG.ex;exact ZqD T (ZhO.mono (by decide)) F m b
 have ZbC:Callee P w K mg base 1 "deeds_of" Zbg:=by obtain⟨f,fd,F,m,b⟩:=Dd.ZpC.ex;exact Zns T  F m b
 have ZeC:Callee P w K mg base 2 "can_be_done" Zb1:=by obtain⟨f,fd,F,m,b⟩:=Dd.Zlj.ex;exact ZkC T (ZbC.mono (by decide)) F m b
 have Zfh:Callee P w K mg base 3 "deeds_with" Zca:=by obtain⟨f,fd,F,m,b⟩:=Dd.ZmL.ex;exact Zlh T (ZeC.mono (by decide)) (ZbC.mono (by decide)) F m b
 have ZiL:Callee P w K mg base 2 "led_to" Zda:=by obtain⟨f,fd,F,m,b⟩:=Dd.ZrH.ex;exact ZqE T (ZbC.mono (by decide)) F m b
 have Zdj:Callee P w K mg base 4 "ways_with" ZaZ:=by obtain⟨f,fd,F,m,b⟩:=Dd.ZnI.ex;exact ZmD T (Zci.mono (by decide)) (Zfh.mono (by decide)) (ZiL.mono (by decide)) F m b
 obtain⟨f0,fd0,F0,m0,b0⟩:=Dd.ZjX.ex;have CV:Zd0 P w K mg base 5 ap:=Zxa (k:=4) T (λt cs F a h=>(hV t cs F a).mp h) F0 m0 Dd.Nf_deeds_by.1 (Zg7.mono (by decide)) (Zdj.mono (by decide));have Zfi:Callee P w K mg base 6 "least_cost" (ZbN ap):=by obtain⟨f,fd,F,m,b⟩:=Dd.ZmM.ex;exact Zli T  (CV.mono (by decide)) F m b
 have Gf_next_costs:Zd6 P w K mg base 7 "next_costs" (Zbq ap):=by obtain⟨f,fd,F,m,b⟩:=Dd.ZmN.ex;exact ZkI T (Zfi.mono (by decide)) F m b
 have ZhP:Callee P w K mg base 1 "goal_of" Zdr:=by obtain⟨f,fd,F,m,b⟩:=Dd.ZqN.ex;exact Zpt T  F m b
 have Zg2:Callee P w K mg base 2 "is_there" ZbA:=by obtain⟨f,fd,F,m,b⟩:=Dd.ZpD.ex;exact Znu T (ZhP.mono (by decide)) F m b
 have Zg3:Callee P w K mg base 8 "costs_of" (ZcY ap):=by obtain⟨f,fd,F,m,b⟩:=Dd.ZpE.ex;exact Znv T (Zg2.mono (by decide)) (Gf_next_costs.mono (by decide)) F m b
 have Zf7:Callee P w K mg base 9 "depths_of" (Zdg ap):=by obtain⟨f,fd,F,m,b⟩:=Dd.ZnJ.ex;exact ZmF T (Zg3.mono (by decide)) Vff_deeds_by F m b
 have Zeq:Callee P w K mg base 6 "reached_from" (ZbM ap):=by obtain⟨f,fd,F,m,b⟩:=Dd.ZkF.ex;exact Zj8 T (ZbF.mono (by decide)) (Zf6.mono (by decide)) (CV.mono (by decide)) F m b
 have ZeD:Callee P w K mg base 7 "coming_from" (Zcy ap):=by obtain⟨f,fd,F,m,b,hc⟩:=Dd.Zlk.ex;exact ZkE T (Zeq.mono (by decide)) (ZbF.mono (by decide)) (Zci.mono (by decide)) (Zdj.mono (by decide)) hc (by rw[hTL]; decide) (by rw[hTL]; intro q h; simpa [tlI]using h) bm (λF p cs h=>(hV _ _ _ _).mpr (Zzc ((⟨rfl,h⟩)))) F m b
 have ZcL:Callee P w K mg base 10 "fewest" (ZaB ap):=by obtain⟨f,fd,F,m,b⟩:=Dd.ZrI.ex;exact ZqF T (Za6.mono (by decide)) (ZdV.mono (by decide)) (Zg4.mono (by decide)) (Zf7.mono (by decide)) (Zbx.mono (by decide)) (ZeD.mono (by decide)) (Zci.mono (by decide)) F m b
 have Za1:Callee P w K mg base 7 "all_looks" Z8:=by obtain⟨f,fd,F,m,b⟩:=Dd.ZnK.ex;exact ZmH T (ZaN.mono (by decide)) (Za6.mono (by decide)) F m b
 have Zdw:Callee P w K mg base 8 "all_but" ZbB:=by obtain⟨f,fd,F,m,b⟩:=Dd.ZqO.ex;exact Zpv T (Za1.mono (by decide)) F m b
 have Zg5:Callee P w K mg base 11 "needless" (Zc0 ap):=by obtain⟨f,fd,F,m,b⟩:=Dd.ZpF.ex;exact Znw T (Za6.mono (by decide)) (ZcL.mono (by decide)) (Za1.mono (by decide)) (Zdw.mono (by decide)) F m b
 have Zg6:Callee P w K mg base 11 "worth_of" (Zc1 ap):=by obtain⟨f,fd,F,m,b⟩:=Dd.ZpG.ex;exact Znx T (Za6.mono (by decide)) (ZcL.mono (by decide)) (Zav.mono (by decide)) (Za1.mono (by decide)) (Zdw.mono (by decide)) (ZaN.mono (by decide)) F m b
 have Zga:Callee P w K mg base 1 "_law_whole" Zcw:=by obtain⟨f,fd,F,m,b⟩:=Dd.ZnL.ex;exact ZmJ T  F m b
 exact ZuD (k:=11) T (Zf9.mono (by decide)) (ZdQ.mono (by decide)) (Zg5.mono (by decide)) (Zg6.mono (by decide)) (Zga.mono (by decide)) Fn
end
theorem all_mk{l:ZC9}{w:World}{K:Zyz}{h:Heap}{mg:Str->Option Value}{fa f4:Addr}{od4 an4:Option Addr}{sl4:Array (Option Value)}{oc4 kV4 dc4 pm4 cd4 ct4:Value}(X:K.In h)(G:h.Ns Zzk mg)(hfa:mg "law" = some (.ref fa))
  (T:Txt K mg) (Dd:Ds K mg) (a4:ZA2 K Zzk "law" = some (some (.ref f4)))
  (l4:K.lookup f4=some ⟨oc4,od4,.func (ZzV "law" "law" (Zcd Zf0) (ZaQ Zf0) (Ze Zf0) .none kV4 dc4 pm4 an4 cd4 ct4),sl4⟩) (c4:ZAG K cd4 "law" = true) (k4:Zz0 K (.ref f4)=true) :
  ∃fd:FuncData,(∀(s:Shared) (v:Value),BindsTo s fd ⟨[v],[]⟩ [("_law_script",v)])/\∀base:Heap,K.In base->base.Ns Zzk mg->BMod base mg->Zdm l.prog w K mg base CX0 12 fa fd ["_law_script"] (@spD (fxI K) K 1 (ZfS ap)):=by
 have e:=hfa.symm.trans (ZBX X G a4);cases e;have fx0:FX:=FX0;exact⟨_,λs v=>.of_eq rfl,λbase _ _ bm=>@ZvT (fxI K) _ _ _ _ _ T (λ_ _ _ _=>Iff.rfl) rfl Dd bm _ _ (ZoO (st:=Zf0) l4 c4 k4)⟩
theorem walk{l:ZC9}{q:Program}{loose:List Str}{XP:(Str->Option Value)->Heap->Prop}{YP:World->Heap->Prop}{d:DefRec}{K:Params->Zyz}(hn:l.most=some 63)(hdf:d.params.defaults=[])
  (Zki:∀ns:List Int,ns.length<=63->(ZfS ap) [.list (HM.ofInts ns)]=some (.bool true)) (hY:∀(w:World) (h:Heap),YP w h->(K w.params).In h) (hYT:∀(w:World) (h:Heap),YP w h->∀q∈([(232,228)]:List (Addr × Addr)),h.get? q.2=some (ZBi #[]))
  (hT:∀(w:World),∀q∈([(232,228)]:List (Addr × Addr)),ZAh (K w.params) q.1 q.2=true/\(K w.params).lookup q.2=none)
  (F:∀(w:World) (mg:Str->Option Value) (fa:Addr) (h:Heap),(K w.params).In h->h.Ns Zzk mg->mg d.name=some (.ref fa) ->
   ∃fd:FuncData,(∀(s:Shared) (u:Value),BindsTo s fd ⟨[u],[]⟩ [("_law_script",u)])/\∀base:Heap,(K w.params).In base->base.Ns Zzk mg->BMod base mg->Zdm l.prog w (K w.params) mg base CX0 12 fa fd ["_law_script"] (@spD (fxI (K w.params)) (K w.params) 1 (ZfS ap))) :
  PySem.W.WalkO q loose XP YP l.row.toRowW d [] (λf vs=>PySem.call f vs) :=
 ZtU (n:=63) (k:=12) (x:="_law_script") (sp:=λw=>@spD (fxI (K w.params)) (K w.params) 1 (ZfS ap)) (tabs:=[(232,228)]) hn (by decide) hdf ⟨rfl,by decide,by decide⟩ hY hYT hT F λw H a ns hl hO hS=>@Zv1 (fxI (K w.params)) _ _ _ _ _ _ hO (λT q h=>by
  have:∀p∈tlI,p.1∈([(232,228)]:List (Addr × Addr)).map (·.2):=by decide
  exact this _ h) hS (Zki ns hl)
section
variable{P:Program}{w:World}{K:Zyz}{mg:Str->Option Value}{base:Heap}{k:Nat}
abbrev Zyl{K:Zyz}{h:Heap}(_:K.In h)(mg:Str->Option Value):Prop:=Ds K mg
abbrev Zxn{K:Zyz}{h:Heap}(_:K.In h)(mg:Str->Option Value):Prop:=Txt K mg
theorem int_mk{mg:Str->Option Value}{n:Str}{v:Value}{k:Int}(h:mg n=some v)(e:∃t,v=.int k t):∃t,mg n=some (.int k t):=by obtain⟨t,rfl⟩:=e;exact⟨t,h⟩
end
end HT
theorem PySem.W.Fast.tw3435658794759855782:True:=trivial
theorem PySem.W.Fast.tw10066910443249704644:True:=trivial
theorem PySem.W.Fast.tw5128055505384068444:True:=trivial
theorem PySem.W.Fast.tw9769836867962519414:True:=trivial
theorem PySem.W.Fast.tw7016385909756384426:True:=trivial
theorem PySem.W.Fast.tw1953490231481497298:True:=trivial
theorem PySem.W.Fast.tw13753911380986897207:True:=trivial
theorem PySem.W.Fast.tw13099833675169349423:True:=trivial
theorem PySem.W.Fast.tw6627323099568831317:True:=trivial
theorem PySem.W.Fast.tw11680182742977694888:True:=trivial
theorem PySem.W.Fast.tw3945026286189148113:True:=trivial
open PySem PySem.W PyProof.Rows
set_option maxRecDepth 100000 in
set_option maxHeartbeats 0 in
theorem PySem.Challenge.cw_halfseen_k15_needless_looks_holds : PySem.Challenge.rw_halfseen_k15_needless_looks.Holds := by
 w_on; o_law; k_head; (case hw=>w_witness2)
 k_fill
 refine HT.walk (l:=PySem.Challenge.rw_halfseen_k15_needless_looks) rfl rfl HG15.Zki (λw h Y=>PySem.W.km_in_of Y) (λw h Y q hq=>PySem.W.km_tabs_of Y _ (by clear Y; revert q; decide)) ?Tab ?F
 case Tab=>intro w q hq;cases ZyW.mp hq;exact⟨by kernel_rfl,by kernel_rfl⟩
 case F =>
  intro w mg fa h KX G hmg;have fx0:HP.FX:=HP.FX0;have T:HT.Zxn KX mg:=by
   refine⟨?_,?_,?_,?_,?_,?_,?_,?_,?_,?_,?_,?_,?_,?_,?_,?_⟩
   all_goals first
    | (refine PySem.W.mg_none_of KX G ?z; (case z=>k_is))
    | (refine' HT.int_mk (ZBX KX G ?z) ?e; (case z=>k_is); (case e=>exact⟨_,rfl⟩))
  have Dd:HT.Zyl KX mg:=by
   refine⟨?_,?_,?_,?_,?_,?_,?_,?_,?_,?_,?_,?_,?_,?_,?_,?_,?_,?_,?_,?_,?_,?_,?_,?_,?_,?_,?_,?_,?_,?_,?_,?_,?_,?_,?_,?_,?_,?_,?_,?_,?_,?_,?_,?_,?_,?_,?_,?_,?_,?_,?_⟩
   all_goals first
    | (refine' HT.Zwx KX G ?a ?l ?c ?k ?b; (case a=>k_is); (case l=>k_is); (case c=>k_is); (case k=>k_is); (case b=>first | exact λ_ _ _ _ _ _ us hl=>(match us,hl with | [_],_=>rfl) | exact λ_ _ _ _ _ _ us hl=>(match us,hl with | [_,_],_=>rfl) | exact λ_ _ _ _ _ _ us hl=>(match us,hl with | [_,_,_],_=>rfl) | exact λ_ _ _ _ _ _ us hl=>(match us,hl with | [_,_,_,_],_=>rfl)))
    | (refine' HT.ZuJ KX G ?a ?l ?c ?k ?b ?e ?h; (case a=>k_is); (case l=>k_is); (case c=>k_is); (case k=>k_is); (case h=>kernel_rfl); (case e=>exact rfl); (case b=>first | exact λ_ _ _ _ _ _ us hl=>(match us,hl with | [_],_=>rfl) | exact λ_ _ _ _ _ _ us hl=>(match us,hl with | [_,_],_=>rfl) | exact λ_ _ _ _ _ _ us hl=>(match us,hl with | [_,_,_],_=>rfl) | exact λ_ _ _ _ _ _ us hl=>(match us,hl with | [_,_,_,_],_=>rfl)))
    | (refine' HT.ZvX KX G ?z; (case z=>k_is))
  refine' HT.all_mk KX G hmg T Dd ?a4 ?l4 ?c4 ?k4
  (case a4=>k_is); (case l4=>k_is); (case c4=>k_is); (case k4=>k_is)